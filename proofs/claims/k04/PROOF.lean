import PyProof.Rows.All
import Wide.All
import OpenK.AllK
import Wide.FinOn
import Lean
import PyProof.EqAt
import PyProof.EqKinds
import PyProof.TupleCall
import PySem.Syntax
import PySem.Str
import PySem.Sem
import PySem.Builtin.Int.W1All
import PySem.Builtin.Str.Common
import PySem.Builtin.Range.Common
import KE.IntText
import KE.KSortAsk
import PyProof.IsRules
import PyProof.NeKinds
import PyProof.DictWalks
import PyProof.EnumMake
import PyProof.EnumFor
import PyProof.ZipIter
import PyProof.Rows.EnumRows
import PyProof.Rows.FactsT2
import KE.KRevIter
import PyProof.CompFree
import PyProof.CompUse
import PyProof.Cells
import PyProof.ConsumeWalk
import PyProof.IsInstanceH
import PyProof.IsiNone
import PyProof.SumWalkG
import PyProof.Rows.SumGenD
import KE.KDictList
import KE.KSortTup
import KE.KSorted
import KE.KSort
import PyProof.Draws
import PyProof.ListRange
import PyProof.MinMaxWalk
import PyProof.WalkInts
import PyProof.Conv_int_bool
import PyProof.Rows.CallKwBuiltin
import KE.KIntText
import PyProof.CallStr
import PyProof.Rows.SeqMore
import PyProof.Rows.StrJoin2
import PyProof.Rows.StrSplitAre
import PyProof.Rows.StrSplitJoin
import OpenK.KOwn
import PyProof.RulesAs
import PyProof.RulesDel
import PyProof.ExcArgsOwn
import PyProof.ExcAttrAll.ValueError
import PyProof.Rows.RuleN_isinstance
import PyProof.IsiTuple
import PyProof.ExcInit
import PyProof.InstStoreFacts
import PyProof.ExcBaseAll.ValueError
import PyProof.FString
import PyProof.AssignAttr
import OpenK.KMore
import PyProof.StrCalls
import PyProof.StrBlock
import PySem.Challenge.RW_patchsquare_k04_spoilt_bits
set_option Elab.async false
set_option linter.all false
set_option maxRecDepth 100000
set_option maxHeartbeats 0
abbrev aa:=@Option.map_eq_some_iff
abbrev ae:=@Option.bind_eq_some_iff
abbrev ag:=@Bool.and_eq_true
abbrev ah:=@List.mem_cons_of_mem
abbrev ai:=@List.size_toArray
abbrev aj:=@List.length_append
abbrev ak:=@List.length_cons
abbrev ao:=@Bool.false_ne_true
abbrev aq:=@decide_eq_false
abbrev au:=@List.mem_cons_self
abbrev av:=@List.length_map
abbrev aw:=@Nat.le_refl
abbrev ax:=@List.mem_append_right
abbrev ay:=@List.map_cons
abbrev az:=@Nat.lt_of_lt_of_le
abbrev ba:=@decide_eq_true
abbrev bg:=@Nat.le_trans
abbrev bh:=@List.append_nil
abbrev bj:=@List.mem_append_left
abbrev bo:=@Int.toNat_natCast
abbrev bp:=@List.length_take
abbrev bq:=@Nat.ne_of_lt
abbrev bt:=@List.length_drop
abbrev bu:=@List.take_of_length_le
abbrev bw:=@PySem.mem_of_lookup
abbrev bz:=@List.replicate_succ
abbrev cf:=@List.mem_of_getElem
abbrev cg:=@Option.map_some
abbrev cj:=@List.length_nil
abbrev cm:=@Option.some.injEq
abbrev cn:=@List.nodup_nil
abbrev cq:=@List.length_replicate
abbrev cu:=@PySem.W.mg_of
abbrev cv:=@Bool.false_eq_true
abbrev cw:=@Option.some.inj
abbrev cx:=@List.lookup_cons
abbrev cy:=@List.all_eq_true
abbrev cz:=@List.length_singleton
abbrev c9:=@Int.eq_ofNat_of_zero_le
abbrev de:=@beq_self_eq_true
abbrev df:=@Array.length_toList
abbrev dh:=@decide_eq_true_eq
abbrev dk:=@Ne.symm
abbrev dm:=@List.flatten_cons
abbrev dq:=@List.append_assoc
abbrev dt:=@of_decide_eq_true
abbrev dw:=@List.length_range
abbrev dz:=@Option.bind_some
abbrev eg:=@if_true
abbrev eh:=@Nat.lt_irrefl
abbrev en:=@Nat.zero_le
abbrev eo:=@if_false
abbrev fh:=@List.any_cons
abbrev fi:=@Nat.lt_succ_self
abbrev fk:=@List.map_append
abbrev fm:=@List.mem_of_mem_take
abbrev fq:=@List.mem_of_mem_drop
abbrev fu:=@List.all_cons
abbrev fv:=@PySem.F.plainAttrs_list
abbrev fw:=@List.contains_cons
abbrev f9:=@Bool.not_eq_true'
abbrev gc:=@congrArg
abbrev gd:=@Nat.zero_add
abbrev gg:=@List.map_map
abbrev gh:=@List.length_set
abbrev gi:=@Int.emod_nonneg
abbrev gj:=@beq_iff_eq
abbrev gn:=@PySem.W.callWith_K
abbrev gp:=@List.mem_singleton
abbrev gq:=@List.map_replicate
abbrev gu:=@List.lookup_append
abbrev gv:=@Int.emod_lt_of_pos
abbrev gw:=@Nat.lt_succ_of_lt
abbrev gx:=@List.drop_of_length_le
abbrev gy:=@Nat.min_eq_right
abbrev g6:=@List.not_mem_nil
abbrev g7:=@List.nil_sublist
abbrev g8:=@Prod.mk.injEq
abbrev g9:=@List.mem_cons
abbrev h9:=@Nat.min_eq_left
abbrev ic:=@Bool.or_eq_true
abbrev ie:=@List.filterMap_cons
abbrev ig:=@List.map_nil
abbrev ij:=@PySem.F.excBase_ValueError
abbrev ik:=@Nat.lt_of_le_of_lt
abbrev il:=@List.zip_cons_cons
abbrev ip:=@List.drop_eq_getElem_cons
abbrev iq:=@List.nodup_append
abbrev ir:=@List.eq_of_mem_replicate
abbrev iu:=@Nat.le_of_not_lt
abbrev iw:=@bne_iff_ne
abbrev iy:=@PySem.W.cellsFrom_some
abbrev iz:=@PySem.F.plainAttrs_str
abbrev i0:=@Nat.le_of_lt
abbrev i3:=@List.range_succ_eq_map
abbrev i4:=@List.of_mem_zip
abbrev i5:=@List.nil_append
section
namespace L2
open PySem PySem.Spec PyProof.Rows
noncomputable def cD (s:Stmt):Arguments:=match s with
 |.FunctionDef _ a _ _ _ _ _ _ _ _=>a
 |_=>{ posonlyargs:=[],args:=[],vararg:=none,kwonlyargs:=[],kw_defaults:=[],kwarg:=none,defaults:=[] }
noncomputable def aY (s:Stmt):List Stmt:=match s with
 |.FunctionDef _ _ b _ _ _ _ _ _ _=>b
 |_=>[]
noncomputable def aE (s:Stmt):Scope:=match s with
 |.FunctionDef _ _ _ _ _ _ sc _ _ _=>sc
 |_=>{ kind:=.function,names:=[],isGenerator:=false,isCoroutine:=false }
end L2
end
section
namespace Pc.Hd
open PySem PySem.W L2
noncomputable def sv (x:String)(t:Tok):Value:=.str (Str.ofString x) t
noncomputable def kv (P:Params)(x:String)(t:Tok)(v:Value):DictEntry:=⟨PyData.keyHash P (Str.ofString x),sv x t,v⟩
noncomputable def xa:Stmt->Str
 |.FunctionDef n ..=>n
 |_=>Str.ofString ""
noncomputable def fo (a:Addr)(s:Stmt)(m c:Value):Addr×Obj:=(a,⟨.type "function",none,.func { name:=xa s,qualname:=xa s,params:=cD s,body:=.stmts (aY s),scope:=aE s,globals:=mainGlobals,closure:=[],defaults:=.none,kwdefaults:=.none,pyModule:=m,code:=c },#[]⟩)
noncomputable def co (a:Addr)(vs:Array Value):Addr×Obj:=(a,⟨.type "code",none,.fields vs,#[]⟩)
noncomputable def tu (a:Addr)(vs:Array Value):Addr×Obj:=(a,⟨.type "tuple",none,.seq vs 0,#[]⟩)
noncomputable def di (a:Addr)(es:Array DictEntry)(n:Nat):Addr×Obj:=(a,⟨.type "dict",none,.dict es n,#[]⟩)
noncomputable def cq (a:Addr)(n q:String)(t1 t2 t3:Tok)(l k:Int)(r s:Addr)(x y:Value)(u:Addr)(c:Int)(v:Tok):Addr×Obj:=co a #[sv n t1,sv q t2,sv "/claim/cut.py" t3,.int l 0,.int k 0,.int 0 0,.int 0 0,.int 3 0,.ref r,.bool true,.int 181 0,.ref s,.none,x,y,.ref u,.int c 0,.int l 0,sv "/claim/cut.py" v]
noncomputable def ec (a:Addr)(n:String)(m u:Addr)(t v:Tok):Addr×Obj:=(a,{ cls:=.type "type",data:=.cls { name:=Str.ofString n,bases:=[.ref 31],mro:=[.ref a,.ref 31,.type "ValueError",.type "Exception",.type "BaseException",.type "object"],ns:=m,qualname:=Str.ofString n },slots:=#[some (.ref u),none,some (sv n t),some (sv n v),some (.builtin "ValueError.__new__"),some (.bool true)] })
noncomputable def mt (s:Stmt)(i:Nat):Stmt:=match s with
 |.ClassDef _ _ _ b ..=>b.getD i (.Pass ⟨0,0,0,0⟩)
 |s=>s
noncomputable def fm (a:Addr)(s:Stmt)(n q:String)(m c:Value):Addr×Obj:=(a,⟨.type "function",none,.func { name:=Str.ofString n,qualname:=Str.ofString q,params:=cD s,body:=.stmts (aY s),scope:=aE s,globals:=mainGlobals,closure:=[],defaults:=.none,kwdefaults:=.none,pyModule:=m,code:=c },#[]⟩)
noncomputable def kd (P:Params)(a:Addr)(t1 t2 t3:Tok)(l:Int)(t4 t5:Tok)(r:Addr)(t6:Tok):Addr×Obj:=di a #[kv P "__module__" t1 (sv "patchsquare.errors" t2),kv P "__firstlineno__" t3 (.int l t4),kv P "__static_attributes__" t5 (.ref r),kv P "__doc__" t6 .none] 2
end Pc.Hd
end
section
namespace K04
open PySem PySem.Spec PyProof.Rows L2
noncomputable abbrev st (i:Nat):Stmt:=PySem.Challenge.pw_patchsquare_k04_spoilt_bits.main.body.getD i (.Pass ⟨0,0,0,0⟩)
end K04
namespace K04
open PySem PySem.W Pc.Hd
noncomputable def K (P:Params):Frag:=[(2,{ cls:=Value.none,data:=Data.dict #[] }),
 di 3 #[kv P "__name__" 165 (sv "law_patchsquare_k04_spoilt_bits" 495),kv P "__doc__" 166 .none,kv P "__package__" 167 .none,kv P "__loader__" 168 (.builtin "__main__.__loader__#opaque"),kv P "__spec__" 169 .none,kv P "__annotations__" 170 (.ref 6),kv P "__builtins__" 171 (.ref 4),kv P "__file__" 173 (sv "/claim/cut.py" 172),kv P "__cached__" 174 .none,kv P "number_of" 197 (.ref 21),kv P "SquareError" 217 (.ref 31),kv P "NoText" 233 (.ref 44),kv P "TooLong" 249 (.ref 56),kv P "NoInverse" 265 (.ref 68),kv P "NoLabel" 281 (.ref 80),kv P "NoMarks" 297 (.ref 92),kv P "NoSquare" 313 (.ref 104),kv P "NoSign" 338 (.ref 123),kv P "NoMend" 363 (.ref 142),kv P "NoPicture" 388 (.ref 161),kv P "END" 392 (.int 0 391),kv P "FIGURES" 394 (.int 1 393),kv P "KIND_SIGNS" 399 (.ref 164),kv P "SIGN_BITS" 404 (.ref 165),kv P "KIND_BITS" 406 (.int 2 405),kv P "COUNT_BITS" 408 (.int 6 407),kv P "FIGURE_BITS" 413 (.ref 166),kv P "FIGURE_GREATEST" 418 (.ref 167),kv P "MOST_FIGURES" 420 (.int 3 419),kv P "BitReader" 460 (.ref 191),kv P "read_pieces" 472 (.ref 202),kv P "read_figures" 483 (.ref 209),kv P "read_signs" 494 (.ref 216),kv P "_law_mix" 505 (.ref 223),kv P "_law_all" 512 (.ref 230),kv P "_law_known" 519 (.ref 237),kv P "_law_signs" 531 (.ref 244),kv P "_law_bits" 541 (.ref 251),kv P "_law_piece_bits" 553 (.ref 258),kv P "_law_pieces" 565 (.ref 265),kv P "_law_value" 574 (.ref 272),kv P "_law_widths" 582 (.ref 279),kv P "_law_shown" 592 (.ref 286),kv P "_law_piece" 606 (.ref 293),kv P "_law_due" 616 (.ref 300),kv P "_law_any" 626 (.ref 307),kv P "_law_spoilt" 635 (.ref 314),kv P "_law_refused" 644 (.ref 321),kv P "law" 650 (.ref 326)] 49,
 di 6 #[] 0,
 cq 20 "number_of" "number_of" 189 190 191 2 1 15 16 (.ref 17) (.ref 18) 19 195 196,
 fo 21 (st 1) (sv "patchsquare.bits" 187) (.ref 20),
 tu 22 #[(.type "ValueError")],
 tu 29 #[],
 di 30 #[kv P "__module__" 207 (sv "patchsquare.errors" 198),kv P "__firstlineno__" 211 (.int 8 210),kv P "__static_attributes__" 212 (.ref 29),kv P "__weakref__" 214 (.ref 32),kv P "__doc__" 215 .none] 3,
 (31,{ cls:=Value.type "type",data:=Data.cls { name:=Str.ofString "SquareError",bases:=[Value.type "ValueError"],mro:=[Value.ref 31,Value.type "ValueError",Value.type "Exception",Value.type "BaseException",Value.type "object"],ns:=30,qualname:=Str.ofString "SquareError",subclasses:=[Value.ref 44,Value.ref 56,Value.ref 68,Value.ref 80,Value.ref 92,Value.ref 104,Value.ref 123,Value.ref 142,Value.ref 161] },slots:=#[some (Value.ref 22),none,some (Value.str (Str.ofString "SquareError") 200),some (Value.str (Str.ofString "SquareError") 208),some (Value.builtin "ValueError.__new__"),some (Value.bool true)] }),
 (32,{ cls:=Value.type "getset_descriptor",data:=Data.fields #[Value.str (Str.ofString "__weakref__") 213,Value.ref 31,Value.builtin "ExceptionGroup.__weakref__",Value.none] }),
 tu 35 #[(.ref 31)],
 tu 42 #[],
 kd P 43 225 198 229 10 228 230 42 231,
 ec 44 "NoText" 43 35 218 226,
 tu 47 #[(.ref 31)],
 tu 54 #[],
 kd P 55 241 198 245 12 244 246 54 247,
 ec 56 "TooLong" 55 47 234 242,
 tu 59 #[(.ref 31)],
 tu 66 #[],
 kd P 67 257 198 261 14 260 262 66 263,
 ec 68 "NoInverse" 67 59 250 258,
 tu 71 #[(.ref 31)],
 tu 78 #[],
 kd P 79 273 198 277 16 276 278 78 279,
 ec 80 "NoLabel" 79 71 266 274,
 tu 83 #[(.ref 31)],
 tu 90 #[],
 kd P 91 289 198 293 18 292 294 90 295,
 ec 92 "NoMarks" 91 83 282 290,
 tu 95 #[(.ref 31)],
 tu 102 #[],
 kd P 103 305 198 309 20 308 310 102 311,
 ec 104 "NoSquare" 103 95 298 306,
 tu 107 #[(.ref 31)],
 cq 119 "__init__" "NoSign.__init__" 326 327 328 24 2 114 115 (.ref 116) (.ref 117) 118 331 332,
 fm 120 (mt (st 10) 0) "__init__" "NoSign.__init__" (sv "patchsquare.errors" 198) (.ref 119),
 tu 121 #[(sv "place" 334)],
 di 122 #[kv P "__module__" 321 (sv "patchsquare.errors" 198),kv P "__firstlineno__" 325 (.int 22 324),kv P "__init__" 333 (.ref 120),kv P "__static_attributes__" 335 (.ref 121),kv P "__doc__" 336 .none] 2,
 ec 123 "NoSign" 122 107 314 322,
 tu 126 #[(.ref 31)],
 cq 138 "__init__" "NoMend.__init__" 351 352 353 29 2 133 134 (.ref 135) (.ref 136) 137 356 357,
 fm 139 (mt (st 11) 0) "__init__" "NoMend.__init__" (sv "patchsquare.errors" 198) (.ref 138),
 tu 140 #[(sv "block" 359)],
 di 141 #[kv P "__module__" 346 (sv "patchsquare.errors" 198),kv P "__firstlineno__" 350 (.int 27 349),kv P "__init__" 358 (.ref 139),kv P "__static_attributes__" 360 (.ref 140),kv P "__doc__" 361 .none] 2,
 ec 142 "NoMend" 141 126 339 347,
 tu 145 #[(.ref 31)],
 cq 157 "__init__" "NoPicture.__init__" 376 377 378 34 2 152 153 (.ref 154) (.ref 155) 156 381 382,
 fm 158 (mt (st 12) 0) "__init__" "NoPicture.__init__" (sv "patchsquare.errors" 198) (.ref 157),
 tu 159 #[(sv "row" 384)],
 di 160 #[kv P "__module__" 371 (sv "patchsquare.errors" 198),kv P "__firstlineno__" 375 (.int 32 374),kv P "__init__" 383 (.ref 158),kv P "__static_attributes__" 385 (.ref 159),kv P "__doc__" 386 .none] 2,
 ec 161 "NoPicture" 160 145 364 372,
 tu 164 #[(sv "" 395),(sv "0123456789" 396),(sv " ABCDEFGHIJKLMNOPQRSTUVWXYZ.,-:/" 397),(sv " !\"#$&'()*+,-./0123456789:;<=>?@ABCDEFGHIJKLMNOPQRSTUVWXYZ[\\]^_`abcdefghijklmnopqrstuvwxyz{|}~" 398)],
 tu 165 #[(.int 0 400),(.int 0 401),(.int 5 402),(.int 7 403)],
 tu 166 #[(.int 0 409),(.int 4 410),(.int 7 411),(.int 10 412)],
 tu 167 #[(.int 0 414),(.int 9 415),(.int 99 416),(.int 999 417)],
 cq 180 "__init__" "BitReader.__init__" 433 434 435 49 2 175 176 (.ref 177) (.ref 178) 179 438 439,
 fm 181 (mt (st 23) 0) "__init__" "BitReader.__init__" (sv "patchsquare.pieces" 389) (.ref 180),
 cq 187 "read_number" "BitReader.read_number" 441 442 443 53 2 182 183 (.ref 184) (.ref 185) 186 448 449,
 fm 188 (mt (st 23) 1) "read_number" "BitReader.read_number" (sv "patchsquare.pieces" 389) (.ref 187),
 tu 189 #[(sv "bits" 451),(sv "place" 452)],
 di 190 #[kv P "__module__" 428 (sv "patchsquare.pieces" 389),kv P "__firstlineno__" 432 (.int 47 431),kv P "__init__" 440 (.ref 181),kv P "read_number" 450 (.ref 188),kv P "__static_attributes__" 453 (.ref 189),kv P "__dict__" 455 (.ref 192),kv P "__weakref__" 457 (.ref 193),kv P "__doc__" 458 .none] 4,
 (191,{ cls:=Value.type "type",data:=Data.cls { name:=Str.ofString "BitReader",bases:=[Value.type "object"],mro:=[Value.ref 191,Value.type "object"],ns:=190,qualname:=Str.ofString "BitReader" },slots:=#[none,none,some (Value.str (Str.ofString "BitReader") 421),some (Value.str (Str.ofString "BitReader") 429),some (Value.builtin "object.__new__"),some (Value.bool true)] }),
 (192,{ cls:=Value.type "getset_descriptor",data:=Data.fields #[Value.str (Str.ofString "__dict__") 454,Value.ref 191,Value.builtin "function.__dict__",Value.builtin "function.__dict__#set"] }),
 (193,{ cls:=Value.type "getset_descriptor",data:=Data.fields #[Value.str (Str.ofString "__weakref__") 456,Value.ref 191,Value.builtin "ExceptionGroup.__weakref__",Value.none] }),
 cq 201 "read_pieces" "read_pieces" 461 462 463 60 1 196 197 (.ref 198) (.ref 199) 200 470 471,
 fo 202 (st 24) (sv "patchsquare.pieces" 389) (.ref 201),
 cq 208 "read_figures" "read_figures" 473 474 475 70 2 203 204 (.ref 205) (.ref 206) 207 481 482,
 fo 209 (st 25) (sv "patchsquare.pieces" 389) (.ref 208),
 cq 215 "read_signs" "read_signs" 484 485 486 79 3 210 211 (.ref 212) (.ref 213) 214 492 493,
 fo 216 (st 26) (sv "patchsquare.pieces" 389) (.ref 215),
 cq 222 "_law_mix" "_law_mix" 497 498 499 88 3 217 218 (.ref 219) (.ref 220) 221 503 504,
 fo 223 (st 28) (sv "law_patchsquare_k04_spoilt_bits" 495) (.ref 222),
 cq 229 "_law_all" "_law_all" 506 507 508 90 0 224 225 (.ref 226) (.ref 227) 228 510 511,
 fo 230 (st 29) (sv "law_patchsquare_k04_spoilt_bits" 495) (.ref 229),
 cq 236 "_law_known" "_law_known" 513 514 515 93 1 231 232 (.ref 233) (.ref 234) 235 517 518,
 fo 237 (st 30) (sv "law_patchsquare_k04_spoilt_bits" 495) (.ref 236),
 cq 243 "_law_signs" "_law_signs" 520 521 522 99 3 238 239 (.ref 240) (.ref 241) 242 529 530,
 fo 244 (st 31) (sv "law_patchsquare_k04_spoilt_bits" 495) (.ref 243),
 cq 250 "_law_bits" "_law_bits" 532 533 534 106 2 245 246 (.ref 247) (.ref 248) 249 539 540,
 fo 251 (st 32) (sv "law_patchsquare_k04_spoilt_bits" 495) (.ref 250),
 cq 257 "_law_piece_bits" "_law_piece_bits" 542 543 544 112 2 252 253 (.ref 254) (.ref 255) 256 551 552,
 fo 258 (st 33) (sv "law_patchsquare_k04_spoilt_bits" 495) (.ref 257),
 cq 264 "_law_pieces" "_law_pieces" 554 555 556 122 1 259 260 (.ref 261) (.ref 262) 263 563 564,
 fo 265 (st 34) (sv "law_patchsquare_k04_spoilt_bits" 495) (.ref 264),
 cq 271 "_law_value" "_law_value" 566 567 568 134 1 266 267 (.ref 268) (.ref 269) 270 572 573,
 fo 272 (st 35) (sv "law_patchsquare_k04_spoilt_bits" 495) (.ref 271),
 cq 278 "_law_widths" "_law_widths" 575 576 577 139 2 273 274 (.ref 275) (.ref 276) 277 580 581,
 fo 279 (st 36) (sv "law_patchsquare_k04_spoilt_bits" 495) (.ref 278),
 cq 285 "_law_shown" "_law_shown" 583 584 585 143 3 280 281 (.ref 282) (.ref 283) 284 590 591,
 fo 286 (st 37) (sv "law_patchsquare_k04_spoilt_bits" 495) (.ref 285),
 cq 292 "_law_piece" "_law_piece" 593 594 595 150 2 287 288 (.ref 289) (.ref 290) 291 604 605,
 fo 293 (st 38) (sv "law_patchsquare_k04_spoilt_bits" 495) (.ref 292),
 cq 299 "_law_due" "_law_due" 607 608 609 165 1 294 295 (.ref 296) (.ref 297) 298 614 615,
 fo 300 (st 39) (sv "law_patchsquare_k04_spoilt_bits" 495) (.ref 299),
 cq 306 "_law_any" "_law_any" 617 618 619 177 2 301 302 (.ref 303) (.ref 304) 305 624 625,
 fo 307 (st 40) (sv "law_patchsquare_k04_spoilt_bits" 495) (.ref 306),
 cq 313 "_law_spoilt" "_law_spoilt" 627 628 629 183 2 308 309 (.ref 310) (.ref 311) 312 633 634,
 fo 314 (st 41) (sv "law_patchsquare_k04_spoilt_bits" 495) (.ref 313),
 cq 320 "_law_refused" "_law_refused" 636 637 638 194 1 315 316 (.ref 317) (.ref 318) 319 642 643,
 fo 321 (st 42) (sv "law_patchsquare_k04_spoilt_bits" 495) (.ref 320),
 cq 325 "law" "law" 645 646 647 203 1 322 323 .none .none 324 648 649,
 fo 326 (st 43) (sv "law_patchsquare_k04_spoilt_bits" 495) (.ref 325)]
noncomputable def as:List Addr:=[2,3,6,20,21,22,29,30,31,32,35,42,43,44,47,54,55,56,59,66,67,68,71,78,79,80,83,90,91,92,95,102,103,104,107,119,120,121,122,123,126,138,139,140,141,142,145,157,158,159,160,161,164,165,166,167,180,181,187,188,189,190,191,192,193,201,202,208,209,215,216,222,223,229,230,236,237,243,244,250,251,257,258,264,265,271,272,278,279,285,286,292,293,299,300,306,307,313,314,320,321,325,326]
noncomputable def Q:Program:={ PySem.Challenge.pw_patchsquare_k04_spoilt_bits with main:={ PySem.Challenge.pw_patchsquare_k04_spoilt_bits.main with body:=[st 1,st 3,st 4,st 5,st 6,st 7,st 8,st 9,st 10,st 11,st 12,st 14,st 15,st 16,st 17,st 18,st 19,st 20,st 21,st 22,st 23,st 24,st 25,st 26,st 28,st 29,st 30,st 31,st 32,st 33,st 34,st 35,st 36,st 37,st 38,st 39,st 40,st 41,st 42,st 43] } }
noncomputable def H:Hook:=kHook K as (fun _=>rfl)
open PyProof.Rows
theorem leD {α β γ δ:Type}{o:Option α}{f:α->β×γ}{g:α->δ}{a:β×γ}{b:δ}(h:o.map (fun s=>(f s).1)=some a.1)(h':o.map (fun s=>(f s).2)=some a.2)(k:o.map g=some b):o.map (fun s=>(f s,g s))=some (a,b):=by
 cases o with
 |none=>cases h
 |some s=>exact congrArg some (Prod.ext (Prod.ext (Option.some.inj h) (Option.some.inj h')) (Option.some.inj k))
abbrev oeQ (w:World):=openEnds treeTable PySem.Challenge.pw_patchsquare_k04_spoilt_bits w 6582
noncomputable abbrev seQ (s:Shared):=openSeen Q [] (importedModules PySem.Challenge.pw_patchsquare_k04_spoilt_bits.main.body) (fun s=>xlAt K04.Q [] s&&recOk (RowW.records PySem.Challenge.rw_patchsquare_k04_spoilt_bits.row.toRowW) s) true s
theorem leA (w:World):(oeQ w).map (fun s=>(seQ s).1)=some (openGood Q []).1:=by kernel_rfl
theorem leB (w:World):(oeQ w).map (fun s=>(seQ s).2)=some (openGood Q []).2:=by kernel_rfl
theorem leC (w:World):(oeQ w).map (Hook.obs H)=some (Hook.val H w):=by kernel_rfl
theorem left:LeftO PySem.Challenge.pw_patchsquare_k04_spoilt_bits Q [] (fun s=>xlAt K04.Q [] s&&recOk (RowW.records PySem.Challenge.rw_patchsquare_k04_spoilt_bits.row.toRowW) s) (Hook.obs H) (Hook.val H) 6582:=fun w=>leD (leA w) (leB w) (leC w)
end K04
end
section
namespace L2
open PySem PySem.Spec PyProof.Rows
noncomputable abbrev Key:=Sum Int Str
noncomputable def km:Key->Value->Bool
 |.inl k,v=>Value.isInt k v
 |.inr x,v=>Value.isStrOf x v
noncomputable def keyH (w:World):Key->Int
 |.inl k=>hashInt k
 |.inr x=>hashStr w x
theorem be:∀{k:Key}{v:Value},km k v=true->(∃ i t,k=Sum.inl i/\v=Value.int i t)\/(∃ x t,k=Sum.inr x/\v=Value.str x t)
 | .inl i,v,h=>by
  obtain⟨t,e⟩:=Value.isInt_shape (k:=i) (v:=v) h;exact .inl ⟨i,t,rfl,e⟩
 | .inr x,v,h=>by
  obtain⟨t,e⟩:=Value.isStrOf_shape (x:=x) (v:=v) h;exact .inr ⟨x,t,rfl,e⟩
theorem uy (i:Int)(t:Tok):km (.inl i) (.int i t)=true:=by simp[km,Value.isInt]
theorem u7 (x:Str)(t:Tok):km (.inr x) (.str x t)=true:=by simp[km,Value.isStrOf]
theorem D4 (a b:Int):decide ((Sum.inl a:Key)=Sum.inl b)=(a==b):=by
 by_cases e:a=b
 ·subst e;simp
 ·have h:¬ (Sum.inl a:Key)=Sum.inl b:=fun q=>e (Sum.inl.inj q)
  rw[aq h];exact (beq_eq_false_iff_ne.mpr e).symm
theorem CQ (a b:Str):decide ((Sum.inr a:Key)=Sum.inr b)=decide (a=b):=by
 by_cases e:a=b
 ·subst e;simp
 ·have h:¬ (Sum.inr a:Key)=Sum.inr b:=fun q=>e (Sum.inr.inj q)
  rw[aq h,aq e]
theorem Dl (a:Int)(b:Str):decide ((Sum.inl a:Key)=Sum.inr b)=false:=aq (fun q=>nomatch q)
theorem DX (a:Str)(b:Int):decide ((Sum.inr a:Key)=Sum.inl b)=false:=aq (fun q=>nomatch q)
noncomputable def aO (prog:Program)(w:World):PySem.KeyKind prog w Key where
 is:=km
 hash:=keyH w
 inj:=fun v a b ha hb=>by
  rcases be ha with ⟨i,t,rfl,rfl⟩ | ⟨x,t,rfl,rfl⟩
  ·rcases be hb with ⟨j,u,rfl,e⟩ | ⟨y,u,rfl,e⟩
   ·injection e with e1 _;rw[e1]
   ·exact nomatch e
  ·rcases be hb with ⟨j,u,rfl,e⟩ | ⟨y,u,rfl,e⟩
   ·exact nomatch e
   ·injection e with e1 _;rw[e1]
 byValue:=fun k v h=>by
  rcases be h with ⟨i,t,rfl,rfl⟩ | ⟨x,t,rfl,rfl⟩<;>rfl
 pyHash:=fun hv h=>by
  rcases be hv with ⟨i,t,rfl,rfl⟩ | ⟨x,t,rfl,rfl⟩
  ·exact wpAny_pyHash_int h
  ·exact wpAny_pyHash_str h
 eqBool:=fun hu hv h=>by
  rcases be hu with ⟨i,t,rfl,rfl⟩ | ⟨x,t,rfl,rfl⟩
  ·rcases be hv with ⟨j,u,rfl,rfl⟩ | ⟨y,u,rfl,rfl⟩
   ·rw[D4] at h;exact wpAny_eqBool_int h
   ·rw[Dl] at h;exact SeqAt.EqAt.int_str i t y u _ _ _ _ h
  ·rcases be hv with ⟨j,u,rfl,rfl⟩ | ⟨y,u,rfl,rfl⟩
   ·rw[DX] at h;exact SeqAt.EqAt.str_int x t j u _ _ _ _ h
   ·rw[CQ] at h;exact wpAny_eqBool_str h
 «strs»:=fun k x t v h=>by
  rcases be h with ⟨i,u,rfl,e⟩ | ⟨y,u,rfl,e⟩
  ·exact nomatch e
  ·injection e with e1 _
   subst e1;cases v<;>rfl
theorem eB (prog:Program)(w:World)(i:Int)(t:Tok):(aO prog w).is (.inl i) (.int i t)=true:=uy i t
theorem dA (prog:Program)(w:World)(x:Str)(t:Tok):(aO prog w).is (.inr x) (.str x t)=true:=u7 x t
end L2
namespace L2
open PySem PySem.Spec PyProof.Rows
inductive V where
 | non | bl (b:Bool) | int (i:Int) | str (x:Str) | byt (b:Array UInt8) | flt (b:UInt64) | ref (a:Addr) | ty (n:String)
 deriving DecidableEq
noncomputable def RelV:V->Value->Prop
 |.non,u=>u=Value.none
 |.bl b,u=>u=Value.bool b
 |.int i,u=>∃ t,u=Value.int i t
 |.str x,u=>∃ t,u=Value.str x t
 |.byt b,u=>∃ t,u=Value.bytes b t
 |.flt b,u=>∃ t,u=Value.float b t
 |.ref a,u=>u=Value.ref a
 |.ty n,u=>u=Value.type n
noncomputable abbrev aN:List V->List Value->Prop:=Paired RelV
theorem aN.length {xs:List V}{us:List Value}(r:aN xs us):xs.length=us.length:=Paired.length r
theorem aN.get:∀{xs:List V}{us:List Value}{i:Nat}{x:V},aN xs us->xs[i]? = some x->∃ u,us[i]? = some u/\RelV x u
 |_,_,_,_,.nil,e=>by simp at e
 |_,_,0,_,.cons r _,e=>by simp at e;subst e;exact⟨_,rfl,r⟩
 | _,_,i+1,x,.cons _ t,e=>by
  obtain⟨u,h1,h2⟩:=aN.get (i:=i) (x:=x) t (by simpa using e);exact⟨u,by simpa using h1,h2⟩
theorem aN.append:∀{xs ys:List V}{us ws:List Value},aN xs us->aN ys ws->aN (xs++ys) (us++ws)
 |_,_,_,_,.nil,s=>s
 |_,_,_,_,.cons r t,s=>.cons r (aN.append t s)
theorem aN.take:∀{xs:List V}{us:List Value}(n:Nat),aN xs us->aN (xs.take n) (us.take n)
 |_,_,0,_=>.nil
 |_,_,_+1,.nil=>.nil
 |_,_,n+1,.cons r t=>.cons r (aN.take n t)
theorem aN.drop:∀{xs:List V}{us:List Value}(n:Nat),aN xs us->aN (xs.drop n) (us.drop n)
 |_,_,0,r=>r
 |_,_,_+1,.nil=>.nil
 |_,_,n+1,.cons _ t=>aN.drop n t
noncomputable def jC:Option V->Option Value->Prop
 |some v,some u=>RelV v u
 |none,none=>True
 |_,_=>False
def KV {κ:Type}:List (κ×V)->List (κ×Value)->Prop:=Paired fun (p:κ×V) (q:κ×Value)=>p.1=q.1/\RelV p.2 q.2
noncomputable def kV:Key->V
 |.inl i=>.int i
 |.inr x=>.str x
inductive HO where
 | lst (xs:List V)
 | tup (xs:List V)
 | dK (kvs:List (Key×V)) | dT (kvs:List (List Key×V))
 | set (S:Int->Bool) (n:Nat)
 | ins (C dx:Addr) (fs:List (Str×V))
 | own (x:Addr)
 | xd (fs:List (Str×V))
 | met (f x:Addr)
 | rng (lo hi:Int)
 | frz (o:Obj) (u:HO)
 | tbl (ps:Array Value)
 | ext (φ:Heap->Prop)
noncomputable abbrev Hp:=Addr->Option HO
noncomputable def upd (H:Hp)(a:Addr)(o:HO):Hp:=fun b=>if b=a then some o else H b
theorem aL {H:Hp}{a:Addr}{o:HO}:upd H a o a=some o:=by unfold upd;rw[if_pos rfl]
theorem aM {H:Hp}{a b:Addr}{o:HO}(h:b≠a):upd H a o b=H b:=by unfold upd;rw[if_neg h]
theorem eS {H:Hp}{a b:Addr}{o:HO}(h:H a=some o)(h':H b=none):a≠b:=by
 intro e;subst e;rw[h] at h';cases h'
section
variable (P:Program)(w:World)
noncomputable def bW (H:Hp)(h:Heap)(a:Addr):HO->Prop
 |.lst xs=>xs.length<=sizeLine/\∃(its:List Value) (n:Nat),aN xs its/\h.get? a=some { cls:=.type "list",data:=.seq its.toArray n }
 |.tup xs=>xs.length<=sizeLine/\∃ its:List Value,aN xs its/\IsTup h a its.toArray
 |.dK kvs=>kvs.length<=sizeLine/\(a==sysModules)=false/\∃ vs,KV kvs vs/\h.DictOf (aO P w) a vs
 | .dT kvs=>kvs.length<=sizeLine/\(a==sysModules)=false/\∃ xs:List (List Key×Addr×Value),
   Paired (fun (p:List Key×V) (q:List Key×Addr×Value)=>p.1=q.1/\H q.2.1=some (.tup (p.1.map kV))/\RelV p.2 q.2.2) kvs xs /\
   ∃ o es ep,h.get? a=some o/\o.ExactDict/\o.data = .dict es ep/\es.toList=xs.map (entryOfKey (tupleKind (aO P w)))/\(xs.map (·.1)).Nodup
 |.set S n=>h.SetOf (intKind P w) a S n
 | .ins C dx fs=>H dx=some (.own a)/\fs.length<=1000/\dx≠a/\h.get? a=some (PySem.W.instObj C dx) /\
   ∃ mA,h.Ns1 dx mA/\(∀ f,jC (fs.lookup f) (mA f))/\PySem.Within mA (fs.map (·.1))
 |.own _=>∃ o,h.get? a=some o
 |.xd fs=>∃ mA,h.Ns1 a mA/\∀ f,jC (fs.lookup f) (mA f)
 |.rng lo hi=>∃ t u v,h.get? a=some { cls:=.type "range",data:=.fields #[.int lo t,.int hi u,.int 1 v] }
 |.frz o u=>h.get? a=some o/\bW H h a u
 |.tbl ps=>h.get? a=some { cls:=.none,data:=.fields ps }
 |.met f x=>h.get? a=some (PySem.W.methodObj (.ref f) (.ref x))
 |.ext φ=>φ h/\(∃ o,h.get? a=some o)/\∀ h1 h2:Heap,φ h1->(∀ o,h1.get? a=some o->h2.get? a=some o)->φ h2
def iJ (H:Hp)(h:Heap):Prop:=∀ a o,H a=some o->bW P w H h a o
end
section
variable {P:Program}{w:World}{H H':Hp}{h h':Heap}{a:Addr}{o:HO}
theorem bW.lt (x:bW P w H h a o):a<h.objs.size:=by
 cases o with
 |lst xs=>obtain⟨_,_,_,_,e⟩:=x;exact Heap.lt_size e
 |tup xs=>obtain⟨_,_,_,p⟩:=x;exact p.lt
 |dK kvs=>obtain⟨_,_,_,_,o,_,_,e,_⟩:=x;exact Heap.lt_size e
 |dT kvs=>obtain⟨_,_,_,_,o,_,_,e,_⟩:=x;exact Heap.lt_size e
 |set S n=>obtain⟨o,_,_,_,e,_⟩:=x;exact Heap.lt_size e
 |ins C dx fs=>obtain⟨_,_,_,e,_⟩:=x;exact Heap.lt_size e
 |own y=>obtain⟨_,e⟩:=x;exact Heap.lt_size e
 |xd fs=>obtain⟨_,⟨_,_,_,e,_⟩,_⟩:=x;exact Heap.lt_size e
 |rng lo hi=>obtain⟨_,_,_,e⟩:=x;exact Heap.lt_size e
 |frz ob u=>obtain⟨e,_⟩:=x;exact Heap.lt_size e
 |tbl ps=>exact Heap.lt_size (show h.get? a=some _ from x)
 |met f y=>exact Heap.lt_size (show h.get? a=some _ from x)
 |ext φ=>obtain⟨_,⟨_,e⟩,_⟩:=x;exact Heap.lt_size e
theorem Paired.mapP {α β:Type}{F G:α->β->Prop}:∀{l₁:List α}{l₂:List β},Paired F l₁ l₂->(∀ a b,F a b->G a b)->Paired G l₁ l₂
 |_,_,.nil,_=>.nil
 |_,_,.cons r t,f=>.cons (f _ _ r) (Paired.mapP t f)
theorem bW.stay (x:bW P w H h a o)(k:∀ b u,(b=a\/H b=some (.own a))->h.get? b=some u->h'.get? b=some u)
  (ho:∀ b,H b=some (.own a)->H' b=some (.own a)) (ht:∀ b xs,H b=some (.tup xs)->H' b=some (.tup xs)):bW P w H' h' a o:=by
 induction o with
 |lst xs=>obtain⟨z,its,n,r,e⟩:=x;exact⟨z,its,n,r,k _ _ (.inl rfl) e⟩
 |tup xs=>obtain⟨z,its,r,ob,e,c⟩:=x;exact⟨z,its,r,ob,k _ _ (.inl rfl) e,c⟩
 |dK kvs=>obtain⟨z,y,vs,r,ob,es,ep,e,c⟩:=x;exact⟨z,y,vs,r,ob,es,ep,k _ _ (.inl rfl) e,c⟩
 |dT kvs =>
  obtain⟨z,y,xs,r,ob,es,ep,e,c⟩:=x;exact⟨z,y,xs,Paired.mapP r fun p q z=>⟨z.1,ht _ _ z.2.1,z.2.2⟩,ob,es,ep,k _ _ (.inl rfl) e,c⟩
 |set S n=>obtain⟨ob,es,ep,t,e,c⟩:=x;exact⟨ob,es,ep,t,k _ _ (.inl rfl) e,c⟩
 |ins C dx fs =>
  obtain⟨d,z,ne,e,mA,⟨od,es,ep,e2,c⟩,r⟩:=x;exact⟨ho _ d,z,ne,k _ _ (.inl rfl) e,mA,⟨od,es,ep,k _ _ (.inr d) e2,c⟩,r⟩
 |own y=>obtain⟨ob,e⟩:=x;exact⟨ob,k _ _ (.inl rfl) e⟩
 |xd fs=>obtain⟨mA,⟨od,es,ep,e,c⟩,r⟩:=x;exact⟨mA,⟨od,es,ep,k _ _ (.inl rfl) e,c⟩,r⟩
 |rng lo hi=>obtain⟨t,u,v,e⟩:=x;exact⟨t,u,v,k _ _ (.inl rfl) e⟩
 |frz ob u ih=>obtain⟨e,q⟩:=x;exact⟨k _ _ (.inl rfl) e,ih q⟩
 |tbl ps =>
  have e:h.get? a=some { cls:=.none,data:=.fields ps }:=x;show h'.get? a=some { cls:=.none,data:=.fields ps };exact k a _ (.inl rfl) e
 |met f y =>
  have e:h.get? a=some (PySem.W.methodObj (.ref f) (.ref y)):=x;show h'.get? a=some (PySem.W.methodObj (.ref f) (.ref y));exact k a _ (.inl rfl) e
 |ext φ=>obtain⟨p,⟨o,e⟩,st⟩:=x;exact⟨st _ _ p fun o q=>k _ _ (.inl rfl) q,⟨o,k _ _ (.inl rfl) e⟩,st⟩
theorem iJ.lt (x:iJ P w H h)(e:H a=some o):a<h.objs.size:=(x a o e).lt
theorem iJ.fresh (x:iJ P w H h)(e:h.objs.size<=a):H a=none:=by
 cases q:H a with
 |none=>rfl
 |some u=>exact absurd (az (x.lt q) e) (eh _)
theorem iJ.kept (x:iJ P w H h)(k:∀ b u,h.get? b=some u->h'.get? b=some u):iJ P w H h':=fun a o e =>
 (x a o e).stay (fun b u _ q=>k b u q) (fun _ q=>q) fun _ _ q=>q
theorem iJ.laid (x:iJ P w H h)(k:∀ b u,h.get? b=some u->h'.get? b=some u)(hp:h.objs.size<=a)(new:bW P w (upd H a o) h' a o):iJ P w (upd H a o) h':=fun b u e=>by
 have hn:=x.fresh hp;by_cases hb:b=a
 ·subst hb;rw[aL] at e;cases e;exact new
 ·rw[aM hb] at e;exact (x b u e).stay (fun c v _ q=>k c v q) (fun c q=>by rw[aM (eS q hn)];exact q) fun c xs q=>by rw[aM (eS q hn)];exact q
end
def Rd (H:Hp)(a:Addr)(u:HO):Prop:=H a=some u\/∃ o,H a=some (.frz o u)
theorem Rd.ok {P:Program}{w:World}{H:Hp}{h:Heap}{a:Addr}{u:HO}(r:Rd H a u)(x:iJ P w H h):bW P w H h a u:=by
 rcases r with r | ⟨o,r⟩
 ·exact x a u r
 ·obtain⟨_,q⟩:=x a _ r;exact q
noncomputable def qi:Option HO->Prop
 | some (.lst _)=>True
 | some (.dK _)=>True
 | some (.dT _)=>True
 | some (.set _ _)=>True
 | some (.ins _ _ _)=>True
 | some (.ext _)=>True
 |_=>False
section
variable {P:Program}{w:World}{H:Hp}{h h':Heap}{x e:Addr}{o':HO}
theorem iJ.write (ok:iJ P w H h)(mu:qi (H x))(he:e=x\/H e=some (.own x))(k:∀ b u,b≠e->h.get? b=some u->h'.get? b=some u)(heo:∃ u,h'.get? e=some u)
  (new:bW P w (upd H x o') h' x o'):iJ P w (upd H x o') h':=fun b u q=>by
 have nown:∀ c y,H c=some (.own y)->c≠x:=fun c y r z=>by subst z;rw[r] at mu;exact mu
 have ntup:∀ c xs,H c=some (.tup xs)->c≠x:=fun c xs r z=>by subst z;rw[r] at mu;exact mu
 by_cases hb:b=x
 ·subst hb;rw[aL] at q;cases q;exact new
 ·rw[aM hb] at q;by_cases hbe:b=e
  ·have q':H b=some (.own x):=by
    rcases he with z | z
    ·exact absurd (hbe.trans z) hb
    ·rw[hbe];exact z
   rw[q] at q';cases q';obtain⟨v,hv⟩:=heo;exact⟨v,by rw[hbe];exact hv⟩
  ·refine (ok b u q).stay (fun c v hc r=>k c v ?_ r) (fun c r=>by rw[aM (nown c b r)];exact r) fun c xs r=>by rw[aM (ntup c xs r)];exact r
   rcases hc with rfl | hc
   ·exact hbe
   ·rintro rfl;rcases he with z | z
    ·exact nown c b hc z
    ·rw[hc] at z;cases z;exact hb rfl
end
structure Un (fs ex:List Addr)(H H':Hp)(h h':Heap):Prop where
 keep:∀ b o,h.get? b=some o->H b=none->b∉fs->b∉ex->h'.get? b=some o
 slot:∀ b o,h.get? b=some o->H b=none->b∈fs->b∉ex->∃ sl,h'.get? b=some { o with slots:=sl }
 free:∀ b o,h.get? b=some o->H b=none->b∉ex->H' b=none
 there:∀ b o,h.get? b=some o->b∉ex->∃ o',h'.get? b=some o'
 tups:∀ b xs,H b=some (.tup xs)->H' b=some (.tup xs)
 frzs:∀ b o u,H b=some (.frz o u)->H' b=some (.frz o u)
 tbls:∀ b ps,H b=some (.tbl ps)->∃ more,H' b=some (.tbl (ps++more))
section
variable {fs fs' ex ex':List Addr}{H H1 H2:Hp}{h h1 h2 h':Heap}{a x e:Addr}{o:HO}
theorem Un.any (u:Un fs ex H H1 h h1){b:Addr}{ob:Obj}(q:h.get? b=some ob)(n:H b=none)(hx:b∉ex):∃ sl,h1.get? b=some { ob with slots:=sl }:=by
 by_cases hb:b∈fs
 ·exact u.slot b ob q n hb hx
 ·exact⟨ob.slots,u.keep b ob q n hb hx⟩
theorem Un.kept (k:∀ b u,h.get? b=some u->h'.get? b=some u):Un fs ex H H h h' :=
 ⟨fun b ob q _ _ _=>k b ob q,fun b ob q _ _ _=>⟨ob.slots,k b ob q⟩,fun _ _ _ n _=>n,fun b ob q _=>⟨ob,k b ob q⟩,fun _ _ q=>q,fun _ _ _ q=>q,fun _ ps q=>⟨#[],by rw[q];simp⟩⟩
theorem Un.refl:Un fs ex H H h h:=Un.kept fun _ _ q=>q
theorem Un.laid (k:∀ b u,h.get? b=some u->h'.get? b=some u)(hp:h.objs.size<=a)(hn:H a=none):Un fs ex H (upd H a o) h h' where
 keep:=fun b u q _ _ _=>k b u q
 slot:=fun b u q _ _ _=>⟨u.slots,k b u q⟩
 free:=fun b u q n _=>by rw[aM (bq (az (Heap.lt_size q) hp))];exact n
 there:=fun b u q _=>⟨u,k b u q⟩
 tups:=fun b xs q=>by rw[aM (eS q hn)];exact q
 frzs:=fun b u xs q=>by rw[aM (eS q hn)];exact q
 tbls:=fun b ps q=>⟨#[],by rw[aM (eS q hn),q];simp⟩
theorem Un.write (mu:qi (H x))(he:e=x\/H e=some (.own x))(k:∀ b u,b≠e->h.get? b=some u->h'.get? b=some u)(heo:∃ u,h'.get? e=some u):Un fs ex H (upd H x o) h h':=by
 have hx:∀ b,H b=none->b≠x:=fun b n z=>by subst z;rw[n] at mu;exact mu
 have hb:∀ b,H b=none->b≠e:=fun b n z=>by
  subst z;rcases he with r | r
  ·exact hx b n r
  ·rw[n] at r;cases r
 have hm:∀ b u,H b=some u->¬ qi (some u)->b≠x:=fun b u q nm z=>by subst z;rw[q] at mu;exact nm mu
 refine⟨fun b u q n _ _=>k b u (hb b n) q,fun b u q n _ _=>⟨u.slots,k b u (hb b n) q⟩,fun b u q n _=>by rw[aM (hx b n)];exact n,fun b u q _=>?_,
  fun b xs q=>by rw[aM (hm b _ q fun z=>z)];exact q,fun b u xs q=>by rw[aM (hm b _ q fun z=>z)];exact q,fun b ps q=>⟨#[],by rw[aM (hm b _ q fun z=>z),q];simp⟩⟩
 by_cases hbe:b=e
 ·subst hbe;exact heo
 ·exact⟨u,k b u hbe q⟩
end
noncomputable def trk (h:Heap)(H:Hp):List Addr:=(List.range h.objs.size).filter fun a=>(H a).isSome
noncomputable def ox (h:Heap)(H:Hp):Heap:=PySem.W.hideAll h (trk h H)
theorem u6 (h:Heap)(H:Hp):(ox h H).objs.size=h.objs.size:=PySem.W.hideAll_size _ _
theorem xt {h:Heap}{H:Hp}{b:Addr}{o:Obj}(e:h.get? b=some o)(n:H b=none):(ox h H).get? b=some o :=
 PySem.W.hideAll_get _ e fun hm=>by
  have q:(H b).isSome=true:=(List.mem_filter.mp hm).2;rw[n] at q;simp at q
theorem zi {h:Heap}{H:Hp}{b:Addr}{o:Obj}(e:(ox h H).get? b=some o):h.get? b=some o/\H b=none:=by
 have e':h.get? b=some o:=PySem.W.of_hideAll (trk h H) e;refine⟨e',?_⟩;cases q:H b with
 |none=>rfl
 |some x =>
  have hm:b∈trk h H:=List.mem_filter.mpr ⟨List.mem_range.mpr (Heap.lt_size e'),by simp[q]⟩;have z:(ox h H).get? b=none:=PySem.W.hideAll_none (trk h H) hm;rw[z] at e;cases e
noncomputable def AJ (g h:Heap)(L:Addr):List (Addr×Obj):=(List.range h.objs.size).filterMap fun a=>if a=L\/(g.get? a).isSome=true then none else (h.get? a).map fun o=>(a,o)
noncomputable def rest (g h:Heap)(L d:Addr):List (Addr×Obj):=(AJ g h L).filter fun p=>decide (p.1≠d)
end L2
namespace L2
open PySem PySem.Spec PyProof.Rows
structure Mod (K:PySem.W.Frag)(mg:Str->Option Value)(base:Heap):Prop where
 kin:K.In base
 glob:base.Ns mainGlobals mg
 blt:∃ mb,base.Ns builtinsNs mb/\∀ x:Str,x≠"__name__"->mb x=bootBuiltins x
 nolimit:base.NoLimit
structure Cx where
 prog:Program
 w:World
 K:PySem.W.Frag
 mg:Str->Option Value
 base:Heap
 A:Around
 N:List Str
 s₀:Shared
 H₀:Hp
 env:Env
 outer:List Env
 stack:List Env
 ex:List Addr
 fn:Str->Bool
 calm:Bool
 pn:List (Addr×Obj)
 xe:Value->Shared->Prop
noncomputable def fL (l:List Env):List Addr:=l.filterMap (·.frame)
noncomputable abbrev Cx.fs (X:Cx):List Addr:=fL X.outer
def Bx (sc:Scope)(x:Str):Prop:=sc.names.lookup x=some .local\/sc.names.lookup x=some .cell\/sc.names.lookup x=some .free
def Loc (sc:Scope)(x:Str):Prop:=sc.names.lookup x=some .local\/sc.names.lookup x=some .cell
noncomputable def Look (env:Env)(h:Heap)(m:Str->Option Value)(x:Str)(u:Value):Prop :=
 (env.kindOf x=some .local/\m x=some u)\/((env.kindOf x=some .cell\/env.kindOf x=some .free)/\∃ c,env.cells.lookup x=some c/\h.IsCell c (some u))
structure Cx.Ok (X:Cx):Prop where
 mod:Mod X.K X.mg X.base
 kind:X.env.scope.kind = .function
 glob:X.env.globals=mainGlobals
 blt:X.env.builtins=builtinsNs
 above:X.s₀.heap.objs.size<=X.env.locals
 inj:∀ x y c,X.env.cells.lookup x=some c->X.env.cells.lookup y=some c->x=y
 has:∀ x,(X.env.kindOf x=some .cell\/X.env.kindOf x=some .free)->∃ c,X.env.cells.lookup x=some c
 cab:∀ x c,X.fn x=true->X.env.cells.lookup x=some c->X.s₀.heap.objs.size<=c
 hd:X.calm=true->X.A.handled=none
 frames:X.A.frames=some X.stack
 stk:X.stack=X.outer\/(X.stack=X.env::X.outer/\X.env.frame=some X.env.locals)
 exf:∀ b∈X.ex,b≠X.env.locals/\∀ x c,X.env.cells.lookup x=some c->c≠b
 bs:∀ b o,X.base.get? b=some o->X.s₀.heap.get? b=some o/\X.H₀ b=none
 bsz:X.base.objs.size<=X.s₀.heap.objs.size
 noex:∀ b o,X.base.get? b=some o->b∉X.ex
 exfs:∀ b∈X.ex,b∉X.fs
 funs:X.s₀.heap.FunFrames X.base X.outer
 frf:∀ b∈X.fs,X.H₀ b=none
structure Inv (X:Cx)(pins:List (Addr×Obj))(σ:List (Option V))(H:Hp)(s:Shared):Prop where
 ok:X.Ok
 os:s.os=X.s₀.os
 bare:AllBare s.gens
 base:Un X.fs X.ex X.H₀ H X.s₀.heap s.heap
 loc:∃ m,s.heap.Ns X.env.locals m/\∀(i:Nat) (x:Str) (v:V),X.N[i]? = some x->σ[i]? = some (some v)->Bx X.env.scope x->∃ u,RelV v u/\Look X.env s.heap m x u
 cell:∀ x c,X.env.cells.lookup x=some c->∃ v,s.heap.IsCell c v
 free:H X.env.locals=none
 freeC:∀ x c,X.env.cells.lookup x=some c->H c=none
 pin:∀ p∈X.pn++pins,s.heap.get? p.1=some p.2/\H p.1=none/\p.1≠X.env.locals/\p.1∉X.fs/\∀ v,p.2.data≠.cell v
 hok:iJ X.prog X.w H s.heap
 len:σ.length=X.N.length
section
variable {X:Cx}{pins:List (Addr×Obj)}{σ:List (Option V)}{H H':Hp}{s:Shared}{h':Heap}
theorem Cx.Ok.nofr (ok:X.Ok){b:Addr}{o:Obj}(e:X.base.get? b=some o):b∉X.fs:=fun hb=>by
 have:=(ok.funs.mem hb).1;rw[e] at this;cases this
theorem Inv.bs (I:Inv X pins σ H s):∀ b o,X.base.get? b=some o->s.heap.get? b=some o/\H b=none:=fun b o e =>
 ⟨I.base.keep b o (I.ok.bs b o e).1 (I.ok.bs b o e).2 (I.ok.nofr e) (I.ok.noex b o e),I.base.free b o (I.ok.bs b o e).1 (I.ok.bs b o e).2 (I.ok.noex b o e)⟩
theorem Inv.bk (I:Inv X pins σ H s):∀ b o,X.base.get? b=some o->s.heap.get? b=some o:=fun b o e=>(I.bs b o e).1
theorem Inv.mod (I:Inv X pins σ H s):Mod X.K X.mg X.base:=I.ok.mod
theorem Inv.kIn (I:Inv X pins σ H s):X.K.In s.heap:=I.ok.mod.kin.keeps I.bk
theorem Inv.lt (I:Inv X pins σ H s):X.env.locals<s.heap.objs.size:=let ⟨_,hn,_⟩:=I.loc;hn.lt
theorem Inv.sz (I:Inv X pins σ H s):X.s₀.heap.objs.size<=s.heap.objs.size:=bg I.ok.above (i0 I.lt)
theorem Inv.nofs (I:Inv X pins σ H s){a:Addr}(h:s.heap.objs.size<=a):a∉X.fs:=fun hb=>by
 obtain⟨_,o,ho,_⟩:=I.ok.funs.mem hb;exact absurd (az (Heap.lt_size ho) (bg I.sz h)) (eh _)
theorem Inv.cne (I:Inv X pins σ H s):∀ x c,X.env.cells.lookup x=some c->c≠X.env.locals:=fun x c e z=>by
 obtain⟨v,o,ho,hd⟩:=I.cell x c e;obtain⟨m,⟨o',es,ep,ho',hd',_⟩,_⟩:=I.loc;rw[z,ho'] at ho;cases ho;rw[hd'] at hd;cases hd
theorem Inv.funs (I:Inv X pins σ H s):s.heap.FunFrames X.base X.outer:=by
 have all:∀(l:List Env),(∀ b∈fL l,b∈X.fs)->X.s₀.heap.FunFrames X.base l->s.heap.FunFrames X.base l:=by
  intro l
  induction l with
  |nil=>intro _ _;trivial
  |cons env r ih =>
   intro hs hl;obtain⟨hk,⟨L,o,hf,hn,ho,hd⟩,hr⟩:=hl;have hL:L∈X.fs:=hs L (by unfold fL;rw[ie,hf];exact au);obtain⟨sl,e⟩:=I.base.slot L o ho (I.ok.frf L hL) hL fun z=>I.ok.exfs L z hL
   exact⟨hk,⟨L,_,hf,hn,e,hd⟩,ih (fun b hb=>hs b (by unfold fL;rw[ie,hf];exact ah _ hb)) hr⟩
 exact all X.outer (fun _ hb=>hb) I.ok.funs
theorem Inv.stack (I:Inv X pins σ H s):s.heap.FunFrames X.base X.stack:=by
 rcases I.ok.stk with e | ⟨e,hf⟩
 ·rw[e];exact I.funs
 ·rw[e];obtain⟨m,hn,_⟩:=I.loc;refine .cons (by rw[I.ok.kind];decide) hf hn ?_ I.funs;exact Heap.get?_none_of_le (bg I.ok.bsz I.ok.above)
theorem Inv.stkSub (I:Inv X pins σ H s):∀ b∈fL X.stack,b∈X.env.locals::X.fs:=fun b hb=>by
 rcases I.ok.stk with e | ⟨e,hf⟩
 ·rw[e] at hb;exact ah _ hb
 ·rw[e] at hb;unfold fL at hb;rw[ie,hf] at hb;exact hb
theorem Inv.stkFree (I:Inv X pins σ H s):∀ b∈fL X.stack,H b=none:=fun b hb=>by
 rcases g9.mp (I.stkSub b hb) with e | hb
 ·rw[e];exact I.free
 ·obtain⟨_,o,ho,_⟩:=I.ok.funs.mem hb;exact I.base.free b o ho (I.ok.frf b hb) fun z=>I.ok.exfs b z hb
theorem Inv.step {g':Array GenState}{t':Nat}{d':Drawn}{ch:List Addr}(I:Inv X pins σ H s)
  (hch:∀ b∈ch,(b∈X.ex\/X.s₀.heap.objs.size<=b)/\b≠X.env.locals/\(∀ x c,X.env.cells.lookup x=some c->c≠b)/\∀ p∈X.pn++pins,p.1≠b)
  (keep:∀ b o,b≠X.env.locals->b∉X.fs->b∉ch->s.heap.get? b=some o->H b=none->h'.get? b=some o)
  (slot:∀ b o,b≠X.env.locals->b∈X.fs->b∉ch->s.heap.get? b=some o->H b=none->∃ sl,h'.get? b=some { o with slots:=sl }) (free:∀ b o,b∉ch->s.heap.get? b=some o->H b=none->H' b=none)
  (there:∀ b o,b∉ch->s.heap.get? b=some o->∃ o',h'.get? b=some o')
  (tups:∀ b xs,H b=some (.tup xs)->H' b=some (.tup xs)) (frzs:∀ b o u,H b=some (.frz o u)->H' b=some (.frz o u)) (tbls:∀ b ps,H b=some (.tbl ps)->∃ more,H' b=some (.tbl (ps++more)))
  (ns:∀ m,s.heap.Ns X.env.locals m->h'.Ns X.env.locals m) (hok:iJ X.prog X.w H' h') (hg:AllBare g') :
  Inv X pins σ H' { s with heap:=h',gens:=g',drawn:=d',toks:=t' }:=by
 have neL:∀ b o,X.s₀.heap.get? b=some o->b≠X.env.locals:=fun b o e=>bq (az (Heap.lt_size e) I.ok.above)
 have neC:∀ b o,X.s₀.heap.get? b=some o->b∉X.ex->b∉ch:=fun b o e hx hb=>by
  rcases (hch b hb).1 with z | z
  ·exact hx z
  ·exact absurd (az (Heap.lt_size e) z) (eh _)
 have cellK:∀ x c,X.env.cells.lookup x=some c->∀ v,s.heap.IsCell c v->h'.IsCell c v:=fun x c e v ⟨o,ho,hd⟩=>by
  have nch:c∉ch:=fun z=>(hch c z).2.2.1 x c e rfl
  by_cases hc:c∈X.fs
  ·obtain⟨sl,q⟩:=slot c o (I.cne x c e) hc nch ho (I.freeC x c e);exact⟨_,q,hd⟩
  ·exact⟨o,keep c o (I.cne x c e) hc nch ho (I.freeC x c e),hd⟩
 refine⟨I.ok,I.os,hg,⟨fun b o e n hb hx=>?_,fun b o e n hb hx=>?_,fun b o e n hx=>?_,fun b o e hx=>?_,fun b xs e=>tups b xs (I.base.tups b xs e),fun b o xs e=>frzs b o xs (I.base.frzs b o xs e),fun b ps e=>?_⟩,?_,fun x c e=>?_,?_,fun x c e=>?_,fun p hp=>?_,hok,I.len⟩
 ·exact keep b o (neL b o e) hb (neC b o e hx) (I.base.keep b o e n hb hx) (I.base.free b o e n hx)
 ·obtain⟨sl,e1⟩:=I.base.slot b o e n hb hx;obtain⟨sl',e2⟩:=slot b _ (neL b o e) hb (neC b o e hx) e1 (I.base.free b o e n hx);exact⟨sl',e2⟩
 ·obtain⟨o',e1⟩:=I.base.there b o e hx;exact free b o' (neC b o e hx) e1 (I.base.free b o e n hx)
 ·obtain⟨o',e1⟩:=I.base.there b o e hx;exact there b o' (neC b o e hx) e1
 ·obtain⟨m1,e1⟩:=I.base.tbls b ps e;obtain⟨m2,e2⟩:=tbls b _ e1;exact⟨m1++m2,by rw[e2,Array.append_assoc]⟩
 ·obtain⟨m,hn,hl⟩:=I.loc;refine⟨m,ns m hn,fun i x v e1 e2 e3=>?_⟩;obtain⟨u,r,l⟩:=hl i x v e1 e2 e3;refine⟨u,r,?_⟩;rcases l with l | ⟨k,c,e,z⟩
  ·exact .inl l
  ·exact .inr ⟨k,c,e,cellK x c e _ z⟩
 ·obtain⟨v,z⟩:=I.cell x c e;exact⟨v,cellK x c e v z⟩
 ·obtain⟨m,⟨o,_,_,ho,_⟩,_⟩:=I.loc;exact free _ o (fun z=>(hch _ z).2.1 rfl) ho I.free
 ·obtain⟨v,o,ho,hd⟩:=I.cell x c e;exact free c o (fun z=>(hch c z).2.2.1 x c e rfl) ho (I.freeC x c e)
 ·obtain⟨e,n,ne,nf,d⟩:=I.pin p hp;have nch:p.1∉ch:=fun z=>(hch p.1 z).2.2.2 p hp rfl
  exact⟨keep p.1 p.2 ne nf nch e n,free p.1 p.2 nch e n,ne,nf,d⟩
theorem Inv.un {t':Nat}(I:Inv X pins σ H s)(u:Un X.fs [] H H' s.heap h')(hok:iJ X.prog X.w H' h'):Inv X pins σ H' { s with heap:=h',toks:=t' }:=by
 obtain⟨m,⟨o,es,ep,ho,r⟩,_⟩:=id I.loc;obtain⟨sl,hL⟩:=u.any ho I.free (by simp);exact I.step (g':=s.gens) (d':=s.drawn) (ch:=[]) (fun _ z=>nomatch z) (fun b o _ hb _ e n=>u.keep b o e n hb (by simp)) (fun b o _ hb _ e n=>u.slot b o e n hb (by simp)) (fun b o _ e n=>u.free b o e n (by simp)) (fun b o _ e=>u.there b o e (by simp)) u.tups u.frzs u.tbls (fun m' hm=>by
  obtain⟨o',es',ep',ho',r'⟩:=hm;rw[ho] at ho';cases ho';exact⟨_,es',ep',hL,r'⟩) hok I.bare
theorem Inv.call {g':Array GenState}{t':Nat}{d':Drawn}{ch:List Addr}(I:Inv X pins σ H s)(u:Un (fL X.stack) ch H H' s.heap h')(hok:iJ X.prog X.w H' h')(hg:AllBare g')
  (hch:∀ b∈ch,(b∈X.ex\/X.s₀.heap.objs.size<=b)/\b≠X.env.locals/\(∀ x c,X.env.cells.lookup x=some c->c≠b)/\∀ p∈X.pn++pins,p.1≠b) :
  Inv X pins σ H' { s with heap:=h',gens:=g',drawn:=d',toks:=t' }:=by
 obtain⟨m,⟨o,es,ep,ho,r⟩,_⟩:=id I.loc;obtain⟨sl,hL⟩:=u.any ho I.free fun z=>(hch _ z).2.1 rfl
 exact I.step (ch:=ch) hch (fun b o hL hb hc e n=>u.keep b o e n (fun z=>(g9.mp (I.stkSub b z)).elim hL hb) hc) (fun b o _ _ hc e n=>u.any e n hc) (fun b o hc e n=>u.free b o e n hc) (fun b o hc e=>u.there b o e hc) u.tups u.frzs u.tbls (fun m' hm=>by
  obtain⟨o',es',ep',ho',r'⟩:=hm;rw[ho] at ho';cases ho';exact⟨_,es',ep',hL,r'⟩) hok hg
theorem Inv.turned {t':Nat}{it:Addr}(I:Inv X pins σ H s)(k:∀ b o,b≠it->s.heap.get? b=some o->h'.get? b=some o)(hn:H it=none)(hL:it≠X.env.locals)
  (h1:it∈X.ex\/X.s₀.heap.objs.size<=it) (h2:∀ x c,X.env.cells.lookup x=some c->c≠it) (h3:∀ p∈X.pn++pins,p.1≠it):Inv X pins σ H { s with heap:=h',toks:=t' }:=by
 have nit:∀ b u,H b=some u->b≠it:=fun b u e z=>by rw[z,hn] at e;cases e
 refine I.step (g':=s.gens) (d':=s.drawn) (ch:=[it]) (fun b hb=>?_) (fun b o _ _ hc e _=>k b o (fun z=>hc (by simp[z])) e) (fun b o _ _ hc e _=>⟨o.slots,k b o (fun z=>hc (by simp[z])) e⟩) (fun _ _ _ _ n=>n)
  (fun b o hc e=>⟨o,k b o (fun z=>hc (by simp[z])) e⟩) (fun _ _ e=>e) (fun _ _ _ e=>e) (fun b ps e=>⟨#[],by rw[e];simp⟩) (fun m hm=>?_) (fun b u e=>?_) I.bare
 ·have e:b=it:=by simpa using hb
  subst e;exact⟨h1,hL,h2,h3⟩
 ·obtain⟨o,es,ep,ho,r⟩:=hm;exact⟨o,es,ep,k _ o (dk hL) ho,r⟩
 ·refine (I.hok b u e).stay (fun c v hc q=>k c v ?_ q) (fun _ q=>q) fun _ _ q=>q
  rcases hc with z | z
  ·rw[z];exact nit b u e
  ·exact nit c _ z
theorem Inv.tok (I:Inv X pins σ H s)(t:Nat):Inv X pins σ H { s with toks:=t }:=I.un (h':=s.heap) (t':=t) Un.refl I.hok
theorem Inv.kept {t':Nat}(I:Inv X pins σ H s)(k:∀ b u,s.heap.get? b=some u->h'.get? b=some u):Inv X pins σ H { s with heap:=h',toks:=t' }:=I.un (Un.kept k) (I.hok.kept k)
theorem Inv.laid {a:Addr}{o:HO}{t':Nat}(I:Inv X pins σ H s)(k:∀ b u,s.heap.get? b=some u->h'.get? b=some u)(hp:s.heap.objs.size<=a)(new:bW X.prog X.w (upd H a o) h' a o) :
  Inv X pins σ (upd H a o) { s with heap:=h',toks:=t' }:=I.un (Un.laid k hp (I.hok.fresh hp)) (I.hok.laid k hp new)
theorem Inv.write {x e:Addr}{o:HO}{t':Nat}(I:Inv X pins σ H s)(mu:qi (H x))(he:e=x\/H e=some (.own x))(k:∀ b u,b≠e->s.heap.get? b=some u->h'.get? b=some u)(heo:∃ u,h'.get? e=some u)
  (new:bW X.prog X.w (upd H x o) h' x o):Inv X pins σ (upd H x o) { s with heap:=h',toks:=t' }:=I.un (Un.write mu he k heo) (I.hok.write mu he k heo new)
theorem Inv.weak {σ':List (Option V)}(I:Inv X pins σ H s)(hl:σ'.length=σ.length)(w:∀(i:Nat) v,σ'[i]? = some (some v)->σ[i]? = some (some v)):Inv X pins σ' H s :=
 ⟨I.ok,I.os,I.bare,I.base,let ⟨m,hn,hl'⟩:=I.loc;⟨m,hn,fun i x v e1 e2 e3=>hl' i x v e1 (w i v e2) e3⟩,I.cell,I.free,I.freeC,I.pin,I.hok,hl.trans I.len⟩
theorem Inv.pins_of {pins':List (Addr×Obj)}(I:Inv X pins σ H s)(h:∀ p∈pins',s.heap.get? p.1=some p.2/\H p.1=none/\p.1≠X.env.locals/\p.1∉X.fs/\∀ v,p.2.data≠.cell v):Inv X pins' σ H s :=
 ⟨I.ok,I.os,I.bare,I.base,I.loc,I.cell,I.free,I.freeC,fun p hp=>(List.mem_append.mp hp).elim (fun z=>I.pin p (bj _ z)) (h p),I.hok,I.len⟩
theorem kX {N:List Str}(hN:N.Nodup){i j:Nat}{x:Str}(a:N[i]? = some x)(b:N[j]? = some x):i=j:=by
 obtain⟨h1,e1⟩:=List.getElem?_eq_some_iff.mp a;obtain⟨h2,e2⟩:=List.getElem?_eq_some_iff.mp b;exact (List.getElem_inj hN).mp (e1.trans e2.symm)
theorem vp {M:Model}{A:Around}{E:Value->Shared->Prop}{i:Nat}{x:Str}{v:V}{u:Value}{Q:Unit->Shared->Prop}(I:Inv X pins σ H s)(hN:X.N.Nodup)(hi:X.N[i]? = some x)(hx:Loc X.env.scope x)(r:RelV v u)
  (h:∀ s',Inv X pins (σ.set i (some v)) H s'->(∃ a,Heap.SameBut a s.heap s'.heap/\(a=X.env.locals\/X.env.cells.lookup x=some a))->Q () s') (hf:X.fn x=true\/X.env.scope.names.lookup x=some .local:=by first | exact .inl rfl | exact .inr rfl | assumption):wpAny M A (storeName X.env x u) Q E s:=by
 obtain⟨m,hn,hl⟩:=id I.loc;have hcls:(X.env.scope.kind == .class || (X.env.scope.kind == .module&&X.env.locals != X.env.globals))=false:=by rw[I.ok.kind];rfl
 have hiσ:i<σ.length:=by rw[I.len];exact (List.getElem?_eq_some_iff.mp hi).1
 have cne:=I.cne;have tracked:∀{a:Addr}{h':Heap},(∃ o,s.heap.get? a=some o/\H a=none)->Heap.SameBut a s.heap h'->iJ X.prog X.w H h':=fun {a h'} ha hs b ob e=>by
  obtain⟨_,_,hfree⟩:=ha;refine (I.hok b ob e).stay (fun c w' hc q=>(hs.2 c ?_).trans q) (fun _ q=>q) fun _ _ q=>q
  rintro rfl;rcases hc with rfl | hc
  ·rw[hfree] at e;cases e
  ·rw[hfree] at hc;cases hc
 rcases hx with hk | hk
 ·refine wpAny_storeName_local hk hn (fun h' hn' hs=>?_) hcls;obtain⟨oL,_,_,hoL,_⟩:=id hn;refine h _ ⟨I.ok,I.os,I.bare,⟨fun b o e n hb hx=>?_,fun b o e n hb hx=>?_,I.base.free,fun b o e hx=>?_,I.base.tups,I.base.frzs,I.base.tbls⟩,⟨_,hn',fun j y v' e1 e2 e3=>?_⟩,fun y c e=>?_,I.free,I.freeC,fun p hp=>?_,tracked ⟨oL,hoL,I.free⟩ hs,by simpa using I.len⟩ ⟨_,hs,.inl rfl⟩
  ·exact (hs.2 b (bq (az (Heap.lt_size e) I.ok.above))).trans (I.base.keep b o e n hb hx)
  ·obtain⟨sl,e1⟩:=I.base.slot b o e n hb hx;exact⟨sl,(hs.2 b (bq (az (Heap.lt_size e) I.ok.above))).trans e1⟩
  ·obtain⟨o',e1⟩:=I.base.there b o e hx;exact⟨o',(hs.2 b (bq (az (Heap.lt_size e) I.ok.above))).trans e1⟩
  ·by_cases hj:j=i
   ·subst hj;rw[hi] at e1;cases e1;rw[List.getElem?_set_self hiσ] at e2;cases e2;exact⟨u,r,.inl ⟨hk,by simp⟩⟩
   ·rw[List.getElem?_set_ne (dk hj)] at e2;obtain⟨u',r',q⟩:=hl j y v' e1 e2 e3;refine⟨u',r',?_⟩;rcases q with ⟨k,e⟩ | ⟨k,c,e,z⟩
    ·refine .inl ⟨k,?_⟩;have:y≠x:=fun e=>hj (kX hN e1 (e ▸ hi))
     simp[this,e]
    ·exact .inr ⟨k,c,e,z.sameBut hs (cne y c e)⟩
  ·obtain⟨w',z⟩:=I.cell y c e;exact⟨w',z.sameBut hs (cne y c e)⟩
  ·obtain⟨e,n,ne,nf,d⟩:=I.pin p hp;exact⟨(hs.2 p.1 ne).trans e,n,ne,nf,d⟩
 ·have hfn:X.fn x=true:=by
   rcases hf with z | z
   ·exact z
   ·rw[z] at hk;cases hk
  obtain⟨c,hc⟩:=I.ok.has x (.inl hk);obtain⟨w',z⟩:=I.cell x c hc;refine wpAny_storeName_cell I.ok.kind hk hc z (fun h' hc' hs=>?_);obtain⟨oc,hoc,hocd⟩:=id z;refine h { s with heap:=h' } ⟨I.ok,I.os,I.bare,⟨fun b o e n hb hx=>?_,fun b o e n hb hx=>?_,I.base.free,fun b o e hx=>?_,I.base.tups,I.base.frzs,I.base.tbls⟩,⟨m,hn.sameBut hs (Ne.symm (cne x c hc)),fun j y v' e1 e2 e3=>?_⟩,fun y c' e=>?_,I.free,I.freeC,fun p hp=>?_,tracked ⟨oc,hoc,I.freeC x c hc⟩ hs,by simpa using I.len⟩ ⟨c,hs,.inr hc⟩
  ·exact (hs.2 b (bq (az (Heap.lt_size e) (I.ok.cab x c hfn hc)))).trans (I.base.keep b o e n hb hx)
  ·obtain⟨sl,e1⟩:=I.base.slot b o e n hb hx;exact⟨sl,(hs.2 b (bq (az (Heap.lt_size e) (I.ok.cab x c hfn hc)))).trans e1⟩
  ·obtain⟨o',e1⟩:=I.base.there b o e hx;exact⟨o',(hs.2 b (bq (az (Heap.lt_size e) (I.ok.cab x c hfn hc)))).trans e1⟩
  ·by_cases hj:j=i
   ·subst hj;rw[hi] at e1;cases e1;rw[List.getElem?_set_self hiσ] at e2;cases e2;exact⟨u,r,.inr ⟨.inl hk,c,hc,hc'⟩⟩
   ·rw[List.getElem?_set_ne (dk hj)] at e2;obtain⟨u',r',q⟩:=hl j y v' e1 e2 e3;refine⟨u',r',?_⟩;rcases q with q | ⟨k,c',e,z'⟩
    ·exact .inl q
    ·refine .inr ⟨k,c',e,z'.sameBut hs ?_⟩;rintro rfl;exact hj (kX hN e1 (I.ok.inj _ _ _ e hc ▸ hi))
  ·by_cases hcc:c'=c
   ·subst hcc;exact⟨_,hc'⟩
   ·obtain⟨w2,z2⟩:=I.cell y c' e;exact⟨w2,z2.sameBut hs hcc⟩
  ·obtain⟨e,n,ne,nf,d⟩:=I.pin p hp;refine⟨(hs.2 p.1 ?_).trans e,n,ne,nf,d⟩;intro q;rw[q,hoc] at e;have q':oc=p.2:=cw e;exact d w' (by rw[<-q'];exact hocd)
theorem iC {M:Model}{A:Around}{E:Value->Shared->Prop}{i:Nat}{x:Str}{v:V}{u:Value}{Q:Unit->Shared->Prop}(I:Inv X pins σ H s)(hN:X.N.Nodup)(hi:X.N[i]? = some x)(hx:Loc X.env.scope x)(r:RelV v u)
  (h:∀ s',Inv X pins (σ.set i (some v)) H s'->Q () s') (hf:X.fn x=true\/X.env.scope.names.lookup x=some .local:=by first | exact .inl rfl | exact .inr rfl | assumption):wpAny M A (storeName X.env x u) Q E s :=
 vp I hN hi hx r (fun s' I' _=>h s' I') hf
theorem Inv.call' {s':Shared}{ch:List Addr}(I:Inv X pins σ H s)(ho:s'.os=s.os)(u:Un (fL X.stack) ch H H' s.heap s'.heap)(hok:iJ X.prog X.w H' s'.heap)(hg:AllBare s'.gens)
  (hch:∀ b∈ch,(b∈X.ex\/X.s₀.heap.objs.size<=b)/\b≠X.env.locals/\(∀ x c,X.env.cells.lookup x=some c->c≠b)/\∀ p∈X.pn++pins,p.1≠b):Inv X pins σ H' s':=by
 obtain⟨h',g',d',t',o'⟩:=s';have e:o'=s.os:=ho;subst e;exact I.call (g':=g') (t':=t') (d':=d') u hok hg hch
end
noncomputable abbrev XK:=Value->Option Addr->Hp->Prop
noncomputable abbrev St:=List (Option V)
noncomputable abbrev VK:=V->Hp->Prop
noncomputable abbrev TE:=St->Hp->VK->Prop
noncomputable abbrev TT:=St->Hp->(Bool->Hp->Prop)->Prop
noncomputable abbrev TA:=St->Hp->(List V->Hp->Prop)->Prop
structure Ends where
 nx:St->Hp->Prop
 rt:VK
 bk:St->Hp->Prop:=fun _ _=>False
 ct:St->Hp->Prop:=fun _ _=>False
noncomputable abbrev TS:=Ends->St->Hp->Prop
def EP (X:Cx)(pins:List (Addr×Obj))(σ:St)(Q:VK)(u:Value)(s':Shared):Prop:=∃ v H',Inv X pins σ H' s'/\RelV v u/\Q v H'
def TP (X:Cx)(pins:List (Addr×Obj))(σ:St)(Q:Bool->Hp->Prop)(b:Bool)(s':Shared):Prop:=∃ H',Inv X pins σ H' s'/\Q b H'
def AP (X:Cx)(pins:List (Addr×Obj))(σ:St)(Q:List V->Hp->Prop)(us:List Value)(s':Shared):Prop:=∃ vs H',Inv X pins σ H' s'/\aN vs us/\Q vs H'
noncomputable def SP (X:Cx)(pins:List (Addr×Obj))(D:Ends)(f:Flow)(s':Shared):Prop :=
 match f with
 |.next=>∃ σ' H',Inv X pins σ' H' s'/\D.nx σ' H'
 |.brk=>∃ σ' H',Inv X pins σ' H' s'/\D.bk σ' H'
 |.cont=>∃ σ' H',Inv X pins σ' H' s'/\D.ct σ' H'
 |.ret u=>∃ v σ' H',Inv X pins σ' H' s'/\RelV v u/\D.rt v H'
noncomputable def PE (X:Cx)(e:Expr)(t:TE):Prop :=
 ∀(pins:List (Addr×Obj)) (s:Shared) (σ:St) (H:Hp) (Q:VK),Inv X pins σ H s->t σ H Q->wpAny (model X.prog X.w) X.A (eval e X.env) (EP X pins σ Q) X.xe s
noncomputable def PT (X:Cx)(e:Expr)(t:TT):Prop :=
 ∀(pins:List (Addr×Obj)) (s:Shared) (σ:St) (H:Hp) (Q:Bool->Hp->Prop),Inv X pins σ H s->t σ H Q->wpAny (model X.prog X.w) X.A (isTrue e X.env (eval e X.env)) (TP X pins σ Q) X.xe s
noncomputable def PW (X:Cx)(e:Expr)(t:TT):Prop :=
 ∀(whole:Sem Value) (pins:List (Addr×Obj)) (s:Shared) (σ:St) (H:Hp) (Q:Bool->Hp->Prop),Inv X pins σ H s->t σ H Q->wpAny (model X.prog X.w) X.A (isTrue e X.env whole) (TP X pins σ Q) X.xe s
theorem PW.pt {X:Cx}{e:Expr}{t:TT}(h:PW X e t):PT X e t:=h _
noncomputable def PA (X:Cx)(es:List Expr)(t:TA):Prop :=
 ∀(pos:Pos) (pins:List (Addr×Obj)) (s:Shared) (σ:St) (H:Hp) (Q:List V->Hp->Prop),Inv X pins σ H s->t σ H Q->wpAny (model X.prog X.w) X.A (spliced (backTo pos (starEach es X.env))) (AP X pins σ Q) X.xe s
noncomputable def PS (X:Cx)(st:Stmt)(t:TS):Prop :=
 ∀(pins:List (Addr×Obj)) (s:Shared) (σ:St) (H:Hp) (D:Ends),Inv X pins σ H s->t D σ H->wpAny (model X.prog X.w) X.A (exec st X.env) (SP X pins D) X.xe s
noncomputable def jI (X:Cx)(st:List Stmt)(t:TS):Prop :=
 ∀(pins:List (Addr×Obj)) (s:Shared) (σ:St) (H:Hp) (D:Ends),Inv X pins σ H s->t D σ H->wpAny (model X.prog X.w) X.A (execs st X.env) (SP X pins D) X.xe s
theorem cH {α:Type}{t:Sem α}{Q Q':α->Shared->Prop}{M:Model}{A:Around}{E:Value->Shared->Prop}{s:Shared}(h:wpAny M A t Q E s)(hQ:∀ a s,Q a s->Q' a s):wpAny M A t Q' E s:=wpAny_mono h hQ fun _ _ x=>x
end L2
namespace L2
open PySem PySem.Spec PyProof.Rows
section
variable {X:Cx}
def iT (i:Nat):TE:=fun σ H Q=>∃ v,σ[i]? = some (some v)/\Q v H
def tC (v:V):TE:=fun _ H Q=>Q v H
theorem qI {i:Nat}{x:Str}{pos:Pos}(hN:X.N[i]? = some x)(hv:Bx X.env.scope x)(hd:(x==("__debug__" : Str))=false:=by decide) (hcd:(x==("__classdict__" : Str))=false:=by decide):PE X (.Name x pos) (iT i):=by
 intro pins s σ H Q I h;obtain⟨v,e,h⟩:=h;obtain⟨m,hn,hl⟩:=I.loc;obtain⟨u,r,l⟩:=hl i x v hN e hv;have fin:EP X pins σ Q u s:=⟨v,H,I,r,h⟩;rcases l with ⟨hk,hm⟩ | ⟨hk,c,hc,hcell⟩
 ·exact wpAny_Name (wpAny_loadName_local I.ok.kind hk hn hm fin) hd
 ·rcases hk with hk | hk
  ·exact wpAny_Name (wpAny_loadName_cell I.ok.kind hk hc hcell fin) hd
  ·exact wpAny_Name (wpAny_loadName_free I.ok.kind hk hc hcell fin hcd) hd
theorem kR {i j pos}:PE X (.Constant (.int i) j pos) (tC (.int i)):=fun _ _ _ H _ I h=>wpAny_Constant_int ⟨.int i,H,I.tok _,⟨_,rfl⟩,h⟩
theorem xp {b j pos}:PE X (.Constant (.bool b) j pos) (tC (.bl b)):=fun _ _ _ H _ I h=>Constant_bool ⟨.bl b,H,I,rfl,h⟩
theorem rQ {j pos}:PE X (.Constant .none j pos) (tC .non):=fun _ _ _ H _ I h=>Constant_none ⟨.non,H,I,rfl,h⟩
theorem i9 {x j pos}:PE X (.Constant (.str x) j pos) (tC (.str x)):=fun _ _ _ H _ I h=>Calls.Constant_str ⟨.str x,H,I.tok _,⟨_,rfl⟩,h⟩
def Gl (X:Cx)(x:Str):Prop:=X.env.kindOf x=some .globalImplicit
theorem eV {E:Value->Shared->Prop}{pins:List (Addr×Obj)}{s:Shared}{σ:St}{H:Hp}{x:Str}{u:Value}{pos:Pos}{Q:Value->Shared->Prop}(I:Inv X pins σ H s)(hg:Gl X x)(hm:X.mg x=some u)(h:Q u s)
  (hd:(x==("__debug__" : Str))=false:=by decide):wpAny (model X.prog X.w) X.A (eval (.Name x pos) X.env) Q E s :=
 Calls.Name_function_global I.ok.kind hg (Calls.loadGlobal_global (by rw[I.ok.glob];exact I.mod.glob.keeps I.bk) hm h) hd
theorem nU {E:Value->Shared->Prop}{pins:List (Addr×Obj)}{s:Shared}{σ:St}{H:Hp}{x:Str}{u:Value}{pos:Pos}{Q:Value->Shared->Prop}(I:Inv X pins σ H s)(hg:Gl X x)(hm:X.mg x=none)(hv:bootBuiltins x=some u)(h:Q u s)
  (hn:x≠"__name__":=by decide) (hd:(x==("__debug__" : Str))=false:=by decide):wpAny (model X.prog X.w) X.A (eval (.Name x pos) X.env) Q E s:=by
 obtain⟨mb,h1,h2⟩:=I.mod.blt;exact Calls.Name_function_global I.ok.kind hg (Calls.loadGlobal_builtin (by rw[I.ok.glob];exact I.mod.glob.keeps I.bk) hm (by rw[I.ok.blt];exact h1.keeps I.bk) ((h2 x hn).trans hv) h) hd
theorem dI {x:Str}{v:V}{u:Value}{pos:Pos}(hg:Gl X x)(hm:X.mg x=some u)(r:RelV v u)(hd:(x==("__debug__" : Str))=false:=by decide):PE X (.Name x pos) (tC v) :=
 fun _ _ _ H _ I h=>eV I hg hm ⟨v,H,I,r,h⟩ hd
theorem tW {x:Str}{v:V}{u:Value}{pos:Pos}(hg:Gl X x)(hm:X.mg x=none)(hv:bootBuiltins x=some u)(r:RelV v u)(hn:x≠"__name__":=by decide) (hd:(x==("__debug__" : Str))=false:=by decide):PE X (.Name x pos) (tC v) :=
 fun _ _ _ H _ I h=>nU I hg hm hv ⟨v,H,I,r,h⟩ hn hd
variable {a b:Expr}{ta tb:TE}{pos:Pos}
def tB (t:TE):TT:=fun σ H Q=>t σ H fun x H1=>∃ c,x = .bl c/\Q c H1
theorem yG {e:Expr}{t:TE}(h:PE X e t)(he:∀ whole,isTrue e X.env whole=(do let v <- whole;standAt e.pos;holding [v] (truthy v)):=by intro _;rfl):PT X e (tB t):=by
 intro pins s σ H Q I hw;refine isTrue_plain (cH (h pins s σ H _ I hw) fun v s1 ⟨x,H1,I1,r1,q1⟩=>?_) (he _);obtain⟨d,rfl,q⟩:=q1;cases r1;exact wpAny_truthy_bool ⟨H1,I1,q⟩
variable {tA tB':TT}{rest:List Expr}
def tAnd (t u:TT):TT:=fun σ H Q=>t σ H fun c H1=>if c=true then u σ H1 Q else Q false H1
def tOr (t u:TT):TT:=fun σ H Q=>t σ H fun c H1=>if c=true then Q true H1 else u σ H1 Q
def CL (t:TT):TT:=fun σ H Q=>t σ H fun c H1=>Q (!c) H1
theorem zH (ha:PT X a tA):PW X (.BoolOp .And [a] pos) tA:=by
 intro wh pins s σ H Q I h;refine isTrue_and (cH (ha pins s σ H Q I h) fun c s1 e=>?_);cases c with
 |true=>exact isTrue_and_nil e
 |false=>exact e
theorem vI (ha:PT X a tA):PW X (.BoolOp .Or [a] pos) tA:=by
 intro wh pins s σ H Q I h;refine isTrue_or (cH (ha pins s σ H Q I h) fun c s1 e=>?_);cases c with
 |false=>exact isTrue_or_nil e
 |true=>exact e
theorem CN (ha:PT X a tA)(hb:PW X (.BoolOp .And (b::rest) pos) tB'):PW X (.BoolOp .And (a::b::rest) pos) (tAnd tA tB'):=by
 intro wh pins s σ H Q I h;refine isTrue_and (cH (ha pins s σ H _ I h) fun c s1 ⟨H1,I1,q1⟩=>?_);cases c with
 |true=>exact hb wh pins s1 σ H1 Q I1 q1
 |false=>exact⟨H1,I1,q1⟩
theorem Bh (ha:PT X a tA)(hb:PW X (.BoolOp .Or (b::rest) pos) tB'):PW X (.BoolOp .Or (a::b::rest) pos) (tOr tA tB'):=by
 intro wh pins s σ H Q I h;refine isTrue_or (cH (ha pins s σ H _ I h) fun c s1 ⟨H1,I1,q1⟩=>?_);cases c with
 |true=>exact⟨H1,I1,q1⟩
 |false=>exact hb wh pins s1 σ H1 Q I1 q1
theorem qM (ha:PT X a tA):PT X (.UnaryOp .Not a pos) (CL tA):=by
 intro pins s σ H Q I h;exact isTrue_not (ha pins s σ H (fun c H1=>Q (!c) H1) I h)
def GA (ta tb:TE):TE:=fun σ H Q=>ta σ H fun x H1=>∃ c,x = .bl c/\if c=true then tb σ H1 Q else Q (.bl false) H1
def tOrV (ta tb:TE):TE:=fun σ H Q=>ta σ H fun x H1=>∃ c,x = .bl c/\if c=true then Q (.bl true) H1 else tb σ H1 Q
def BA (ta:TE):TE:=fun σ H Q=>ta σ H fun x H1=>∃ c,x = .bl c/\Q (.bl (!c)) H1
theorem DB {op}{t:TE}(h:PE X a t):PE X (.BoolOp op [a] pos) t:=fun pins s σ H Q I hw=>BoolOp_one (h pins s σ H Q I hw)
theorem Cz (ha:PE X a ta)(hb:PE X (.BoolOp .And (b::rest) pos) tb):PE X (.BoolOp .And (a::b::rest) pos) (GA ta tb):=by
 intro pins s σ H Q I h;refine BoolOp_and (cH (ha pins s σ H _ I h) fun v s1 ⟨x,H1,I1,r1,q1⟩=>?_);obtain⟨c,rfl,q1⟩:=q1;cases r1;refine wpAny_truthy_bool ?_;cases c with
 |true=>exact hb pins s1 σ H1 Q I1 q1
 |false=>exact⟨.bl false,H1,I1,rfl,q1⟩
theorem GP (ha:PE X a ta)(hb:PE X (.BoolOp .Or (b::rest) pos) tb):PE X (.BoolOp .Or (a::b::rest) pos) (tOrV ta tb):=by
 intro pins s σ H Q I h;refine BoolOp_or (cH (ha pins s σ H _ I h) fun v s1 ⟨x,H1,I1,r1,q1⟩=>?_);obtain⟨c,rfl,q1⟩:=q1;cases r1;refine wpAny_truthy_bool ?_;cases c with
 |false=>exact hb pins s1 σ H1 Q I1 q1
 |true=>exact⟨.bl true,H1,I1,rfl,q1⟩
theorem xB (ha:PE X a ta):PE X (.UnaryOp .Not a pos) (BA ta):=by
 intro pins s σ H Q I h;refine UnaryOp_ (cH (ha pins s σ H _ I h) fun v s1 ⟨x,H1,I1,r1,q1⟩=>?_);obtain⟨c,rfl,q1⟩:=q1;cases r1;exact not_of (wpAny_truthy_bool ⟨.bl (!c),H1,I1,rfl,q1⟩)
def tIf (t:TT)(ta tb:TE):TE:=fun σ H Q=>t σ H fun c H1=>if c=true then ta σ H1 Q else tb σ H1 Q
theorem pq {c:Expr}(hc:PT X c tA)(ha:PE X a ta)(hb:PE X b tb):PE X (.IfExp c a b pos) (tIf tA ta tb):=by
 intro pins s σ H Q I h;refine wpAny_IfExp (cH (hc pins s σ H _ I h) fun d s1 ⟨H1,I1,q1⟩=>?_);cases d with
 |true=>exact ha pins s1 σ H1 Q I1 q1
 |false=>exact hb pins s1 σ H1 Q I1 q1
end
end L2
namespace L2
open PySem PySem.Spec PyProof.Rows
noncomputable def oJ (K:PySem.W.Frag)(H:Hp)(a:Addr)(xs:List V):Prop :=
 Rd H a (.lst xs) \/
  ∃(o:Obj) (its:Array Value) (n:Nat),K.lookup a=some o/\o.cls = .type "list"/\o.dict=none/\o.data = .seq its n/\its.size<=sizeLine/\aN xs its.toList
noncomputable def je (K:PySem.W.Frag)(H:Hp)(a:Addr)(xs:List V):Prop :=
 Rd H a (.tup xs) \/
  ∃(o:Obj) (its:Array Value) (n:Nat),K.lookup a=some o/\o.cls = .type "tuple"/\o.data = .seq its n/\its.size<=sizeLine/\aN xs its.toList
noncomputable def absV:Value->Option V
 |.none=>some .non
 |.bool b=>some (.bl b)
 |.int i _=>some (.int i)
 |.str x _=>some (.str x)
 |.bytes b _=>some (.byt b)
 |.float b _=>some (.flt b)
 |.ref a=>some (.ref a)
 |.type n=>some (.ty n)
 |_=>none
theorem RelV.abs {x:V}{u:Value}(r:RelV x u):absV u=some x:=by
 cases x with
 |non=>cases r;rfl
 |bl _=>cases r;rfl
 |int _=>obtain⟨t,rfl⟩:=r;rfl
 |str _=>obtain⟨t,rfl⟩:=r;rfl
 |byt _=>obtain⟨t,rfl⟩:=r;rfl
 |flt _=>obtain⟨t,rfl⟩:=r;rfl
 |ref _=>cases r;rfl
 |ty _=>cases r;rfl
theorem RelV.inj {x y:V}{u:Value}(r:RelV x u)(q:RelV y u):x=y:=cw (r.abs.symm.trans q.abs)
theorem aN.inj:∀{xs ys:List V}{us:List Value},aN xs us->aN ys us->xs=ys
 |_,_,_,.nil,.nil=>rfl
 |_,_,_,.cons r t,.cons r' t'=>by rw[r.inj r',aN.inj t t']
section
variable {X:Cx}{pins:List (Addr×Obj)}{σ:St}{H:Hp}{s:Shared}{a:Addr}{xs ys:List V}
theorem Inv.list (I:Inv X pins σ H s)(h:oJ X.K H a xs):∃ its:List Value,aN xs its/\PlainL s.heap a its.toArray/\xs.length<=sizeLine:=by
 rcases h with h | ⟨o,its,n,hk,hc,hd,hs,hz,r⟩
 ·obtain⟨z,its,n,r,e⟩:=h.ok I.hok;exact⟨its,r,⟨_,n,e,rfl,rfl,rfl⟩,z⟩
 ·refine⟨its.toList,r,⟨o,n,I.kIn a o hk,hc,hd,by simpa using hs⟩,?_⟩;have e:=r.length;simp only[Array.length_toList] at e;omega
theorem Inv.tuple (I:Inv X pins σ H s)(h:je X.K H a xs):∃ its:List Value,aN xs its/\IsTup s.heap a its.toArray/\xs.length<=sizeLine:=by
 rcases h with h | ⟨o,its,n,hk,hc,hs,hz,r⟩
 ·obtain⟨z,its,r,p⟩:=h.ok I.hok;exact⟨its,r,p,z⟩
 ·refine⟨its.toList,r,⟨o,I.kIn a o hk,hc,n,by simpa using hs⟩,?_⟩;have e:=r.length;simp only[Array.length_toList] at e;omega
theorem Inv.list_inj (I:Inv X pins σ H s)(h:oJ X.K H a xs)(h':oJ X.K H a ys):xs=ys:=by
 obtain⟨its,r,⟨o,n,e,_,_,d⟩,_⟩:=I.list h;obtain⟨its',r',⟨o',n',e',_,_,d'⟩,_⟩:=I.list h';rw[e] at e';cases e';rw[d] at d';injection d' with d1 _
 have:its=its':=by simpa using congrArg Array.toList d1
 subst this;exact r.inj r'
theorem Inv.tuple_inj (I:Inv X pins σ H s)(h:je X.K H a xs)(h':je X.K H a ys):xs=ys:=by
 obtain⟨its,r,⟨o,e,_,n,d⟩,_⟩:=I.tuple h;obtain⟨its',r',⟨o',e',_,n',d'⟩,_⟩:=I.tuple h';rw[e] at e';cases e';rw[d] at d';injection d' with d1 _
 have:its=its':=by simpa using congrArg Array.toList d1
 subst this;exact r.inj r'
end
noncomputable abbrev Cx.wish (X:Cx)(E:Value->Shared->Prop):Cx:={ X with xe:=E }
noncomputable abbrev Cx.nox (X:Cx):Cx:=X.wish fun _ _=>False
theorem Cx.Ok.wish {X:Cx}(ok:X.Ok)(E:Value->Shared->Prop):(X.wish E).Ok :=
 ⟨ok.mod,ok.kind,ok.glob,ok.blt,ok.above,ok.inj,ok.has,ok.cab,ok.hd,ok.frames,ok.stk,ok.exf,ok.bs,ok.bsz,ok.noex,ok.exfs,ok.funs,ok.frf⟩
theorem Cx.Ok.unwish {X:Cx}{E:Value->Shared->Prop}(ok:(X.wish E).Ok):X.Ok :=
 ⟨ok.mod,ok.kind,ok.glob,ok.blt,ok.above,ok.inj,ok.has,ok.cab,ok.hd,ok.frames,ok.stk,ok.exf,ok.bs,ok.bsz,ok.noex,ok.exfs,ok.funs,ok.frf⟩
section
variable {X:Cx}{pins:List (Addr×Obj)}{σ:St}{H:Hp}{s:Shared}{E:Value->Shared->Prop}
theorem Inv.wish (I:Inv X pins σ H s)(E:Value->Shared->Prop):Inv (X.wish E) pins σ H s:=⟨I.ok.wish E,I.os,I.bare,I.base,I.loc,I.cell,I.free,I.freeC,I.pin,I.hok,I.len⟩
theorem Inv.unwish (I:Inv (X.wish E) pins σ H s):Inv X pins σ H s:=⟨I.ok.unwish,I.os,I.bare,I.base,I.loc,I.cell,I.free,I.freeC,I.pin,I.hok,I.len⟩
theorem SP.unwish {D:Ends}{f:Flow}{s':Shared}(h:SP (X.wish E) pins D f s'):SP X pins D f s':=by
 cases f with
 |next=>obtain⟨σ',H',I,q⟩:=h;exact⟨σ',H',I.unwish,q⟩
 |brk=>obtain⟨σ',H',I,q⟩:=h;exact⟨σ',H',I.unwish,q⟩
 |cont=>obtain⟨σ',H',I,q⟩:=h;exact⟨σ',H',I.unwish,q⟩
 |ret u=>obtain⟨v,σ',H',I,r,q⟩:=h;exact⟨v,σ',H',I.unwish,r,q⟩
theorem PE.nox {e:Expr}{t:TE}(h:PE X.nox e t):PE X e t:=fun pins s σ H Q I hw =>
 wpAny_mono (h pins s σ H Q (I.wish _) hw) (fun _ _ ⟨v,H',I',r,q⟩=>⟨v,H',I'.unwish,r,q⟩) fun _ _ z=>False.elim z
theorem PT.nox {e:Expr}{t:TT}(h:PT X.nox e t):PT X e t:=fun pins s σ H Q I hw =>
 wpAny_mono (h pins s σ H Q (I.wish _) hw) (fun _ _ ⟨H',I',q⟩=>⟨H',I'.unwish,q⟩) fun _ _ z=>False.elim z
theorem jI.nox {st:List Stmt}{t:TS}(h:jI X.nox st t):jI X st t:=fun pins s σ H D I hw =>
 wpAny_mono (h pins s σ H D (I.wish _) hw) (fun _ _ q=>q.unwish) fun _ _ z=>False.elim z
end
section
variable {X:Cx}{st:Stmt}{rest:List Stmt}{t u:TS}{e:Expr}{te:TE}{pos:Pos}
def tR:TS:=fun D σ H=>D.nx σ H
def GN (t u:TS):TS:=fun D σ H=>t { D with nx:=u D } σ H
theorem jA:jI X [] tR:=fun _ _ σ H _ I h=>wpAny_execs_nil ⟨σ,H,I,h⟩
theorem aQ (h1:PS X st t)(h2:jI X rest u):jI X (st::rest) (GN t u):=by
 intro pins s σ H D I h;refine wpAny_execs_cons (cH (h1 pins s σ H { D with nx:=u D } I h) fun f s1 q=>?_);cases f with
 |next =>
  obtain⟨σ',H',I',q⟩:=q;exact h2 pins s1 σ' H' D I' q
 |ret v=>exact q
 |brk=>exact q
 |cont=>exact q
theorem cF (h1:PS X st t):jI X [st] t:=by
 intro pins s σ H D I h;refine wpAny_execs_cons (cH (h1 pins s σ H D I h) fun f s1 q=>?_);cases f with
 |next=>exact wpAny_execs_nil q
 |ret v=>exact q
 |brk=>exact q
 |cont=>exact q
theorem ze:PS X (.Pass pos) tR:=fun _ _ σ H _ I h=>wpAny_Pass ⟨σ,H,I,h⟩
theorem Inv.quiet {pins:List (Addr×Obj)}{σ:St}{H:Hp}{s:Shared}(I:Inv X pins σ H s):interactive X.env=false:=by simp[interactive,I.ok.kind]
theorem CW {x j pos pos'}:PS X (.Expr (.Constant (.str x) j pos) pos') tR:=fun _ s σ H _ I h=>wpAny_Expr (Calls.Constant_str (show SP X _ _ .next { s with toks:=s.toks+1 } from ⟨σ,H,I.tok _,h⟩)) I.quiet
def wL (te:TE):TS:=fun D σ H=>te σ H fun _ H1=>D.nx σ H1
theorem jr (he:PE X e te)(hs:swapsWith e none pos.line X.env=pure false:=by rfl):PS X (.Expr e pos) (wL te):=by
 intro pins s σ H D I h;exact wpAny_Expr_any (cH (he pins s σ H _ I h) fun v s1 ⟨x,H1,I1,r1,q1⟩=>⟨σ,H1,I1,q1⟩) I.quiet hs
def B9 (te:TE):TS:=fun D σ H=>te σ H D.rt
theorem iY (he:PE X e te):PS X (.Return (some e) pos) (B9 te):=by
 intro pins s σ H D I h;exact wpAny_Return_some (cH (he pins s σ H _ I h) fun v s1 ⟨x,H1,I1,r1,q1⟩=>⟨x,σ,H1,I1,r1,q1⟩)
def F8:TS:=fun D _ H=>D.rt .non H
theorem zP:PS X (.Return none pos) F8:=fun _ _ σ H _ I h=>wpAny_Return_none ⟨.non,σ,H,I,rfl,h⟩
def EG (c:TT)(t u:TS):TS:=fun D σ H=>c σ H fun b H1=>if b=true then t D σ H1 else u D σ H1
theorem qj {c:Expr}{a b:List Stmt}{tc:TT}(hc:PT X c tc)(ha:jI X a t)(hb:jI X b u):PS X (.If c a b pos) (EG tc t u):=by
 intro pins s σ H D I h;refine wpAny_If (cH (hc pins s σ H _ I h) fun d s1 ⟨H1,I1,q1⟩=>?_);cases d with
 |true=>exact ha pins s1 σ H1 D I1 q1
 |false=>exact hb pins s1 σ H1 D I1 q1
end
noncomputable abbrev TG:=V->St->Hp->(St->Hp->Prop)->Prop
noncomputable abbrev Bk:=List V->St->Hp->(St->Hp->Prop)->Prop
noncomputable def PG (X:Cx)(target:Expr)(t:TG):Prop :=
 ∀(pins:List (Addr×Obj)) (s:Shared) (σ:St) (H:Hp) (v:V) (u:Value) (Q:St->Hp->Prop),Inv X pins σ H s->RelV v u->t v σ H Q ->
  wpAny (model X.prog X.w) X.A (assign target X.env u) (fun _ s'=>∃ σ' H',Inv X pins σ' H' s'/\Q σ' H') X.xe s
noncomputable def Ha (X:Cx)(ts:List Expr)(t:Bk):Prop :=
 ∀(pins:List (Addr×Obj)) (s:Shared) (σ:St) (H:Hp) (vs:List V) (us:List Value) (Q:St->Hp->Prop),Inv X pins σ H s->aN vs us->t vs σ H Q ->
  wpAny (model X.prog X.w) X.A (assignInOrder ((assignEach ts X.env).map (·.2)) us) (fun _ s'=>∃ σ' H',Inv X pins σ' H' s'/\Q σ' H') X.xe s
section
variable {X:Cx}{pos:Pos}
noncomputable def kW (i:Nat):TG:=fun v σ H Q=>Q (σ.set i (some v)) H
theorem t6 {i:Nat}{x:Str}(hN:X.N.Nodup)(hi:X.N[i]? = some x)(hx:Loc X.env.scope x)(hf:X.fn x=true\/X.env.scope.names.lookup x=some .local:=by first | exact .inl rfl | exact .inr rfl | assumption):PG X (.Name x pos) (kW i):=by
 intro pins s σ H v u Q I r h;exact wpAny_assign_Name (iC I hN hi hx r (fun s' I'=>⟨_,H,I',h⟩) hf)
noncomputable def GO:Bk:=fun vs σ H Q=>vs=[]/\Q σ H
noncomputable def Bm (t:TG)(u:Bk):Bk:=fun vs σ H Q=>∃ v r,vs=v::r/\t v σ H fun σ' H'=>u r σ' H' Q
theorem As:Ha X [] GO:=by
 intro pins s σ H vs us Q I r h;obtain⟨e,h⟩:=h;subst e;cases r;exact assignInOrder_nil ⟨σ,H,I,h⟩
theorem xU {e:Expr}{es:List Expr}{t:TG}{u:Bk}(h1:PG X e t)(h2:Ha X es u)
  (hs:(assignEach (e::es) X.env).map (·.2)=assign e X.env::(assignEach es X.env).map (·.2):=by rfl):Ha X (e::es) (Bm t u):=by
 intro pins s σ H vs us Q I r h;obtain⟨v,vr,e1,h⟩:=h;subst e1;cases r with
 |cons r rr =>
  rw[hs];refine assignInOrder_cons (cH (h1 pins s σ H _ _ _ I r h) fun _ s1 ⟨σ1,H1,I1,q1⟩=>?_);exact h2 pins s1 σ1 H1 _ _ Q I1 rr q1
noncomputable def yq (K:PySem.W.Frag)(n:Nat)(t:Bk):TG:=fun v σ H Q=>∃ a xs,v = .ref a/\je K H a xs/\xs.length=n/\t xs σ H Q
theorem wN {es:List Expr}{k:Nat}{t:Bk}{n:Nat}(hc:X.calm=true)(h:Ha X es t)
  (hn:(assignEach es X.env).length=n:=by rfl) (hst:(assignEach es X.env).findIdx? (·.1)=none:=by rfl):PG X (.Tuple es k pos) (yq X.K n t):=by
 intro pins s σ H v u Q I r hw;obtain⟨a,xs,e1,hq,hl,hw⟩:=hw;subst e1;cases r;obtain⟨its,rv,ht,hz⟩:=I.tuple hq;refine assign_Tuple_tuple (I.ok.hd hc) ht (by simp[hn,<-hl,rv.length]) hst fun h' hx=>?_
 have I1:Inv X pins σ H { s with heap:=h' }:=I.kept (t':=s.toks) fun b o e=>hx b o (bq (Heap.lt_size e)) e
 exact h pins _ σ H xs _ Q I1 (by simpa using rv) hw
def Az (te:TE)(g:TG):TS:=fun D σ H=>te σ H fun x H1=>g x σ H1 D.nx
theorem Cs {tg e:Expr}{te:TE}{g:TG}(he:PE X e te)(hg:PG X tg g)(hs:swapsWithSole [tg] e pos.line X.env=pure false:=by rfl)(hw:swappedStores [tg] e X.env=pure none:=by rfl)
  (h1:(assignEach [tg] X.env).map (·.2)=[assign tg X.env]:=by rfl):PS X (.Assign [tg] e pos) (Az te g):=by
 intro pins s σ H D I h;refine wpAny_Assign_stores (cH (he pins s σ H _ I h) fun v s1 ⟨x,H1,I1,r1,q1⟩=>?_) hs hw;rw[h1];exact cH (hg pins s1 σ H1 x v _ I1 r1 q1) fun _ s2 q=>q
theorem cC {i:Nat}{x:Str}{e:Expr}{te:TE}{pos':Pos}(hN:X.N.Nodup)(hi:X.N[i]? = some x)(hx:Loc X.env.scope x)(he:PE X e te)(hs:swapsWith e (some (.Name x pos')) pos.line X.env=pure false:=by rfl)(hf:X.fn x=true\/X.env.scope.names.lookup x=some .local:=by first | exact .inl rfl | exact .inr rfl | assumption) :
  PS X (.Assign [.Name x pos'] e pos) (Az te (kW i)):=by
 intro pins s σ H D I h;refine wpAny_Assign_Name (cH (he pins s σ H _ I h) fun v s1 ⟨y,H1,I1,r1,q1⟩=>?_) hs;exact iC I1 hN hi hx r1 (fun s2 I2=>⟨_,H1,I2,q1⟩) hf
end
section
variable {X:Cx}{pos:Pos}
def Ea (c:TT)(tb:TS):TS:=fun D σ H=>∃ W:Nat->St->Hp->Prop,(∃ m,W m σ H)/\∀ m σ H,W m σ H ->
 c σ H fun b H1=>if b=true then ∃ N:St->Hp->Prop,(∀ σ' H',N σ' H'->∃ m',m'<m/\W m' σ' H')/\tb { D with nx:=N,ct:=N,bk:=D.nx } σ H1 else D.nx σ H1
theorem jz {c:Expr}{body:List Stmt}{tc:TT}{tb:TS}(hp:PassesOwn (model X.prog X.w) X.A X.env X.xe)(hc:PT X c tc)(hb:jI X body tb):PS X (.While c body [] pos) (Ea tc tb):=by
 intro pins s σ H D I h;obtain⟨W,⟨m0,w0⟩,turn⟩:=h;refine wpAny_While (codeAny_whileLoop (fun n s'=>∃ σ' H',Inv X pins σ' H' s'/\W n σ' H') ?_ m0 ⟨σ,H,I,w0⟩);rintro n s1 ⟨σ1,H1,I1,w1⟩;refine wpAny_passesOwn hp (cH (hc pins s1 σ1 H1 _ I1 (turn n σ1 H1 w1)) fun b s2 ⟨H2,I2,q2⟩=>?_);cases b with
 |true =>
  obtain⟨N,hN,q2⟩:=q2;rw[if_pos rfl];refine wpAny_passesOwn hp (cH (hb pins s2 σ1 H2 _ I2 q2) fun f s3 q3=>?_);cases f with
  |next =>
   obtain⟨σ3,H3,I3,n3⟩:=q3;obtain⟨m',hm,w3⟩:=hN σ3 H3 n3;exact⟨m',hm,σ3,H3,I3,w3⟩
  |cont =>
   obtain⟨σ3,H3,I3,n3⟩:=q3;obtain⟨m',hm,w3⟩:=hN σ3 H3 n3;exact⟨m',hm,σ3,H3,I3,w3⟩
  |brk=>exact q3
  |ret v=>exact q3
 |false =>
  rw[if_neg ao];exact wpAny_execs_nil ⟨σ1,H2,I2,q2⟩
end
structure It where
 go:Nat->Hp->Prop
 yld:Nat->Hp->V->Hp->Prop
 stop:Nat->Hp->Prop
noncomputable def mm (X:Cx)(pins:List (Addr×Obj))(H:Hp)(b:Addr):Prop :=
 H b=none/\b≠X.env.locals/\b∉X.fs/\(b∈X.ex\/X.s₀.heap.objs.size<=b)/\(∀ x c,X.env.cells.lookup x=some c->c≠b)/\∀ p∈X.pn++pins,p.1≠b
theorem Inv.fpOk {X:Cx}{pins:List (Addr×Obj)}{σ:St}{H H':Hp}{s:Shared}{b:Addr}(I:Inv X pins σ H s)(hb:s.heap.objs.size<=b)(hn:H' b=none):mm X pins H' b:=by
 refine⟨hn,Nat.ne_of_gt (az I.lt hb),I.nofs hb,.inr (bg I.sz hb),fun x c e z=>?_,fun p hp z=>?_⟩
 ·obtain⟨v,q⟩:=I.cell x c e;exact absurd (az q.lt (by rw[z];exact hb)) (eh _)
 ·exact absurd (az (Heap.lt_size (I.pin p hp).1) (by rw[z];exact hb)) (eh _)
structure Turn (P:Program)(w:World)(K:PySem.W.Frag)(tg:Expr)(J:It)(fp:List Addr)(it:Addr)(tn:Nat->Heap->Prop):Prop where
 mem:it∈fp
 obj:∀ i h,tn i h->∀ b∈fp,∃ o,h.get? b=some o/\∀ v,o.data≠.cell v
 keep:∀ i h h',tn i h->(∀ b∈fp,∀ o,h.get? b=some o->h'.get? b=some o)->tn i h'
 item:∀(X:Cx),X.prog=P->X.w=w->X.K=K->X.calm=true->∀(i:Nat) (pins:List (Addr×Obj)) (s:Shared) (σ:St) (H:Hp) (E:Value->Shared->Prop),Inv X pins σ H s->(∀ b∈fp,mm X pins H b)->tn i s.heap->J.go i H ->
  wpAny (model P w) X.A (pyNext (.ref it)) (fun r s1=>∃ u,r=some u /\
   wpAny (model P w) X.A (letOwnedTupleGo tg (.ref it) u) (fun _ s2=>∃ x H',Inv X pins σ H' s2/\RelV x u/\J.yld i H x H'/\tn (i+1) s2.heap/\∀ b∈fp,H' b=none) E s1) E s
 done:∀(X:Cx),X.prog=P->X.w=w->X.K=K->X.calm=true->∀(i:Nat) (pins:List (Addr×Obj)) (s:Shared) (σ:St) (H:Hp) (E:Value->Shared->Prop),Inv X pins σ H s->(∀ b∈fp,mm X pins H b)->tn i s.heap->J.stop i H ->
  wpAny (model P w) X.A (pyNext (.ref it)) (fun r s1=>r=none/\Inv X pins σ H s1) E s
 self:∀(A:Around) (i:Nat) (s:Shared) (Q:Value->Shared->Prop) (E:Value->Shared->Prop),tn i s.heap->Q (.ref it) s->wpAny (model P w) A (pyIter (.ref it)) Q E s
noncomputable abbrev TI:=St->Hp->(It->Hp->Prop)->Prop
noncomputable def C9 (X:Cx)(pins:List (Addr×Obj))(σ:St)(tg:Expr)(R:It->Hp->Prop)(itv:Value)(s2:Shared):Prop :=
 ∃(it:Addr) (fp:List Addr) (tn:Nat->Heap->Prop) (J:It) (H':Hp),itv = .ref it/\Inv X pins σ H' s2/\Turn X.prog X.w X.K tg J fp it tn/\tn 0 s2.heap/\(∀ b∈fp,mm X pins H' b)/\R J H'
noncomputable def PI (X:Cx)(tg iter:Expr)(wi:TI):Prop :=
 ∀(pins:List (Addr×Obj)) (s:Shared) (σ:St) (H:Hp) (R:It->Hp->Prop),Inv X pins σ H s->wi σ H R ->
  wpAny (model X.prog X.w) X.A (eval iter X.env) (fun v s1=>wpAny (model X.prog X.w) X.A (pyIter v) (C9 X pins σ tg R) X.xe s1) X.xe s
theorem sV {M:Model}{A:Around}{E:Value->Shared->Prop}{s:Shared}{tg:Expr}{it:Addr}{u:Value}{o:Obj}{n:String}{vs:Array Value}{Q:Unit->Shared->Prop}(ho:s.heap.get? it=some o)(hc:o.cls = .type n)(hd:o.data = .fields vs)
  (hn:["enumerate","zip","dict_itemiterator","dict_reverseitemiterator","odict_iterator","itertools.zip_longest","itertools.pairwise"].contains n=false) (hQ:Q () s):wpAny M A (letOwnedTupleGo tg (.ref it) u) Q E s:=by
 unfold letOwnedTupleGo;cases tg<;>first
  | exact wpAny_pure hQ
  | (cases u<;>first
    | exact wpAny_pure hQ
    | (refine wpAny_bind (wpAny_load ho ?_)
       rw[hc,hd];show wpAny M A (if (["enumerate","zip","dict_itemiterator","dict_reverseitemiterator","odict_iterator","itertools.zip_longest","itertools.pairwise"].contains n&&vs[0]?==some (rawInt _))=true then _ else _) Q E s;rw[if_neg (by intro h;rw[hn,Bool.false_and] at h;cases h)];exact wpAny_pure hQ))
noncomputable def Itl (K:PySem.W.Frag)(a:Addr):It :=
 ⟨fun i H=>∃ xs x,oJ K H a xs/\xs[i]? = some x,fun i H x H'=>H'=H/\∀ xs,oJ K H a xs->xs[i]? = some x,fun i H=>∃ xs,oJ K H a xs/\xs.length<=i⟩
noncomputable def Itt (K:PySem.W.Frag)(a:Addr):It :=
 ⟨fun i H=>∃ xs x,je K H a xs/\xs[i]? = some x,fun i H x H'=>H'=H/\∀ xs,je K H a xs->xs[i]? = some x,fun i H=>∃ xs,je K H a xs/\xs.length<=i⟩
theorem vB {P:Program}{w:World}{K:PySem.W.Frag}{tg:Expr}(a it:Addr):Turn P w K tg (Itl K a) [it] it (fun i h=>h.IsListIter it a i) where
 mem:=by simp
 obj:=fun i h st b hb=>by
  have e:b=it:=by simpa using hb
  subst e;obtain⟨o,e,c,d⟩:=st;exact⟨o,e,fun v z=>by rw[d] at z;cases z⟩
 keep:=fun i h h' st k=>st.at fun o e=>k it (by simp) o e
 item:=by
  intro X hP hw hK hc i pins s σ H E I hf st hg;subst hP hw hK;obtain⟨xs,x,hq,hx⟩:=hg;obtain⟨its,rv,p,hz⟩:=I.list hq;obtain⟨u,hu,ru⟩:=rv.get hx;obtain⟨f0,f1,f2,f3,f4,f5⟩:=hf it (by simp);refine wpAny_pyNext_list_item st p.isList (x:=u) (by simpa using hu) fun h' st' sb=>?_
  have I1:Inv X pins σ H { s with heap:=h' }:=I.turned (t':=s.toks) (fun b o hb e=>(sb.2 b hb).trans e) f0 f1 f3 f4 f5;obtain⟨o,e,c,d⟩:=id st';exact⟨u,rfl,sV (s:={ s with heap:=h' }) e c d (by decide) ⟨x,H,I1,ru,⟨rfl,fun ys hy=>by rw[I.list_inj hy hq];exact hx⟩,st',fun b hb=>(hf b hb).1⟩⟩
 done:=by
  intro X hP hw hK hc i pins s σ H E I hf st hg;subst hP hw hK;obtain⟨xs,hq,hx⟩:=hg;obtain⟨its,rv,p,hz⟩:=I.list hq;obtain⟨f0,f1,f2,f3,f4,f5⟩:=hf it (by simp);have hl:=rv.length;exact wpAny_pyNext_list_end (I.ok.hd hc) st p.isList (by simp;omega) fun h' eb=>⟨rfl,I.turned (t':=s.toks) (fun b o hb e=>eb b o hb e) f0 f1 f3 f4 f5⟩
 self:=fun _ _ _ _ _ st h=>wpAny_pyIter_listiter st h
theorem rm {P:Program}{w:World}{K:PySem.W.Frag}{tg:Expr}(a it:Addr):Turn P w K tg (Itt K a) [it] it (fun i h=>h.IsTupleIter it a i) where
 mem:=by simp
 obj:=fun i h st b hb=>by
  have e:b=it:=by simpa using hb
  subst e;obtain⟨o,e,c,d⟩:=st;exact⟨o,e,fun v z=>by rw[d] at z;cases z⟩
 keep:=fun i h h' st k=>st.at fun o e=>k it (by simp) o e
 item:=by
  intro X hP hw hK hc i pins s σ H E I hf st hg;subst hP hw hK;obtain⟨xs,x,hq,hx⟩:=hg;obtain⟨its,rv,p,hz⟩:=I.tuple hq;obtain⟨u,hu,ru⟩:=rv.get hx;obtain⟨f0,f1,f2,f3,f4,f5⟩:=hf it (by simp);refine wpAny_pyNext_tuple_item st (show s.heap.IsTuple a its.toArray from p) (x:=u) (by simpa using hu) fun h' st' sb=>?_
  have I1:Inv X pins σ H { s with heap:=h' }:=I.turned (t':=s.toks) (fun b o hb e=>(sb.2 b hb).trans e) f0 f1 f3 f4 f5;obtain⟨o,e,c,d⟩:=id st';exact⟨u,rfl,sV (s:={ s with heap:=h' }) e c d (by decide) ⟨x,H,I1,ru,⟨rfl,fun ys hy=>by rw[I.tuple_inj hy hq];exact hx⟩,st',fun b hb=>(hf b hb).1⟩⟩
 done:=by
  intro X hP hw hK hc i pins s σ H E I hf st hg;subst hP hw hK;obtain⟨xs,hq,hx⟩:=hg;obtain⟨its,rv,p,hz⟩:=I.tuple hq;obtain⟨f0,f1,f2,f3,f4,f5⟩:=hf it (by simp);have hl:=rv.length;exact wpAny_pyNext_tuple_end (I.ok.hd hc) st (show s.heap.IsTuple a its.toArray from p) (by simp;omega) fun h' eb=>⟨rfl,I.turned (t':=s.toks) (fun b o hb e=>eb b o hb e) f0 f1 f3 f4 f5⟩
 self:=fun _ _ _ _ _ st h=>wpAny_pyIter_tupleiter st h
end L2
namespace L2
open PySem PySem.Spec PyProof.Rows
section
variable {X:Cx}{tg:Expr}
def tFor (wi:TI)(g:TG)(tb:TS):TS:=fun D σ H=>wi σ H fun J H1=>∃ W:Nat->Nat->St->Hp->Prop,(∃ m,W 0 m σ H1)/\∀ i m σ H,W i m σ H ->
 (J.stop i H/\D.nx σ H)\/(J.go i H/\∃ N:St->Hp->Prop,(∀ σ' H',N σ' H'->∃ m',m'<m/\W (i+1) m' σ' H')/\∀ x H',J.yld i H x H'->g x σ H' fun σ2 H2=>tb { D with nx:=N,ct:=N,bk:=D.nx } σ2 H2)
noncomputable def lh (fp:List Addr)(h:Heap):List (Addr×Obj):=fp.filterMap fun b=>(h.get? b).map fun o=>(b,o)
theorem eQ {fp:List Addr}{h:Heap}{b:Addr}{o:Obj}(hb:b∈fp)(e:h.get? b=some o):(b,o)∈lh fp h:=List.mem_filterMap.mpr ⟨b,hb,by rw[e];rfl⟩
theorem uR {fp:List Addr}{h:Heap}{p:Addr×Obj}(hp:p∈lh fp h):p.1∈fp/\h.get? p.1=some p.2:=by
 obtain⟨b,hb,e⟩:=List.mem_filterMap.mp hp;cases q:h.get? b with
 |none=>rw[q] at e;cases e
 |some o =>
  rw[q] at e;have e':(b,o)=p:=cw e;subst e';exact⟨hb,q⟩
theorem Inv.pinned {pins:List (Addr×Obj)}{σ:St}{H:Hp}{s:Shared}{fp:List Addr}(I:Inv X pins σ H s)(hf:∀ b∈fp,mm X pins H b)(ho:∀ b∈fp,∃ o,s.heap.get? b=some o/\∀ v,o.data≠.cell v):Inv X (pins++lh fp s.heap) σ H s :=
 I.pins_of fun p hp=>(List.mem_append.mp hp).elim (fun z=>I.pin p (ax _ z)) fun z=>by
  obtain⟨hb,e⟩:=uR z;obtain⟨f0,f1,f2,_⟩:=hf p.1 hb;obtain⟨o,e',d⟩:=ho p.1 hb;rw[e] at e';cases e';exact⟨e,f0,f1,f2,d⟩
theorem Inv.unpinned {pins pl:List (Addr×Obj)}{σ:St}{H:Hp}{s:Shared}(I:Inv X (pins++pl) σ H s):Inv X pins σ H s:=I.pins_of fun p hp=>I.pin p (ax _ (bj _ hp))
theorem CZ {iter:Expr}{body:List Stmt}{wi:TI}{g:TG}{tb:TS}{pos:Pos}(hp:PassesOwn (model X.prog X.w) X.A X.env X.xe)(hc:X.calm=true)(hi:PI X tg iter wi)(hg:PG X tg g)(hb:jI X body tb)
  (hs:∀ x,foldedSetIterable iter X.env x=pure x:=by intro _;rfl):PS X (.For tg iter body [] pos) (tFor wi g tb):=by
 intro pins s σ H D I h;refine wpAny_For (cH (hi pins s σ H _ I h) fun v s1 h1=>cH h1 fun itv s2 h2=>?_) hs;obtain⟨it,fp,tn,J,H2,e,I2,T,st2,f2,W,⟨m0,w0⟩,turn⟩:=h2;subst e;have stat:∀{H':Hp},(∀ b∈fp,H' b=none)->∀ b∈fp,mm X pins H' b:=fun hn b hb=>⟨hn b hb,(f2 b hb).2⟩
 refine codeAny_forLoop_any (fun n s'=>∃ i σ' H',Inv X pins σ' H' s'/\tn i s'.heap/\(∀ b∈fp,H' b=none)/\W i n σ' H') ?_ m0 ⟨0,σ,H2,I2,st2,fun b hb=>(f2 b hb).1,w0⟩;rintro n s3 ⟨i,σ3,H3,I3,st3,fr3,w3⟩;rcases turn i n σ3 H3 w3 with ⟨stop,qn⟩ | ⟨go,N,hN,step⟩
 ·refine wpAny_passesOwn hp (cH (T.done X rfl rfl rfl hc i pins s3 σ3 H3 X.xe I3 (stat fr3) st3 stop) fun r s4 ⟨hr,I4⟩=>?_);subst hr;exact wpAny_execs_nil ⟨σ3,H3,I4,qn⟩
 ·refine wpAny_passesOwn hp (cH (T.item X rfl rfl rfl hc i pins s3 σ3 H3 X.xe I3 (stat fr3) st3 go) fun r s4 ⟨u,hr,h4⟩=>?_);subst hr;refine wpAny_passesOwn hp (cH h4 fun _ s5 ⟨x,H5,I5,r5,y5,st5,fr5⟩=>?_);have I5':=I5.pinned (stat fr5) (T.obj _ _ st5);refine wpAny_passesOwn hp (cH (hg _ s5 σ3 H5 x u _ I5' r5 (step x H5 y5)) fun _ s6 ⟨σ6,H6,I6,q6⟩=>?_);refine wpAny_passesOwn hp (cH (hb _ s6 σ6 H6 _ I6 q6) fun f s7 q7=>?_);have again:∀{σ7:St}{H7:Hp},Inv X (pins++lh fp s5.heap) σ7 H7 s7->N σ7 H7->∃ m,m<n/\∃ i σ' H',Inv X pins σ' H' s7/\tn i s7.heap/\(∀ b∈fp,H' b=none)/\W i m σ' H':=fun {σ7 H7} I7 n7=>by
   obtain⟨m',hm,w7⟩:=hN σ7 H7 n7;refine⟨m',hm,i+1,σ7,H7,I7.unpinned,T.keep _ _ _ st5 fun b hb o e=>(I7.pin (b,o) (ax _ (ax _ (eQ hb e)))).1,fun b hb=>?_,w7⟩;obtain⟨o,e,d⟩:=T.obj _ _ st5 b hb;exact (I7.pin (b,o) (ax _ (ax _ (eQ hb e)))).2.1
  cases f with
  |next=>obtain⟨σ7,H7,I7,n7⟩:=q7;exact again I7 n7
  |cont=>obtain⟨σ7,H7,I7,n7⟩:=q7;exact again I7 n7
  |brk=>obtain⟨σ7,H7,I7,q7⟩:=q7;exact⟨σ7,H7,I7.unpinned,q7⟩
  |ret v=>obtain⟨x7,σ7,H7,I7,r7,q7⟩:=q7;exact⟨x7,σ7,H7,I7.unpinned,r7,q7⟩
end
end L2
namespace L2
open PySem PySem.Spec PyProof.Rows
noncomputable abbrev R2:=V->V->Hp->VK->Prop
noncomputable def gJ (X:Cx)(f:Value->Value->Sem Value)(r:R2):Prop :=
 ∀(pins:List (Addr×Obj)) (s:Shared) (σ:St) (H:Hp) (x y:V) (v u:Value) (Q:VK),Inv X pins σ H s->RelV x v->RelV y u->r x y H Q ->
  wpAny (model X.prog X.w) X.A (f v u) (EP X pins σ Q) X.xe s
noncomputable def UnR (X:Cx)(f:Value->Sem Value)(r:V->Hp->VK->Prop):Prop :=
 ∀(pins:List (Addr×Obj)) (s:Shared) (σ:St) (H:Hp) (x:V) (v:Value) (Q:VK),Inv X pins σ H s->RelV x v->r x H Q ->
  wpAny (model X.prog X.w) X.A (f v) (EP X pins σ Q) X.xe s
noncomputable def dY (X:Cx)(f:Value)(r:List V->Hp->VK->Prop):Prop :=
 ∀(pins:List (Addr×Obj)) (s:Shared) (σ:St) (H:Hp) (xs:List V) (us:List Value) (Q:VK),Inv X pins σ H s->aN xs us->r xs H Q ->
  wpAny (model X.prog X.w) X.A (call f us) (EP X pins σ Q) X.xe s
noncomputable def TruR (X:Cx)(r:V->Hp->(Bool->Hp->Prop)->Prop):Prop :=
 ∀(pins:List (Addr×Obj)) (s:Shared) (σ:St) (H:Hp) (x:V) (v:Value) (Q:Bool->Hp->Prop),Inv X pins σ H s->RelV x v->r x H Q ->
  wpAny (model X.prog X.w) X.A (truthy v) (TP X pins σ Q) X.xe s
def E4 (r:R2)(ta tb:TE):TE:=fun σ H Q=>ta σ H fun x H1=>tb σ H1 fun y H2=>r x y H2 Q
def tUn (r:V->Hp->VK->Prop)(ta:TE):TE:=fun σ H Q=>ta σ H fun x H1=>r x H1 Q
noncomputable def rI (C:Int->Int->Prop)(g:Int->Int->V):R2:=fun x y H Q=>∃ i j,x = .int i/\y = .int j/\C i j/\Q (g i j) H
noncomputable def vE (g:Int->Int->V):R2:=fun x y H Q=>∃ i j,x = .int i/\y = .int j/\Q (g i j) H
def rU (g:Int->V):V->Hp->VK->Prop:=fun x H Q=>∃ i,x = .int i/\Q (g i) H
section
variable {X:Cx}{a b c:Expr}{ta tb tc:TE}{pos:Pos}
theorem DZ (ha:PE X a ta)(hb:PE X b tb){pins:List (Addr×Obj)}{s:Shared}{σ:St}{H:Hp}{R:V->V->Hp->Prop}(I:Inv X pins σ H s)
  (h:ta σ H fun x H1=>tb σ H1 fun y H2=>R x y H2) {Q:Value->Shared->Prop}{f:Value->Value->Sem Value}
  (hf:∀ v u s2 x y H2,Inv X pins σ H2 s2->RelV x v->RelV y u->R x y H2->wpAny (model X.prog X.w) X.A (f v u) Q X.xe s2) :
  wpAny (model X.prog X.w) X.A (eval a X.env) (fun v s₁=>wpAny (model X.prog X.w) X.A (eval b X.env) (fun u s₂=>wpAny (model X.prog X.w) X.A (f v u) Q X.xe s₂) X.xe s₁) X.xe s:=by
 refine cH (ha pins s σ H _ I h) fun v s1 ⟨x,H1,I1,r1,q1⟩=>?_
 refine cH (hb pins s1 σ H1 _ I1 q1) fun u s2 ⟨y,H2,I2,r2,q2⟩=>?_
 exact hf v u s2 x y H2 I2 r1 r2 q2
theorem pB {op:Operator}{r:R2}(ho:gJ X (binaryOp op) r)(ha:PE X a ta)(hb:PE X b tb):PE X (.BinOp a op b pos) (E4 r ta tb):=by
 intro pins s σ H Q I h;exact wpAny_BinOp (DZ ha hb I h fun v u s2 x y H2 I2 rx ry q=>ho pins s2 σ H2 x y v u Q I2 rx ry q)
theorem Fe {op:UnaryOp}{r:V->Hp->VK->Prop}(ho:UnR X (unaryOp op) r)(ha:PE X a ta):PE X (.UnaryOp op a pos) (tUn r ta):=by
 intro pins s σ H Q I h;exact UnaryOp_ (cH (ha pins s σ H _ I h) fun v s1 ⟨x,H1,I1,r1,q1⟩=>ho pins s1 σ H1 x v Q I1 r1 q1)
theorem Et {f:Value->Value->Sem Value}{C:Int->Int->Prop}{g:Int->Int->Int}
  (rule:∀(i j:Int) (t u:Tok) (s:Shared) (Q:Value->Shared->Prop) (E:Value->Shared->Prop),C i j->Q (.int (g i j) s.toks) { s with toks:=s.toks+1 }->wpAny (model X.prog X.w) X.A (f (.int i t) (.int j u)) Q E s) :
  gJ X f (rI C fun i j=>.int (g i j)):=by
 intro pins s σ H x y v u Q I rx ry h;obtain⟨i,j,rfl,rfl,hc,q⟩:=h;obtain⟨t,rfl⟩:=rx;obtain⟨t',rfl⟩:=ry;exact rule i j t t' s _ _ hc ⟨.int (g i j),H,I.tok _,⟨_,rfl⟩,q⟩
theorem vX {f:Value->Value->Sem Value}{g:Int->Int->Int}
  (rule:∀(i j:Int) (t u:Tok) (s:Shared) (Q:Value->Shared->Prop) (E:Value->Shared->Prop),Q (.int (g i j) s.toks) { s with toks:=s.toks+1 }->wpAny (model X.prog X.w) X.A (f (.int i t) (.int j u)) Q E s) :
  gJ X f (vE fun i j=>.int (g i j)):=by
 intro pins s σ H x y v u Q I rx ry h;obtain⟨i,j,rfl,rfl,q⟩:=h;obtain⟨t,rfl⟩:=rx;obtain⟨t',rfl⟩:=ry;exact rule i j t t' s _ _ ⟨.int (g i j),H,I.tok _,⟨_,rfl⟩,q⟩
theorem AH {f:Value->Value->Sem Value}{g:Int->Int->Bool}
  (rule:∀(i j:Int) (t u:Tok) (s:Shared) (Q:Value->Shared->Prop) (E:Value->Shared->Prop),Q (.bool (g i j)) s->wpAny (model X.prog X.w) X.A (f (.int i t) (.int j u)) Q E s) :
  gJ X f (vE fun i j=>.bl (g i j)):=by
 intro pins s σ H x y v u Q I rx ry h;obtain⟨i,j,rfl,rfl,q⟩:=h;obtain⟨t,rfl⟩:=rx;obtain⟨t',rfl⟩:=ry;exact rule i j t t' s _ _ ⟨.bl (g i j),H,I,rfl,q⟩
def CDiv (i j:Int):Prop:=0<j/\j<1073741824
def Ge (i j:Int):Prop:=0<=j/\j<=1000000/\i.natAbs<2 ^ 64
def DO (i j:Int):Prop:=(-(2 ^ 64)<i/\i<2 ^ 64)\/(-(2 ^ 64)<j/\j<2 ^ 64)
theorem DO.ok {i j:Int}(h:DO i j):IntMulOk i j:=by
 rcases h with ⟨h1,h2⟩ | ⟨h1,h2⟩
 ·exact .of_left (intBits_le_64 h1 h2)
 ·exact .of_right (intBits_le_64 h1 h2)
theorem rW (k:Nat):(0:Int)<=2 ^ k:=by
 rw[two_pow_cast];exact Int.natCast_nonneg _
theorem rh:gJ X (binaryOp .Add) (vE fun i j=>.int (i+j)):=vX fun _ _ _ _ _ _ _ q=>add_int q
theorem DK:gJ X (binaryOp .Sub) (vE fun i j=>.int (i - j)):=vX fun _ _ _ _ _ _ _ q=>sub_int q
theorem Dd:gJ X (binaryOp .Mult) (rI DO fun i j=>.int (i*j)):=Et fun _ _ _ _ _ _ _ hc q=>mul_int q hc.ok
theorem yQ:gJ X (binaryOp .FloorDiv) (rI CDiv fun i j=>.int (i / j)):=Et fun i j _ _ _ _ _ hc q=>by
 have h1:(0:Int)<j:=hc.1;have h2:j<1073741824:=hc.2;exact floordiv_int (by omega) (by rw[Int.fdiv_eq_ediv_of_nonneg i (by omega)];exact q) (.inl (PyProof.noPylong_small (by omega)))
theorem Eb:gJ X (binaryOp .Mod) (rI (fun _ j=>0<j) fun i j=>.int (i%j)):=Et fun i j _ _ _ _ _ hc q=>by
 have h1:(0:Int)<j:=hc;exact mod_int' (by omega) (by rw[Int.fmod_eq_emod_of_nonneg i (by omega)];exact q)
theorem CA:gJ X (binaryOp .Pow) (rI Ge fun i j=>.int (i ^ j.toNat)):=Et fun _ _ _ _ _ _ _ hc q=>pow_int_small hc.1 hc.2.1 hc.2.2 q
theorem D8:gJ X (binaryOp .LShift) (rI Ge fun i j=>.int (i*2 ^ j.toNat)):=Et fun _ _ _ _ _ _ _ hc q=>lshift_int_small hc.1 hc.2.1 hc.2.2 q
theorem DQ:gJ X (binaryOp .RShift) (rI (fun _ j=>0<=j) fun i j=>.int (i / 2 ^ j.toNat)):=Et fun i j _ _ _ _ _ hc q =>
 rshift_int hc (by rw[Int.fdiv_eq_ediv_of_nonneg i (rW _)];exact q)
theorem C2:gJ X (binaryOp .BitAnd) (vE fun i j=>.int (Builtin.bitAnd i j)):=vX fun _ _ _ _ _ _ _ q=>and_int q
theorem Gz:gJ X (binaryOp .BitOr) (vE fun i j=>.int (Builtin.bitOr i j)):=vX fun _ _ _ _ _ _ _ q=>or_int q
theorem CV:gJ X (binaryOp .BitXor) (vE fun i j=>.int (Builtin.bitXor i j)):=vX fun _ _ _ _ _ _ _ q=>xor_int q
theorem unI {f:Value->Sem Value}{g:Int->Int}
  (rule:∀(i:Int) (t:Tok) (s:Shared) (Q:Value->Shared->Prop) (E:Value->Shared->Prop),Q (.int (g i) s.toks) { s with toks:=s.toks+1 }->wpAny (model X.prog X.w) X.A (f (.int i t)) Q E s) :
  UnR X f (rU fun i=>.int (g i)):=by
 intro pins s σ H x v Q I rx h;obtain⟨i,rfl,q⟩:=h;obtain⟨t,rfl⟩:=rx;exact rule i t s _ _ ⟨.int (g i),H,I.tok _,⟨_,rfl⟩,q⟩
theorem Er:UnR X (unaryOp .USub) (rU fun i=>.int (-i)):=unI fun _ _ _ _ _ q=>neg_int q
end
noncomputable def dJ:V->V->Bool
 |.non,.non=>true | .non,.int _=>true | .int _,.non=>true | .non,.bl _=>true | .bl _,.non=>true | .non,.str _=>true | .str _,.non=>true
 |.int _,.int _=>true | .bl _,.bl _=>true | .str _,.str _=>true | .byt _,.byt _=>true
 |.int _,.str _=>true | .str _,.int _=>true | .bl _,.str _=>true | .str _,.bl _=>true
 |_,_=>false
section
variable {X:Cx}{a b c:Expr}{ta tb tc:TE}{pos:Pos}
theorem rY {pins:List (Addr×Obj)}{σ:St}{H:Hp}{s:Shared}{Q:VK}{k k':Bool}(I:Inv X pins σ H s)(q:Q (.bl k) H)(e:k=k'):EP X pins σ Q (.bool k') s:=by
 subst e;exact⟨.bl k,H,I,rfl,q⟩
theorem EF:gJ X (compareOp .Lt) (vE fun i j=>.bl (decide (i<j))):=AH fun _ _ _ _ _ _ _ q=>lt_int q
theorem Gg:gJ X (compareOp .LtE) (vE fun i j=>.bl (decide (i<=j))):=AH fun _ _ _ _ _ _ _ q=>le_int q
theorem Bp:gJ X (compareOp .Gt) (vE fun i j=>.bl (decide (j<i))):=AH fun _ _ _ _ _ _ _ q=>gt_int q
theorem G5:gJ X (compareOp .GtE) (vE fun i j=>.bl (decide (j<=i))):=AH fun _ _ _ _ _ _ _ q=>ge_int q
theorem vC:gJ X (compareOp .In) (fun x y H Q=>∃ i j,x = .str i/\y = .str j/\Q (.bl (!(Builtin.Str.occurrences j i 0 j.length 1).isEmpty)) H):=by
 intro pins s σ H x y v u Q I rx ry h;obtain⟨i,j,rfl,rfl,q⟩:=h;obtain⟨t,rfl⟩:=rx;obtain⟨t',rfl⟩:=ry;exact in_str (rY I q rfl)
theorem DJ:gJ X (compareOp .Is) (fun x y H Q=>y = .non/\Q (.bl (decide (x = .non))) H):=by
 intro pins s σ H x y v u Q I rx ry h;obtain⟨rfl,q⟩:=h;cases ry;refine is_none_gen (rY I q ?_);cases x<;>first
  | (cases rx;rfl)
  | (obtain⟨t,rfl⟩:=rx;rfl)
theorem AV:gJ X (compareOp .IsNot) (fun x y H Q=>y = .non/\Q (.bl (!decide (x = .non))) H):=by
 intro pins s σ H x y v u Q I rx ry h;obtain⟨rfl,q⟩:=h;cases ry;refine isnot_none_gen (rY I q ?_);cases x<;>first
  | (cases rx;rfl)
  | (obtain⟨t,rfl⟩:=rx;rfl)
theorem AS {op:CmpOp}{r:R2}(ho:gJ X (compareOp op) r)(ha:PE X a ta)(hb:PE X b tb)(hm:behindInMarks op b=false):PE X (.Compare a [op] [b] pos) (E4 r ta tb):=by
 intro pins s σ H Q I h;exact wpAny_Compare1 (DZ ha hb I h fun v u s2 x y H2 I2 rx ry q=>ho pins s2 σ H2 x y v u Q I2 rx ry q) hm
def Fu (t:TE):TT:=fun σ H Q=>t σ H fun x H'=>∃ k,x = .bl k/\Q k H'
theorem sA {op:CmpOp}{r:R2}(ho:gJ X (compareOp op) r)(ha:PE X a ta)(hb:PE X b tb)(hm:behindInMarks op b=false):PT X (.Compare a [op] [b] pos) (Fu (E4 r ta tb)):=by
 intro pins s σ H Q I h;refine wpAny_isTrue_Compare1 (cH (ha pins s σ H _ I h) fun v s1 ⟨x,H1,I1,r1,q1⟩=>cH (hb pins s1 σ H1 _ I1 q1) fun u s2 ⟨y,H2,I2,r2,q2⟩ =>
  cH (ho pins s2 σ H2 x y v u _ I2 r1 r2 q2) fun c s3 ⟨z,H3,I3,r3,k,e,q3⟩=>?_) hm
 subst e;cases r3;exact wpAny_truthy_bool ⟨H3,I3,q3⟩
noncomputable def Cu (K:PySem.W.Frag)(x:V)(H:Hp)(k:Bool):Prop :=
 match x with
 |.non=>k=false
 |.bl b=>k=b
 |.int i=>k=(i != 0)
 |.str y=>y.length<=sizeLine/\k=((y.length:Int) != 0)
 |.byt y=>y.size<=sizeLine/\k=((y.size:Int) != 0)
 |.ref p=>(∃ xs,oJ K H p xs/\k = !xs.isEmpty)\/(∃ xs,je K H p xs/\k = !xs.isEmpty)\/∃ kvs,H p=some (.dK kvs)/\k = !kvs.isEmpty
 |_=>False
theorem qE {κ:Type}{kvs:List (κ×V)}{vs:List (κ×Value)}(r:KV kvs vs):(!vs.isEmpty) = !kvs.isEmpty:=by
 cases r<;>rfl
theorem mh {xs:List V}{its:List Value}(r:aN xs its):(!its.toArray.isEmpty) = !xs.isEmpty:=by
 cases r<;>simp
theorem jO:(sizeLine:Nat)<2 ^ 63:=by rw[sizeLine_eq];decide
theorem DH:TruR X (fun x H Q=>∃ k,Cu X.K x H k/\Q k H):=by
 intro pins s σ H x v Q I rx h;obtain⟨k,e,q⟩:=h;have hl:=jO;have hs:sizeLine=16777216:=sizeLine_eq;cases x with
 |non =>
  cases rx;have e':k=false:=e;subst e';exact truthy_none ⟨H,I,q⟩
 |bl b =>
  cases rx;have e':k=b:=e;subst e';exact wpAny_truthy_bool ⟨H,I,q⟩
 |int i =>
  obtain⟨t,rfl⟩:=rx;have e':k=(i != 0):=e;subst e';exact PySem.P.truthy_int ⟨H,I,q⟩
 |str y =>
  obtain⟨t,rfl⟩:=rx;obtain⟨hy,e'⟩:y.length<=sizeLine/\k=((y.length:Int) != 0):=e;subst e';exact PySem.P.truthy_str (by omega) ⟨H,I.tok _,q⟩
 |byt y =>
  obtain⟨t,rfl⟩:=rx;obtain⟨hy,e'⟩:y.size<=sizeLine/\k=((y.size:Int) != 0):=e;subst e';exact PySem.W.truthy_bytes (by omega) ⟨H,I.tok _,q⟩
 |ref p =>
  cases rx;have e':(∃ xs,oJ X.K H p xs/\k = !xs.isEmpty)\/(∃ xs,je X.K H p xs/\k = !xs.isEmpty)\/∃ kvs,H p=some (.dK kvs)/\k = !kvs.isEmpty:=e;rcases e' with ⟨xs,hx,e'⟩ | ⟨xs,hx,e'⟩ | ⟨kvs,hx,e'⟩
  ·subst e';obtain⟨its,r,pl,hz⟩:=I.list hx;have hlen:=r.length;exact wpAny_truthy_list pl.isList (by simp only[List.size_toArray];omega) ⟨H,I.tok _,by rw[mh r];exact q⟩
  ·subst e';obtain⟨its,r,pl,hz⟩:=I.tuple hx;have hlen:=r.length;exact truthy_tuple pl (by simp only[List.size_toArray];omega) ⟨H,I.tok _,by rw[mh r];exact q⟩
  ·subst e';obtain⟨hz,hS,vs,r,m⟩:kvs.length<=sizeLine/\(p==sysModules)=false/\∃ vs,KV kvs vs/\s.heap.DictOf (aO X.prog X.w) p vs:=I.hok p _ hx;have hlen:kvs.length=vs.length:=Paired.length r;exact wpAny_truthy_dict hS m (by omega) ⟨H,I.tok _,by rw[qE r];exact q⟩
 |_=>exact (show False from e).elim
theorem xx (ha:PE X a ta)(he:∀ whole,isTrue a X.env whole=(do let v <- whole;standAt a.pos;holding [v] (truthy v))) :
  PT X a (fun σ H Q=>ta σ H fun x H'=>∃ k,Cu X.K x H' k/\Q k H'):=by
 intro pins s σ H Q I h;exact isTrue_plain (cH (ha pins s σ H _ I h) fun v s1 ⟨x,H1,I1,r1,q1⟩=>DH pins s1 σ H1 x v Q I1 r1 q1) (he _)
theorem mq:gJ X (binaryOp .Add) (fun x y H Q=>∃ i j,x = .str i/\y = .str j/\i.length+j.length<=sizeLine/\Q (.str (i++j)) H):=by
 intro pins s σ H x y v u Q I rx ry h;obtain⟨i,j,rfl,rfl,hz,q⟩:=h;obtain⟨t,rfl⟩:=rx;obtain⟨t',rfl⟩:=ry;exact add_str (fun t' tk=>⟨.str (i++j),H,I.tok _,⟨_,rfl⟩,q⟩) hz
theorem vals1 {x:V}{us:List Value}(r:aN [x] us):∃ u,us=[u]/\RelV x u:=by
 cases r with
 |cons r1 r2=>cases r2;exact⟨_,rfl,r1⟩
theorem vals2 {x y:V}{us:List Value}(r:aN [x,y] us):∃ u w',us=[u,w']/\RelV x u/\RelV y w':=by
 cases r with
 |cons r1 r2 =>
  cases r2 with
  |cons r3 r4=>cases r4;exact⟨_,_,rfl,r1,r3⟩
theorem vA (hc:X.calm=true):dY X (.builtin "min") (fun xs H Q=>∃ i j,xs=[.int i,.int j]/\Q (.int (if j<i then j else i)) H):=by
 intro pins s σ H xs us Q I r h;obtain⟨i,j,rfl,q⟩:=h;obtain⟨u,w',rfl,⟨t,rfl⟩,⟨t',rfl⟩⟩:=vals2 r;refine min_two_ints (I.ok.hd hc) fun h' tk k=>⟨_,H,I.kept k,?_,q⟩
 by_cases hj:j<i
 ·rw[if_pos hj,if_pos hj];exact⟨_,rfl⟩
 ·rw[if_neg hj,if_neg hj];exact⟨_,rfl⟩
end
end L2
namespace L2
open PySem PySem.Spec PyProof.Rows
structure rV (h:Heap)(x dx C:Addr)(mA:Str->Option Value):Prop where
 obj:h.get? x=some (PySem.W.instObj C dx)
 ns:h.Ns1 dx mA
 ne:dx≠x
theorem vj {h:Heap}{dx:Addr}{mA:Str->Option Value}(n:h.Ns1 dx mA):∃ od,h.get? dx=some od/\∀ name,PySem.W.lookIn name od=some (mA name):=by
 obtain⟨o,es,ep,ho,hd,hk,_,hm⟩:=n;refine⟨o,ho,fun name=>?_⟩;have e:=hm name;unfold nsFind findBy at e;rw[<-Array.find?_toList] at e;unfold PySem.W.lookIn;rw[hd];dsimp only;split
 ·rename_i y q;rw[q] at e;exact gc some e
 ·rename_i q;rw[q] at e;have a:es.toList.any (·.refKey)=false:=by
   rw[List.any_eq_false];intro y hy;obtain⟨z,t,hkey⟩:=hk y (Array.mem_toList_iff.mp hy);simp[DictEntry.refKey,hkey]
  have a':¬ es.toList.any (·.refKey)=true:=by rw[a];exact ao
  rw[if_neg a'];exact gc some e
theorem rV.look {h:Heap}{x dx C:Addr}{mA:Str->Option Value}(I:rV h x dx C mA):∃ od,PySem.W.InstAt h x (PySem.W.instObj C dx) C (some od)/\∀ name,PySem.W.lookIn name od=some (mA name) :=
 let ⟨od,ho,hl⟩:=vj I.ns
 ⟨od,⟨I.obj,rfl,rfl,ho⟩,hl⟩
section
variable {prog:Program}{w:World}{A:Around}{E:Value->Shared->Prop}{s:Shared}{K:PySem.W.Frag}{x dx C f:Addr}{mA:Str->Option Value}{name:Str}{v:Value}
theorem get_map {expr:Bool}{Q:Value->Shared->Prop}(X:K.In s.heap)(I:rV s.heap x dx C mA)(hg:PySem.W.plainGet K C name=true)(hh:PySem.W.hasDictIn K C=true)
  (ha:PySem.W.findIn K (.ref C) name=some none) (hv:mA name=some v) (hv':PySem.W.handedIn v=true) (h:Q v { s with toks:=s.toks+1 }) :
  wpAny (model prog w) A (getAttr (.ref x) name expr) Q E s:=by
 obtain⟨od,J,hl⟩:=I.look;exact PySem.W.get_value X J (PySem.W.plainGet_of hg).1 (PySem.W.findObj_own hh ha rfl (by rw[hl,hv])) hv' h
theorem wJ {pl:Sem Bool}{Q:Value×List Value->Shared->Prop}(X:K.In s.heap)(I:rV s.heap x dx C mA)(hg:PySem.W.plainGet K C name=true)
  (hf:PySem.W.findIn K (.ref C) name=some (some (.ref f))) (ht:PySem.W.isFn K (.ref f)=true) (hv:mA name=none) (h:Q (.ref f,[.ref x]) s) :
  wpAny (model prog w) A (getMethod (.ref x) name pl) Q E s:=by
 obtain⟨od,J,hl⟩:=I.look;exact PySem.W.method_fn X J (PySem.W.plainGet_of hg).1 (PySem.W.plainGet_of hg).2 hf (gj.mp ht) (by show (PySem.W.lookIn name od).map (·.isSome)=some false;rw[hl,hv];rfl) h
theorem A2 {ns:List Str}{Q:Unit->Shared->Prop}(X:K.In s.heap)(I:rV s.heap x dx C mA)
  (hs:PySem.W.findIn K (.ref C) "__setattr__" = some (some (.builtin "object.__setattr__"))) (hp:PySem.W.plainOver K C=true) (ht:PySem.W.takerIn K C name=some none) (hh:PySem.W.hasDictIn K C=true)
  (hw:PySem.Within mA ns) (hsz:ns.length<=sizeLine)
  (h:∀ h',rV h' x dx C (fun y=>if y=name then some v else mA y)->Heap.SameBut dx s.heap h'->Q () { s with heap:=h',toks:=s.toks+2 }) :
  wpAny (model prog w) A (setAttr (.ref x) name v) Q E s:=by
 obtain⟨od,J,hl⟩:=I.look;refine PySem.W.set_plain X J hs (PySem.W.osa_open (s:={ s with toks:=s.toks+1 }) (r:=none) X J hp ht fun b=>?_);obtain⟨cd,hc,hd'⟩:=PySem.W.any_some hh;have hx:s.heap.get? x=some ⟨.ref C,some dx,.plain,#[]⟩:=I.obj;refine wpAny_bind (wpAny_pure (wpAny_bind (wpAny_bind (wpAny_loadPart hx (wpAny_bind (PySem.W.Looks.here (s:={ s with toks:=s.toks+1 }) (PySem.W.looks_clsIn X hc) ?_))))));rw[hd'];refine wpAny_pure (a:=some dx) (wpAny_bind (wpAny_pure (wpAny_bind ?_)));refine wpAny_nsSet1 (s:={ s with toks:=s.toks+1 }) I.ns fun h' hn2 hs2=>?_
 obtain⟨oD,esD,epD,hoD,hdD,hcD⟩:=hn2.count (PySem.Within.cons name v hw);refine wpAny_bind (wpAny_lookBehind hoD (by rw[hdD];exact pastItsLine_dict (bg hcD (by rw[ak];omega))) ?_);exact wpAny_pure (h _ ⟨(hs2.2 _ (dk I.ne)).trans I.obj,hn2,I.ne⟩ hs2)
theorem yd {R:Result->Shared->Prop}{vs:List Value}{kw:List (Str×Value)}(X:K.In s.heap)(hm:PySem.W.makesIn K C=true)
  (hi:PySem.W.findIn K (.ref C) "__init__" = some (some (.ref f))) (hf:PySem.W.typeIn K (.ref f)=some (.type "function"))
  (h:codeAny (model prog w) (A.under (.builtin "type.__call__" ⟨.ref C::vs,kw⟩)) (.call (.ref f) ⟨.ref (s.heap.objs.size+1)::vs,kw⟩) (PySem.W.InitBack (s.heap.objs.size+1) R)
   { s with heap:=(s.heap.push PySem.W.emptyDict).push (PySem.W.instObj C s.heap.objs.size) }) :
  codeAny (model prog w) A (.call (.ref C) ⟨vs,kw⟩) R s:=by
 obtain⟨hh,g,d,t,os⟩:=s;exact PySem.W.make_core (PySem.W.makes_of X hm) (PySem.W.looks_findIn X hi) (fun self=>PySem.W.bind_fn X self hf) (.inl rfl) h
end
noncomputable def iV (f:Str)(v:V):List (Str×V)->List (Str×V)
 |[]=>[(f,v)]
 | (g,x)::r=>if g=f then (g,v)::r else (g,x)::iV f v r
theorem ka (f g:Str)(v:V):∀ fs:List (Str×V),(iV f v fs).lookup g=if g=f then some v else fs.lookup g
 | []=>by
  show List.lookup g [(f,v)]=_;by_cases h:g=f
  ·have hb:(g==f)=true:=gj.mpr h;simp only[List.lookup,hb,if_pos h]
  ·have hb:(g==f)=false:=beq_eq_false_iff_ne.mpr h;simp only[List.lookup,hb,if_neg h]
 | (k,x)::r=>by
  have ih:=ka f g v r;rw[show iV f v ((k,x)::r)=(if k=f then (k,v)::r else (k,x)::iV f v r) from rfl];by_cases hk:k=f
  ·rw[if_pos hk];by_cases h:g=k
   ·have hb:(g==k)=true:=gj.mpr h;simp only[List.lookup,hb,if_pos (h.trans hk)]
   ·have hb:(g==k)=false:=beq_eq_false_iff_ne.mpr h;simp only[List.lookup,hb,if_neg (fun e:g=f=>h (e.trans hk.symm))]
  ·rw[if_neg hk];by_cases h:g=k
   ·have hb:(g==k)=true:=gj.mpr h;simp only[List.lookup,hb,if_neg (fun e:g=f=>hk (h.symm.trans e))]
   ·have hb:(g==k)=false:=beq_eq_false_iff_ne.mpr h;simp only[List.lookup,hb];exact ih
theorem jU (f:Str)(v:V):∀ fs:List (Str×V),f∈(iV f v fs).map (·.1)/\∀ g,g∈fs.map (·.1)->g∈(iV f v fs).map (·.1)
 |[]=>⟨by simp[iV],fun g h=>by simp at h⟩
 | (k,x)::r=>by
  obtain⟨i1,i2⟩:=jU f v r;rw[show iV f v ((k,x)::r)=(if k=f then (k,v)::r else (k,x)::iV f v r) from rfl];by_cases hk:k=f
  ·rw[if_pos hk];subst hk;exact⟨by simp,fun g h=>by simpa using h⟩
  ·rw[if_neg hk];refine⟨?_,fun g h=>?_⟩
   ·rw[ay];exact ah _ i1
   ·rw[ay] at h ⊢;rcases g9.mp h with e | e
    ·exact g9.mpr (.inl e)
    ·exact ah _ (i2 g e)
theorem kj (f:Str)(v:V):∀ fs:List (Str×V),(iV f v fs).length<=fs.length+1
 |[]=>by simp[iV]
 | (k,x)::r=>by
  have ih:=kj f v r;rw[show iV f v ((k,x)::r)=(if k=f then (k,v)::r else (k,x)::iV f v r) from rfl];by_cases hk:k=f
  ·rw[if_pos hk,ak,ak];omega
  ·rw[if_neg hk,ak,ak];omega
theorem jC.some_of {v:V}{o:Option Value}(r:jC (some v) o):∃ u,o=some u/\RelV v u:=by
 cases o with
 |none=>exact (show False from r).elim
 |some u=>exact⟨u,rfl,r⟩
theorem jC.none_of {o:Option Value}(r:jC none o):o=none:=by
 cases o with
 |none=>rfl
 |some u=>exact (show False from r).elim
theorem uY {v:V}{u:Value}(r:RelV v u):PySem.W.handedIn u=true:=by
 cases v with
 |non=>cases (show u=Value.none from r);rfl
 |bl b=>cases (show u=Value.bool b from r);rfl
 |int i=>obtain⟨t,e⟩:=(show ∃ t,u=Value.int i t from r);cases e;rfl
 |str x=>obtain⟨t,e⟩:=(show ∃ t,u=Value.str x t from r);cases e;rfl
 |byt b=>obtain⟨t,e⟩:=(show ∃ t,u=Value.bytes b t from r);cases e;rfl
 |flt b=>obtain⟨t,e⟩:=(show ∃ t,u=Value.float b t from r);cases e;rfl
 |ref a=>cases (show u=Value.ref a from r);rfl
 |ty n=>cases (show u=Value.type n from r);rfl
section
variable {P:Program}{w:World}{H H':Hp}{h h':Heap}{a C dx:Addr}{fs fs':List (Str×V)}
theorem og (hok:iJ P w H h)(e:H a=some (.ins C dx fs)):∃ mA,rV h a dx C mA/\(∀ f,jC (fs.lookup f) (mA f))/\PySem.Within mA (fs.map (·.1))/\fs.length<=1000/\H dx=some (.own a):=by
 obtain⟨d,z,ne,ob,mA,n,r,q⟩:=(show bW P w H h a (.ins C dx fs) from hok a _ e);exact⟨mA,⟨ob,n,ne⟩,r,q,z,d⟩
end
structure xV (K:PySem.W.Frag)(C:Addr):Prop where
 pg:PySem.W.plainGet K C Str.empty=true
 hd:PySem.W.hasDictIn K C=true
 po:PySem.W.plainOver K C=true
 sa:PySem.W.findIn K (.ref C) "__setattr__" = some (some (.builtin "object.__setattr__"))
theorem xV.get {K:PySem.W.Frag}{C:Addr}(c:xV K C)(f:Str):PySem.W.plainGet K C f=true:=c.pg
def fH (K:PySem.W.Frag)(C:Addr)(f:Str):Prop:=PySem.W.findIn K (.ref C) f=some none
theorem fH.taker {K:PySem.W.Frag}{C:Addr}{f:Str}(n:fH K C f):PySem.W.takerIn K C f=some none:=by
 unfold PySem.W.takerIn;rw[show PySem.W.findIn K (.ref C) f=some none from n];rfl
structure Con (K:PySem.W.Frag)(C:Addr)(f:Str)(v:V)(u:Value):Prop where
 at_:PySem.W.findIn K (.ref C) f=some (some u)
 rel:RelV v u
 get:PySem.W.specialIn K u "__get__" = some none
 cp:PySem.W.copiedNames.contains f=false
structure Cy (K:PySem.W.Frag)(C:Addr)(m:Str)(f:Addr):Prop where
 at_:PySem.W.findIn K (.ref C) m=some (some (.ref f))
 fn:PySem.W.isFn K (.ref f)=true
 kp:PySem.W.keepIn K (.ref f)=true
section
variable {X:Cx}{pins:List (Addr×Obj)}{σ:St}{H:Hp}{s:Shared}{a C dx:Addr}{fs:List (Str×V)}{f:Str}{v:V}{A:Around}{E:Value->Shared->Prop}
theorem rZ {b:Bool}{Q:Value->Shared->Prop}(I:Inv X pins σ H s)(e:H a=some (.ins C dx fs))(c:xV X.K C)(n:fH X.K C f)(l:fs.lookup f=some v)
  (h:∀ u s',Inv X pins σ H s'->RelV v u->Q u s'):wpAny (model X.prog X.w) A (getAttr (.ref a) f b) Q E s:=by
 obtain⟨mA,O,r,_,_,_⟩:=og I.hok e;obtain⟨u,hu,ru⟩:=jC.some_of (v:=v) (o:=mA f) (by rw[<-l];exact r f);exact get_map I.kIn O (c.get f) c.hd n hu (uY ru) (h u _ (I.tok _) ru)
theorem rf {m:Str}{g:Addr}{pl:Sem Bool}{Q:Value×List Value->Shared->Prop}(I:Inv X pins σ H s)(e:H a=some (.ins C dx fs))(c:xV X.K C)(k:Cy X.K C m g)(l:fs.lookup m=none)
  (h:Q (.ref g,[.ref a]) s):wpAny (model X.prog X.w) A (getMethod (.ref a) m pl) Q E s:=by
 obtain⟨mA,O,r,_,_,_⟩:=og I.hok e;have hn:mA m=none:=jC.none_of (by rw[<-l];exact r m);exact wJ I.kIn O (c.get m) k.at_ k.fn hn h
theorem rG {y:V}{u:Value}{Q:Unit->Shared->Prop}(I:Inv X pins σ H s)(e:H a=some (.ins C dx fs))(c:xV X.K C)(n:fH X.K C f)(hl:fs.length<1000)(ry:RelV y u)
  (h:∀ s',Inv X pins σ (upd H a (.ins C dx (iV f y fs))) s'->Q () s'):wpAny (model X.prog X.w) A (setAttr (.ref a) f u) Q E s:=by
 obtain⟨mA,O,r,wi,_,ho⟩:=og I.hok e;have hz:(fs.map (·.1)).length<=sizeLine:=by rw[av,sizeLine_eq];omega
 refine A2 I.kIn O c.sa c.po n.taker c.hd wi hz fun h' O' sb=>h _ ?_
 have hd:∃ o,h'.get? dx=some o:=let ⟨o,_,_,e',_⟩:=O'.ns;⟨o,e'⟩;refine I.write (x:=a) (e:=dx) (by rw[e];exact True.intro) (.inr ho) (fun b q hb z=>(sb.2 b hb).trans z) hd ?_;refine⟨by rw[aM O.ne];exact ho,?_,O.ne,O'.obj,_,O'.ns,fun g=>?_,fun g hg=>?_⟩
 ·have:=kj f y fs;omega
 ·show jC ((iV f y fs).lookup g) (if g=f then some u else mA g);rw[ka];by_cases q:g=f
  ·rw[if_pos q,if_pos q];exact ry
  ·rw[if_neg q,if_neg q];exact r g
 ·by_cases q:g=f
  ·rw[q];exact (jU f y fs).1
  ·refine (jU f y fs).2 g (wi g fun z=>hg ?_);show (if g=f then some u else mA g)=none;rw[if_neg q];exact z
theorem Inv.made (I:Inv X pins σ H s):Inv X pins σ (upd (upd H s.heap.objs.size (.own (s.heap.objs.size+1))) (s.heap.objs.size+1) (.ins C s.heap.objs.size []))
  { s with heap:=(s.heap.push PySem.W.emptyDict).push (PySem.W.instObj C s.heap.objs.size) }:=by
 have e1:(s.heap.push PySem.W.emptyDict).get? s.heap.objs.size=some PySem.W.emptyDict:=Heap.get?_push_size s.heap rfl;have e2:((s.heap.push PySem.W.emptyDict).push (PySem.W.instObj C s.heap.objs.size)).get? (s.heap.objs.size+1)=some (PySem.W.instObj C s.heap.objs.size):=by
  have:=Heap.get?_push_size (s.heap.push PySem.W.emptyDict) (o:=PySem.W.instObj C s.heap.objs.size) rfl
  rwa [Heap.size_push] at this
 have e3:(s.heap.push PySem.W.emptyDict).Ns s.heap.objs.size (fun _=>none):=⟨PySem.W.emptyDict,#[],_,e1,rfl,(fun e he=>absurd he (by simp)),fun _=>rfl⟩;have I1:=I.laid (a:=s.heap.objs.size) (o:=.own (s.heap.objs.size+1)) (h':=s.heap.push PySem.W.emptyDict) (t':=s.toks) (fun b u q=>Heap.get?_push_of_some _ q) (aw _) ⟨_,e1⟩;refine I1.laid (a:=s.heap.objs.size+1) (o:=.ins C s.heap.objs.size []) (t':=s.toks) (fun b u q=>Heap.get?_push_of_some _ q) (Nat.le_of_eq (Heap.size_push _ _)) ?_;have ne:s.heap.objs.size≠s.heap.objs.size+1:=bq (fi _);refine⟨by rw[aM ne,aL],en _,ne,e2,fun _=>none,(Heap.Ns1.of_empty e3).at fun o q=>Heap.get?_push_of_some _ q,fun _=>True.intro,fun y hy=>absurd rfl hy⟩
theorem AL {prog:Program}{w:World}{env:Env}{e:Expr}{f:Str}{pos:Pos}{s:Shared}{Q:Value->Shared->Prop}(hb:attributeBase e f env (eval e env)=eval e env)
  (h:wpAny (model prog w) A (eval e env) (fun o s₁=>wpAny (model prog w) A (getAttr o f true) Q E s₁) E s):wpAny (model prog w) A (eval (.Attribute e f pos) env) Q E s :=
 Attribute_any_ h (by rw[arm_eval_Attribute,hb])
end
def tFld (K:PySem.W.Frag)(ta:TE)(f:Str):TE:=fun σ H Q=>ta σ H fun x H1=>∃ a C dx fs v,x = .ref a/\H1 a=some (.ins C dx fs)/\xV K C/\fH K C f/\fs.lookup f=some v/\Q v H1
def sFld (K:PySem.W.Frag)(ta tv:TE)(f:Str):TS:=fun D σ H=>tv σ H fun y H1=>ta σ H1 fun x H2=>∃ a C dx fs,x = .ref a/\H2 a=some (.ins C dx fs)/\xV K C/\fH K C f/\fs.length<1000 /\
 D.nx σ (upd H2 a (.ins C dx (iV f y fs)))
section
variable {X:Cx}{o e value:Expr}{f:Str}{pos pos' tpos:Pos}{ta tv:TE}
theorem kY (he:PE X e ta)(hb:attributeBase e f X.env (eval e X.env)=eval e X.env):PE X (.Attribute e f pos) (tFld X.K ta f):=by
 intro pins s σ H Q I h;refine AL hb (cH (he pins s σ H _ I h) fun u s1 ⟨x,H1,I1,rx,a,C,dx,fs,v,ex,ea,c,n,l,q⟩=>?_);subst ex;obtain rfl:u=Value.ref a:=rx;exact rZ I1 ea c n l fun u' s2 I2 ru=>⟨v,H1,I2,ru,q⟩
theorem qV (ha:PE X o ta)(hv:PE X value tv)(hs:swapsWith value (some (.Attribute o f pos')) pos.line X.env=pure false):PS X (.Assign [.Attribute o f pos'] value pos) (sFld X.K ta tv f):=by
 intro pins s σ H D I h;refine plainObj_wpAny_Assign_Attribute (cH (hv pins s σ H _ I h) fun u s1 ⟨y,H1,I1,ry,q⟩=>cH (ha pins s1 σ H1 _ I1 q) fun ov s2 ⟨x,H2,I2,rx,a,C,dx,fs,ex,ea,c,n,l,q2⟩=>?_) hs;subst ex;obtain rfl:ov=Value.ref a:=rx;exact rG I2 ea c n l ry fun s3 I3=>⟨σ,_,I3,q2⟩
end
section
variable {X:Cx}{pins:List (Addr×Obj)}{σ:St}{H:Hp}{s:Shared}{A:Around}{E:Value->Shared->Prop}{Q:Value->Shared->Prop}{c:Value}{b:Bool}
inductive ma (K:PySem.W.Frag) (H:Hp):V->Value->Prop where
 | non:ma K H .non (.type "NoneType")
 | bl (x:Bool):ma K H (.bl x) (.type "bool")
 | int (i:Int):ma K H (.int i) (.type "int")
 | str (x:Str):ma K H (.str x) (.type "str")
 | flt (x:UInt64):ma K H (.flt x) (.type "float")
 | lst {a:Addr}{xs:List V}(e:H a=some (.lst xs)):ma K H (.ref a) (.type "list")
 | frz {a:Addr}{o:Obj}{xs:List V}(e:H a=some (.frz o (.lst xs))):ma K H (.ref a) (.type "list")
 | tup {a:Addr}{xs:List V}(e:H a=some (.tup xs)):ma K H (.ref a) (.type "tuple")
 | dK {a:Addr}{kvs:List (Key×V)}(e:H a=some (.dK kvs)):ma K H (.ref a) (.type "dict")
 | dT {a:Addr}{kvs:List (List Key×V)}(e:H a=some (.dT kvs)):ma K H (.ref a) (.type "dict")
 | ins {a C dx:Addr}{fs:List (Str×V)}(e:H a=some (.ins C dx fs)) (cl:xV K C) (ha:PySem.W.findIn K (.ref C) "__class__" = some (some (.builtin "object.__class__")))
   (hn:PySem.W.specialIn K (.builtin "object.__class__") "__get__" = some (some (.builtin "getset_descriptor.__get__"))) (htk:PySem.W.takesIn K (.builtin "object.__class__")=some true)
   (hm:PySem.W.mroIn K C (.type "object")=some true):ma K H (.ref a) (.ref C)
end
end L2
namespace L2
open PySem PySem.Spec PyProof.Rows
structure eM (k:Nat)(A:Around):Prop where
 hd:A.handled=none
 dp:A.depth+3*k+5<recursionLimit
 un:A.units+16*k+200<cLine
theorem eM.deeper {k:Nat}{A:Around}(r:eM (k+1) A)(env:Env):eM k (A.deeper env) :=
 ⟨r.hd,by have:=r.dp;show A.depth+1+3*k+5<_;omega,by have:=r.un;show A.units+3+16*k+200<_;omega⟩
theorem qG {A:Around}{C:Addr}{us:List Value}{kw:List (Str×Value)}:(A.under (.builtin "type.__call__" ⟨.ref C::us,kw⟩)).depth=A.depth+1:=by
 first | rfl | simp[Around.under,Code.weight,Code.isCreation,Code.isGuard,Code.isCaller,Code.frames,Code.isFrame,guardIds]
theorem qR {A:Around}{C:Addr}{us:List Value}{kw:List (Str×Value)}:(A.under (.builtin "type.__call__" ⟨.ref C::us,kw⟩)).units=A.units+1:=by
 first | rfl | simp[Around.under,Code.cUnits,Code.frames,Code.isFrame]
theorem eM.depth {k:Nat}{A:Around}(r:eM k A):A.depth<recursionLimit:=by have:=r.dp;omega
theorem eM.units {k:Nat}{A:Around}(r:eM k A):A.units+64<cLine:=by have:=r.un;omega
def lJ:TA:=fun _ H Q=>Q [] H
def bR (ta:TE)(tr:TA):TA:=fun σ H Q=>ta σ H fun x H1=>tr σ H1 fun xs H2=>Q (x::xs) H2
section
variable {X:Cx}{e:Expr}{es:List Expr}{te:TE}{t:TA}{pos:Pos}
theorem aW:PA X [] lJ:=fun _ _ _ _ H Q I h=>Calls.spliced_nil ⟨[],H,I,.nil,h⟩
theorem aK (ha:PE X e te)(hr:PA X es t)(hs:starEach (e::es) X.env=(false,eval e X.env)::starEach es X.env:=by rfl):PA X (e::es) (bR te t):=by
 intro pos pins s σ H Q I h;rw[hs];show wpAny _ _ (spliced ((false,eval e X.env)::backTo pos (starEach es X.env))) _ _ s;refine Calls.spliced_cons (cH (ha pins s σ H _ I h) fun u s1 ⟨x,H1,I1,r1,q1⟩=>?_);exact cH (hr pos pins s1 σ H1 _ I1 q1) fun us s2 ⟨xs,H2,I2,r2,q2⟩=>⟨x::xs,H2,I2,.cons r1 r2,q2⟩
def F5 (t:TA):TE:=fun σ H Q=>t σ H fun xs H1=>xs.length<=sizeLine/\∀ p,H1 p=none->Q (.ref p) (upd H1 p (.tup xs))
def tLst (t:TA):TE:=fun σ H Q=>t σ H fun xs H1=>xs.length<=sizeLine/\∀ p,H1 p=none->Q (.ref p) (upd H1 p (.lst xs))
theorem oo {x1}(h:PA X es t):PE X (.Tuple es x1 pos) (F5 t):=by
 intro pins s σ H Q I hq;refine wpAny_Tuple_spliced (cH (h pos pins s σ H _ I hq) fun us s1 ⟨xs,H1,I1,r,z,q⟩=>⟨by rw[<-r.length];exact z,?_⟩);have hf:H1 s1.heap.objs.size=none:=I1.hok.fresh (aw _);refine⟨.ref s1.heap.objs.size,upd H1 s1.heap.objs.size (.tup xs),I1.laid (t':=s1.toks) (fun b u e=>Heap.get?_push_of_some _ e) (aw _) ?_,rfl,q _ hf⟩;exact⟨z,us,r,⟨_,Heap.get?_push_size _ rfl,rfl,_,rfl⟩⟩
theorem qH (h:PA X es t):PE X (.List es pos) (tLst t):=by
 intro pins s σ H Q I hq;refine wpAny_List_spliced (cH (h pos pins s σ H _ I hq) fun us s1 ⟨xs,H1,I1,r,z,q⟩=>⟨by rw[<-r.length];exact z,?_⟩);have hf:H1 s1.heap.objs.size=none:=I1.hok.fresh (aw _);refine⟨.ref s1.heap.objs.size,upd H1 s1.heap.objs.size (.lst xs),I1.laid (t':=s1.toks) (fun b u e=>Heap.get?_push_of_some _ e) (aw _) ?_,rfl,q _ hf⟩;exact⟨z,us,0,r,Heap.get?_push_size _ rfl⟩
end
noncomputable abbrev Sp:=List V->Hp->VK->XK->Prop
noncomputable abbrev pd:=List Env->Hp->Shared->XK->Value->Shared->Prop
structure qp (P:Program)(w:World)(K:PySem.W.Frag)(mg:Str->Option Value)(base:Heap)(A:Around)(outer:List Env)(s:Shared)(H:Hp):Prop where
 frames:A.frames=some outer
 mod:Mod K mg base
 bs:∀ b o,base.get? b=some o->s.heap.get? b=some o/\H b=none
 bsz:base.objs.size<=s.heap.objs.size
 funs:s.heap.FunFrames base outer
 frf:∀ b∈fL outer,H b=none
 hok:iJ P w H s.heap
 bare:AllBare s.gens
noncomputable def CE (outer:List Env)(P:Program)(w:World)(H:Hp)(s:Shared)(Q:VK)(u:Value)(s':Shared):Prop :=
 ∃ v H',s'.os=s.os/\AllBare s'.gens/\Un (fL outer) [] H H' s.heap s'.heap/\iJ P w H' s'.heap/\RelV v u/\Q v H'
noncomputable def CR (CX:pd)(outer:List Env)(P:Program)(w:World)(H:Hp)(s:Shared)(Q:VK)(E:XK)(r:Result)(s':Shared):Prop :=
 match r with
 | .ok (.ret u)=>CE outer P w H s Q u s'
 |.ok _=>False
 |.error e=>CX outer H s E e s'
structure ja (P:Program)(w:World)(K:PySem.W.Frag)(mg:Str->Option Value)(base:Heap)(CX:pd)(k:Nat)(f:Addr)(fd:FuncData)(ps:List Str)(sp:Sp):Prop where
 len:∀ vs H Q E,sp vs H Q E->vs.length=ps.length
 run:∀(A:Around) (outer:List Env) (s:Shared) (H:Hp) (args:Args) (us:List Value) (vs:List V) (Q:VK) (E:XK),eM k A->qp P w K mg base A outer s H->BindsTo s fd args (ps.zip us)->aN vs us->sp vs H Q E ->
  codeAny (model P w) A (.call (.ref f) args) (CR CX outer P w H s Q E) s
theorem qp.make {P:Program}{w:World}{K:PySem.W.Frag}{mg:Str->Option Value}{base:Heap}{A:Around}{outer:List Env}{s:Shared}{H:Hp}(e:qp P w K mg base A outer s H)(C:Addr)(us:List Value)(kw:List (Str×Value)) :
  qp P w K mg base (A.under (.builtin "type.__call__" ⟨.ref C::us,kw⟩)) outer s H:=⟨by first | exact e.frames | (simpa[Around.under,Code.envs,Code.isFrame,pushEnvs] using e.frames),e.mod,e.bs,e.bsz,e.funs,e.frf,e.hok,e.bare⟩
section
variable {X:Cx}{pins:List (Addr×Obj)}{σ:St}{H:Hp}{s s':Shared}
theorem Inv.env0 (I:Inv X pins σ H s):qp X.prog X.w X.K X.mg X.base X.A X.stack s H :=
 ⟨I.ok.frames,I.ok.mod,I.bs,bg I.ok.bsz I.sz,I.stack,I.stkFree,I.hok,I.bare⟩
theorem Inv.after {Q:VK}{u:Value}(I:Inv X pins σ H s)(h:CE X.stack X.prog X.w H s Q u s'):EP X pins σ Q u s':=by
 obtain⟨v,H',os,bare,un,hok,r,q⟩:=h;obtain⟨hh,g,d,t,os'⟩:=s';obtain rfl:os'=s.os:=os;exact⟨v,H',I.call (h':=hh) (g':=g) (d':=d) (t':=t) (ch:=[]) un hok bare (fun b z=>absurd z (by simp)),r,q⟩
end
def xb (sp:Sp)(dvs:List V)(E:XK)(t:TA):TE:=fun σ H Q=>t σ H fun vs H1=>sp (vs++dvs) H1 Q E
noncomputable def Binds (K:PySem.W.Frag)(fd:FuncData)(ps:List Str)(ds:List Value):Prop :=
 ∀(s:Shared) (us:List Value),K.In s.heap->(us++ds).length=ps.length->BindsTo s fd ⟨us,[]⟩ (ps.zip (us++ds))
theorem Binds.all {K:PySem.W.Frag}{fd:FuncData}{ps:List Str}(h:∀ us:List Value,us.length=ps.length->bindArgs fd ⟨us,[]⟩=pure (ps.zip us)):Binds K fd ps []:=fun s us _ hl=>by
 rw[bh] at hl ⊢;exact .of_eq (h us hl)
def fG (CX:pd)(X:Cx)(E:XK):Prop:=∀(pins:List (Addr×Obj)) (σ:St) (H:Hp) (s:Shared) (e:Value) (s':Shared),Inv X pins σ H s->CX X.stack H s E e s'->X.xe e s'
section
variable {X:Cx}{CX:pd}{k:Nat}{f C:Addr}{fd:FuncData}{ps:List Str}{sp:Sp}{dvs:List V}{ds:List Value}{E:XK}{x m:Str}{p pos apos:Pos}{e o:Expr}{es:List Expr}{ta:TE}{t:TA}
theorem vM {pins:List (Addr×Obj)}{σ:St}{H:Hp}{s:Shared}{Q:VK}{us:List Value}{vs:List V}(F:ja X.prog X.w X.K X.mg X.base CX k f fd ps sp)(hr:eM k X.A)(hb:Binds X.K fd ps ds)(hd:aN dvs ds)(hx:fG CX X E)
  (I:Inv X pins σ H s) (r:aN vs us) (h:sp (vs++dvs) H Q E):wpAny (model X.prog X.w) X.A (call (.ref f) us) (EP X pins σ Q) X.xe s:=by
 have r2:aN (vs++dvs) (us++ds):=r.append hd;have hl:(us++ds).length=ps.length:=by rw[<-r2.length];exact F.len _ _ _ _ h
 refine wpAny_call (codeAny_mono (F.run X.A X.stack s H ⟨us,[]⟩ (us++ds) (vs++dvs) Q E hr I.env0 (hb s us I.kIn hl) r2 h) fun r s' hq=>?_);cases r with
 |error e=>exact hx pins σ H s e s' I hq
 |ok fl =>
  cases fl with
  |ret u=>exact I.after hq
  |next=>exact False.elim hq
  |brk=>exact False.elim hq
  |cont=>exact False.elim hq
theorem Am (F:ja X.prog X.w X.K X.mg X.base CX k f fd ps sp)(hr:eM k X.A)(hg:Gl X x)(hm:X.mg x=some (.ref f))(hk:PySem.W.keepIn X.K (.ref f)=true)(hb:Binds X.K fd ps ds)(hd:aN dvs ds)(hx:fG CX X E)
  (ha:PA X (e::es) t) (hdb:(x==("__debug__" : Str))=false:=by decide) (he:starEach (e::es) X.env=(false,eval e X.env)::starEach es X.env:=by rfl) (hpl:(backTo pos (starEach es X.env)).any (·.1)=false:=by rfl) :
  PE X (.Call (.Name x p) (e::es) [] pos) (xb sp dvs E t):=by
 intro pins s σ H Q I h;refine wpAny_Call_Name_kw (eV I hg hm ?_ hdb);refine gn (h₀:=X.base) I.ok.mod.kin hk (cH (ha pos pins s σ H _ I h) fun us s1 ⟨vs,H1,I1,r,q⟩=>⟨I1.kIn,?_⟩) he hpl;exact vM F hr hb hd hx I1 r q
theorem vO (F:ja X.prog X.w X.K X.mg X.base CX k f fd ps sp)(hr:eM k X.A)(hg:Gl X x)(hm:X.mg x=some (.ref f))(hk:PySem.W.keepIn X.K (.ref f)=true)(hb:Binds X.K fd ps ds)(hd:aN dvs ds)(hx:fG CX X E)
  (hdb:(x==("__debug__" : Str))=false:=by decide):PE X (.Call (.Name x p) [] [] pos) (xb sp dvs E lJ):=by
 intro pins s σ H Q I h;refine wpAny_Call_Name_kw (eV I hg hm ?_ hdb);exact PySem.W.callWith_K0 I.kIn hk (vM (us:=[]) F hr hb hd hx I .nil h)
structure Mk (K:PySem.W.Frag)(C f:Addr):Prop where
 makes:PySem.W.makesIn K C=true
 init:PySem.W.findIn K (.ref C) "__init__" = some (some (.ref f))
 fn:PySem.W.isFn K (.ref f)=true
 kp:PySem.W.keepIn K (.ref C)=true
end
section
variable {X:Cx}{CX:pd}{k:Nat}{f C:Addr}{fd:FuncData}{ps ks:List Str}{sp:Sp}{E:XK}{x m:Str}{p pos apos kpos:Pos}{e o:Expr}{es:List Expr}{kws:List Keyword}{te ta:TE}{t tk:TA}{nm:Option Str}
structure KBinds (K:PySem.W.Frag)(fd:FuncData)(ps ks:List Str)(g:List Value->List Value->List Value)(gV:List V->List V->List V):Prop where
 to:∀(s:Shared) (us ws:List Value),K.In s.heap->(g us ws).length=ps.length->BindsTo s fd ⟨us,ks.zip ws⟩ (ps.zip (g us ws))
 rel:∀{vs:List V}{us:List Value}{zs:List V}{ws:List Value},aN vs us->aN zs ws->aN (gV vs zs) (g us ws)
variable {g:List Value->List Value->List Value}{gV:List V->List V->List V}
end
structure bU (N P:List Str)(sc:Scope):Prop where
 kind:sc.kind = .function
 co:sc.isCoroutine=false
 gen:sc.isGenerator=false
 nd:N.Nodup
 pre:N.take P.length=P
 par:∀ x∈P,sc.names.lookup x=some .local\/sc.names.lookup x=some .cell
 nofree:∀ y∈sc.names,y.2≠.free
theorem nK {kindOf:Str->Option NameKind}{x:Str}:∀{binds:List (Str×Value)}{m:Str->Option Value},(∀ v,(x,v)∉binds)->bindL kindOf binds m x=m x
 |[],_,_=>rfl
 | (n,v)::r,m,h=>by
  unfold bindL;rw[nK fun w hw=>h w (ah _ hw)];split
  ·have:x≠n:=by rintro rfl;exact h v au
   simp[this]
  ·rfl
theorem nM {kindOf:Str->Option NameKind}{x:Str}:∀{binds:List (Str×Value)}{m:Str->Option Value},(∀ v,(x,v)∉binds)->bindC kindOf binds m x=m x
 |[],_,_=>rfl
 | (n,v)::r,m,h=>by
  unfold bindC;rw[nM fun w hw=>h w (ah _ hw)];split
  ·rfl
  ·have:x≠n:=by rintro rfl;exact h v au
   simp[this]
theorem nN {kindOf:Str->Option NameKind}{x:Str}{v:Value}:∀{P:List Str}{vs:List Value}{i:Nat}{m:Str->Option Value},P.Nodup->P[i]? = some x->vs[i]? = some v->kindOf x=some .local ->
  bindL kindOf (P.zip vs) m x=some v
 |[],_,_,_,_,h,_,_=>by simp at h
 |_::_,[],_,_,_,_,h,_=>by simp at h
 | p::P,w::vs,0,m,nd,h1,h2,hk=>by
  simp at h1 h2;subst h1;subst h2;show bindL kindOf ((p,w)::P.zip vs) m p=_;unfold bindL;rw[nK fun v hv=>(List.nodup_cons.mp nd).1 (i4 hv).1,if_pos hk];simp
 | p::P,w::vs,i+1,m,nd,h1,h2,hk=>by
  show bindL kindOf ((p,w)::P.zip vs) m x=_;unfold bindL;exact nN (i:=i) (List.nodup_cons.mp nd).2 (by simpa using h1) (by simpa using h2) hk
theorem m8 {kindOf:Str->Option NameKind}{x:Str}{v:Value}:∀{P:List Str}{vs:List Value}{i:Nat}{m:Str->Option Value},P.Nodup->P[i]? = some x->vs[i]? = some v->kindOf x≠some .local ->
  bindC kindOf (P.zip vs) m x=some v
 |[],_,_,_,_,h,_,_=>by simp at h
 |_::_,[],_,_,_,_,h,_=>by simp at h
 | p::P,w::vs,0,m,nd,h1,h2,hk=>by
  simp at h1 h2;subst h1;subst h2;show bindC kindOf ((p,w)::P.zip vs) m p=_;unfold bindC;rw[nM fun v hv=>(List.nodup_cons.mp nd).1 (i4 hv).1,if_neg hk];simp
 | p::P,w::vs,i+1,m,nd,h1,h2,hk=>by
  show bindC kindOf ((p,w)::P.zip vs) m x=_;unfold bindC;exact m8 (i:=i) (List.nodup_cons.mp nd).2 (by simpa using h1) (by simpa using h2) hk
noncomputable def start (N:List Str)(vs:List V):St:=vs.map some++List.replicate (N.length - vs.length) none
noncomputable def eC (CX:pd)(P:Program)(w:World)(K:PySem.W.Frag)(mg:Str->Option Value)(base:Heap)(N:List Str)(qual:Str)(scope:Scope)(f:Addr)(cd:Value)(A:Around)(outer:List Env)(s:Shared)(H:Hp)(E:XK):Cx where
 prog:=P
 w:=w
 K:=K
 mg:=mg
 base:=base
 A:=A.deeper (envOfC qual scope s.heap.objs.size f cd)
 N:=N
 s₀:=s
 H₀:=H
 env:=envOfC qual scope s.heap.objs.size f cd
 outer:=outer
 stack:=envOfC qual scope s.heap.objs.size f cd::outer
 ex:=[]
 calm:=true
 fn:=fun _=>true
 pn:=[]
 xe:=fun e s'=>wpAny (model P w) (A.deeper (envOfC qual scope s.heap.objs.size f cd)) (leaving (envOfC qual scope s.heap.objs.size f cd) e) (fun _ s''=>CX outer H s E e s'') (fun e' s''=>CX outer H s E e' s'') s'
theorem qe {sc:Scope}{n:Nat}{x:Str}(h:sc.names.lookup x=some .cell):∃ c,(cellsFrom n sc.names []).lookup x=some c:=by
 have q:=iy sc.names n [] (.inl h);exact Option.isSome_iff_exists.mp q
theorem mO {CX:pd}{P:Program}{w:World}{K:PySem.W.Frag}{mg:Str->Option Value}{base:Heap}{N ps:List Str}{qual:Str}{scope:Scope}{f:Addr}{cd:Value}{A:Around}{outer:List Env}{s s1:Shared}{H:Hp}{E:XK}{us:List Value}{vs:List V}
  (S:bU N ps scope) (hd:A.handled=none) (e0:qp P w K mg base A outer s H) (hl:vs.length=ps.length) (r:aN vs us)
  (x:InCallC s s.heap.objs.size (bindL (envOfC qual scope s.heap.objs.size f cd).kindOf (ps.zip us) fun _=>none) (cellsFrom (s.heap.objs.size+1) scope.names []) (bindC (envOfC qual scope s.heap.objs.size f cd).kindOf (ps.zip us) fun _=>none) s1) :
  Inv (eC CX P w K mg base N qual scope f cd A outer s H E) [] (start N vs) H s1:=by
 have hpl:ps.length<=N.length:=by have:=gc List.length S.pre;rw[bp] at this;omega
 obtain⟨h1,tk,rfl,hk⟩:=x.done;have noA:∀ b:Addr,b∉(eC CX P w K mg base N qual scope f cd A outer s H E).ex:=fun b z=>absurd (show b∈([]:List Addr) from z) (by simp)
 refine⟨⟨e0.mod,S.kind,rfl,rfl,aw _,fun y z c h1 h2=>?_,fun y hy=>?_,fun y c _ h=>?_,fun _=>hd,Around.frames_deeper e0.frames,.inr ⟨rfl,rfl⟩,fun b z=>absurd z (noA b),e0.bs,e0.bsz,fun b _ _=>noA b,fun b z=>absurd z (noA b),e0.funs,e0.frf⟩,
  rfl,e0.bare,Un.kept hk,⟨_,x.toInCall.ns,fun i y v h1 h2 h3=>?_⟩,fun y c h=>⟨_,x.cell y c h⟩,e0.hok.fresh (Nat.le_refl _),fun y c h=>?_,fun p hp=>absurd (show p∈([]:List (Addr×Obj)) from hp) (by simp),e0.hok.kept hk,?_⟩
 ·exact name_of_addr x.apart (bw h1) (bw h2)
 ·have hy:scope.names.lookup y=some .cell\/scope.names.lookup y=some .free:=hy;rcases hy with hy | hy
  ·exact qe hy
  ·exact absurd rfl (S.nofree _ (bw hy))
 ·exact i0 (x.above y c (bw h))
 ·have hi:i<vs.length:=by
   unfold start at h2;by_cases hi:i<vs.length
   ·exact hi
   ·rw[List.getElem?_append_right (by simpa using hi)] at h2;rw[List.getElem?_replicate] at h2;split at h2<;>cases h2
  have ha:vs[i]? = some v:=by
   unfold start at h2;rw[List.getElem?_append_left (by simpa using hi),List.getElem?_map] at h2;cases e:vs[i]? with
   |none=>rw[e] at h2;cases h2
   |some a=>rw[e] at h2;cases h2;rfl
  obtain⟨u,hu,rv⟩:=r.get ha;have hp:ps[i]? = some y:=by
   rw[<-S.pre,List.getElem?_take_of_lt (by omega)];exact h1
  have ndP:ps.Nodup:=by rw[<-S.pre];exact S.nd.sublist (List.take_sublist _ _)
  refine⟨u,rv,?_⟩;rcases S.par y (List.mem_of_getElem? hp) with k | k
  ·exact .inl ⟨k,nN ndP hp hu k⟩
  ·obtain⟨c,e⟩:=qe (n:=s.heap.objs.size+1) k;refine .inr ⟨.inl k,c,e,?_⟩;have q:=x.cell y c e;rw[m8 ndP hp hu (by show scope.names.lookup y≠_;rw[k];decide)] at q;exact q
 ·exact e0.hok.fresh (i0 (x.above y c (bw h)))
 ·unfold start;show _=N.length;rw[aj,av,cq];omega
theorem E8 {CX:pd}{P:Program}{w:World}{K:PySem.W.Frag}{mg:Str->Option Value}{base:Heap}{k:Nat}{f:Addr}{name qual:Str}{params:Arguments}{body:List Stmt}{scope:Scope}{dV kV doc pm cdv ct oc:Value}{an od:Option Addr}
  {osl:Array (Option Value)}{N ps:List Str}{sp:Sp}(lk:K.lookup f=some ⟨oc,od,.func (PySem.W.fnOf name qual params body scope dV kV doc pm an cdv ct),osl⟩) (hcd:PySem.W.codeIn K cdv qual=true) (S:bU N ps scope)
  (len:∀ vs H Q E,sp vs H Q E->vs.length=ps.length)
  (hbody:∀(A:Around) (outer:List Env) (s:Shared) (H:Hp) (vs:List V) (Q:VK) (E:XK),eM k (A.deeper (envOfC qual scope s.heap.objs.size f cdv))->sp vs H Q E ->
   ∃ t,jI (eC CX P w K mg base N qual scope f cdv A outer s H E) body t/\t { nx:=fun _ H'=>Q .non H',rt:=Q } (start N vs) H) :
  ja P w K mg base CX (k+1) f (PySem.W.fnOf name qual params body scope dV kV doc pm an cdv ct) ps sp:=by
 refine⟨len,fun A outer s H args us vs Q E hr e0 hb r hsp=>?_⟩;have hl:=len _ _ _ _ hsp;have KX:K.In s.heap:=e0.mod.kin.keeps fun b o e=>(e0.bs b o e).1
 have lim:s.heap.NoLimit:=e0.mod.nolimit.keeps fun b o e=>(e0.bs b o e).1
 have hkind:∀ y∈ps.zip us,scope.names.lookup y.1=some .local\/(scope.names.lookup y.1=some .cell/\((cellsFrom (s.heap.objs.size+1) scope.names []).lookup y.1).isSome=true):=fun ⟨n,v⟩ hy=>by
  rcases S.par n (i4 hy).1 with q | q
  ·exact .inl q
  ·exact .inr ⟨q,iy _ _ _ (.inl q)⟩
 refine codeAny_call_function hr.depth (KX _ _ lk) rfl S.co S.gen rfl (PySem.W.codeRec_of KX hcd) (hb _ _ _ _ ?_);refine wpAny_newFunctionEnv_cells S.kind hkind fun env he s1 x=>?_
 subst he;refine⟨lim.keeps x.toInCall.keep,codeAny_func ?_⟩;obtain⟨t,ht,hq⟩:=hbody A outer s H vs Q E (hr.deeper _) hsp;have I:Inv (eC CX P w K mg base N qual scope f cdv A outer s H E) [] (start N vs) H s1:=mO S hr.hd e0 hl r x;refine wpAny_mono (ht [] s1 (start N vs) H _ I hq) (fun fl s' hs=>?_) fun e s' hs=>hs
 have fin:∀{σ':St}{H':Hp}{v:V}{u:Value},Inv (eC CX P w K mg base N qual scope f cdv A outer s H E) [] σ' H' s'->RelV v u->Q v H'->CE outer P w H s Q u s' :=
  fun {σ' H' v u} J rv q=>⟨v,H',J.os,J.bare,J.base,J.hok,rv,q⟩
 cases fl with
 |ret u =>
  obtain⟨v,σ',H',J,rv,q⟩:=hs;exact fin J rv q
 |next =>
  obtain⟨σ',H',J,q⟩:=hs;exact fin (v:=V.non) (u:=Value.none) J rfl q
 |brk =>
  obtain⟨_,_,_,q⟩:=hs;exact False.elim q
 |cont =>
  obtain⟨_,_,_,q⟩:=hs;exact False.elim q
end L2
namespace L2
open PySem PySem.Spec PyProof.Rows
section
variable {X:Cx}{x:Str}{p pos:Pos}{e:Expr}{es:List Expr}{t:TA}{id T:String}{r:List V->Hp->VK->Prop}
def DG (r:List V->Hp->VK->Prop)(t:TA):TE:=fun σ H Q=>t σ H fun vs H1=>r vs H1 Q
theorem fO (hc:dY X (.builtin id) r)(hg:Gl X x)(hm:X.mg x=none)(hv:bootBuiltins x=some (.builtin id))(ha:PA X (e::es) t)(hn:x≠"__name__":=by decide) (hdb:(x==("__debug__" : Str))=false:=by decide)
  (he:starEach (e::es) X.env=(false,eval e X.env)::starEach es X.env:=by rfl) (hpl:(backTo pos (starEach es X.env)).any (·.1)=false:=by rfl):PE X (.Call (.Name x p) (e::es) [] pos) (DG r t):=by
 intro pins s σ H Q I h;refine wpAny_Call_Name_kw (nU I hg hm hv ?_ hn hdb);exact PyProof.Rows.callWith_builtin1 (cH (ha pos pins s σ H _ I h) fun us s1 ⟨vs,H1,I1,r1,q1⟩=>hc pins s1 σ H1 vs us Q I1 r1 q1) he hpl
theorem nz (hc:dY X (.type T) r)(hg:Gl X x)(hm:X.mg x=none)(hv:bootBuiltins x=some (.type T))(ha:PA X (e::es) t)(hn:x≠"__name__":=by decide) (hdb:(x==("__debug__" : Str))=false:=by decide)
  (he:starEach (e::es) X.env=(false,eval e X.env)::starEach es X.env:=by rfl) (hpl:(backTo pos (starEach es X.env)).any (·.1)=false:=by rfl):PE X (.Call (.Name x p) (e::es) [] pos) (DG r t):=by
 intro pins s σ H Q I h;refine wpAny_Call_Name_kw (nU I hg hm hv ?_ hn hdb);exact PyProof.Rows.callWith_type1 (cH (ha pos pins s σ H _ I h) fun us s1 ⟨vs,H1,I1,r1,q1⟩=>hc pins s1 σ H1 vs us Q I1 r1 q1) he hpl
end
end L2
namespace HT
open PySem PyProof.Rows
noncomputable def lexLt:List Int->List Int->Bool
 |[],[]=>false
 |[],_::_=>true
 |_::_,[]=>false
 |x::xs,y::ys=>if x=y then lexLt xs ys else decide (x<y)
theorem lD (x y:Int)(xs ys:List Int):lexLt (x::xs) (y::ys)=if x=y then lexLt xs ys else decide (x<y):=rfl
theorem mD:lexLt [] []=false:=rfl
theorem kU (y:Int)(ys:List Int):lexLt [] (y::ys)=true:=rfl
theorem me (x:Int)(xs:List Int):lexLt (x::xs) []=false:=rfl
theorem pJ (A:Around)(s:Shared)(a:Int)(t:Tok)(c:Int)(u:Tok):∃ e,SeqAt.EqAt A s (.int a t) (.int c u) e/\(e=true↔a=c) :=
 ⟨(a==c),SeqAt.EqAt.int_int a t c u,by simp⟩
theorem lr (A:Around)(s:Shared)(a:Int)(t:Tok)(c:Int)(u:Tok)(prog:Program)(w:World)(E:Value->Shared->Prop)(Q:Value->Shared->Prop)(h:Q (.bool (decide (a<c))) s) :
  wpAny (model prog w) A (richCompare .Lt (.int a t) (.int c u)) Q E s :=
 (PyProof.Rows.lt_int h:wpAny (model prog w) A (compareOp .Lt (.int a t) (.int c u)) Q E s)
section
open PySem.SeqAt
open PySem.AutoSeq1 (wpAny_loadPart')
open PySem.MeetsSeq PySem.MeetsSeq2 PySem.MeetsSeq3
theorem mG (l b:Addr)(items items2:Array Value)(n n2:Nat)(dd dd2:Option Addr)(sl sl2:Array (Option Value))(ns ms:List Int)(hi:IntsAre items.toList ns)(hj:IntsAre items2.toList ms) :
  Meets (Builtin.«tuple.__lt__» ⟨[.ref l,.ref b],[]⟩)
   (fun _ R s=>s.heap.get? l=some { cls:=.type "tuple",dict:=dd,data:=.seq items n,slots:=sl }/\s.heap.get? b=some { cls:=.type "tuple",dict:=dd2,data:=.seq items2 n2,slots:=sl2 } /\
    R (.ok (.ret (.bool (lexLt ns ms)))) s) :=
 .of_wp fun prog w A R s h=>by
  obtain⟨hp,g,d,tk,os⟩:=s;obtain⟨hl,hb,h⟩:=h;have f2:=AutoSeq1.sub_tuple_tuple;have z1:items.size=ns.length:=by rw[<-hi.length];simp
  have z2:items2.size=ms.length:=by rw[<-hj.length];simp
  wp_walk using wpAny_loadPart' hl,wpAny_loadPart' hb,wpAny_forIn_list _ (fun rest b s'=>b.1=none/\s'=⟨hp,g,d,tk,os⟩/\∃(vs ws:List Value) (ns' ms':List Int),rest=vs.zip ws /\
   IntsAre vs ns'/\IntsAre ws ms'/\ns'.length+items2.size=ms'.length+items.size/\R (.ok (.ret (.bool (lexLt ns' ms')))) ⟨hp,g,d,tk,os⟩) _
  case turn =>
   rintro⟨y,x⟩ rest b s' ⟨hb',rfl,vs,ws,ns',ms',hz,hvi,hwi,hlen,hR⟩;cases hvi with
   |nil=>rw[List.zip_nil_left] at hz;cases hz
   |cons a t hvi' =>
    cases hwi with
    |nil=>rw[List.zip_nil_right] at hz;cases hz
    |cons c u hwi' =>
     rw[il] at hz;injection hz with hyx hrest
     injection hyx with hy hx
     subst hy hx;rw[lD] at hR;simp only[List.length_cons] at hlen;obtain⟨e,he,hiff⟩:=pJ A.in1 ⟨hp,g,d,tk,os⟩ a t c u;refine wpAny_bind (he prog w _ _ ?_);cases e with
     |true =>
      rw[if_pos (hiff.mp rfl)] at hR
      wp_walk
      exact⟨rfl,rfl,_,_,_,_,hrest,hvi',hwi',by omega,hR⟩
     |false =>
      rw[if_neg (fun q=>absurd (hiff.mpr q) ao)] at hR;have hri:=lr A.in1 ⟨hp,g,d,tk,os⟩ a t c u prog w
      wp_walk using hri
      exact⟨_,rfl,by simpa using hR⟩
  case fin =>
   rintro⟨b1,b2⟩ s' ⟨hb',rfl,vs,ws,ns',ms',hz,hvi,hwi,hlen,hR⟩;simp only at hb';subst hb';have hv:lexLt ns' ms'=decide (items.size<items2.size):=by
    cases hvi with
    |nil =>
     cases hwi with
     |nil =>
      simp only[List.length_nil] at hlen;rw[mD];exact (aq (by omega)).symm
     |cons c u hw =>
      simp only[List.length_nil,List.length_cons] at hlen;rw[kU];exact (ba (by omega)).symm
    |cons a t hv =>
     cases hwi with
     |nil =>
      simp only[List.length_nil,List.length_cons] at hlen;rw[me];exact (aq (by omega)).symm
     |cons c u hw =>
      rw[il] at hz;cases hz
   rw[hv] at hR
   wp_walk
   exact⟨_,rfl,by simpa[Builtin.Tuple.tupleCompareSizes] using hR⟩
  case h =>
   exact⟨rfl,rfl,items.toList,items2.toList,ns,ms,rfl,hi,hj,by omega,h⟩
end
section
variable {prog:Program}{w:World}{A:Around}{E:Value->Shared->Prop}{s:Shared}
theorem sk {l b:Addr}{items items2:Array Value}{ns ms:List Int}{Q:Value->Shared->Prop}(hl:IsTup s.heap l items)(hb:IsTup s.heap b items2)(hi:IntsAre items.toList ns)(hj:IntsAre items2.toList ms)
  (hu:A.units<cLine) (h:Q (.bool (lexLt ns ms)) s):wpAny (model prog w) A (compareOp .Lt (.ref l) (.ref b)) Q E s:=by
 obtain⟨⟨cls,dd,data,sl⟩,ho,hc,n,hd⟩:=id hl;obtain⟨⟨cls2,dd2,data2,sl2⟩,ho2,hc2,n2,hd2⟩:=id hb;simp only at hc hd hc2 hd2;subst hc hd hc2 hd2;exact richCompare_meets_room (op:=.Lt) ⟨_,ho,rfl⟩ ⟨_,ho2,rfl⟩ PySem.F.slot_tuple_lt PySem.F.entry_tuple_lt (PySem.F.args_tuple_lt_2 _ _) (mG l b items items2 n n2 dd dd2 sl sl2 ns ms hi hj)
  ⟨ho,ho2,show Value.bool (lexLt ns ms)≠Value.notImplemented/\Q (.bool (lexLt ns ms)) s from ⟨(fun x=>nomatch x),h⟩⟩ hu
theorem An {t b:Addr}{vs ws:List Value}{Q:Value->Shared->Prop}(ht:IsTup s.heap t vs.toArray)(hb:IsTup s.heap b ws.toArray)(hv:vs≠[])
  (h1:ws=[]->Q (.ref t) s) (h2:ws≠[]->Q (.ref s.heap.objs.size) { s with heap:=s.heap.push { cls:=.type "tuple",data:=.seq (vs++ws).toArray } })
  (hsz:vs.length+ws.length<=sizeLine):wpAny (model prog w) A (binaryOp .Add (.ref t) (.ref b)) Q E s:=by
 obtain⟨⟨cls,dd,data,sl⟩,ho,hc,n,hd⟩:=id ht;obtain⟨⟨cls2,dd2,data2,sl2⟩,ho2,hc2,n2,hd2⟩:=id hb;simp only at hc hd hc2 hd2;subst hc hd hc2 hd2;have e:vs.toArray++ws.toArray=(vs++ws).toArray:=by simp
 by_cases hw:ws=[]
 ·exact concat_meets ⟨_,ho,rfl⟩ ⟨_,ho2,rfl⟩ noFill_tuple_add seq_tuple_add PySem.F.slot_tuple_add PySem.F.entry_tuple_add (PySem.F.args_tuple_add_2 _ _)
   (tuple_addW1 t b vs.toArray ws.toArray n n2 dd dd2 sl sl2 (by simpa using hv) (by simp[hw])) ⟨ho,ho2,h1 hw⟩
 ·refine concat_meets ⟨_,ho,rfl⟩ ⟨_,ho2,rfl⟩ noFill_tuple_add seq_tuple_add PySem.F.slot_tuple_add PySem.F.entry_tuple_add (PySem.F.args_tuple_add_2 _ _)
   (tuple_addW2 t b vs.toArray ws.toArray n n2 dd dd2 sl sl2 (by simpa using hv) (by simpa using hw) (by rw[List.size_toArray,List.size_toArray];exact hsz)) ⟨ho,ho2,?_⟩
  rw[e];exact h2 hw
noncomputable def aU (n d:Nat):Option Int->Nat
 |none=>d
 |some v=>if v<0 then (v+(n:Int)).toNat else min v.toNat n
theorem kO (n d k:Nat):aU n d (some (k:Int))=min k n:=by
 show (if (k:Int)<0 then ((k:Int)+(n:Int)).toNat else min (k:Int).toNat n)=min k n;rw[if_neg (by omega),bo]
theorem oB (n d:Nat)(hd:d<=n)(o:Option Int):aU n d o<=n:=by
 cases o with
 |none=>exact hd
 |some v =>
  show (if v<0 then (v+(n:Int)).toNat else min v.toNat n)<=n;by_cases hv:v<0
  ·rw[if_pos hv];omega
  ·rw[if_neg hv];exact Nat.min_le_right _ _
theorem tF (v:Int)(n d:Nat):(if v<0 then max (v+(n:Int)) 0 else min v (n:Int))=((aU n d (some v):Nat):Int):=by
 show (if v<0 then max (v+(n:Int)) 0 else min v (n:Int))=(((if v<0 then (v+(n:Int)).toNat else min v.toNat n):Nat):Int);by_cases hv:v<0
 ·simp only[if_pos hv];omega
 ·simp only[if_neg hv];omega
theorem rA (lo hi:Option Int)(n:Nat):Builtin.Slice.sliceAdjust lo hi 1 (n:Int)=(((aU n 0 lo:Nat):Int),((aU n n hi:Nat):Int)):=by
 have h1:¬ ((1:Int)<0):=by omega
 unfold Builtin.Slice.sliceAdjust;simp only[h1,if_false];refine Prod.ext ?_ ?_
 ·cases lo with
  |none=>rfl
  |some v=>exact tF v n 0
 ·cases hi with
  |none=>rfl
  |some v=>exact tF v n n
theorem qY (i j:Nat):Builtin.Slice.slicePlaces (i:Int) (j:Int) 1=j - i:=by
 unfold Builtin.Slice.slicePlaces;have h1:(1:Int) > 0:=by omega
 simp only[h1,if_true,Int.ediv_one];split<;>omega
theorem lG {v:Value}{o:Option Int}{Q:Option Int->Shared->Prop}(p:IsPart v o)(h:Q o s):wpAny (model prog w) A (Builtin.Slice.slicePartIndex v) Q E s:=by
 cases p with
 |none=>exact slicePart_none h
 |int i t=>exact slicePart_int h
theorem jZ {sl:Addr}{vl vu:Value}{lo hi:Option Int}{n:Nat}{Q:Int×Int×Nat->Shared->Prop}(hs:s.heap.IsSliceOf sl vl vu .none)(pl:IsPart vl lo)(pu:IsPart vu hi)
  (h:Q (((aU n 0 lo:Nat):Int),1,aU n n hi - aU n 0 lo) s):wpAny (model prog w) A (Builtin.Slice.sliceApplied (.ref sl) (pure (n:Int))) Q E s:=by
 obtain⟨os,hos,hcs,hds⟩:=id hs;unfold Builtin.Slice.sliceApplied Builtin.Slice.sliceFields;refine wpAny_bind (wpAny_bind (wpAny_field hos hds (x:=vl) rfl (wpAny_bind (wpAny_field hos hds (x:=vu) rfl (wpAny_bind (wpAny_field hos hds (x:=.none) rfl (wpAny_pure ?_)))))));refine wpAny_bind (slicePart_none ?_);show wpAny _ _ (if ((1:Int)==0)=true then _ else _) _ _ s;rw[if_neg (by decide)];refine wpAny_bind (lG pl (wpAny_bind (lG pu (wpAny_bind (wpAny_pure ?_)))));show wpAny _ _ (match Builtin.Slice.sliceAdjust lo hi 1 (n:Int) with | (lo,hi)=>pure (lo,(1:Int),Builtin.Slice.slicePlaces lo hi 1)) _ _ s;rw[rA lo hi n];show wpAny _ _ (pure (((aU n 0 lo:Nat):Int),(1:Int),Builtin.Slice.slicePlaces ((aU n 0 lo:Nat):Int) ((aU n n hi:Nat):Int) 1)) _ _ s;rw[qY];exact wpAny_pure h
theorem yF (xs:Array Value)(i k:Nat):((List.range k).filterMap fun (m:Nat)=>xs[((i:Int)+(m:Int)*1).toNat]?).toArray=((xs.toList.drop i).take k).toArray:=by
 have e:(fun (m:Nat)=>xs[((i:Int)+(m:Int)*1).toNat]?)=fun m=>xs[i+m]?:=by
  funext m;have:((i:Int)+(m:Int)*1).toNat=i+m:=by omega
  rw[this]
 rw[e];have:=pick_run xs i k;rw[List.filterMap_map] at this;have e2:((fun x=>xs[x]?)∘fun x=>i+x)=fun m=>xs[i+m]?:=rfl
 rw[e2] at this;rw[this]
theorem jF {t sl:Addr}{items:Array Value}{vl vu:Value}{lo hi:Option Int}{Q:Value->Shared->Prop}(ht:IsTup s.heap t items)(hs:s.heap.IsSliceOf sl vl vu .none)(pl:IsPart vl lo)(pu:IsPart vu hi)
  (hw:¬ (aU items.size 0 lo=0/\aU items.size items.size hi=items.size))
  (h:Q (.ref s.heap.objs.size) { s with heap:=s.heap.push { cls:=.type "tuple",data:=.seq ((items.toList.drop (aU items.size 0 lo)).take (aU items.size items.size hi - aU items.size 0 lo)).toArray } })
  (hsz:items.size<=sizeLine):wpAny (model prog w) A (getItem (.ref t) (.ref sl)) Q E s:=by
 have htake:sizeOk (.seq ((items.toList.drop (aU items.size 0 lo)).take (aU items.size items.size hi - aU items.size 0 lo)).toArray):=by
  show ((items.toList.drop (aU items.size 0 lo)).take (aU items.size items.size hi - aU items.size 0 lo)).toArray.size<=sizeLine;rw[ai,bp,bt,df];omega
 have hj:aU items.size items.size hi<=items.size:=oB _ _ (aw _) hi;obtain⟨os,hos,hcs,hds⟩:=id hs;have hTs:s.TypeIs (.ref sl) "slice":=⟨os,hos,hcs⟩;unfold getItem
 try with_reducible refine wpAny_holding ?_
 first | refine wpAny_bind (wpAny_pure ?_) | skip
 refine wpAny_bind (wpAny_sequenceKey ht.typeIs (by decide) ?_);refine wpAny_bind (wpAny_callSpecial?_slot (name:=Str.ofString "__getitem__") ht.typeIs PyProof.Rows.slot_tuple_getitem
  (wpAny_call_entry PyProof.Rows.slot_tuple_getitem ht.typeIs entry_tuple_getitem ?_ (args_tuple_getitem _ _)))
 show wpAny _ _ (Builtin.Tuple.tupleItemsOf (.ref t) >>= _) _ _ s;refine wpAny_bind (tupleItemsOf_ ht ?_);refine wpAny_bind (wpAny_typeOf hTs ?_);rw[if_pos (by decide)];refine wpAny_bind (jZ hs pl pu ?_);have hno:¬ ((((aU items.size 0 lo:Nat):Int)==0&&(1:Int)==1&&(aU items.size items.size hi - aU items.size 0 lo)==items.size)=true):=by
  intro q;rw[ag,ag] at q;have q1:((aU items.size 0 lo:Nat):Int)=0:=eq_of_beq q.1.1;have q2:aU items.size items.size hi - aU items.size 0 lo=items.size:=eq_of_beq q.2;exact hw ⟨by omega,by omega⟩
 show wpAny _ _ (if (((aU items.size 0 lo:Nat):Int)==0&&(1:Int)==1&&(aU items.size items.size hi - aU items.size 0 lo)==items.size)=true then _ else _) _ _ s;rw[if_neg hno,yF]
 first
  | exact wpAny_bind (m:=Builtin.Tuple.tupleExact _) (wpAny_newObj_type (wpAny_pure ⟨_,rfl,wpAny_pure h⟩) htake)
  | exact wpAny_bind (m:=Builtin.Tuple.tupleExact _) (wpAny_newObj_type (wpAny_bind (wpAny_pure (wpAny_pure ⟨_,rfl,wpAny_pure h⟩))) htake)
  | exact wpAny_bind (wpAny_bind (m:=Builtin.Tuple.tupleExact _) (wpAny_newObj_type (wpAny_pure (wpAny_pure ⟨_,rfl,wpAny_pure h⟩)) htake))
  | exact wpAny_bind (wpAny_bind (m:=Builtin.Tuple.tupleExact _) (wpAny_newObj_type (wpAny_pure ⟨_,rfl,wpAny_pure h⟩) htake))
end
end HT
namespace L2
open PySem PySem.Spec PyProof.Rows
noncomputable abbrev TO:=St->Hp->(Option Int->Hp->Prop)->Prop
noncomputable def PO (X:Cx)(e:Option Expr)(t:TO):Prop :=
 ∀(pins:List (Addr×Obj)) (s:Shared) (σ:St) (H:Hp) (Q:Option Int->Hp->Prop),Inv X pins σ H s->t σ H Q ->
  wpAny (model X.prog X.w) X.A (evalPart e X.env) (fun u s'=>∃ o H',Inv X pins σ H' s'/\IsPart u o/\Q o H') X.xe s
noncomputable def Ak:TO:=fun _ H Q=>Q none H
noncomputable def Fp (t:TE):TO:=fun σ H Q=>t σ H fun x H1=>∃ i,x = .int i/\Q (some i) H1
section
variable {X:Cx}{e:Expr}{te:TE}{lo hi:Option Expr}{tl th:TO}{pos p2:Pos}
theorem zz:PO X none Ak:=by
 intro pins s σ H Q I h;rw[evalPart_none];exact wpAny_pure ⟨none,H,I,.none,h⟩
theorem nY (h:PE X e te):PO X (some e) (Fp te):=by
 intro pins s σ H Q I hw;rw[evalPart_some];refine cH (h pins s σ H _ I hw) fun u s1 ⟨x,H1,I1,r1,q1⟩=>?_
 obtain⟨i,rfl,q⟩:=q1;obtain⟨t,rfl⟩:=r1;exact⟨some i,H1,I1,.int i t,q⟩
noncomputable def BH (X:Cx)(r:V->Option Int->Option Int->Hp->VK->Prop):Prop :=
 ∀(pins:List (Addr×Obj)) (s:Shared) (σ:St) (H:Hp) (x:V) (v vl vu:Value) (lo hi:Option Int) (sl:Addr) (Q:VK),Inv X pins σ H s->RelV x v->s.heap.IsSliceOf sl vl vu .none->IsPart vl lo->IsPart vu hi->r x lo hi H Q ->
  ∃ T id,typeLookup (.type T) "__getitem__" = pure (some (.builtin id))/\s.TypeIs v T/\wpAny (model X.prog X.w) X.A (getItem v (.ref sl)) (EP X pins σ Q) X.xe s
theorem BH.or {r r':V->Option Int->Option Int->Hp->VK->Prop}(h:BH X r)(h':BH X r'):BH X (fun x lo hi H Q=>r x lo hi H Q\/r' x lo hi H Q):=by
 intro pins s σ H x v vl vu lo hi sl Q I rx hs pl pu q;rcases q with q | q
 ·exact h pins s σ H x v vl vu lo hi sl Q I rx hs pl pu q
 ·exact h' pins s σ H x v vl vu lo hi sl Q I rx hs pl pu q
def tSl (r:V->Option Int->Option Int->Hp->VK->Prop)(te:TE)(tl th:TO):TE:=fun σ H Q=>te σ H fun x H1=>tl σ H1 fun l H2=>th σ H2 fun u H3=>r x l u H3 Q
theorem pL {r:V->Option Int->Option Int->Hp->VK->Prop}(hr:BH X r)(he:PE X e te)(hl:PO X lo tl)(hu:PO X hi th):PE X (.Subscript e (.Slice lo hi none p2) pos) (tSl r te tl th):=by
 intro pins s σ H Q I h;refine Subscript_ (cH (he pins s σ H _ I h) fun v s1 ⟨x,H1,I1,r1,q1⟩=>?_);refine wpAny_Slice (cH (hl pins s1 σ H1 _ I1 q1) fun vl s2 ⟨l,H2,I2,pl,q2⟩=>cH (hu pins s2 σ H2 _ I2 q2) fun vu s3 ⟨u,H3,I3,pu,q3⟩=>?_);rw[evalPart_none];refine wpAny_pure ?_;have I4:Inv X pins σ H3 { s3 with heap:=s3.heap.push { cls:=.type "slice",data:=.fields #[vl,vu,.none] } }:=I3.kept (t':=s3.toks) fun b ob q=>Heap.get?_push_of_some _ q
 obtain⟨T,id,hT,ht,hg⟩:=hr pins { s3 with heap:=s3.heap.push { cls:=.type "slice",data:=.fields #[vl,vu,.none] } } σ H3 x v vl vu l u s3.heap.objs.size Q I4 r1 (Heap.IsSliceOf.new ..) pl pu q3;show wpAny (model X.prog X.w) X.A (subscriptTail e (.Slice lo hi none p2) v (.ref s3.heap.objs.size)) (EP X pins σ Q) X.xe { s3 with heap:=s3.heap.push { cls:=.type "slice",data:=.fields #[vl,vu,.none] } };exact tail_any (ops:=[.ref s3.heap.objs.size,v]) ht hT hg (by with_unfolding_all rfl)
noncomputable def kC (xs:List V)(lo hi:Option Int):List V:=(xs.drop (HT.aU xs.length 0 lo)).take (HT.aU xs.length xs.length hi - HT.aU xs.length 0 lo)
theorem ki (xs:List V)(lo hi:Option Int):(kC xs lo hi).length<=xs.length:=by
 unfold kC;rw[bp,bt];omega
def rSlT (K:PySem.W.Frag):V->Option Int->Option Int->Hp->VK->Prop:=fun x lo hi H Q=>∃ a xs,x = .ref a/\je K H a xs /\
 ¬ (HT.aU xs.length 0 lo=0/\HT.aU xs.length xs.length hi=xs.length)/\∀ p,H p=none->Q (.ref p) (upd H p (.tup (kC xs lo hi)))
theorem De:BH X (rSlT X.K):=by
 intro pins s σ H x v vl vu lo hi sl Q I rx hs pl pu h;obtain⟨a,xs,rfl,hx,hw,q⟩:=h;cases rx;obtain⟨its,r,ht,hz⟩:=I.tuple hx;have hlen:its.toArray.size=xs.length:=by rw[ai];exact r.length.symm
 refine⟨"tuple",_,PyProof.Rows.slot_tuple_getitem.lookup,ht.typeIs,?_⟩;refine HT.jF ht hs pl pu (by rw[hlen];exact hw) ?_ (by rw[hlen];exact hz);rw[hlen];refine⟨.ref s.heap.objs.size,_,I.laid (t':=s.toks) (o:=.tup (kC xs lo hi)) (fun b ob q=>Heap.get?_push_of_some _ q) (aw _) ?_,rfl,q _ (I.hok.fresh (aw _))⟩;exact⟨bg (ki xs lo hi) hz,_,(r.drop (HT.aU xs.length 0 lo)).take (HT.aU xs.length xs.length hi - HT.aU xs.length 0 lo),IsTup.new _ _⟩
noncomputable def Gu (K:PySem.W.Frag):R2:=fun x y H Q=>∃ a b xs ys,x = .ref a/\y = .ref b/\je K H a xs/\je K H b ys/\xs≠[]/\xs.length+ys.length<=sizeLine /\
 (ys=[]->Q (.ref a) H)/\(ys≠[]->∀ p,H p=none->Q (.ref p) (upd H p (.tup (xs++ys))))
theorem aN.nil_iff {xs:List V}{us:List Value}(r:aN xs us):us=[]↔xs=[]:=by
 cases r with
 |nil=>simp
 |cons _ _=>simp
theorem AA:gJ X (binaryOp .Add) (Gu X.K):=by
 intro pins s σ H x y v u Q I rx ry h;obtain⟨a,b,xs,ys,rfl,rfl,ha,hb,hx,hz,q1,q2⟩:=h;cases rx;cases ry;obtain⟨its,r1,p1,_⟩:=I.tuple ha;obtain⟨its2,r2,p2,_⟩:=I.tuple hb;refine HT.An p1 p2 (fun z=>hx (r1.nil_iff.mp z)) (fun z=>⟨.ref a,H,I,rfl,q1 (r2.nil_iff.mp z)⟩) (fun z=>?_) (by rw[<-r1.length,<-r2.length];exact hz);refine⟨.ref s.heap.objs.size,_,I.laid (t':=s.toks) (o:=.tup (xs++ys)) (fun b ob q=>Heap.get?_push_of_some _ q) (aw _) ?_,rfl,q2 (fun w=>z (r2.nil_iff.mpr w)) _ (I.hok.fresh (aw _))⟩;exact⟨by rw[aj];exact hz,_,r1.append r2,IsTup.new _ _⟩
end
end L2
namespace L2
open PySem PySem.Spec PyProof.Rows
noncomputable def iZ (n:Nat)(i:Int):Option Nat:=if 0<=i then (if i<n then some i.toNat else none) else if -(n:Int)<=i then some (i+n).toNat else none
noncomputable def Cj {α:Type}(xs:List α)(i:Int):Option α:=(iZ xs.length i).bind fun j=>xs[j]?
theorem zb {n:Nat}{i:Int}{j:Nat}(h:iZ n i=some j):seqIndex? i n=some j/\j<n/\-(n:Int)<=i/\i<n:=by
 unfold iZ at h;by_cases h0:0<=i
 ·rw[if_pos h0] at h;by_cases h1:i<n
  ·rw[if_pos h1] at h;have e:i.toNat=j:=cw h;exact⟨by rw[seqIndex_of h0 h1,e],by omega,by omega,h1⟩
  ·rw[if_neg h1] at h;cases h
 ·rw[if_neg h0] at h;by_cases h1 : -(n:Int)<=i
  ·rw[if_pos h1] at h;have e:(i+n).toNat=j:=cw h;exact⟨by rw[seqIndex_neg (by omega) h1,e],by omega,h1,by omega⟩
  ·rw[if_neg h1] at h;cases h
theorem nR {α:Type}{xs:List α}{i:Int}{v:α}(h:Cj xs i=some v):∃ j,seqIndex? i xs.length=some j/\xs[j]? = some v/\j<xs.length/\-(xs.length:Int)<=i/\i<xs.length:=by
 unfold Cj at h;cases e:iZ xs.length i with
 |none=>rw[e] at h;cases h
 |some j =>
  rw[e] at h;obtain⟨h1,h2,h3,h4⟩:=zb e;exact⟨j,h1,h,h2,h3,h4⟩
def nV (b:Expr):Prop:=∀ o i,subscripted b false o i=operate [o,i] (getItem o i)
noncomputable def Ey (X:Cx)(r:R2):Prop :=
 ∀(value slice:Expr) (pins:List (Addr×Obj)) (s:Shared) (σ:St) (H:Hp) (x y:V) (v u:Value) (Q:VK),Inv X pins σ H s->RelV x v->RelV y u->r x y H Q ->
  subscripted slice false v u=operate [v,u] (getItem v u)->wpAny (model X.prog X.w) X.A (subscriptTail value slice v u) (EP X pins σ Q) X.xe s
noncomputable def yN (X:Cx)(id:String)(r:V->List V->Hp->VK->Prop):Prop :=
 ∀(pins:List (Addr×Obj)) (s:Shared) (σ:St) (H:Hp) (x:V) (xs:List V) (v:Value) (us:List Value) (Q:VK),Inv X pins σ H s->RelV x v->aN xs us->r x xs H Q ->
  wpAny (model X.prog X.w) X.A (call (.builtin id) (v::us)) (EP X pins σ Q) X.xe s
section
variable {X:Cx}{a b:Expr}{ta tb:TE}{pos:Pos}
theorem GR {r:R2}(hr:Ey X r)(ha:PE X a ta)(hb:PE X b tb)(hs:nV b):PE X (.Subscript a b pos) (E4 r ta tb):=by
 intro pins s σ H Q I h;exact Subscript_ (DZ ha hb I h fun v u s2 x y H2 I2 rx ry q=>hr a b pins s2 σ H2 x y v u Q I2 rx ry q (hs _ _))
noncomputable def rIxL (K:PySem.W.Frag):R2:=fun x y H Q=>∃ p xs i v,x = .ref p/\y = .int i/\oJ K H p xs/\Cj xs i=some v/\Q v H
noncomputable def rIxT (K:PySem.W.Frag):R2:=fun x y H Q=>∃ p xs i v,x = .ref p/\y = .int i/\je K H p xs/\Cj xs i=some v/\Q v H
noncomputable def rIxS:R2:=fun x y H Q=>∃ z i c,x = .str z/\y = .int i/\z.length<=sizeLine/\Cj z.cps.toList i=some c/\Q (.str ⟨#[c]⟩) H
theorem zl:Ey X (rIxL X.K):=by
 intro value slice pins s σ H x y v u Q I rx ry h hs;obtain⟨p,xs,i,z,rfl,rfl,hq,he,q⟩:=h;cases rx;obtain⟨t,rfl⟩:=ry;obtain⟨its,r,pl,hz⟩:=I.list hq;obtain⟨j,h1,h2,h3,h4,h5⟩:=nR he;obtain⟨w,ew,rw'⟩:=r.get h2;have hl:=r.length;have hn:=jO;have fin:EP X pins σ Q w s:=⟨z,H,I,rw',q⟩;by_cases h0:0<=i
 ·have hj:i.toNat=j:=by
   rw[seqIndex_of h0 h5] at h1;exact cw h1
  exact item_listR pl.isList h0 (by omega) (by rw[hj];simpa using ew) fin hs
 ·have hj:(i+(its.toArray.size:Int)).toNat=j:=by
   rw[seqIndex_neg (by omega) h4] at h1;rw[ai,<-hl];exact cw h1
  exact subscriptTail_builtinR (x:=w) pl.isList.typeIs slot_list_getitem.lookup
   (wpAny_getItem_list_neg (Q:=fun r s'=>r=w/\EP X pins σ Q r s') pl.isList (by omega) (by rw[List.size_toArray]<;>omega) (by omega) (by rw[hj];simpa using ew) ⟨rfl,fin⟩) hs
theorem DW:Ey X (rIxT X.K):=by
 intro value slice pins s σ H x y v u Q I rx ry h hs;obtain⟨p,xs,i,z,rfl,rfl,hq,he,q⟩:=h;cases rx;obtain⟨t,rfl⟩:=ry;obtain⟨its,r,pl,hz⟩:=I.tuple hq;obtain⟨j,h1,h2,h3,h4,h5⟩:=nR he;obtain⟨w,ew,rw'⟩:=r.get h2;have hl:=r.length;have hn:=jO;have fin:EP X pins σ Q w s:=⟨z,H,I,rw',q⟩;exact subscriptTail_builtinR (x:=w) pl.typeIs slot_tuple_getitem.lookup
  (getItem_tuple (j:=j) (Q:=fun r s'=>r=w/\EP X pins σ Q r s') pl (by omega) (by omega) (by rw[List.size_toArray,<-hl];exact h1) (by simpa using ew) ⟨rfl,fin⟩) hs
theorem Em:Ey X rIxS:=by
 intro value slice pins s σ H x y v u Q I rx ry h hs;obtain⟨z,i,c,rfl,rfl,hz,he,q⟩:=h;obtain⟨t,rfl⟩:=rx;obtain⟨t',rfl⟩:=ry;obtain⟨j,h1,h2,h3,h4,h5⟩:=nR he;have hl:z.cps.toList.length=z.length:=by simp[Str.length]
 rw[hl] at h1 h4 h5;have hn:=jO;exact tail_any (typeIs_str s z t) slot_str_getitem.lookup (getItem_str (c:=c) (by
  have e1:decide (i < -(2 ^ 63:Int))=false:=aq (by omega);have e2:decide (i ≥ 2 ^ 63)=false:=aq (by omega);rw[e1,e2,Bool.or_false]) (by rw[h1];simpa using h2) ⟨.str ⟨#[c]⟩,H,I.tok _,⟨_,rfl⟩,q⟩) hs
theorem nX (lo hi:Option Int)(n:Nat):(sliceBounds lo hi none n).1=((HT.aU n 0 lo:Nat):Int)/\(sliceBounds lo hi none n).2.1=((HT.aU n n hi:Nat):Int)/\(sliceBounds lo hi none n).2.2=1:=by
 refine⟨?_,?_,rfl⟩
 ·cases lo with
  |none=>simp[sliceBounds,HT.aU]
  |some i =>
   simp only[sliceBounds,HT.aU,Option.getD_none,show (1:Int) > 0 by decide,if_true];by_cases h:i<0
   ·simp only[h,if_true]<;>omega
   ·simp only[h,if_false]<;>omega
 ·cases hi with
  |none=>simp[sliceBounds,HT.aU]
  |some i =>
   simp only[sliceBounds,HT.aU,Option.getD_none,show (1:Int) > 0 by decide,if_true];by_cases h:i<0
   ·simp only[h,if_true]<;>omega
   ·simp only[h,if_false]<;>omega
theorem mz (its:List Value)(lo hi:Option Int):slicePick its.toArray lo hi none=((its.drop (HT.aU its.length 0 lo)).take (HT.aU its.length its.length hi - HT.aU its.length 0 lo)).toArray:=by
 obtain⟨h1,h2,h3⟩:=nX lo hi its.toArray.size;unfold slicePick;rw[h1,h2,h3];simp only[sliceRange_one,pick_run,List.size_toArray]<;>rfl
def rSlL (K:PySem.W.Frag):V->Option Int->Option Int->Hp->VK->Prop:=fun x lo hi H Q=>∃ a xs,x = .ref a/\oJ K H a xs/\∀ p,H p=none->Q (.ref p) (upd H p (.lst (kC xs lo hi)))
theorem sO:BH X (rSlL X.K):=by
 intro pins s σ H x v vl vu lo hi sl Q I rx hs pl pu h;obtain⟨a,xs,rfl,hx,q⟩:=h;cases rx;obtain⟨its,r,ht,hz⟩:=I.list hx;have hlen:=r.length;refine⟨"list",_,slot_list_getitem.lookup,ht.isList.typeIs,?_⟩;refine wpAny_getItem_list_slice ht.isList hs pl pu .none (by simp) ?_ (by rw[List.size_toArray]<;>omega);rw[mz,<-hlen];refine⟨.ref s.heap.objs.size,_,I.laid (t':=s.toks) (o:=.lst (kC xs lo hi)) (fun b ob q=>Heap.get?_push_of_some _ q) (aw _) ?_,rfl,q _ (I.hok.fresh (aw _))⟩;exact⟨bg (ki xs lo hi) hz,_,0,(r.drop (HT.aU xs.length 0 lo)).take (HT.aU xs.length xs.length hi - HT.aU xs.length 0 lo),Heap.get?_push_size _ rfl⟩
noncomputable def iE:V->Bool
 |.non=>true
 |.bl _=>true
 |.int _=>true
 |.str _=>true
 |_=>false
noncomputable def yO:V->V->Bool
 |.non,.non=>true
 |.bl a,.bl b=>a==b
 |.bl a,.int b=>(if a then 1 else 0)==b
 |.int a,.bl b=>a==(if b then 1 else 0)
 |.int a,.int b=>a==b
 |.str a,.str b=>a==b
 |_,_=>false
theorem El {A:Around}{s:Shared}{y x:V}{u v:Value}(ry:RelV y u)(rx:RelV x v)(fy:iE y=true)(fx:iE x=true):SeqAt.EqAt A s u v (yO y x):=by
 cases y with
 |non =>
  cases ry;cases x with
  |non=>cases rx;exact SeqAt.EqAt.same _
  |bl b=>cases rx;exact SeqAt.EqAt.none_bool b
  |int b=>obtain⟨t,rfl⟩:=rx;exact SeqAt.EqAt.none_int b t
  |str b=>obtain⟨t,rfl⟩:=rx;exact SeqAt.EqAt.none_str b t
  |_=>exact absurd (show false=true from fx) ao
 |bl a =>
  cases ry;cases x with
  |non=>cases rx;exact SeqAt.EqAt.bool_none a
  |bl b=>cases rx;exact SeqAt.EqAt.bool_bool a b
  |int b=>obtain⟨t,rfl⟩:=rx;exact SeqAt.EqAt.bool_int a b t
  |str b=>obtain⟨t,rfl⟩:=rx;exact SeqAt.EqAt.bool_str a b t
  |_=>exact absurd (show false=true from fx) ao
 |int a =>
  obtain⟨t',rfl⟩:=ry;cases x with
  |non=>cases rx;exact SeqAt.EqAt.int_none a t'
  |bl b=>cases rx;exact SeqAt.EqAt.int_bool a t' b
  |int b=>obtain⟨t,rfl⟩:=rx;exact SeqAt.EqAt.int_int a t' b t
  |str b=>obtain⟨t,rfl⟩:=rx;exact SeqAt.EqAt.int_str a t' b t
  |_=>exact absurd (show false=true from fx) ao
 |str a =>
  obtain⟨t',rfl⟩:=ry;cases x with
  |non=>cases rx;exact SeqAt.EqAt.str_none a t'
  |bl b=>cases rx;exact SeqAt.EqAt.str_bool a t' b
  |int b=>obtain⟨t,rfl⟩:=rx;exact SeqAt.EqAt.str_int a t' b t
  |str b=>obtain⟨t,rfl⟩:=rx;exact SeqAt.EqAt.str_str a t' b t
  |_=>exact absurd (show false=true from fx) ao
 |_=>exact absurd (show false=true from fy) ao
noncomputable def rE (x:V)(u:Value):Bool:=match u with
 |.none=>yO .non x
 |.bool b=>yO (.bl b) x
 |.int i _=>yO (.int i) x
 |.str z _=>yO (.str z) x
 |_=>false
theorem wa {x y:V}{u:Value}(r:RelV y u)(f:iE y=true):rE x u=yO y x:=by
 cases y with
 |non=>cases r;rfl
 |bl b=>cases r;rfl
 |int i=>obtain⟨t,rfl⟩:=r;rfl
 |str z=>obtain⟨t,rfl⟩:=r;rfl
 |_=>exact absurd (show false=true from f) ao
theorem jh {x:V}:∀{xs:List V}{us:List Value},aN xs us->xs.all iE=true->us.any (rE x)=xs.any fun y=>yO y x
 |_,_,.nil,_=>rfl
 | y::xs,u::us,.cons r t,f=>by
  rw[fu,ag] at f;rw[fh,fh,wa r f.1,jh t f.2]
theorem gR {A:Around}{s:Shared}{x:V}{v:Value}(rx:RelV x v)(fx:iE x=true):∀{xs:List V}{us:List Value},aN xs us->xs.all iE=true->∀ u∈us,SeqAt.EqAt A s u v (rE x u)
 |_,_,.nil,_=>fun u hu=>by cases hu
 | y::xs,u::us,.cons r t,f=>fun u' hu=>by
  rw[fu,ag] at f;rcases g9.mp hu with rfl | hu
  ·rw[wa r f.1];exact El r rx f.1 fx
  ·exact gR rx fx t f.2 u' hu
noncomputable def inV (x:V)(xs:List V):Bool:=xs.any fun y=>yO y x
noncomputable def rIn (K:PySem.W.Frag)(neg:Bool):R2:=fun x y H Q=>∃ p xs,y = .ref p/\(oJ K H p xs\/je K H p xs)/\iE x=true/\xs.all iE=true/\Q (.bl (if neg then !inV x xs else inV x xs)) H
theorem nE:gJ X (compareOp .In) (rIn X.K false):=by
 intro pins s σ H x y v u Q I rx ry h;obtain⟨p,xs,rfl,hq,fx,fs,q⟩:=h;cases ry;rcases hq with hq | hq
 ·obtain⟨its,r,pl,hz⟩:=I.list hq;refine SeqAt.in_listAt (rE x) pl.isList (fun w hw=>gR rx fx r fs w (by simpa using hw)) ⟨.bl _,H,I,rfl,?_⟩;rw[show its.toArray.any (rE x)=its.any (rE x) by simp,jh r fs];exact q
 ·obtain⟨its,r,pl,hz⟩:=I.tuple hq;refine SeqAt.in_tupleAt (rE x) pl (fun w hw=>gR rx fx r fs w (by simpa using hw)) ⟨.bl _,H,I,rfl,?_⟩;rw[show its.toArray.any (rE x)=its.any (rE x) by simp,jh r fs];exact q
theorem jG:gJ X (compareOp .NotIn) (rIn X.K true):=by
 intro pins s σ H x y v u Q I rx ry h;obtain⟨p,xs,rfl,hq,fx,fs,q⟩:=h;cases ry;rcases hq with hq | hq
 ·obtain⟨its,r,pl,hz⟩:=I.list hq;refine SeqAt.notIn_listAt (rE x) pl.isList (fun w hw=>gR rx fx r fs w (by simpa using hw)) ⟨.bl _,H,I,rfl,?_⟩;rw[show its.toArray.any (rE x)=its.any (rE x) by simp,jh r fs];exact q
 ·obtain⟨its,r,pl,hz⟩:=I.tuple hq;refine SeqAt.notIn_tupleAt (rE x) pl (fun w hw=>gR rx fx r fs w (by simpa using hw)) ⟨.bl _,H,I,rfl,?_⟩;rw[show its.toArray.any (rE x)=its.any (rE x) by simp,jh r fs];exact q
theorem oC:gJ X (compareOp .NotIn) (fun x y H Q=>∃ i j,x = .str i/\y = .str j/\Q (.bl (!(!(Builtin.Str.occurrences j i 0 j.length 1).isEmpty))) H):=by
 intro pins s σ H x y v u Q I rx ry h;obtain⟨i,j,rfl,rfl,q⟩:=h;obtain⟨t,rfl⟩:=rx;obtain⟨t',rfl⟩:=ry;exact notIn_str ⟨.bl _,H,I,rfl,q⟩
theorem fX:dY X (.builtin "len") (fun xs H Q=>∃ p ys,xs=[.ref p]/\(oJ X.K H p ys\/je X.K H p ys)/\Q (.int ys.length) H):=by
 intro pins s σ H xs us Q I r h;obtain⟨p,ys,rfl,hq,q⟩:=h;obtain⟨u,rfl,rx⟩:=vals1 r;cases rx;have hn:=jO;rcases hq with hq | hq
 ·obtain⟨its,r',pl,hz⟩:=I.list hq;have hlen:=r'.length;exact Calls.call_len_list pl.isList (by simp only[List.size_toArray]<;>omega) ⟨.int ys.length,H,I.tok _,⟨s.toks+1,by rw[List.size_toArray,hlen]⟩,q⟩
 ·obtain⟨its,r',pl,hz⟩:=I.tuple hq;have hlen:=r'.length;exact len_tuple pl (by simp only[List.size_toArray]<;>omega) ⟨.int ys.length,H,I.tok _,⟨s.toks+1,by rw[List.size_toArray,hlen]⟩,q⟩
theorem oS:dY X (.builtin "len") (fun xs H Q=>∃ z,xs=[.str z]/\z.length<=sizeLine/\Q (.int z.length) H):=by
 intro pins s σ H xs us Q I r h;obtain⟨z,rfl,hz,q⟩:=h;obtain⟨u,rfl,t,rfl⟩:=vals1 r;have hn:=jO;exact len_str (by omega) ⟨.int z.length,H,I.tok _,⟨_,rfl⟩,q⟩
theorem jl:dY X (.type "list") (fun xs H Q=>∃ p ys,xs=[.ref p]/\(oJ X.K H p ys\/je X.K H p ys)/\∀ l,H l=none->Q (.ref l) (upd H l (.lst ys))):=by
 intro pins s σ H xs us Q I r h;obtain⟨p,ys,rfl,hq,q⟩:=h;obtain⟨u,rfl,rx⟩:=vals1 r;cases rx;have fin:∀(its:List Value),aN ys its->ys.length<=sizeLine->∀(h':Heap) (c':Nat),(∀ b o',s.heap.get? b=some o'->h'.get? b=some o') ->
   h'.get? s.heap.objs.size=some { cls:=.type "list",dict:=none,data:=.seq its.toArray c',slots:=#[] }->EP X pins σ Q (.ref s.heap.objs.size) { s with heap:=h' }:=fun its r' hz h' c' kp e =>
  ⟨.ref s.heap.objs.size,_,I.laid (t':=s.toks) kp (aw _) (show bW X.prog X.w _ h' _ (.lst ys) from ⟨hz,its,c',r',e⟩),rfl,q _ (I.hok.fresh (aw _))⟩
 rcases hq with hq | hq
 ·obtain⟨its,r',pl,hz⟩:=I.list hq;have hlen:=r'.length;obtain⟨o,ho,hc,n,hd⟩:=pl.isList;exact call_list_seq p (.inl rfl) ho hc hd (fun h' c' kp e=>fin its r' hz h' c' kp e) (by simp only[List.size_toArray]<;>omega)
 ·obtain⟨its,r',pl,hz⟩:=I.tuple hq;have hlen:=r'.length;obtain⟨o,ho,hc,n,hd⟩:=pl;exact call_list_seq p (.inr rfl) ho hc hd (fun h' c' kp e=>fin its r' hz h' c' kp e) (by simp only[List.size_toArray]<;>omega)
def tyV (K:PySem.W.Frag)(T:String)(x:V)(H:Hp):Prop:=match x with
 |.str _=>T = "str"
 |.int _=>T = "int"
 | .ref p=>(T = "list"/\∃ xs,oJ K H p xs)\/(T = "tuple"/\∃ o,K.lookup p=some o/\o.cls = .type "tuple"/\o.dict=none) \/
   (T = "dict"/\((∃ kvs,H p=some (.dK kvs))\/∃ kvs,H p=some (.dT kvs)))\/(T = "set"/\∃ S n,H p=some (.set S n))
 |_=>False
theorem xR {pins:List (Addr×Obj)}{σ:St}{H:Hp}{s:Shared}{T:String}{x:V}{v:Value}(I:Inv X pins σ H s)(r:RelV x v)(ty:tyV X.K T x H) :
  s.TypeIs v T/\∀ a,v = .ref a->∃ ob,s.heap.get? a=some ob/\ob.dict=none:=by
 cases x with
 |str z =>
  obtain⟨t,rfl⟩:=r;cases (show T = "str" from ty);exact⟨typeIs_str s z t,fun _ e=>nomatch e⟩
 |int i =>
  obtain⟨t,rfl⟩:=r;cases (show T = "int" from ty);exact⟨typeIs_int s i t,fun _ e=>nomatch e⟩
 |ref p =>
  cases r;rcases ty with ⟨rfl,xs,hq⟩ | ⟨rfl,o,hk,hc,hd⟩ | ⟨rfl,hk⟩ | ⟨rfl,S,n,hk⟩
  ·obtain⟨its,_,pl,_⟩:=I.list hq;refine⟨pl.isList.typeIs,fun a e=>?_⟩;cases e;obtain⟨o,n,e,c,hd,_⟩:=pl;exact⟨o,e,hd⟩
  ·refine⟨⟨o,I.kIn p o hk,hc⟩,fun a e=>?_⟩;cases e;exact⟨o,I.kIn _ o hk,hd⟩
  ·have z:∃ o,s.heap.get? p=some o/\o.ExactDict:=by
    rcases hk with ⟨kvs,hk⟩ | ⟨kvs,hk⟩
    ·obtain⟨_,_,_,_,o,_,_,e,ex,_⟩:=I.hok p _ hk;exact⟨o,e,ex⟩
    ·obtain⟨_,_,_,_,o,_,_,e,ex,_⟩:=I.hok p _ hk;exact⟨o,e,ex⟩
   obtain⟨o,e,ex⟩:=z;refine⟨⟨o,e,ex.1⟩,fun a e2=>?_⟩;cases e2;exact⟨o,e,ex.2.1⟩
  ·obtain⟨o,_,_,_,e,ex,_⟩:=I.hok p _ hk;refine⟨⟨o,e,ex.1⟩,fun a e2=>?_⟩;cases e2;exact⟨o,e,ex.2.1⟩
 |_=>exact False.elim ty
def GJ (K:PySem.W.Frag)(T:String)(r:V->List V->Hp->VK->Prop)(to:TE):TE:=fun σ H Q=>to σ H fun x H1=>tyV K T x H1/\r x [] H1 Q
def G9 (K:PySem.W.Frag)(T:String)(r:V->List V->Hp->VK->Prop)(to:TE)(t:TA):TE:=fun σ H Q=>to σ H fun x H1=>tyV K T x H1/\t σ H1 fun xs H2=>r x xs H2 Q
variable {o e:Expr}{es:List Expr}{to:TE}{t:TA}{name:Str}{apos cpos:Pos}{T id:String}{r:V->List V->Hp->VK->Prop}
theorem CH (pa:PlainAttrs T)(slot:Slot T name id)(hty:typeOf (.builtin id)=pure (.type "method_descriptor")) (hm:yN X id r) (ho:PE X o to)
  (hbase:attributeBase o name X.env (eval o X.env)=eval o X.env:=by rfl) (hline:(apos.endLine==cpos.line)=true:=by rfl):PE X (.Call (.Attribute o name apos) [] [] cpos) (GJ X.K T r to):=by
 intro pins s σ H Q I h;refine wpAny_Call_method0_late hbase hline (cH (ho pins s σ H _ I h) fun v s1 ⟨x,H1,I1,r1,ty,q1⟩=>?_);obtain⟨h1,h2⟩:=xR I1 r1 ty;exact⟨T,id,pa,slot,hty,h1,h2,Calls.callWith_builtin rfl (PySem.evalArgs_none (hm pins s1 σ H1 x [] v [] Q I1 r1 .nil q1))⟩
theorem lY (pa:PlainAttrs T)(slot:Slot T name id)(hty:typeOf (.builtin id)=pure (.type "method_descriptor")) (hm:yN X id r) (ho:PE X o to) (ha:PA X (e::es) t)
  (hbase:attributeBase o name X.env (eval o X.env)=eval o X.env:=by rfl)
  (hfew:((backTo cpos (starEach (e::es) X.env)).all (fun x=>!x.1)&&(backToKw cpos (keywordEach [] X.env)).all (fun x=>x.1.isSome)
   && decide ((e::es).length+([]:List Keyword).length+(if ([]:List Keyword).isEmpty then 0 else 1)<30))=true:=by rfl)
  (hline:(apos.endLine==cpos.line)=true:=by rfl) (hs:starEach (e::es) X.env=(false,eval e X.env)::starEach es X.env:=by rfl) (hplain:(backTo cpos (starEach es X.env)).any (·.1)=false:=by rfl) :
  PE X (.Call (.Attribute o name apos) (e::es) [] cpos) (G9 X.K T r to t):=by
 intro pins s σ H Q I h;refine wpAny_Call_method_late hbase hfew hline rfl (cH (ho pins s σ H _ I h) fun v s1 ⟨x,H1,I1,r1,ty,q1⟩=>?_);obtain⟨h1,h2⟩:=xR I1 r1 ty;refine⟨T,id,pa,slot,hty,h1,h2,?_⟩;have hA:=ha cpos pins s1 σ H1 _ I1 q1;rw[hs] at hA ⊢;refine Calls.callWith_builtin (by show (false || (backTo cpos (starEach es X.env)).any (·.1))=false;rw[hplain]<;>rfl) (Calls.evalArgs_plain ?_);exact cH hA fun us s2 ⟨vs,H2,I2,r2,q2⟩=>hm pins s2 σ H2 x vs v us Q I2 r1 r2 q2
end
end L2
namespace L2
open PySem PySem.Spec PyProof.Rows
noncomputable def MtM (X:Cx)(id:String)(r:V->List V->Hp->VK->Prop):Prop :=
 ∀(pins:List (Addr×Obj)) (s:Shared) (σ:St) (H:Hp) (x:V) (xs:List V) (v:Value) (us:List Value) (Q:VK),Inv X pins σ H s->RelV x v->aN xs us->r x xs H Q ->
  wpAny (model X.prog X.w) X.A (call (.builtin id) (v::us)) (EP X pins σ Q) X.xe s
theorem aN.one:∀{x:V}{us:List Value},aN [x] us->∃ u,us=[u]/\RelV x u
 |_,_,.cons r .nil=>⟨_,rfl,r⟩
theorem aN.two:∀{x y:V}{us:List Value},aN [x,y] us->∃ u v,us=[u,v]/\RelV x u/\RelV y v
 | _,_,_,.cons r (.cons q .nil)=>⟨_,_,rfl,r,q⟩
theorem aN.rep {xs:List V}{us:List Value}(h:aN xs us):∀ k:Nat,aN (List.replicate k xs).flatten (List.replicate k us).flatten
 |0=>.nil
 | k+1=>by
  rw[bz,bz,dm,dm];exact aN.append h (aN.rep h k)
theorem foldl_rep (its:List Value):∀(k:Nat) (acc:List Value),
  List.foldl (fun x1 x2=>x1++x2) acc.toArray (List.replicate k its.toArray)=(acc++(List.replicate k its).flatten).toArray
 |0,acc=>by simp
 | k+1,acc=>by
  have e:acc.toArray++its.toArray=(acc++its).toArray:=by simp
  have e2:(acc++its)++(List.replicate k its).flatten=acc++(List.replicate (k+1) its).flatten:=by
   rw[bz,dm,dq]
  rw[<-e2,<-foldl_rep its k (acc++its),<-e,bz,List.foldl_cons]
section
variable {X:Cx}{pins:List (Addr×Obj)}{σ:St}{H:Hp}{s:Shared}{l b:Addr}{xs ys zs:List V}
theorem Inv.lset {its its':List Value}{n:Nat}{f:Array Value->Array Value}{t':Nat}(I:Inv X pins σ H s)(hH:H l=some (.lst xs))
  (e:s.heap.get? l=some { cls:=.type "list",data:=.seq its.toArray n }) (hf:f its.toArray=its'.toArray) (hv:aN ys its') (hz:ys.length<=sizeLine) :
  Inv X pins σ (upd H l (.lst ys)) { s with heap:=s.heap.update l (Obj.mapSeq f),toks:=t' }:=by
 have q:=PySem.IsL.update e f;rw[hf] at q;refine I.write (x:=l) (e:=l) (by rw[hH];exact trivial) (.inl rfl) (fun b' u hb hu=>(Heap.get?_update_other s.heap (Obj.mapSeq f) (dk hb)).trans hu) ⟨_,q⟩ ?_;exact⟨hz,its',_,hv,q⟩
theorem Inv.lnew {its:List Value}{t':Nat}(I:Inv X pins σ H s)(hv:aN ys its)(hz:ys.length<=sizeLine) :
  Inv X pins σ (upd H s.heap.objs.size (.lst ys)) { s with heap:=s.heap.push { cls:=.type "list",data:=.seq its.toArray },toks:=t' } :=
 I.laid (fun _ _ q=>Heap.get?_push_of_some _ q) (aw _) ⟨hz,its,0,hv,Heap.get?_push_size _ rfl⟩
theorem Inv.fresh (I:Inv X pins σ H s):H s.heap.objs.size=none:=I.hok.fresh (aw _)
theorem Inv.lstM (I:Inv X pins σ H s)(hH:H l=some (.lst xs)):xs.length<=sizeLine/\∃(its:List Value) (n:Nat),aN xs its/\xs.length=its.length/\s.heap.get? l=some { cls:=.type "list",data:=.seq its.toArray n }:=by
 obtain⟨z,its,n,r,e⟩:=I.hok l _ hH;exact⟨z,its,n,r,r.length,e⟩
theorem xq {n:Nat}(h:n<=sizeLine):Builtin.List.listTooLong n=false:=by
 unfold Builtin.List.listTooLong;exact aq (by omega)
end
section
variable {X:Cx}
def zU:V->List V->Hp->VK->Prop:=fun x vs H Q=>∃ l xs y,x = .ref l/\vs=[y]/\H l=some (.lst xs)/\xs.length<sizeLine/\Q .non (upd H l (.lst (xs ++ [y])))
theorem jT:MtM X "list.append" zU:=by
 intro pins s σ H x vs v us Q I rx rv h;obtain⟨l,xs,y,rfl,rfl,hH,hz,q⟩:=h;cases rx;obtain⟨u,rfl,ru⟩:=rv.one;obtain⟨z,its,n,r,hl,e⟩:=I.lstM hH;refine call_meets F.slot_list_append ⟨_,e,rfl⟩ F.entry_list_append (F.args_list_append_2 _ _) (PySem.list_append l its.toArray n u (by rw[ai];omega)) ⟨e,?_⟩;refine⟨.non,_,I.lset (its':=its ++ [u]) hH e (by simp) (r.append (.cons ru .nil)) ?_,rfl,q⟩;rw[aj,cz];omega
theorem len_rep {α:Type}(xs:List α)(k:Nat):(List.replicate k xs).flatten.length=k*xs.length:=by
 induction k with
 |zero=>simp
 |succ k ih=>rw[bz,dm,aj,ih,Nat.succ_mul,Nat.add_comm]
end
section
variable {prog:Program}{w:World}{A:Around}{E:Value->Shared->Prop}{s:Shared}
end
section
variable {X:Cx}
end
end L2
namespace Att
open PySem PySem.W PySem.Calls PyProof.Rows
theorem kE {P:Params}{h:Heap}:∀(ns:List Int) (vs:List Value),WellAll P h vs (ns.map WData.int)->IntsAre vs ns:=by
 intro ns
 induction ns with
 |nil =>
  intro vs w;rw[ig] at w;cases w;exact .nil
 |cons n ns ih =>
  intro vs w;rw[ay] at w;cases w with
  |cons a b =>
   cases a;exact .cons _ _ (ih _ b)
theorem uw {l:OpenLaw}{n:Nat}(hn:l.most=some n){P:Params}{h:Heap}{args:List WData}{vals:List Value}
  (hpre:l.row.toRowW.claim.pre args=true) (hwl:WellAll P h vals args) :
  ∃ a vs ns,vals=[Value.ref a]/\args=[WData.list (ns.map WData.int)]/\h.get? a=some { cls:=.type "list",data:=.seq vs.toArray }/\IntsAre vs ns/\ns.length<=n:=by
 have hsh:WShape.hasAll [] args [.list .int]=true:=(pre_splitW hpre).1;have hc:l.pre.holds [] { args:=args }=true:=(pre_splitW hpre).2;obtain⟨d,r,rfl,h1,h2⟩:=hasAllW_cons hsh;obtain rfl:=hasAllW_nil h2;obtain⟨xs,rfl,h3⟩:=hasW_list h1;obtain⟨ns,rfl⟩:=items_int h3;have hlen:ns.length<=n:=by
  unfold OpenLaw.pre at hc;have h4:(WTm.not (.lt (.lit (.int (n:Int))) (.len (.arg 0)))).holds [] { args:=[.list (ns.map .int)] }=true:=by
   have h4:=(holds_andW hc).1;rw[hn] at h4;exact h4
  have h5:=condW_of h4 (w_not (w_lt w_lit (w_len_list (w_arg rfl))));rw[av] at h5;refine iu fun q=>?_
  have q':(n:Int)<((ns.length:Nat):Int):=by omega
  first
   | (rw[ba q'] at h5;exact absurd h5 (by decide))
   | (simp at h5;omega)
 cases hwl with
 |cons w1 w2 =>
  cases w2;cases w1 with
  |list ho hall=>exact⟨_,_,ns,rfl,rfl,ho,kE ns _ hall,hlen⟩
theorem vx (l:OpenLaw)(args:List WData):l.row.toRowW.claim.post args (.bool true) args=true :=
 postW_of (r:=l.row.toRowW) (X:=(true==true))
  (show WShape.has [] (.bool true) .bool=true by first | rfl | decide | simp[WShape.has,WShape.arms,WShape.armsAll])
  (show (WTm.eq .res (.lit (.bool true))).value [] { args:=args,res:=some (.bool true),after:=args }=some (.bool (true==true)) from w_eq_bool (w_res rfl) w_lit) rfl
theorem qm {l:OpenLaw}{n:Nat}{q:Program}{loose:List Str}{XP:(Str->Option Value)->Heap->Prop}{YP:World->Heap->Prop}{d:DefRec}
  (hn:l.most=some n) (hdf:d.params.defaults=[])
  (call:∀(w:World) (s₀ s₁:Shared) (mg mb:Str->Option Value) (fa:Addr) (o:Obj) (pm cd doc:Value) (a:Addr) (vs:List Value) (ns:List Int),
   Ground q loose [] XP w s₀ mg mb s₁.heap->YP w s₁.heap ->
   s₁.heap.get? fa=some o->o.data = .func (docDef d.name d.params d.body d.scope pm cd doc)->s₁.heap.CodeRec cd d.name->mg d.name=some (.ref fa) ->
   s₁.heap.get? a=some { cls:=.type "list",data:=.seq vs.toArray }->IntsAre vs ns->ns.length<=n->s₁.gens = #[] ->
   codeAny (model l.prog w) callerA (.call (.ref fa) ⟨[.ref a],[]⟩) (fun r s'=>r = .ok (.ret (.bool true))/\OldK s₁.heap s'.heap/\s'.os=s₁.os/\AllBare s'.gens) s₁) :
  WalkO q loose XP YP l.row.toRowW d [] (fun f vs=>PySem.call f vs):=by
 intro w s₀ s₁ mg mb G Y fa o pm cd doc dV kV ho hd hcd hD hmg hg args vals as hpre hlay hrd hwl hlo;obtain rfl:dV = .none:=Dflts.none hD hdf;obtain rfl:kV = .none:=Dflts.noKw hD;obtain⟨a,vs,ns,rfl,rfl,hobj,hints,hlen⟩:=uw hn hpre hwl;refine enter_call (codeAny_mono (call w s₀ s₁ mg mb fa o pm cd doc a vs ns G Y ho (fd_plain hd) hcd hmg hobj hints hlen hg) fun r s' hq=>?_);obtain⟨rfl,h2,h3,h4⟩:=hq;exact⟨.inl ⟨.bool true,.bool true,[],rfl,fun _=>rfl,.bool true,vx l _,fun _=>⟨List.Pairwise.nil,fun _ hm=>(nomatch hm)⟩⟩,h2,h3,h4⟩
section
variable {prog:Program}{w:World}{A:Around}{E:Value->Shared->Prop}{s:Shared}{K:Frag}
noncomputable def ledger (h:Heap)(L d:Addr):List (Addr×Obj):=(List.range h.objs.size).filterMap fun a=>if a=L\/a=d then none else (h.get? a).map fun o=>(a,o)
end
end Att
namespace L2
open PySem PySem.Spec PyProof.Rows
theorem nF:∀{vs:List Value}{ns:List Int},IntsAre vs ns->aN (ns.map V.int) vs
 |_,_,.nil=>.nil
 |_,_,.cons n t h=>.cons ⟨t,rfl⟩ (nF h)
def Dt (H:Hp):Prop:=∀ b,H b=none\/∃ o xs,H b=some (.frz o (.lst xs))
theorem xF {P:Program}{w:World}{K:PySem.W.Frag}{mg mb:Str->Option Value}{CX:pd}{k:Nat}{fa a:Addr}{fd:FuncData}{x:Str}{sp:Sp}{s₁:Shared}{vs:List Value}{ns:List Int}
  (KX:K.In s₁.heap) (hns:s₁.heap.Ns mainGlobals mg) (hb:s₁.heap.Ns builtinsNs mb) (hbb:∀ x:Str,x≠"__name__"->mb x=bootBuiltins x) (hlim:s₁.heap.NoLimit) (hg:s₁.gens = #[])
  (ha:s₁.heap.get? a=some { cls:=.type "list",data:=.seq vs.toArray }) (hi:IntsAre vs ns) (hl:ns.length<=sizeLine) (hr:eM k callerA)
  (F:∀ base:Heap,K.In base->base.Ns mainGlobals mg->ja P w K mg base CX k fa fd [x] sp) (hbind:∀(s:Shared) (u:Value),BindsTo s fd ⟨[u],[]⟩ [(x,u)])
  (hsp:∀ H:Hp,Dt H->oJ K H a (ns.map V.int)->sp [.ref a] H (fun v _=>v = .bl true) fun _ _ _=>False)
  (hCX:∀ H e s',CX [] H s₁ (fun _ _ _=>False) e s'->False) :
  codeAny (model P w) callerA (.call (.ref fa) ⟨[.ref a],[]⟩) (fun r s'=>r = .ok (.ret (.bool true))/\OldK s₁.heap s'.heap/\s'.os=s₁.os/\AllBare s'.gens) s₁:=by
 have rv:=nF hi;have lenV:=hi.length;have core:∀ H:Hp,Dt H->oJ K H a (ns.map V.int)->iJ P w H s₁.heap->(∀ b,H b≠none->b=a)->(H a≠none->K.lookup a=none) ->
   codeAny (model P w) callerA (.call (.ref fa) ⟨[.ref a],[]⟩) (fun r s'=>r = .ok (.ret (.bool true))/\OldK s₁.heap s'.heap/\s'.os=s₁.os/\AllBare s'.gens) s₁:=by
  intro H hO hS hok hA hK;have base_of:∀{b:Addr}{o:Obj},s₁.heap.get? b=some o->H b=none->(ox s₁.heap H).get? b=some o:=fun e n=>xt e n
  have noA:∀{b:Addr}{o:Obj}{es:Array DictEntry}{ep:Nat},s₁.heap.get? b=some o->o.data = .dict es ep->H b=none:=fun {b o es ep} e d=>by
   cases q:H b with
   |none=>rfl
   |some u =>
    have e':b=a:=hA b (by rw[q];simp);subst e';rw[ha] at e;cases e;have d':Data.seq vs.toArray _=Data.dict es ep:=d;cases d'
  have nsK:∀{b:Addr}{m:Str->Option Value},s₁.heap.Ns b m->(ox s₁.heap H).Ns b m:=fun {b m} ⟨o,es,ep,e,d,r⟩=>⟨o,es,ep,base_of e (noA e d),d,r⟩
  have hKb:K.In (ox s₁.heap H):=fun b o e=>base_of (KX b o e) (by
   cases q:H b with
   |none=>rfl
   |some u =>
    have e':b=a:=hA b (by rw[q];simp);subst e';rw[hK (by rw[q];simp)] at e;cases e)
  have hM:Mod K mg (ox s₁.heap H):=⟨hKb,nsK hns,⟨mb,nsK hb,hbb⟩,let ⟨mc,h1,h2⟩:=hlim;⟨mc,nsK h1,h2⟩⟩;have e0:qp P w K mg (ox s₁.heap H) callerA [] s₁ H:=⟨rfl,hM,fun b o e=>zi e,Nat.le_of_eq (u6 _ _),trivial,fun b hb=>absurd (show b∈([]:List Addr) from hb) (by simp),hok,.of_eq hg⟩;refine codeAny_mono ((F _ hKb (nsK hns)).run callerA [] s₁ H ⟨[.ref a],[]⟩ [.ref a] [.ref a] _ _ hr e0 (hbind s₁ (.ref a)) (.cons rfl .nil) (hsp H hO hS)) fun r s' h=>?_
  cases r with
  |error e=>exact (hCX H e s' h).elim
  |ok fl =>
   cases fl with
   |next=>exact False.elim h
   |brk=>exact False.elim h
   |cont=>exact False.elim h
   |ret u =>
    obtain⟨v,H',os,bare,un,hok',r',q⟩:=h;have q':v = .bl true:=q;subst q';obtain rfl:u=Value.bool true:=r';refine⟨rfl,OldK.of_keep fun b o e=>?_,os,bare⟩;cases q:H b with
    |none=>exact un.keep b o e q (by intro z;exact absurd (show b∈([]:List Addr) from z) (by simp)) (by simp)
    |some u =>
     rcases hO b with z | ⟨ob,xs,z⟩
     ·rw[q] at z;cases z
     ·have z2:=un.frzs b ob _ z;obtain⟨e1,_⟩:=hok b _ z;obtain⟨e2,_⟩:=hok' b _ z2;rw[e] at e1;cases e1;exact e2
 cases hk:K.lookup a with
 |some o =>
  have e:=KX a o hk;rw[ha] at e;cases e;refine core (fun _=>none) (fun _=>.inl rfl) (.inr ⟨_,vs.toArray,_,hk,rfl,rfl,rfl,by rw[List.size_toArray,lenV];exact hl,by simpa using rv⟩) (fun b u z=>by have z':(none:Option HO)=some u:=z;cases z') (fun b z=>absurd rfl z) fun z=>absurd rfl z
 |none =>
  refine core (fun b=>if b=a then some (.frz { cls:=.type "list",data:=.seq vs.toArray } (.lst (ns.map V.int))) else none) (fun b=>?_) (.inl (.inr ⟨{ cls:=.type "list",data:=.seq vs.toArray },if_pos rfl⟩)) (fun b u z=>?_) (fun b z=>?_) fun _=>hk
  ·by_cases hb:b=a
   ·exact .inr ⟨_,_,if_pos hb⟩
   ·exact .inl (if_neg hb)
  ·by_cases hb:b=a
   ·have z':=(if_pos hb).symm.trans z;cases z';subst hb;exact⟨ha,by rw[av];exact hl,vs,_,rv,ha⟩
   ·have z':=(if_neg hb).symm.trans z;cases z'
  ·by_cases hb:b=a
   ·exact hb
   ·exact absurd (if_neg hb) z
end L2
namespace L2
open PySem PySem.Spec PyProof.Rows
theorem zO {l:PySem.W.OpenLaw}{n k:Nat}{q:Program}{loose:List Str}{XP:(Str->Option Value)->Heap->Prop}{YP:World->Heap->Prop}{d:DefRec}{K:Params->PySem.W.Frag}{CX:World->pd}{sp:World->Sp}{x:Str}
  (hn:l.most=some n) (hn2:n<=sizeLine) (hdf:d.params.defaults=[]) (hr:eM k callerA)
  (hY:∀(w:World) (h:Heap),YP w h->(K w.params).In h)
  (F:∀(w:World) (mg:Str->Option Value) (fa:Addr) (h:Heap),(K w.params).In h->h.Ns mainGlobals mg->mg d.name=some (.ref fa) ->
   ∃ fd:FuncData,(∀(s:Shared) (u:Value),BindsTo s fd ⟨[u],[]⟩ [(x,u)]) /\
    ∀ base:Heap,(K w.params).In base->base.Ns mainGlobals mg->ja l.prog w (K w.params) mg base (CX w) k fa fd [x] (sp w))
  (hsp:∀(w:World) (H:Hp) (a:Addr) (ns:List Int),ns.length<=n->Dt H->oJ (K w.params) H a (ns.map V.int)->sp w [.ref a] H (fun v _=>v = .bl true) fun _ _ _=>False)
  (hCX:∀(w:World) (H:Hp) (s:Shared) (e:Value) (s':Shared),CX w [] H s (fun _ _ _=>False) e s'->False) :
  PySem.W.WalkO q loose XP YP l.row.toRowW d [] (fun f vs=>PySem.call f vs):=by
 refine Att.qm hn hdf fun w s₀ s₁ mg mb fa o pm cd doc a vs ns G Y ho hd hcd hmg hobj hints hlen hg=>?_
 have KX:=hY w _ Y;obtain⟨fd,hb,hF⟩:=F w mg fa _ KX G.T.g hmg;exact xF KX G.T.g G.T.b G.T.builtins G.T.nolimit hg hobj hints (bg hlen hn2) hr hF hb (fun H hO hS=>hsp w H a ns hlen hO hS) fun H e s'=>hCX w H s₁ e s'
end L2
namespace L2
open PySem PySem.Spec PyProof.Rows
noncomputable abbrev tU:pd:=fun _ _ _ _ _ _=>False
noncomputable abbrev E0:XK:=fun _ _ _=>False
theorem yb {X:Cx}:fG tU X E0:=fun _ _ _ _ _ _ _ h=>h.elim
structure kM (K:PySem.W.Frag)(x qual:Str)(st:Stmt)(f:Addr)(fd:FuncData):Prop where
 ex:∃(oc:Value) (od:Option Addr) (kV doc pm:Value) (an:Option Addr) (cdv ct:Value) (osl:Array (Option Value)),
  fd=PySem.W.fnOf x qual (cD st) (aY st) (aE st) .none kV doc pm an cdv ct/\K.lookup f=some ⟨oc,od,.func fd,osl⟩/\PySem.W.codeIn K cdv qual=true
 kp:PySem.W.keepIn K (.ref f)=true
section
variable {P:Program}{w:World}{K:PySem.W.Frag}{mg:Str->Option Value}{base:Heap}
theorem kM.ok {x qual:Str}{st:Stmt}{f:Addr}{fd:FuncData}{N ps:List Str}{k:Nat}{sp:Sp}(F:kM K x qual st f fd)(S:bU N ps (aE st))(len:∀ vs H Q E,sp vs H Q E->vs.length=ps.length)
  (hbody:∀(cdv:Value) (A:Around) (outer:List Env) (s:Shared) (H:Hp) (vs:List V) (Q:VK) (E:XK),eM k (A.deeper (envOfC qual (aE st) s.heap.objs.size f cdv))->sp vs H Q E ->
   ∃ t,jI (eC tU P w K mg base N qual (aE st) f cdv A outer s H E).nox (aY st) t/\t { nx:=fun _ H'=>Q .non H',rt:=Q } (start N vs) H):ja P w K mg base tU (k+1) f fd ps sp:=by
 obtain⟨oc,od,kV,doc,pm,an,cdv,ct,osl,rfl,lk,hcd⟩:=F.ex;refine E8 lk hcd S len fun A outer s H vs Q E hr hsp=>?_
 obtain⟨t,h,q⟩:=hbody cdv A outer s H vs Q E hr hsp;exact⟨t,h.nox,q⟩
theorem kM.binds {x qual:Str}{st:Stmt}{f:Addr}{fd:FuncData}{ps:List Str}(F:kM K x qual st f fd)
  (h:∀(kV doc pm:Value) (an:Option Addr) (cdv ct:Value) (us:List Value),us.length=ps.length->bindArgs (PySem.W.fnOf x qual (cD st) (aY st) (aE st) .none kV doc pm an cdv ct) ⟨us,[]⟩=pure (ps.zip us)):Binds K fd ps []:=by
 obtain⟨oc,od,kV,doc,pm,an,cdv,ct,osl,rfl,lk,hcd⟩:=F.ex;exact .all (h kV doc pm an cdv ct)
theorem Cp {x qual:Str}{st:Stmt}{f:Addr}{oc:Value}{od an:Option Addr}{osl:Array (Option Value)}{kV doc pm cdv ct:Value}(l:K.lookup f=some ⟨oc,od,.func (PySem.W.fnOf x qual (cD st) (aY st) (aE st) .none kV doc pm an cdv ct),osl⟩)
  (c:PySem.W.codeIn K cdv qual=true) (k:PySem.W.keepIn K (.ref f)=true):kM K x qual st f (PySem.W.fnOf x qual (cD st) (aY st) (aE st) .none kV doc pm an cdv ct):=⟨⟨oc,od,kV,doc,pm,an,cdv,ct,osl,rfl,l,c⟩,k⟩
end
section
variable {X:Cx}
theorem pv (i:Nat){x:Str}{pos:Pos}(hN:X.N[i]? = some x:=by rfl)(hv:Bx X.env.scope x:=by first | exact Or.inl rfl | exact Or.inr (Or.inl rfl) | exact Or.inr (Or.inr rfl))(hd:(x==("__debug__" : Str))=false:=by decide)
  (hcd:(x==("__classdict__" : Str))=false:=by decide):PE X (.Name x pos) (iT i):=qI hN hv hd hcd
end
def aI (H H':Hp):Prop:=∀ b o,H b=some o->H' b=some o
theorem aI.refl (H:Hp):aI H H:=fun _ _ h=>h
theorem aI.trans {H H1 H2:Hp}(a:aI H H1)(b:aI H1 H2):aI H H2:=fun c o h=>b c o (a c o h)
section
variable {κ:Type}[DecidableEq κ]
noncomputable def i8 (kvs:List (κ×V))(k:κ):Option V:=(kvs.find? fun kv=>decide (kv.1=k)).map (·.2)
noncomputable def putK (kvs:List (κ×V))(k:κ)(v:V):List (κ×V) :=
 if (kvs.any fun kv=>decide (kv.1=k))=true then kvs.map (fun kv=>if kv.1=k then (kv.1,v) else kv) else kvs ++ [(k,v)]
theorem jk {p:κ×V}{r:List (κ×V)}{k:κ}(e:p.1=k):i8 (p::r) k=some p.2:=by simp[i8,List.find?_cons,e]
theorem jj {p:κ×V}{r:List (κ×V)}{k:κ}(e:¬ p.1=k):i8 (p::r) k=i8 r k:=by simp[i8,List.find?_cons,e]
theorem jq (k:κ):∀ kvs:List (κ×V),(kvs.any fun kv=>decide (kv.1=k))=(i8 kvs k).isSome
 |[]=>rfl
 | p::r=>by
  rw[fh];by_cases e:p.1=k
  ·simp only[jk e,decide_eq_true e,Bool.true_or,Option.isSome_some]
  ·rw[jj e,aq e,Bool.false_or];exact jq k r
theorem pf (kvs:List (κ×V))(k:κ)(v:V):(putK kvs k v).length<=kvs.length+1:=by
 unfold putK;split
 ·rw[av];omega
 ·rw[aj,ak,cj];omega
theorem jC.isSome_eq {o:Option V}{u:Option Value}(r:jC o u):o.isSome=u.isSome:=by
 cases o with
 |none=>cases u with
  |none=>rfl
  |some _=>exact (show False from r).elim
 |some _=>cases u with
  |none=>exact (show False from r).elim
  |some _=>rfl
theorem KV.val {kvs:List (κ×V)}{vs:List (κ×Value)}(r:KV kvs vs)(k:κ):jC (i8 kvs k) (valueAt vs k):=by
 unfold KV at r
 induction r with
 |nil=>exact True.intro
 |@cons p q ps qs h t ih =>
  obtain⟨h1,h2⟩:=h;by_cases e:p.1=k
  ·have e':q.1=k:=h1.symm.trans e;have b:valueAt (q::qs) k=some q.2:=by simp[valueAt,List.find?_cons,e']
   rw[jk e,b];exact h2
  ·have e':¬ q.1=k:=fun z=>e (h1.trans z)
   have b:valueAt (q::qs) k=valueAt qs k:=by simp[valueAt,List.find?_cons,e']
   rw[jj e,b];exact ih
theorem KV.any {kvs:List (κ×V)}{vs:List (κ×Value)}(r:KV kvs vs)(k:κ):(kvs.any fun kv=>decide (kv.1=k))=vs.any fun kv=>decide (kv.1=k):=by
 unfold KV at r
 induction r with
 |nil=>rfl
 |cons h t ih=>rw[fh,fh,ih,h.1]
theorem KV.repl {kvs:List (κ×V)}{vs:List (κ×Value)}(r:KV kvs vs)(k:κ){y:V}{u:Value}(ry:RelV y u) :
  KV (kvs.map fun kv=>if kv.1=k then (kv.1,y) else kv) (vs.map fun kv=>if kv.1=k then (kv.1,u) else kv):=by
 unfold KV at r ⊢
 induction r with
 |nil=>exact .nil
 |@cons p q ps qs h t ih =>
  rw[ay,ay];refine .cons ?_ ih;obtain⟨h1,h2⟩:=h;by_cases e:p.1=k
  ·rw[if_pos e,if_pos (h1.symm.trans e)];exact⟨h1,ry⟩
  ·rw[if_neg e,if_neg (fun z=>e (h1.trans z))];exact⟨h1,h2⟩
theorem KV.put {kvs:List (κ×V)}{vs:List (κ×Value)}(r:KV kvs vs)(k:κ){y:V}{u:Value}(ry:RelV y u):KV (putK kvs k y) (stored vs k u):=by
 unfold putK stored;rw[r.any k];by_cases e:(vs.any fun kv=>decide (kv.1=k))=true
 ·rw[if_pos e,if_pos e];exact r.repl k ry
 ·rw[if_neg e,if_neg e];exact Paired.snoc r ⟨rfl,ry⟩
theorem KV.keys {kvs:List (κ×V)}{vs:List (κ×Value)}(r:KV kvs vs):kvs.map (·.1)=vs.map (·.1):=by
 unfold KV at r
 induction r with
 |nil=>rfl
 |cons h t ih=>rw[ay,ay,ih,h.1]
theorem KV.length {kvs:List (κ×V)}{vs:List (κ×Value)}(r:KV kvs vs):kvs.length=vs.length:=Paired.length r
end
theorem uj {P:Program}{w:World}{k:Key}{u:Value}(r:RelV (kV k) u):(aO P w).is k u=true:=by
 cases k with
 |inl i=>obtain⟨t,e⟩:=(show ∃ t,u=Value.int i t from r);subst e;exact eB P w i t
 |inr x=>obtain⟨t,e⟩:=(show ∃ t,u=Value.str x t from r);subst e;exact dA P w x t
theorem jY {P:Program}{w:World}:∀{ks:List Key}{us:List Value},aN (ks.map kV) us->ItemsAre (aO P w) ks us
 |[],_,r=>by rw[ig] at r;cases r;exact .nil
 | k::ks,_,r=>by
  rw[ay] at r;cases r with
  |cons h t=>exact .cons (uj h) (jY t)
noncomputable abbrev KT (H:Hp):List (List Key×V)->List (List Key×Addr×Value)->Prop:=Paired fun p q=>p.1=q.1/\H q.2.1=some (.tup (p.1.map kV))/\RelV p.2 q.2.2
theorem KT.val {H:Hp}{kvs:List (List Key×V)}{xs:List (List Key×Addr×Value)}(r:KT H kvs xs)(k:List Key):jC (i8 kvs k) ((atKey xs k).map (·.2)):=by
 induction r with
 |nil=>exact True.intro
 |@cons p q ps qs h t ih =>
  obtain⟨h1,_,h2⟩:=h;by_cases e:p.1=k
  ·have e':q.1=k:=h1.symm.trans e;have b:atKey (q::qs) k=some q.2:=by simp[atKey,List.find?_cons,e']
   rw[jk e,b];exact h2
  ·have e':¬ q.1=k:=fun z=>e (h1.trans z)
   have b:atKey (q::qs) k=atKey qs k:=by simp[atKey,List.find?_cons,e']
   rw[jj e,b];exact ih
section
variable {P:Program}{w:World}{H:Hp}{h:Heap}{a:Addr}
theorem Bu {u:HO}(ok:iJ P w H h)(e:Rd H a u):bW P w H h a u:=e.ok ok
theorem j9 {kvs:List (Key×V)}(ok:iJ P w H h)(e:Rd H a (.dK kvs)):kvs.length<=sizeLine/\(a==sysModules)=false/\∃ vs,KV kvs vs/\h.DictOf (aO P w) a vs :=
 show bW P w H h a (.dK kvs) from Bu ok e
theorem EO {kvs:List (Key×V)}(ok:iJ P w H h)(e:H a=some (.dK kvs)):kvs.length<=sizeLine/\(a==sysModules)=false/\∃ vs,KV kvs vs/\h.DictOf (aO P w) a vs:=j9 ok (.inl e)
theorem rL {ks:List Key}(ok:iJ P w H h)(e:H a=some (.tup (ks.map kV))):(tupleKind (aO P w)).is h ks a:=by
 obtain⟨_,its,r,o,h1,h2,n,h3⟩:=(show bW P w H h a (.tup (ks.map kV)) from ok a _ e);exact⟨o,its.toArray,n,h1,h2,h3,by simpa using jY r⟩
theorem sC {kvs:List (List Key×V)}(ok:iJ P w H h)(e:Rd H a (.dT kvs)):kvs.length<=sizeLine/\(a==sysModules)=false /\
  ∃ xs,KT H kvs xs/\h.DictOfH (tupleKind (aO P w)) a xs:=by
 obtain⟨z,y,xs,r,o,es,ep,h1,h2,h3,h4,h5⟩:=(show bW P w H h a (.dT kvs) from Bu ok e);refine⟨z,y,xs,r,o,es,ep,h1,h2,h3,h4,fun x hx=>?_,h5⟩;have all:∀{l:List (List Key×V)}{m:List (List Key×Addr×Value)},KT H l m->∀ x∈m,(tupleKind (aO P w)).is h x.1 x.2.1:=by
  intro l m q
  induction q with
  |nil=>intro x hx;exact nomatch hx
  |@cons p q ps qs hq t ih =>
   intro x hx;rcases g9.mp hx with e | hx
   ·subst e;exact rL ok (by rw[<-hq.1];exact hq.2.1)
   ·exact ih x hx
 exact all r x hx
end
noncomputable def y9 (H:Hp)(a:Addr)(y:V)(r:Option V):Prop :=
 (∃ kvs k,Rd H a (.dK kvs)/\y=kV k/\r=i8 kvs k)\/∃ kvs k b,Rd H a (.dT kvs)/\y = .ref b/\H b=some (.tup (k.map kV))/\r=i8 kvs k
section
variable {X:Cx}{pins:List (Addr×Obj)}{σ:St}{H:Hp}{s:Shared}{a:Addr}{y v:V}{u r:Value}{o:Option V}{A:Around}{E:Value->Shared->Prop}
theorem Inv.big (I:Inv X pins σ H s):sysModules<s.heap.objs.size:=by
 have h:mainGlobals<s.heap.objs.size:=(I.mod.glob.keeps I.bk).lt;exact Nat.lt_trans (by decide) h
theorem Fw {Q:Value->Shared->Prop}(hu:A.units+1<cLine)(I:Inv X pins σ H s)(g:y9 H a y o)(ry:RelV y u)(h:∀ s',Inv X pins σ H s'->Q (.bool o.isSome) s') :
  wpAny (model X.prog X.w) A (compareOp .In u (.ref a)) Q E s:=by
 rcases g with ⟨kvs,k,e,ey,l⟩ | ⟨kvs,k,b,e,ey,eb,l⟩
 ·subst ey;obtain⟨z,hd,vs,rel,dd⟩:=j9 I.hok e;refine wpAny_in_of (uj ry) hd dd.mapOf ?_;rw[<-(rel.val k).isSome_eq,<-l];exact h _ (I.tok _)
 ·subst ey;cases (show u=Value.ref b from ry);obtain⟨z,hd,xs,rel,dd⟩:=sC I.hok e;refine wpAny_in_heap (tupleKind_room_in1 hu) (rL I.hok eb) hd dd ?_;have q:=(rel.val k).isSome_eq;rw[Option.isSome_map] at q;rw[<-q,<-l];exact h _ (I.tok _)
theorem uo {Q:Value->Shared->Prop}(hu:A.units+1<cLine)(I:Inv X pins σ H s)(g:y9 H a y o)(ry:RelV y u)(h:∀ s',Inv X pins σ H s'->Q (.bool (!o.isSome)) s') :
  wpAny (model X.prog X.w) A (compareOp .NotIn u (.ref a)) Q E s:=by
 rcases g with ⟨kvs,k,e,ey,l⟩ | ⟨kvs,k,b,e,ey,eb,l⟩
 ·subst ey;obtain⟨z,hd,vs,rel,dd⟩:=j9 I.hok e;refine wpAny_notIn_of (uj ry) hd dd.mapOf ?_;rw[<-(rel.val k).isSome_eq,<-l];exact h _ (I.tok _)
 ·subst ey;cases (show u=Value.ref b from ry);obtain⟨z,hd,xs,rel,dd⟩:=sC I.hok e;refine wpAny_notIn_heap (tupleKind_room_in1 hu) (rL I.hok eb) hd dd ?_;have q:=(rel.val k).isSome_eq;rw[Option.isSome_map] at q;rw[<-q,<-l];exact h _ (I.tok _)
theorem zc {h':Heap}{t':Nat}{ob:HO}(I:Inv X pins σ H s)(mu:qi (H a))(hs:Heap.SameBut a s.heap h')(he:∃ q,h'.get? a=some q)(new:bW X.prog X.w (upd H a ob) h' a ob) :
  Inv X pins σ (upd H a ob) { s with heap:=h',toks:=t' } :=
 I.write (x:=a) (e:=a) mu (.inl rfl) (fun b q hb z=>(hs.2 b hb).trans z) he new
theorem DD {P:Program}{w:World}{H':Hp}{h':Heap}{kvs:List (Key×V)}{vs:List (Key×Value)}(z:kvs.length<=sizeLine)(hd:(a==sysModules)=false)(rel:KV kvs vs)(dd:h'.DictOf (aO P w) a vs) :
  bW P w H' h' a (.dK kvs):=⟨z,hd,vs,rel,dd⟩
end
section
variable {X:Cx}{pins:List (Addr×Obj)}{σ:St}{H:Hp}{s:Shared}{a:Addr}{kvs:List (Key×V)}{k:Key}{u:Value}{A:Around}{E:Value->Shared->Prop}
end
section
variable {X:Cx}{o i e value:Expr}{pos pos' tpos:Pos}{td ty tv:TE}
end
theorem vT {P:Program}{w:World}{H:Hp}(h:Heap)(hb:sysModules<h.objs.size):bW P w H (h.push { cls:=.type "dict",data:=.dict #[] }) h.objs.size (.dK []) :=
 ⟨en _,beq_eq_false_iff_ne.mpr (dk (bq hb)),[],.nil,Heap.DictOf.new h⟩
section
variable {X:Cx}{pos:Pos}
end
noncomputable def lL:List (TE×TE)->St->Hp->(List (V×V)->Hp->Prop)->Prop
 |[],_,H,Q=>Q [] H
 | (tk,tv)::r,σ,H,Q=>tk σ H fun x H1=>tv σ H1 fun y H2=>lL r σ H2 fun ps H3=>Q ((x,y)::ps) H3
noncomputable abbrev VV:List (V×V)->List (Value×Value)->Prop:=Paired fun p q=>RelV p.1 q.1/\RelV p.2 q.2
noncomputable def Fd (X:Cx)(pos:Pos)(keys:List (Option Expr))(values:List Expr)(trs:List (TE×TE)):Prop :=
 ∀(pins:List (Addr×Obj)) (s:Shared) (σ:St) (H:Hp) (Q:List (V×V)->Hp->Prop),Inv X pins σ H s->lL trs σ H Q ->
  wpAny (model X.prog X.w) X.A (evalPairs (pairTrees keys values X.env pos)) (fun vs s'=>∃ ps H',Inv X pins σ H' s'/\VV ps vs/\Q ps H') X.xe s
theorem zk {X:Cx}{pos:Pos}:Fd X pos [] [] []:=fun pins s σ H Q I h=>pairTrees_nil_walk ⟨[],H,I,.nil,h⟩
theorem xQ {X:Cx}{pos:Pos}{k v:Expr}{ks:List (Option Expr)}{vs:List Expr}{tk tv:TE}{trs:List (TE×TE)}(hk:PE X k tk)(hv:PE X v tv)(hr:Fd X pos ks vs trs) :
  Fd X pos (some k::ks) (v::vs) ((tk,tv)::trs):=fun pins s σ H Q I h =>
 pairTrees_cons_walk (cH (hk pins s σ H _ I h) fun u s1 ⟨x,H1,I1,rx,q1⟩=>cH (hv pins s1 σ H1 _ I1 q1) fun w2 s2 ⟨y,H2,I2,ry,q2⟩ =>
  cH (hr pins s2 σ H2 _ I2 q2) fun ws s3 ⟨ps,H3,I3,rel,q3⟩=>⟨(x,y)::ps,H3,I3,.cons ⟨rx,ry⟩ rel,q3⟩)
noncomputable def gI (kvs more:List (Key×V)):List (Key×V):=more.foldl (fun acc kv=>putK acc kv.1 kv.2) kvs
theorem KV.merge:∀{more:List (Key×V)}{rs:List (Key×Value)}{kvs:List (Key×V)}{vs:List (Key×Value)},KV more rs->KV kvs vs->KV (gI kvs more) (merged vs rs):=by
 intro more rs kvs vs r;unfold KV at r
 induction r generalizing kvs vs with
 |nil=>intro q;exact q
 |@cons p q ps qs h t ih =>
  intro r0;have e:KV (putK kvs p.1 p.2) (stored vs q.1 q.2):=by
   have:=r0.put p.1 h.2;rw[<-h.1];exact this
  exact ih e
theorem iW:∀(more kvs:List (Key×V)),(gI kvs more).length<=kvs.length+more.length
 |[],kvs=>by show kvs.length<=kvs.length+0;omega
 | p::r,kvs=>by
  have h1:=iW r (putK kvs p.1 p.2);have h2:=pf kvs p.1 p.2;show (gI (putK kvs p.1 p.2) r).length<=_;rw[ak];omega
theorem lV {P:Program}{w:World}:∀{kvs:List (Key×V)}{ws:List (Value×Value)},VV (kvs.map fun kv=>(kV kv.1,kv.2)) ws->∃ rs,Carries (aO P w) ws rs/\KV kvs rs
 |[],_,r=>by rw[ig] at r;cases r;exact⟨[],True.intro,.nil⟩
 | p::kvs,_,r=>by
  rw[ay] at r;cases r with
  |@cons a b as bs h t =>
   obtain⟨rs,c,q⟩:=lV (P:=P) (w:=w) t;obtain⟨b1,b2⟩:=b;exact⟨(p.1,b2)::rs,⟨uj h.1,rfl,c⟩,.cons ⟨rfl,h.2⟩ q⟩
def GU (trs:List (TE×TE)):TE:=fun σ H Q=>∀ p,H p=none->lL trs σ (upd H p (.dK [])) fun ps H2=>H2 p=some (.dK [])/\∃ kvs:List (Key×V),ps=kvs.map (fun kv=>(kV kv.1,kv.2))/\kvs.length<=15/\Q (.ref p) (upd H2 p (.dK (gI [] kvs)))
theorem zm {X:Cx}{pos:Pos}{keys:List (Option Expr)}{values:List Expr}{trs:List (TE×TE)}(h:Fd X pos keys values trs)(hall:keys.all (·.isSome)=true)(hl:keys.length=values.length)(h0:keys≠[])
  (h15:keys.length<=15):PE X (.Dict keys values pos) (GU trs):=by
 intro pins s σ H Q I q;have hn:=I.hok.fresh (aw s.heap.objs.size);have I1:=I.laid (a:=s.heap.objs.size) (o:=.dK []) (h':=s.heap.push { cls:=.type "dict",data:=.dict #[] }) (t':=s.toks) (fun _ _ q=>Heap.get?_push_of_some _ q) (aw _) (vT s.heap I.big);refine wpAny_Dict_walk (knd:=aO X.prog X.w) hall hl h0 h15 (cH (h pins _ σ _ _ I1 (q _ hn)) fun ws s2 ⟨ps,H2,I2,rel,e,kvs,ep,lk,q2⟩=>?_);subst ep;obtain⟨rs,c,rk⟩:=lV (P:=X.prog) (w:=X.w) rel;obtain⟨z,hd,vs0,r0,dd⟩:=EO I2.hok e;cases r0;refine⟨rs,c,dd,fun h' dd' hs=>⟨.ref s.heap.objs.size,_,?_,rfl,q2⟩⟩;have hz:(gI [] kvs).length<=sizeLine:=by
  have h1:=iW kvs [];rw[cj] at h1;rw[sizeLine_eq];omega
 have he:∃ q,h'.get? s.heap.objs.size=some q:=let ⟨q,_,_,hq,_⟩:=dd';⟨q,hq⟩;exact zc I2 (by rw[e];exact True.intro) hs he (DD hz hd (rk.merge .nil) dd')
end L2
end
section
namespace Pc
open PySem
inductive MV where
 | tr | int (i:Int) | tup (is:List Int)
deriving Inhabited,DecidableEq
inductive D where
 | non | bl (b:Bool) | int (i:Int) | str (s:Str) | lst (xs:List D) | tup (xs:List D)
 | dct (kvs:List ((Int ⊕ Str)×Option Int))
 | mpi (ks:List (Int×MV)) | mpt (ks:List (List Int))
 | mpz (ks:List (Int×MV))
deriving Inhabited
mutual
noncomputable def D.flat:D->Bool
 |.lst _=>false
 |.tup xs=>D.flats xs
 |.non=>true
 |.bl _=>true
 |.int _=>true
 |.str _=>true
 |.dct _=>true
 |.mpi _=>false
 |.mpt _=>false
 |.mpz _=>true
noncomputable def D.flats:List D->Bool
 |[]=>true
 |x::xs=>D.flat x&&D.flats xs
end
noncomputable def mH (f:D->D->Option Bool):List D->List D->Option Bool
 |[],[]=>some true
 |x::xs,y::ys=>(f x y).bind fun a=>(mH f xs ys).map fun b=>a&&b
 |_,_=>none
noncomputable def D.eqf:Nat->D->D->Option Bool
 |0,_,_=>none
 |_+1,.non,.non=>some true
 |_+1,.bl a,.bl b=>some (a==b)
 |_+1,.int a,.int b=>some (a==b)
 |_+1,.bl a,.int b=>some ((if a then (1:Int) else 0)==b)
 |_+1,.int a,.bl b=>some (a==(if b then (1:Int) else 0))
 |_+1,.str a,.str b=>some (a==b)
 |n+1,.lst a,.lst b=>if a.length=b.length then mH (D.eqf n) a b else some false
 |n+1,.tup a,.tup b=>if a.length=b.length then mH (D.eqf n) a b else none
 |_+1,.dct _,_=>none
 |_+1,_,.dct _=>none
 |_+1,.mpi _,_=>none
 |_+1,_,.mpi _=>none
 |_+1,.mpt _,_=>none
 |_+1,_,.mpt _=>none
 |_+1,.mpz _,_=>none
 |_+1,_,.mpz _=>none
 |_+1,_,_=>some false
noncomputable def D.dJ:D->Bool
 |.lst _=>false
 |.tup _=>false
 |.dct _=>false
 |.mpi _=>false
 |.mpt _=>false
 |.mpz _=>false
 |_=>true
noncomputable def D.eqs:D->D->Bool
 |.non,.non=>true
 |.bl a,.bl b=>a==b
 |.int a,.int b=>a==b
 |.str a,.str b=>a==b
 |.bl a,.int b=>(if a then (1:Int) else 0)==b
 |.int a,.bl b=>a==(if b then (1:Int) else 0)
 |_,_=>false
structure Exc where
 cls:Str
 fs:List (Str×D)
deriving Inhabited
inductive Rs (α:Type) where
 | ok (a:α) | exc (e:Exc) | bad
noncomputable def Rs.bind {α β:Type}(x:Rs α)(f:α->Rs β):Rs β:=match x with
 |.ok a=>f a
 |.exc e=>.exc e
 |.bad=>.bad
inductive Rt where
 | mv (R:List Nat)
 | sh (R:List Nat)
noncomputable def Rt.roots:Rt->List Nat
 |.mv R=>R
 |.sh R=>R
inductive Tg where
 | own | lk | sh (R:List Nat)
noncomputable abbrev Slot:=Option (D×Tg)
noncomputable abbrev En:=List Slot
noncomputable def lim:Nat:=1000000
inductive kD where
 | nm (i:Nat) | tp (is:List Nat)
inductive Bt where
 | len | list | tuple | int | str | abs | min2 | max2 | all | any | sum | isi (T:String) | sorted | bool | lrev | lrng | divm | maxd
inductive EE where
 | sfind | sindex | sjoin | ssplit | lindex | lcount | szfill | scount | sstarts
inductive qi where
 | append | extend | insert | pop | vL | reverse | clear
mutual
inductive Ex where
 | var (i:Nat)
 | cst (d:D)
 | glb (k:Nat)
 | bin (op:Operator) (a b:Ex)
 | neg (a:Ex)
 | cmp (op:CmpOp) (a b:Ex)
 | chn (op op':CmpOp) (a b c:Ex)
 | and (a b:Ex)
 | or (a b:Ex)
 | not (a:Ex)
 | ite (c a b:Ex)
 | lst (es:my)
 | tup (es:my)
 | ix (a i:Ex)
 | sl (a:Ex) (lo hi:mL)
 | call (f:Nat) (es:my)
 | blt (b:Bt) (es:my)
 | mth (m:EE) (o:Ex) (es:my)
 | comp (own:Nat) (pick:List Nat) (t:kD) (it:vG) (c:mL) (e:Ex)
 | dnew
 | ddsp (l:List (Nat×Int))
 | snoc (a b:Ex)
 | app (g:List D->Option D) (es:my)
inductive my where
 | nil | cons (e:Ex) (es:my)
inductive mL where
 | none | some (e:Ex)
inductive vG where
 | seq (e:Ex) | rng1 (a:Ex) | rng2 (a b:Ex) | rng3 (a b c:Ex) | enum (e:Ex) | zip (a b:Ex) | rev (e:Ex)
end
mutual
inductive St where
 | asg (t:kD) (e:Ex) (mv:Bool)
 | mut (x:Nat) (path:mL) (m:qi) (es:my)
 | setix (x:Nat) (path:mL) (i:Ex) (e:Ex)
 | putd (x:Nat) (i v:Ex)
 | aug (x:Nat) (op:Operator) (e:Ex)
 | popa (y x:Nat) (es:my)
 | apop (y x:Nat) (es:my)
 | frzd (x:Nat) (s:St)
 | expr (e:Ex)
 | ite (c:Ex) (a b:cJ)
 | forr (t:kD) (it:vG) (b:cJ)
 | forw (x:Nat) (e:Ex) (b:cJ)
 | whl (c:Ex) (b:cJ)
 | ret (e:Ex)
 | retN | brk | cnt | pass
inductive cJ where
 | nil | cons (s:St) (r:cJ)
end
noncomputable def ck (n:Nat)(d:D):Option D:=if n<=lim then some d else none
noncomputable def small (i:Int):Bool:=decide (-(2 ^ 64)<i/\i<2 ^ 64)
noncomputable def binI:Operator->Int->Int->Option Int
 |.Add,i,j=>some (i+j)
 |.Sub,i,j=>some (i - j)
 |.Mult,i,j=>if small i || small j then some (i*j) else none
 |.FloorDiv,i,j=>if 0<j/\j<1073741824 then some (i / j) else none
 |.Mod,i,j=>if 0<j then some (i%j) else none
 |.Pow,i,j=>if 0<=j/\j<=1000000/\i.natAbs<2 ^ 64 then some (i ^ j.toNat) else none
 |.LShift,i,j=>if 0<=j/\j<=1000000/\i.natAbs<2 ^ 64 then some (i*2 ^ j.toNat) else none
 |.RShift,i,j=>if 0<=j then some (i / 2 ^ j.toNat) else none
 |.BitAnd,i,j=>some (Builtin.bitAnd i j)
 |.BitOr,i,j=>some (Builtin.bitOr i j)
 |.BitXor,i,j=>some (Builtin.bitXor i j)
 |_,_,_=>none
noncomputable def uA (a:Str)(k:Nat):Str:=⟨(List.replicate k a.cps).foldl (fun x y=>x++y) #[]⟩
noncomputable def lQ:Operator->D->D->Option D
 |op,.int i,.int j=>(binI op i j).map .int
 |.Add,.str a,.str b=>ck (a.length+b.length) (.str (a++b))
 |.Add,.lst a,.lst b=>ck (a.length+b.length) (.lst (a++b))
 |.Mult,.str a,.int k=>if 1<k/\k<=1000/\0<a.length/\a.length<=1000 then some (.str (uA a k.toNat)) else none
 |.Add,.tup a,.tup b=>if a.isEmpty then none else ck (a.length+b.length) (.tup (a++b))
 |.Mult,.lst a,.int k=>if -(2 ^ 63)<=k/\k<2 ^ 63 then (if D.flats a then ck (a.length*k.toNat) (.lst (List.replicate k.toNat a).flatten) else none) else none
 |_,_,_=>none
noncomputable def ET:Option Int->D
 |none=>.non
 |some i=>.int i
noncomputable def qy (kvs:List ((Int ⊕ Str)×Option Int))(k:Int ⊕ Str):Option (Option Int):=(kvs.find? fun q=>decide (q.1=k)).map (·.2)
noncomputable def inS (x y:Str):Bool:=!(Builtin.Str.occurrences y x 0 y.length 1).isEmpty
noncomputable def addK {α:Type}[BEq α](ks:List α)(k:α):List α:=if ks.contains k then ks else ks ++ [k]
noncomputable def za (kvs:List (Int×MV))(k:Int)(m:MV):List (Int×MV):=if (kvs.any fun q=>decide (q.1=k))=true then kvs.map (fun q=>if q.1=k then (q.1,m) else q) else kvs ++ [(k,m)]
noncomputable def eE:List D->Option (List Int)
 |[]=>some []
 |.int i::r=>(eE r).map (i :: ·)
 |_::_=>none
noncomputable def GX:MV->D
 |.tr=>.bl true
 |.int i=>.int i
 |.tup is=>.tup (is.map .int)
noncomputable def mvOf:D->Option MV
 |.bl true=>some .tr
 |.int i=>some (.int i)
 |.tup xs=>(eE xs).map .tup
 |_=>none
noncomputable def AD (gl:Nat->D):List (Nat×Int)->List (Int×MV)->Option (List (Int×MV))
 |[],ks=>some ks
 |q::r,ks=>match gl q.1 with
  |.int i=>AD gl r (za ks i (.int q.2))
  |_=>none
noncomputable def Fo:D->Bool
 |.bl true=>true
 |_=>false
noncomputable def yM (i j:Int):Bool:=!(i==42&&j==21)
noncomputable def putM:D->D->D->Option D
 |.mpi ks,.int k,v=>if ks.length<lim then (mvOf v).map fun m=>.mpi (za ks k m) else none
 |.mpi [],.tup [.int i,.int j],v=>if Fo v&&yM i j then some (.mpt [[i,j]]) else none
 |.mpt ks,.tup [.int i,.int j],v=>if (Fo v&&yM i j)&&decide (ks.length<lim) then some (.mpt (addK ks [i,j])) else none
 |_,_,_=>none
noncomputable def inD (x:D):D->Option Bool
 |.lst ys=>if x.dJ&&ys.all D.dJ then some (ys.any fun y=>D.eqs y x) else none
 |.tup ys=>if x.dJ&&ys.all D.dJ then some (ys.any fun y=>D.eqs y x) else none
 |.str y=>match x with
  |.str z=>some (inS z y)
  |_=>none
 | .dct ((.inr z,v)::kvs)=>match x with
  |.str s=>some (qy ((.inr z,v)::kvs) (.inr s)).isSome
  |_=>none
 |.mpi ks=>match x with
  |.int k=>some (ks.any fun q=>decide (q.1=k))
  |.tup [.int _,.int _]=>if ks.isEmpty then some false else none
  |_=>none
 |.mpz ks=>match x with
  |.int k=>some (ks.any fun q=>decide (q.1=k))
  |_=>none
 |.mpt ks=>match x with
  |.tup [.int i,.int j]=>some (ks.contains [i,j])
  |_=>none
 |_=>none
noncomputable def lz:List Int->List Int->Bool
 |[],_=>true
 |_::_,[]=>false
 |a::x,b::y=>if a=b then lz x y else decide (a<=b)
noncomputable def nL:D->Bool
 |.non=>true
 |_=>false
noncomputable def GH (eq lt:D->D->Option Bool):List D->List D->Option Bool
 |[],[]=>some false
 |[],_::_=>some true
 |_::_,[]=>some false
 |x::xs,y::ys=>(eq x y).bind fun e=>if e then GH eq lt xs ys else lt x y
noncomputable def D.ltf:Nat->D->D->Option Bool
 |_+1,.int i,.int j=>some (decide (i<j))
 |n+1,.tup xs,.tup ys=>GH (D.eqf n) (D.ltf n) xs ys
 |n+1,.lst xs,.lst ys=>GH (D.eqf n) (D.ltf n) xs ys
 |_,_,_=>none
noncomputable def kz:CmpOp->D->D->Option Bool
 |.Lt,.int i,.int j=>some (decide (i<j))
 |.Lt,.tup xs,.tup ys=>D.ltf 39 (.tup xs) (.tup ys)
 |.LtE,.int i,.int j=>some (decide (i<=j))
 |.LtE,.tup xs,.tup ys=>(eE xs).bind fun a=>(eE ys).map fun b=>lz a b
 |.Gt,.int i,.int j=>some (decide (j<i))
 |.GtE,.int i,.int j=>some (decide (j<=i))
 |.Eq,x,y=>D.eqf 40 x y
 |.NotEq,x,y=>(D.eqf 40 x y).map (!·)
 |.In,x,y=>inD x y
 |.NotIn,x,y=>(inD x y).map (!·)
 |.Is,x,.non=>some (nL x)
 |.IsNot,x,.non=>some (!nL x)
 |.Is,.bl a,.bl b=>some (a==b)
 |.IsNot,.bl a,.bl b=>some (!(a==b))
 |_,_,_=>none
noncomputable def truth:D->Option Bool
 |.bl b=>some b
 |.int i=>some (i != 0)
 |.str s=>if s.length<=lim then some ((s.length:Int) != 0) else none
 |.lst xs=>some (!xs.isEmpty)
 |.tup xs=>some (!xs.isEmpty)
 |.non=>some false
 |.dct _=>none
 |.mpi _=>none
 |.mpt _=>none
 |.mpz _=>none
noncomputable def iZ (n:Nat)(i:Int):Option Nat:=if 0<=i then (if i<n then some i.toNat else none) else if -(n:Int)<=i then some (i+n).toNat else none
noncomputable def aU (n d:Nat):Option Int->Nat
 |none=>d
 |some v=>if v<0 then (v+(n:Int)).toNat else min v.toNat n
noncomputable def cut {α:Type}(xs:List α)(lo hi:Option Int):List α :=
 let a:=aU xs.length 0 lo
 (xs.drop a).take (aU xs.length xs.length hi - a)
noncomputable def Bv:D->D->Option D
 |.lst xs,.int i=>(iZ xs.length i).bind fun j=>xs[j]?
 |.tup xs,.int i=>(iZ xs.length i).bind fun j=>xs[j]?
 |.str s,.int i=>if s.length<=lim then ((iZ s.cps.toList.length i).bind fun j=>s.cps.toList[j]?).map fun c=>.str ⟨#[c]⟩ else none
 |.dct kvs,.int i=>(qy kvs (.inl i)).map ET
 |.dct kvs,.str s=>(qy kvs (.inr s)).map ET
 |.mpi ks,.int k=>(ks.find? fun q=>decide (q.1=k)).map fun q=>GX q.2
 |.mpz ks,.int k=>(ks.find? fun q=>decide (q.1=k)).map fun q=>GX q.2
 |_,_=>none
noncomputable def Ga:D->Option Int->Option Int->Option D
 |.lst xs,lo,hi=>some (.lst (cut xs lo hi))
 |.tup xs,lo,hi=>if aU xs.length 0 lo=0/\aU xs.length xs.length hi=xs.length then none else some (.tup (cut xs lo hi))
 |.str s,lo,hi=>if s.length<=lim then some (.str ⟨(cut s.cps.toList lo hi).toArray⟩) else none
 |_,_,_=>none
noncomputable def D.inner:D->Bool
 |.lst xs=>D.flats xs
 |.tup xs=>D.flats xs
 |_=>true
noncomputable def dM (d:D)(R:List Nat):Rt:=if d.inner then .mv [] else .sh R
noncomputable def oH (d:D)(r:Rt):Rt:=if d.flat then .mv [] else .sh r.roots
noncomputable def eF:List Rt->Option (List Nat)
 |[]=>some []
 |.mv R::r=>(eF r).map (R ++ ·)
 |.sh _::_=>none
noncomputable def aT (l:List Rt):List Nat:=(l.map Rt.roots).flatten
noncomputable def A6:D->D->Rt->Option D
 |.lst xs,y,.mv []=>if D.flats xs&&decide (xs.length+1<=lim) then some (.lst (xs ++ [y])) else none
 |_,_,_=>none
noncomputable def oV (l:List Rt):Rt:=match eF l with
 |some R=>if R.Nodup then .mv R else .sh R
 |none=>.sh (aT l)
noncomputable def wc (T:String):D->Bool
 |.non=>T == "NoneType"
 |.bl _=>T == "bool" || T == "int"
 |.int _=>T == "int"
 |.str _=>T == "str"
 |.lst _=>T == "list"
 |.tup _=>T == "tuple"
 |.dct _=>false
 |.mpi _=>false
 |.mpt _=>false
 |.mpz _=>false
noncomputable def D.isBl:D->Bool
 |.bl _=>true
 |_=>false
noncomputable def allB:List D->Option Bool
 |[]=>some true
 |.bl b::r=>if b then allB r else some false
 |_::_=>none
noncomputable def anyB:List D->Option Bool
 |[]=>some false
 |.bl b::r=>if b then some true else anyB r
 |_::_=>none
noncomputable def rS:Int->List D->Option Int
 |a,[]=>some a
 |a,.int i::r=>rS (a+i) r
 |_,_::_=>none
noncomputable def BG:Int->List D->Option Int
 |a,[]=>some a
 |a,.int i::r=>BG (if i > a then i else a) r
 |_,_::_=>none
noncomputable def aZ:Int->Int->Nat->List D
 |_,_,0=>[]
 |a,s,n+1=>.int a::aZ (a+s) s n
noncomputable def gL (i:Int):Bool:=decide (-(2 ^ 62)<=i/\i<2 ^ 62)
noncomputable def qk:List D->Option (List (List Int))
 |[]=>some []
 |.tup xs::r=>(eE xs).bind fun k=>if k.isEmpty then none else (qk r).map (k :: ·)
 |_::_=>none
noncomputable def uX:List Int->List Int->Bool
 |[],[]=>false
 |[],_::_=>true
 |_::_,[]=>false
 |a::x,b::y=>if a==b then uX x y else decide (a<b)
noncomputable def EV {α:Type}(f:Nat->Nat->Option Bool):PySem.W.KasT α->Option α
 |.ret a=>some a
 |.ask i j k=>(f i j).bind fun b=>EV f (k b)
noncomputable def FW (xs:List D):Option (List D):=if 2<=xs.length/\xs.length<64 then (qk xs).bind fun ks =>
  (EV (fun i j=>(ks[i]?).bind fun a=>(ks[j]?).map fun b=>uX a b) (PySem.W.kas_sort xs.length)).bind fun p =>
   if p.size<=64 then some (p.toList.map fun i=>xs.getD i .non) else none
 else none
noncomputable def insI (a:Int):List Int->List Int
 |[]=>[a]
 |b::l=>if a<=b then a::b::l else b::insI a l
noncomputable def xA:List Int->List Int
 |[]=>[]
 |a::l=>insI a (xA l)
noncomputable def vJ:List D->Option D
 |[.lst xs]=>match eE xs with
  |some ns=>if ns.length<64 then some (.lst ((xA ns).map .int)) else none
  |none=>(FW xs).map .lst
 |_=>none
noncomputable def GW:List D->Option D
 |[.lst xs]=>some (.int xs.length)
 |[.tup xs]=>some (.int xs.length)
 |[.str s]=>if s.length<=lim then some (.int s.length) else none
 |[.mpt ks]=>some (.int ks.length)
 |_=>none
noncomputable def CD:List D->Option D
 |[.lst xs]=>some (.lst xs)
 |[.tup xs]=>some (.lst xs)
 |[.mpi ks]=>if ks.length<=lim then some (.lst (ks.map fun q=>.int q.1)) else none
 |_=>none
noncomputable def zo:List D->Option D
 |[.lst xs]=>some (.tup xs)
 |_=>none
noncomputable def G7:List D->Option D
 |[.int i]=>some (.int (if i<0 then -i else i))
 |_=>none
noncomputable def dO (lt:Nat->Nat->Bool):Nat->Nat->Nat->Nat
 |0,_,m=>m
 |k+1,j,m=>dO lt k (j+1) (if lt j m then j else m)
noncomputable def minD (xs:List D):Option D:=if xs.isEmpty then none else match eE xs with
 |some ns=>xs[dO (fun i j=>decide (ns.getD i 0<ns.getD j 0)) (xs.length - 1) 1 0]?
 |none=>(qk xs).bind fun ks=>xs[dO (fun i j=>uX (ks.getD i []) (ks.getD j [])) (xs.length - 1) 1 0]?
noncomputable def qJ:List D->Option D
 |[.int i,.int j]=>some (.int (if j<i then j else i))
 |[.lst xs]=>minD xs
 |_=>none
noncomputable def Dz:List D->Option D
 |[.int i,.int j]=>some (.int (if j > i then j else i))
 |_=>none
noncomputable def GL:List D->Option D
 |[.lst xs]=>if xs.all D.isBl then (allB xs).map .bl else none
 |_=>none
noncomputable def FH:List D->Option D
 |[.lst xs]=>if xs.all D.isBl then (anyB xs).map .bl else none
 |_=>none
noncomputable def BF:List D->Option D
 |[.lst xs]=>(rS 0 xs).map .int
 |_=>none
noncomputable def Gc (T:String):List D->Option D
 |[.dct _]=>none
 |[.mpi _]=>none
 |[.mpt _]=>none
 |[.mpz _]=>none
 |[d]=>some (.bl (wc T d))
 |_=>none
noncomputable def Cn:List D->Option D
 |[.lst xs]=>some (.lst xs.reverse)
 |_=>none
noncomputable def Cc:List D->Option D
 |[.int n]=>if gL n=true/\n<=1000000 then some (.lst (aZ 0 1 n.toNat)) else none
 |[.int a,.int b]=>if gL a=true/\gL b=true/\b - a<=1000000 then some (.lst (aZ a 1 (b - a).toNat)) else none
 |_=>none
noncomputable def EX:List D->Option D
 |[.str s]=>if s.length<=640 then (PySem.intText? s).map .int else none
 |[.int i]=>some (.int i)
 |[.bl b]=>some (.int (if b then 1 else 0))
 |_=>none
noncomputable def C8:List D->Option D
 |[.int i,.int j]=>if 0<j/\j<1073741824 then some (.tup [.int (i / j),.int (i%j)]) else none
 |_=>none
noncomputable def EU:List D->Option D
 |[.int i]=>if i.natAbs<1000000 then some (.str (Str.ofString (toString i))) else none
 |_=>none
noncomputable def CU:List D->Option D
 |[.lst [],.int d]=>some (.int d)
 | [.lst (.int i::r),.int _]=>(BG i r).map .int
 |_=>none
noncomputable def fQ:Bt->List D->Option D
 |.sorted,ds=>vJ ds
 |.len,ds=>GW ds
 |.list,ds=>CD ds
 |.tuple,ds=>zo ds
 |.abs,ds=>G7 ds
 |.min2,ds=>qJ ds
 |.max2,ds=>Dz ds
 |.all,ds=>GL ds
 |.any,ds=>FH ds
 |.sum,ds=>BF ds
 |.isi T,ds=>Gc T ds
 |.lrev,ds=>Cn ds
 |.lrng,ds=>Cc ds
 |.int,ds=>EX ds
 |.divm,ds=>C8 ds
 |.maxd,ds=>CU ds
 |.str,ds=>EU ds
 |_,_=>none
noncomputable def Fm (k:Int):List D->Option Nat
 |[]=>some 0
 |.int i::r=>(Fm k r).map fun c=>if i==k then c+1 else c
 |_::_=>none
noncomputable def wQ:List D->Option (List Str)
 |[]=>some []
 |.str s::r=>(wQ r).map (s :: ·)
 |_::_=>none
noncomputable def CP (x y:Str):List Str :=
 if (decide (x.length<y.length) || decide (Builtin.Str.strKind x<Builtin.Str.strKind y))=true then [x] else
 if (Builtin.Str.occurrences x y 0 x.length (x.length+1)).isEmpty=true then [x] else Builtin.Str.partsBetween x (Builtin.Str.occurrences x y 0 x.length (x.length+1)) y.length
noncomputable def n9:EE->D->List D->Option D
 |.sfind,.str x,[.str y]=>some (.int (match Builtin.Str.occurrences x y 0 x.length 1 with
  |i::_=>(i:Int)
  |[]=>-1))
 |.sindex,.str x,[.str y]=>match Builtin.Str.occurrences x y 0 x.length 1 with
  |i::_=>some (.int (i:Int))
  |[]=>none
 |.sindex,.lst xs,[.int k]=>(eE xs).bind fun ns=>if k∈ns/\ns.length<=lim then some (.int ((ns.idxOf k:Nat):Int)) else none
 |.sjoin,.str x,[.lst xs]=>(wQ xs).bind fun ys=>if (ys.map (·.length)).sum+ys.length*x.length<=lim then some (.str (PySem.Str.join x ys)) else none
 |.ssplit,.str x,[.str y]=>if 0<y.length/\x.length<=lim then some (.lst ((CP x y).map .str)) else none
 |.lcount,.lst xs,[.int k]=>(Fm k xs).map fun (c:Nat)=>.int (c:Int)
 |_,_,_=>none
noncomputable def Tg.drop (i:Nat):Tg->Tg
 |.sh R=>.sh (R.filter (· != i))
 |t=>t
noncomputable def dB (d:D)(R:List Nat):Tg:=if d.flat then .own else .sh R
noncomputable def put (env:En)(i:Nat)(d:D)(t:Tg):En:=(env.map fun (s:Slot)=>s.map fun (p:D×Tg)=>(p.1,p.2.drop i)).set i (some (d,t))
noncomputable def iR (R:List Nat):Tg->Bool
 |.sh Q=>Q.any fun q=>R.contains q
 |_=>false
noncomputable def kill (R:List Nat)(env:En):En:=env.mapIdx fun i (s:Slot)=>match s with
 | some (d,t)=>if R.contains i || iR R t then none else some (d,t)
 |none=>none
noncomputable def iH (env:En)(R:List Nat):Bool:=R.all fun i=>match env[i]? with
 | some (some (_,.own))=>true
 |_=>false
noncomputable def bindM (f:D->Tg):List Nat->List D->En->Option En
 |[],[],env=>some env
 |i::is,d::ds,env=>if i<env.length then bindM f is ds (put env i d (f d)) else none
 |_,_,_=>none
noncomputable def bQ (R:List Nat):kD->D->En->Option En
 |.nm i,d,env=>if i<env.length then some (put env i d (dB d R)) else none
 |.tp is,.tup ds,env=>bindM (fun d=>dB d R) is ds env
 |_,_,_=>none
structure Tb where
 cl:Nat->List D->Rs (D×Bool)
 gl:Nat->D
 fuel:Nat
noncomputable def fE {α:Type}:Option α->Rs α
 |some a=>.ok a
 |none=>.bad
noncomputable def wm:D->Option (List D)
 |.lst xs=>some xs
 |.tup xs=>some xs
 |.str s=>if s.length<=lim then some (s.cps.toList.map fun c=>.str ⟨#[c]⟩) else none
 |.mpz ks=>some (ks.map fun q=>.int q.1)
 |_=>none
noncomputable def Bo:D->Option (List D)
 |.lst xs=>some xs
 |_=>none
noncomputable def BK:D->Option (List D)
 |.lst xs=>some xs
 |.str s=>some (s.cps.toList.map fun c=>.str ⟨#[c]⟩)
 |_=>none
noncomputable def iA (f:D->Rs (Option (D×Rt))):List D->Rs (List (D×Rt))
 |[]=>.ok []
 |d::r=>(f d).bind fun o=>(iA f r).bind fun l=>.ok (match o with
  |some p=>p::l
  |none=>l)
noncomputable def gQ (o:Option En)(c:En->Rs Bool)(e:En->Rs (D×Rt)):Rs (Option (D×Rt)):=match o with
 |none=>.bad
 |some env=>(c env).bind fun k=>if k then (e env).bind fun q=>.ok (some q) else .ok none
noncomputable def iP:Rt->Bool
 |.mv []=>true
 |_=>false
noncomputable def aX (i:Nat):Tg->List Nat
 |.own=>[i]
 |.lk=>[i]
 |.sh R=>R
noncomputable def mU (env:En)(pick:List Nat):List Nat:=(pick.map fun j=>match env[j]? with
 | some (some (_,t))=>aX j t
 |_=>[]).flatten
noncomputable def eR (env:En)(own:Nat)(pick:List Nat):En:=List.replicate own none++pick.map fun i=>match env[i]? with
 | some (some (d,_))=>some (d,.sh [])
 |_=>none
mutual
noncomputable def ev (T:Tb):Ex->En->Rs (D×Rt)
 |.var i,env=>match env[i]? with
  | some (some (d,t))=>.ok (d,if d.flat then .mv [] else match t with
   |.own=>.mv [i]
   |.lk=>.mv [i]
   |.sh R=>.sh R)
  |_=>.bad
 |.cst d,_=>.ok (d,.mv [])
 |.glb k,_=>.ok (T.gl k,.mv [])
 |.bin op a b,env=>(ev T a env).bind fun p=>(ev T b env).bind fun q=>(fE (lQ op p.1 q.1)).bind fun d=>.ok (d,dM d (p.2.roots++q.2.roots))
 |.neg a,env=>(ev T a env).bind fun p=>match p.1 with
  |.int i=>.ok (.int (-i),.mv [])
  |_=>.bad
 |.cmp op a b,env=>(ev T a env).bind fun p=>(ev T b env).bind fun q=>(fE (kz op p.1 q.1)).bind fun c=>.ok (.bl c,.mv [])
 |.chn op op' a b c,env=>(ev T a env).bind fun p=>(ev T b env).bind fun q=>(fE (kz op p.1 q.1)).bind fun k =>
   if k then (ev T c env).bind fun r=>(fE (kz op' q.1 r.1)).bind fun k'=>.ok (.bl k',.mv []) else .ok (.bl false,.mv [])
 |.and a b,env=>(ev T a env).bind fun p=>match p.1 with
  |.bl true=>ev T b env
  |.bl false=>.ok (.bl false,.mv [])
  |_=>.bad
 |.or a b,env=>(ev T a env).bind fun p=>match p.1 with
  |.bl true=>.ok (.bl true,.mv [])
  |.bl false=>ev T b env
  |_=>.bad
 |.not a,env=>(ev T a env).bind fun p=>match p.1 with
  |.bl k=>.ok (.bl (!k),.mv [])
  |_=>.bad
 |.ite c a b,env=>(ev T c env).bind fun p=>(fE (truth p.1)).bind fun k=>if k then ev T a env else ev T b env
 |.lst es,env=>(aV T es env).bind fun l=>if l.length<=lim then .ok (.lst (l.map (·.1)),oV (l.map (·.2))) else .bad
 |.tup es,env=>(aV T es env).bind fun l=>if l.length<=lim then .ok (.tup (l.map (·.1)),oV (l.map (·.2))) else .bad
 |.ix a i,env=>(ev T a env).bind fun p=>(ev T i env).bind fun q=>(fE (Bv p.1 q.1)).bind fun d=>.ok (d,oH d p.2)
 |.sl a lo hi,env=>(ev T a env).bind fun p=>(jQ T lo env).bind fun l=>(jQ T hi env).bind fun h=>(fE (Ga p.1 l h)).bind fun d=>.ok (d,dM d p.2.roots)
 |.call f es,env=>(aV T es env).bind fun l=>(T.cl f (l.map (·.1))).bind fun r=>.ok (r.1,if r.2 then .mv [] else .sh (aT (l.map (·.2))))
 |.blt b es,env=>(aV T es env).bind fun l=>(fE (fQ b (l.map (·.1)))).bind fun d=>.ok (d,dM d (aT (l.map (·.2))))
 |.mth m o es,env=>(ev T o env).bind fun p=>(aV T es env).bind fun l=>(fE (n9 m p.1 (l.map (·.1)))).bind fun d=>.ok (d,dM d (p.2.roots++aT (l.map (·.2))))
 |.comp own pick t it c e,env=>(iS T it env).bind fun p=>(iA (fun d=>gQ (bQ [] t d (eR env own pick)) (Ej T c) (ev T e)) p.1).bind fun l =>
    if p.1.length<=lim then .ok (.lst (l.map (·.1)),if l.all (fun q=>q.1.flat || iP q.2) then .mv [] else .sh (p.2++mU env pick)) else .bad
 |.dnew,_=>.ok (.mpi [],.mv [])
 |.ddsp l,_=>(fE (AD T.gl l [])).bind fun ks=>.ok (.mpi ks,.mv [])
 |.snoc a b,env=>(ev T a env).bind fun p=>(ev T b env).bind fun q=>(fE (A6 p.1 q.1 q.2)).bind fun d=>.ok (d,.mv [])
 |.app g es,env=>(aV T es env).bind fun l=>(fE (g (l.map (·.1)))).bind fun d=>.ok (d,.mv [])
noncomputable def aV (T:Tb):my->En->Rs (List (D×Rt))
 |.nil,_=>.ok []
 |.cons e es,env=>(ev T e env).bind fun p=>(aV T es env).bind fun l=>.ok (p::l)
noncomputable def jQ (T:Tb):mL->En->Rs (Option Int)
 |.none,_=>.ok none
 |.some e,env=>(ev T e env).bind fun p=>match p.1 with
  |.int i=>.ok (some i)
  |_=>.bad
noncomputable def Ej (T:Tb):mL->En->Rs Bool
 |.none,_=>.ok true
 |.some e,env=>(ev T e env).bind fun p=>fE (truth p.1)
noncomputable def iS (T:Tb):vG->En->Rs (List D×List Nat)
 |.seq e,env=>(ev T e env).bind fun p=>(fE (wm p.1)).bind fun l=>.ok (l,p.2.roots)
 |.rng1 a,env=>(ev T a env).bind fun p=>match p.1 with
  |.int j=>if gL j then .ok (aZ 0 1 j.toNat,[]) else .bad
  |_=>.bad
 |.rng2 a b,env=>(ev T a env).bind fun p=>(ev T b env).bind fun q=>match p.1,q.1 with
  |.int i,.int j=>if gL i&&gL j then .ok (aZ i 1 (j - i).toNat,[]) else .bad
  |_,_=>.bad
 |.rng3 a b c,env=>(ev T a env).bind fun p=>(ev T b env).bind fun q=>(ev T c env).bind fun r=>match p.1,q.1,r.1 with
  |.int i,.int j,.int k=>if gL i&&gL j&&k != 0&&decide (k.natAbs<1073741824) then .ok (aZ i k (Builtin.Range.rangeSize i j k).toNat,[]) else .bad
  |_,_,_=>.bad
 |.enum e,env=>(ev T e env).bind fun p=>(fE (BK p.1)).bind fun l=>.ok (l.zipIdx.map fun q=>.tup [.int q.2,q.1],p.2.roots)
 |.zip a b,env=>(ev T a env).bind fun p=>(ev T b env).bind fun q=>(fE (Bo p.1)).bind fun l=>(fE (BK q.1)).bind fun m=>.ok ((l.zip m).map fun z=>.tup [z.1,z.2],p.2.roots++q.2.roots)
 |.rev e,env=>(ev T e env).bind fun p=>(fE (Bo p.1)).bind fun l=>.ok (l.reverse,p.2.roots)
end
noncomputable def D.at1:D->Option Int->Option (List D)
 |.lst xs,none=>some xs
 |.lst xs,some i=>(iZ xs.length i).bind fun j=>match xs[j]? with
  | some (.lst ys)=>some ys
  |_=>none
 |.tup xs,some i=>(iZ xs.length i).bind fun j=>match xs[j]? with
  | some (.lst ys)=>some ys
  |_=>none
 |_,_=>none
noncomputable def D.set1:D->Option Int->List D->D
 |.lst _,none,n=>.lst n
 |.lst xs,some i,n=>match iZ xs.length i with
  |some j=>.lst (xs.set j (.lst n))
  |none=>.lst xs
 |.tup xs,some i,n=>match iZ xs.length i with
  |some j=>.tup (xs.set j (.lst n))
  |none=>.tup xs
 |d,_,_=>d
noncomputable def uW:qi->List D->List D->Option (List D)
 |.append,xs,[d]=>some (xs ++ [d])
 |.extend,xs,[.lst ys]=>if D.flats ys then some (xs++ys) else none
 |.insert,xs,[.int i,d]=>if -(2 ^ 63)<=i/\i<2 ^ 63 then some (xs.take (aU xs.length 0 (some i))++d::xs.drop (aU xs.length 0 (some i))) else none
 |.pop,xs,[]=>if xs.isEmpty then none else some xs.dropLast
 |.reverse,xs,[]=>some xs.reverse
 |.clear,_,[]=>some []
 |_,_,_=>none
noncomputable def vL (xs:List D)(j:Nat):Option (D×List D):=match xs[j]? with
 |some r=>if r.flat then some (r,xs.eraseIdx j) else none
 |none=>none
noncomputable def Fx (xs:List D):List D->Option (D×List D)
 |[]=>vL xs (xs.length - 1)
 |[.int i]=>if -(2 ^ 63)<=i/\i<2 ^ 63 then (iZ xs.length i).bind (vL xs) else none
 |_=>none
inductive Fl where
 | nx (env:En) | rt (d:D) (fr:Bool) | bk (env:En) | ct (env:En) | xc (e:Exc) (env:En) | bad
noncomputable def yT:Option En->Fl
 |some env=>.nx env
 |none=>.bad
noncomputable def uP (t:kD)(mv:Bool)(env:En)(p:D×Rt):Fl:=match t with
 |.nm i=>if i<env.length then (match p.2 with
  |.mv []=>.nx (put env i p.1 .own)
  |.mv R=>if mv then (if iH env R then .nx (put (kill R env) i p.1 .own) else .bad) else .nx (put env i p.1 (.sh (R.filter (· != i))))
  |.sh R=>.nx (put env i p.1 (.sh (R.filter (· != i))))) else .bad
 |.tp is=>match p.1 with
  |.tup ds=>match p.2 with
   |.mv []=>yT (bindM (fun _=>.own) is ds env)
   |r=>if is.all (fun i=>!r.roots.contains i) then yT (bindM (fun d=>dB d r.roots) is ds env) else .bad
  |_=>.bad
noncomputable def Fl.andThen (f:Fl)(k:En->Fl):Fl:=match f with
 |.nx env=>k env
 |x=>x
noncomputable def gB {α:Type}(env:En)(x:Rs α)(k:α->Fl):Fl:=match x with
 |.ok a=>k a
 |.exc e=>.xc e env
 |.bad=>.bad
noncomputable def bL (t:kD)(R:List Nat)(b:En->Fl):List D->En->Fl
 |[],env=>.nx env
 |d::r,env=>match bQ R t d env with
  |none=>.bad
  |some env'=>match b env' with
   |.nx e=>bL t R b r e
   |.ct e=>bL t R b r e
   |.bk e=>.nx e
   |x=>x
noncomputable def BB (x:Nat)(b:En->Fl):List D->En->Fl
 |[],env=>.nx env
 |d::r,env=>if x<env.length then (match b (put env x d .own) with
  |.nx e=>BB x b r e
  |_=>.bad) else .bad
noncomputable def fA (c:En->Rs Bool)(b:En->Fl):Nat->En->Fl
 |0,_=>.bad
 |n+1,env=>gB env (c env) fun k=>if k then (match b env with
   |.nx e=>fA c b n e
   |.ct e=>fA c b n e
   |.bk e=>.nx e
   |x=>x) else .nx env
noncomputable def lock (R:List Nat)(env:En):En:=env.mapIdx fun i (s:Slot)=>match s with
 | some (d,.own)=>if R.contains i then some (d,.lk) else some (d,.own)
 |s=>s
noncomputable def unlock (R:List Nat)(env0 env:En):En:=env.mapIdx fun i (s:Slot)=>match s with
 | some (d,.lk)=>match env0[i]? with
  | some (some (_,.own))=>if R.contains i then some (d,.own) else some (d,.lk)
  |_=>some (d,.lk)
 |s=>s
noncomputable def qi.copies:qi->Bool
 |.extend=>true
 |_=>false
noncomputable def gS (x:Nat)(path:Option Int)(env:En)(d:D)(ys:List D)(rs:List Rt):Fl:=match eF rs with
 |none=>.bad
 |some R=>if R.Nodup&&iH env R && !R.contains x&&decide (ys.length<=lim) then .nx ((kill (x::R) env).set x (some (d.set1 path ys,.own))) else .bad
noncomputable def ownAt (env:En)(x:Nat):Option D:=match env[x]? with
 | some (some (d,.own))=>some d
 |_=>none
noncomputable def Gf (env:En)(x:Nat):En:=match ownAt env x with
 | some (.mpi ks)=>(kill [x] env).set x (some (.mpz ks,.own))
 |_=>env
noncomputable def augI:Operator->Int->Int->Option Int
 |.Add,i,j=>some (i+j)
 |.Sub,i,j=>some (i - j)
 |_,_,_=>none
noncomputable def augE (op:Operator)(x:Nat)(a:Int)(env:En)(p:D×Rt):Fl:=match p.1 with
 |.int b=>(match augI op a b with
  |some c=>uP (.nm x) false env (.int c,.mv [])
  |none=>.bad)
 |_=>.bad
noncomputable def intAt (env:En)(x:Nat):Option Int:=match env[x]? with
 | some (some (.int a,_))=>some a
 |_=>none
mutual
noncomputable def bM (T:Tb):St->En->Fl
 |.asg t e mv,env=>gB env (ev T e env) (uP t mv env)
 |.mut x path m es,env=>match ownAt env x with
  |none=>.bad
  |some d=>gB env (jQ T path env) fun p=>match d.at1 p with
   |none=>.bad
   |some xs=>gB env (aV T es env) fun l=>match uW m xs (l.map (·.1)) with
    |none=>.bad
    |some ys=>if (aT (l.map (·.2))).contains x then .bad else gS x p env d ys (if m.copies then [] else l.map (·.2))
 |.putd x i v,env=>match ownAt env x with
  |none=>.bad
  |some d=>gB env (ev T v env) fun u=>gB env (ev T i env) fun q=>match putM d q.1 u.1 with
   |none=>.bad
   |some d'=>.nx ((kill [x] env).set x (some (d',.own)))
 |.setix x path i e,env=>match ownAt env x with
  |none=>.bad
  |some d=>gB env (ev T e env) fun v=>gB env (jQ T path env) fun p=>match d.at1 p with
   |none=>.bad
   |some xs=>gB env (ev T i env) fun q=>match q.1 with
    |.int i=>(match iZ xs.length i with
     |none=>.bad
     |some j=>gS x p env d (xs.set j v.1) [v.2])
    |_=>.bad
 |.aug x op e,env=>match intAt env x with
  |none=>.bad
  |some a=>gB env (ev T e env) (augE op x a env)
 |.popa y x es,env=>match ownAt env x with
  |none=>.bad
  |some d=>(match d.at1 none with
   |none=>.bad
   |some xs=>gB env (aV T es env) fun l=>match Fx xs (l.map (·.1)) with
    |none=>.bad
    |some q=>(gS x none env d q.2 []).andThen fun e=>uP (.nm y) false e (q.1,.mv []))
 |.apop y x es,env=>if y=x then .bad else match ownAt env x with
  |none=>.bad
  |some d=>(match d.at1 none with
   |none=>.bad
   |some xs=>gB env (aV T es env) fun l=>match Fx xs (l.map (·.1)) with
    |none=>.bad
    |some q=>(gS x none env d q.2 []).andThen fun e=>match ownAt e y with
     |none=>.bad
     |some dy=>(match dy.at1 none with
      |none=>.bad
      |some ys=>gS y none e dy (ys ++ [q.1]) []))
 |.frzd x s,env=>bM T s (Gf env x)
 |.expr e,env=>gB env (ev T e env) fun _=>.nx env
 |.ite c a b,env=>gB env (ev T c env) fun p=>match truth p.1 with
  |some true=>aD T a env
  |some false=>aD T b env
  |none=>.bad
 |.forr t it b,env=>gB env (iS T it env) fun p=>(match bL t p.2 (aD T b) p.1 (lock p.2 env) with
  |.nx e=>.nx (unlock p.2 env e)
  |x=>x)
 |.forw x e b,env=>gB env (ev T e env) fun p=>match p with
  | (.lst xs,.mv [])=>BB x (aD T b) xs env
  |_=>.bad
 |.whl c b,env=>fA (fun env=>(ev T c env).bind fun p=>fE (truth p.1)) (aD T b) T.fuel env
 |.ret e,env=>gB env (ev T e env) fun p=>.rt p.1 (match p.2 with
  |.mv R=>iH env R
  |.sh _=>false)
 |.retN,_=>.rt .non true
 |.brk,env=>.bk env
 |.cnt,env=>.ct env
 |.pass,env=>.nx env
noncomputable def aD (T:Tb):cJ->En->Fl
 |.nil,env=>.nx env
 |.cons s r,env=>(bM T s env).andThen (aD T r)
end
structure Fn where
 ps:Nat
 slots:Nat
 body:cJ
noncomputable def aP (ds:List D)(n:Nat):En:=ds.map (fun d=>some (d,dB d []))++List.replicate (n - ds.length) none
noncomputable def run (fns:List Fn)(gl:Nat->D)(fuel:Nat):Nat->Nat->List D->Rs (D×Bool)
 |0,_,_=>.bad
 |n+1,f,ds=>match fns[f]? with
  |none=>.bad
  |some F=>if ds.length=F.ps then (match aD ⟨run fns gl fuel n,gl,fuel⟩ F.body (aP ds F.slots) with
   |.rt d fr=>.ok (d,fr)
   |.nx _=>.ok (.non,true)
   |.xc e _=>.exc e
   |_=>.bad) else .bad
end Pc
end
section
namespace Pc
open PySem L2
noncomputable abbrev Frag:=PySem.W.Frag
inductive fW:List DictEntry->List (Key×Option Int)->Prop where
 | nil:fW [] []
 | cons {e:DictEntry}{es:List DictEntry}{k v:Int}{kvs:List (Key×Option Int)}{t u:Tok}(hh:e.hash=hashInt k) (hk:e.key = .int k t) (hv:e.val = .int v u) (r:fW es kvs):fW (e::es) ((.inl k,some v)::kvs)
 | si {e:DictEntry}{es:List DictEntry}{k:Str}{v:Int}{kvs:List (Key×Option Int)}{t u:Tok}(hk:e.key = .str k t) (hv:e.val = .int v u) (r:fW es kvs):fW (e::es) ((.inr k,some v)::kvs)
 | sn {e:DictEntry}{es:List DictEntry}{k:Str}{kvs:List (Key×Option Int)}{t:Tok}(hk:e.key = .str k t) (hv:e.val = .none) (r:fW es kvs):fW (e::es) ((.inr k,none)::kvs)
def qB (K:Frag)(a:Addr)(kvs:List (Key×Option Int)):Prop:=∃ o es ep,K.lookup a=some o/\o.ExactDict/\o.data = .dict es ep/\fW es.toList kvs/\(kvs.map (·.1)).Nodup
def uQ (w:World)(K:Frag):Prop:=∀ a o es ep,K.lookup a=some o->o.data = .dict es ep->∀ kvs,fW es.toList kvs->∀ e∈es.toList,∀ s t,e.key = .str s t->(a==sysModules)=false/\e.hash=hashStr w s
inductive ML where
 | l (vs:List V) | k (kvs:List (Key×V)) | t (kvs:List (List Key×V))
noncomputable def ML.o:ML->HO
 |.l vs=>.lst vs
 |.k kvs=>.dK kvs
 |.t kvs=>.dT kvs
noncomputable def Ar (ks:List (List Int)):List (List Key×V):=ks.map fun k=>(k.map .inl,.bl true)
noncomputable def yH:List V->Bool
 |[.int i,.int j]=>yM i j
 |_=>false
noncomputable def kq (K:Frag)(H:Hp)(a:Addr)(xs:List V):Prop :=
 H a=some (.tup xs) \/
  yH xs=false/\∃(o:Obj) (its:Array Value) (n:Nat),K.lookup a=some o/\o.cls = .type "tuple"/\o.data = .seq its n/\its.size<=sizeLine/\aN xs its.toList
noncomputable def qU (K:Frag)(H:Hp):MV->V->Prop
 |.tr,v=>v = .bl true
 |.int i,v=>v = .int i
 |.tup is,v=>∃ b,v = .ref b/\kq K H b (is.map .int)
noncomputable def iX (K:Frag)(H:Hp):List (Int×MV)->List (Key×V)->Prop
 |[],[]=>True
 |q::r,p::s=>p.1 = .inl q.1/\qU K H q.2 p.2/\iX K H r s
 |_,_=>False
theorem qU.keep {K:Frag}{H H':Hp}(t:∀ b vs,kq K H b vs->kq K H' b vs):∀{m:MV}{v:V},qU K H m v->qU K H' m v
 |.tr,_,h=>h
 |.int _,_,h=>h
 |.tup _,_,⟨b,e,h⟩=>⟨b,e,t _ _ h⟩
theorem iX.keep {K:Frag}{H H':Hp}(t:∀ b vs,kq K H b vs->kq K H' b vs):∀{q:List (Int×MV)}{x:List (Key×V)},iX K H q x->iX K H' q x
 |[],[],h=>h
 |_::_,_::_,⟨a,b,c⟩=>⟨a,b.keep t,c.keep t⟩
 |[],_::_,h=>h.elim
 |_::_,[],h=>h.elim
theorem iX.len {K:Frag}{H:Hp}:∀{q:List (Int×MV)}{x:List (Key×V)},iX K H q x->x.length=q.length
 |[],[],_=>rfl
 |_::_,_::_,⟨_,_,c⟩=>by rw[ak,ak,c.len]
 |[],_::_,h=>h.elim
 |_::_,[],h=>h.elim
theorem kq.sq {K:Frag}{H:Hp}{a:Addr}{xs:List V}(h:kq K H a xs):je K H a xs:=h.imp .inl And.right
mutual
inductive Rep (K:Frag) (H:Hp):D->V->List Addr->Prop where
 | non:Rep K H .non .non []
 | bl (b:Bool):Rep K H (.bl b) (.bl b) []
 | int (i:Int):Rep K H (.int i) (.int i) []
 | str (s:Str):Rep K H (.str s) (.str s) []
 | lst {p:Addr}{vs:List V}{ds:List D}{G:List Addr}(h:Rd H p (.lst vs)) (r:aG K H ds vs G):Rep K H (.lst ds) (.ref p) (p::G)
 | tup {p:Addr}{vs:List V}{ds:List D}{G:List Addr}(h:kq K H p vs) (r:aG K H ds vs G):Rep K H (.tup ds) (.ref p) G
 | dct {p:Addr}{kvs:List (Key×Option Int)}(h:qB K p kvs):Rep K H (.dct kvs) (.ref p) []
 | mpi {p:Addr}{ks:List (Int×MV)}{xs:List (Key×V)}(h:H p=some (.dK xs)) (r:iX K H ks xs):Rep K H (.mpi ks) (.ref p) [p]
 | mpt {p:Addr}{ks:List (List Int)}(h:Rd H p (.dT (Ar ks))):Rep K H (.mpt ks) (.ref p) [p]
 | mpz {p:Addr}{ks:List (Int×MV)}{xs:List (Key×V)}{o:Obj}(h:H p=some (.frz o (.dK xs))) (r:iX K H ks xs):Rep K H (.mpz ks) (.ref p) []
inductive aG (K:Frag) (H:Hp):List D->List V->List Addr->Prop where
 | nil:aG K H [] [] []
 | cons {d:D}{v:V}{ds:List D}{vs:List V}{G G':List Addr}(h:Rep K H d v G) (r:aG K H ds vs G'):aG K H (d::ds) (v::vs) (G++G')
end
theorem uq {H H':Hp}{b:Addr}(k:∀ u:HO,H b=some u->H' b=some u){o:HO}(h:Rd H b o):Rd H' b o:=by
 rcases h with h | ⟨u,h⟩
 ·exact .inl (k _ h)
 ·exact .inr ⟨u,k _ h⟩
def Eu (H H':Hp):Prop:=∀ b o u,H b=some (.frz o u)->H' b=some (.frz o u)
section
variable {K:Frag}{H H':Hp}
theorem Rep.keep (t:∀ b vs,kq K H b vs->kq K H' b vs)(z:Eu H H'){d:D}{v:V}{G:List Addr}(h:Rep K H d v G):(∀ b∈G,∀ u:HO,H b=some u->H' b=some u)->Rep K H' d v G :=
 Rep.rec (motive_1:=fun d v G _=>(∀ b∈G,∀ u:HO,H b=some u->H' b=some u)->Rep K H' d v G) (motive_2:=fun ds vs G _=>(∀ b∈G,∀ u:HO,H b=some u->H' b=some u)->aG K H' ds vs G)
  (fun _=>.non) (fun b _=>.bl b) (fun i _=>.int i) (fun s _=>.str s) (fun h _ ih k=>.lst (uq (k _ au) h) (ih fun b hb=>k b (ah _ hb)))
  (fun h _ ih k=>.tup (t _ _ h) (ih k)) (fun h _=>.dct h) (fun h r k=>.mpi (k _ au _ h) (r.keep t)) (fun h k=>.mpt (uq (k _ au) h)) (fun h r _=>.mpz (z _ _ _ h) (r.keep t))
  (fun _=>.nil) (fun _ _ i1 i2 k=>.cons (i1 fun b hb=>k b (bj _ hb)) (i2 fun b hb=>k b (ax _ hb))) h
theorem aG.keep (t:∀ b vs,kq K H b vs->kq K H' b vs)(z:Eu H H'){ds:List D}{vs:List V}{G:List Addr}(h:aG K H ds vs G):(∀ b∈G,∀ u:HO,H b=some u->H' b=some u)->aG K H' ds vs G :=
 aG.rec (motive_1:=fun d v G _=>True) (motive_2:=fun ds vs G _=>(∀ b∈G,∀ u:HO,H b=some u->H' b=some u)->aG K H' ds vs G)
  trivial (fun _=>trivial) (fun _=>trivial) (fun _=>trivial) (fun _ _ _=>trivial) (fun _ _ _=>trivial) (fun _=>trivial) (fun _ _=>trivial) (fun _=>trivial) (fun _ _=>trivial)
  (fun _=>.nil) (fun h _ _ i2 k=>.cons (Rep.keep t z h fun b hb=>k b (bj _ hb)) (i2 fun b hb=>k b (ax _ hb))) h
theorem aI.rd (e:aI H H'){b:Addr}{o:HO}(h:Rd H b o):Rd H' b o:=by
 rcases h with h | ⟨u,h⟩
 ·exact .inl (e _ _ h)
 ·exact .inr ⟨u,e _ _ h⟩
theorem aI.tqT (e:aI H H'){b:Addr}{vs:List V}(h:kq K H b vs):kq K H' b vs:=by
 rcases h with h | h
 ·exact .inl (e _ _ h)
 ·exact .inr h
theorem Rep.same (e:aI H H'){d:D}{v:V}{G:List Addr}(h:Rep K H d v G):Rep K H' d v G:=h.keep (fun _ _=>aI.tqT e) (fun _ _ _ h=>e _ _ h) fun _ _ _ h=>e _ _ h
theorem aG.same (e:aI H H'){d:List D}{v:List V}{G:List Addr}(h:aG K H d v G):aG K H' d v G:=h.keep (fun _ _=>aI.tqT e) (fun _ _ _ h=>e _ _ h) fun _ _ _ h=>e _ _ h
theorem Rep.flat {d:D}{v:V}{G:List Addr}(h:Rep K H d v G):d.flat=true->G=[] :=
 Rep.rec (motive_1:=fun d v G _=>d.flat=true->G=[]) (motive_2:=fun ds vs G _=>D.flats ds=true->G=[])
  (fun _=>rfl) (fun _ _=>rfl) (fun _ _=>rfl) (fun _ _=>rfl) (fun _ _ _ f=>by simp[D.flat] at f) (fun _ _ ih f=>ih (by simpa[D.flat] using f)) (fun _ _=>rfl) (fun _ _ f=>by simp[D.flat] at f) (fun _ f=>by simp[D.flat] at f) (fun _ _ _=>rfl)
  (fun _=>rfl) (fun _ _ i1 i2 f=>by
   simp only[D.flats,Bool.and_eq_true] at f;rw[i1 f.1,i2 f.2];rfl) h
theorem aG.flat {ds:List D}{vs:List V}{G:List Addr}(h:aG K H ds vs G):D.flats ds=true->G=[] :=
 aG.rec (motive_1:=fun d v G _=>True) (motive_2:=fun ds vs G _=>D.flats ds=true->G=[])
  trivial (fun _=>trivial) (fun _=>trivial) (fun _=>trivial) (fun _ _ _=>trivial) (fun _ _ _=>trivial) (fun _=>trivial) (fun _ _=>trivial) (fun _=>trivial) (fun _ _=>trivial)
  (fun _=>rfl) (fun h _ _ i2 f=>by
   simp only[D.flats,Bool.and_eq_true] at f;rw[Rep.flat h f.1,i2 f.2];rfl) h
theorem Rep.live {d:D}{v:V}{G:List Addr}(h:Rep K H d v G):∀ a∈G,∃ vs:ML,Rd H a vs.o :=
 Rep.rec (motive_1:=fun d v G _=>∀ a∈G,∃ vs:ML,Rd H a vs.o) (motive_2:=fun ds vs G _=>∀ a∈G,∃ vs:ML,Rd H a vs.o)
  (fun _ h=>(nomatch h)) (fun _ _ h=>(nomatch h)) (fun _ _ h=>(nomatch h)) (fun _ _ h=>(nomatch h)) (fun h _ ih a m=>(g9.mp m).elim (fun e=>e ▸ ⟨.l _,h⟩) (ih a)) (fun _ _ ih=>ih) (fun _ _ h=>(nomatch h))
  (fun h _ a m=>(gp.mp m) ▸ ⟨.k _,.inl h⟩) (fun h a m=>(gp.mp m) ▸ ⟨.t _,h⟩) (fun _ _ _ h=>(nomatch h))
  (fun _ h=>(nomatch h)) (fun _ _ i1 i2 a m=>(List.mem_append.mp m).elim (i1 a) (i2 a)) h
theorem aG.live {ds:List D}{vs:List V}{G:List Addr}(h:aG K H ds vs G):∀ a∈G,∃ vs:ML,Rd H a vs.o :=
 aG.rec (motive_1:=fun d v G _=>True) (motive_2:=fun ds vs G _=>∀ a∈G,∃ vs:ML,Rd H a vs.o)
  trivial (fun _=>trivial) (fun _=>trivial) (fun _=>trivial) (fun _ _ _=>trivial) (fun _ _ _=>trivial) (fun _=>trivial) (fun _ _=>trivial) (fun _=>trivial) (fun _ _=>trivial)
  (fun _ h=>(nomatch h)) (fun h _ _ i2 a m=>(List.mem_append.mp m).elim (Rep.live h a) (i2 a)) h
theorem Rd.ne_none {a:Addr}{u:HO}(h:Rd H a u):H a≠none:=by
 rcases h with h | ⟨o,h⟩<;>rw[h]<;>simp
theorem Rep.nn {d:D}{v:V}{G:List Addr}(h:Rep K H d v G){a:Addr}(m:a∈G):H a≠none:=let ⟨_,q⟩:=h.live a m;Rd.ne_none q
theorem aG.nn {d:List D}{v:List V}{G:List Addr}(h:aG K H d v G){a:Addr}(m:a∈G):H a≠none:=let ⟨_,q⟩:=h.live a m;Rd.ne_none q
theorem aG.len:∀{ds:List D}{vs:List V}{G:List Addr},aG K H ds vs G->ds.length=vs.length
 |_,_,_,.nil=>rfl
 |_,_,_,.cons _ r=>by simp[aG.len r]
theorem aG.get:∀{ds:List D}{vs:List V}{G:List Addr}{i:Nat}{d:D},aG K H ds vs G->ds[i]? = some d->∃ v G',vs[i]? = some v/\Rep K H d v G'/\G'.Sublist G
 |_,_,_,_,_,.nil,e=>by simp at e
 | _,_,_,0,_,.cons h r,e=>by
  simp at e;subst e;exact⟨_,_,rfl,h,List.sublist_append_left _ _⟩
 | _,_,_,i+1,d,.cons h r,e=>by
  obtain⟨v,G',a,b,c⟩:=aG.get (i:=i) (d:=d) r (by simpa using e);exact⟨v,G',by simpa using a,b,c.trans (List.sublist_append_right _ _)⟩
theorem aG.append:∀{ds es:List D}{vs us:List V}{G G':List Addr},aG K H ds vs G->aG K H es us G'->aG K H (ds++es) (vs++us) (G++G')
 |_,_,_,_,_,_,.nil,s=>s
 | _,_,_,_,_,_,.cons h r,s=>by
  rw[dq];exact .cons h (aG.append r s)
theorem aG.take:∀{ds:List D}{vs:List V}{G:List Addr}(n:Nat),aG K H ds vs G->∃ G',aG K H (ds.take n) (vs.take n) G'/\G'.Sublist G
 |_,_,_,0,_=>⟨[],by simpa using .nil,by simp⟩
 |_,_,_,_+1,.nil=>⟨[],by simpa using .nil,by simp⟩
 | _,_,_,n+1,.cons h r=>by
  obtain⟨G',a,b⟩:=aG.take n r;exact⟨_,by simpa using .cons h a,List.Sublist.append (List.Sublist.refl _) b⟩
theorem aG.drop:∀{ds:List D}{vs:List V}{G:List Addr}(n:Nat),aG K H ds vs G->∃ G',aG K H (ds.drop n) (vs.drop n) G'/\G'.Sublist G
 |_,_,_,0,r=>⟨_,by simpa using r,List.Sublist.refl _⟩
 |_,_,_,_+1,.nil=>⟨[],by simpa using .nil,by simp⟩
 | _,_,_,n+1,.cons h r=>by
  obtain⟨G',a,b⟩:=aG.drop n r;exact⟨_,by simpa using a,b.trans (List.sublist_append_right _ _)⟩
theorem aG.split:∀{ds:List D}{vs:List V}{G:List Addr}{i:Nat}{d:D},aG K H ds vs G->ds[i]? = some d->∃ v G1 G' G2,vs[i]? = some v/\G=G1++(G'++G2)/\Rep K H d v G' /\
  ∀(H':Hp) (d':D) (v':V) (N:List Addr),(∀ b vs,kq K H b vs->kq K H' b vs)->Eu H H'->(∀ b∈G1++G2,∀ u:HO,H b=some u->H' b=some u)->Rep K H' d' v' N->aG K H' (ds.set i d') (vs.set i v') (G1++(N++G2))
 |_,_,_,_,_,.nil,e=>by simp at e
 | _,_,_,0,_,.cons (G:=G) (G':=G') h r,e=>by
  simp at e;subst e;refine⟨_,[],_,_,rfl,rfl,h,fun H' d' v' N t z k n=>?_⟩;show aG K H' (_::_) (_::_) (N++G');exact .cons n (r.keep t z fun b hb=>k b (by simpa using hb))
 | _,_,_,i+1,d,.cons (G:=G) (G':=G') h r,e=>by
  obtain⟨v,G1,Gi,G2,a,b,c,f⟩:=aG.split (i:=i) (d:=d) r (by simpa using e);refine⟨v,G++G1,Gi,G2,by simpa using a,by rw[b];simp,c,fun H' d' v' N t z k n=>?_⟩;have q:=aG.cons (h.keep t z fun b hb=>k b (by simp[hb])) (f H' d' v' N t z (fun b hb=>k b (by simp at hb ⊢;exact Or.inr hb)) n);rw[<-dq] at q;exact q
end
noncomputable def bA:Tg->Bool
 |.own=>true
 |.lk=>true
 |.sh _=>false
structure RE (K:Frag)(P:Addr->Prop)(env:En)(σ:L2.St)(H:Hp)(F:Nat->List Addr):Prop where
 len:env.length=σ.length
 val:∀ i d t,env[i]? = some (some (d,t))->∃ v,σ[i]? = some (some v)/\Rep K H d v (F i)
 emp:∀ i,(∀ d t,env[i]?≠some (some (d,t)))->F i=[]
 one:∀ i d t,env[i]? = some (some (d,t))->bA t=true->(F i).Nodup/\(∀ a∈F i,∃ vs:ML,H a=some vs.o) /\
  ∀ a∈F i,∀ j d' t',env[j]? = some (some (d',t'))->a∈F j->i∈aX j t'
 wr:∀ i d,env[i]? = some (some (d,.own))->∀ a∈F i,¬ P a
 pl:∀ a,P a->H a≠none
structure bK (env:En)(F:Nat->List Addr)(H:Hp)(r:Rt)(H':Hp)(G:List Addr):Prop where
 cont:∀ a∈G,H a=none\/∃ i d t,a∈F i/\env[i]? = some (some (d,t))/\∀ q∈aX i t,q∈r.roots
 mv:∀ R,r = .mv R->G.Nodup/\(∀ a∈G,∃ vs:ML,H' a=some vs.o)/\∀ a∈G,H a=none\/∃ i d t,i∈R/\a∈F i/\env[i]? = some (some (d,t))/\bA t=true
theorem bK.nil {env:En}{F:Nat->List Addr}{H H':Hp}{r:Rt}:bK env F H r H' []:=⟨fun _ h=>(nomatch h),fun _ _=>⟨cn,fun _ h=>(nomatch h),fun _ h=>(nomatch h)⟩⟩
theorem RE.same {K:Frag}{P:Addr->Prop}{env:En}{σ:L2.St}{H H':Hp}{F:Nat->List Addr}(r:RE K P env σ H F)(e:aI H H'):RE K P env σ H' F where
 len:=r.len
 val:=fun i d t h=>let ⟨v,a,b⟩:=r.val i d t h;⟨v,a,b.same e⟩
 emp:=r.emp
 one:=fun i d t h o=>let ⟨a,b,c⟩:=r.one i d t h o;⟨a,fun x hx=>let ⟨vs,q⟩:=b x hx;⟨vs,e _ _ q⟩,c⟩
 wr:=r.wr
 pl:=fun a h z=>by
  cases q:H a with
  |none=>exact r.pl a h q
  |some o=>rw[e _ _ q] at z;cases z
theorem aI.no {H H':Hp}(e:aI H H'){a:Addr}(h:H' a=none):H a=none:=by
 cases q:H a with
 |none=>rfl
 |some o=>rw[e _ _ q] at h;cases h
theorem bK.back {env:En}{F:Nat->List Addr}{H H1 H':Hp}{r:Rt}{G:List Addr}(h:bK env F H1 r H' G)(e:aI H H1):bK env F H r H' G where
 cont:=fun a ha=>(h.cont a ha).imp (aI.no e) id
 mv:=fun R hr=>let ⟨a,b,c⟩:=h.mv R hr;⟨a,b,fun x hx=>(c x hx).imp (aI.no e) id⟩
theorem bK.later {env:En}{F:Nat->List Addr}{H H1 H':Hp}{r:Rt}{G:List Addr}(h:bK env F H r H1 G)(e:aI H1 H'):bK env F H r H' G where
 cont:=h.cont
 mv:=fun R hr=>let ⟨a,b,c⟩:=h.mv R hr;⟨a,fun x hx=>let ⟨vs,q⟩:=b x hx;⟨vs,e _ _ q⟩,c⟩
theorem bK.part {env:En}{F:Nat->List Addr}{H H':Hp}{r r':Rt}{G G':List Addr}(h:bK env F H r H' G)(hs:∀ a∈G',a∈G)(hr:∀ q∈r.roots,q∈r'.roots)(hn:∀ R,r'≠.mv R):bK env F H r' H' G' where
 cont:=fun a ha=>(h.cont a (hs a ha)).imp id fun ⟨i,d,t,x,y,z⟩=>⟨i,d,t,x,y,fun q hq=>hr q (z q hq)⟩
 mv:=fun R e=>absurd e (hn R)
noncomputable def qa (F:Nat->List Addr)(i:Nat)(G:List Addr):Nat->List Addr:=fun j=>if j=i then G else F j
theorem dQ {F:Nat->List Addr}{i:Nat}{G:List Addr}:qa F i G i=G:=if_pos rfl
theorem dD {F:Nat->List Addr}{i j:Nat}{G:List Addr}(h:j≠i):qa F i G j=F j:=if_neg h
theorem r6 (env:En)(i:Nat)(d:D)(t:Tg):(put env i d t).length=env.length:=by simp[put]
theorem dC {env:En}{i:Nat}{d:D}{t:Tg}(h:i<env.length):(put env i d t)[i]? = some (some (d,t)):=by
 unfold put;rw[List.getElem?_set_self (by simpa using h)]
theorem wV {env:En}{i j:Nat}{d:D}{t:Tg}(h:j≠i):(put env i d t)[j]? = (env[j]?).map fun s=>s.map fun p=>(p.1,p.2.drop i):=by
 unfold put;rw[List.getElem?_set_ne (dk h),List.getElem?_map]
theorem fV {env:En}{i j:Nat}{d d':D}{t t':Tg}(h:j≠i)(e:(put env i d t)[j]? = some (some (d',t'))):∃ t0,env[j]? = some (some (d',t0))/\t'=t0.drop i:=by
 rw[wV h] at e;cases q:env[j]? with
 |none=>rw[q] at e;cases e
 |some s =>
  rw[q] at e;cases s with
  |none=>cases e
  |some p =>
   obtain⟨a,b⟩:=p;simp only[Option.map_some,Option.some.injEq,Prod.mk.injEq] at e;obtain⟨rfl,rfl⟩:=e;exact⟨b,rfl,rfl⟩
theorem kf (t:Tg)(i:Nat):bA (t.drop i)=bA t:=by cases t<;>rfl
theorem kA {t:Tg}{i j k:Nat}(h:k∈aX j t)(hk:k≠i):k∈aX j (t.drop i):=by
 cases t with
 |own=>exact h
 |lk=>exact h
 |sh R =>
  simp only[aX,Tg.drop,List.mem_filter] at h ⊢;exact⟨h,by simpa using hk⟩
section
variable {K:Frag}{P:Addr->Prop}{env:En}{σ:L2.St}{H:Hp}{F:Nat->List Addr}
theorem RE.nn (re:RE K P env σ H F){j:Nat}{d:D}{t:Tg}(h:env[j]? = some (some (d,t))){a:Addr}(m:a∈F j):H a≠none:=let ⟨_,_,r⟩:=re.val j d t h;r.nn m
theorem RE.at' (re:RE K P env σ H F){j:Nat}{a:Addr}(m:a∈F j):∃ d t,env[j]? = some (some (d,t)):=by
 by_cases h:∃ d t,env[j]? = some (some (d,t))
 ·exact h
 ·rw[re.emp j fun d t e=>h ⟨d,t,e⟩] at m;cases m
theorem RE.put (re:RE K P env σ H F){i:Nat}{d:D}{v:V}{G:List Addr}{t:Tg}(hi:i<env.length)(rp:Rep K H d v G)
  (ho:bA t=true->G.Nodup/\(∀ a∈G,∃ vs:ML,H a=some vs.o)/\∀ a∈G,∀ j,j≠i->a∉F j) (hw:t = .own->∀ a∈G,¬ P a)
  (hs:∀ a∈G,∀ j d' t',j≠i->env[j]? = some (some (d',t'))->bA t'=true->a∈F j->j∈aX i t):RE K P (put env i d t) (σ.set i (some v)) H (qa F i G) where
 len:=by rw[r6,gh];exact re.len
 val:=fun j d' t' e=>by
  by_cases h:j=i
  ·subst h;rw[dC hi] at e;cases e;exact⟨v,List.getElem?_set_self (by rw[<-re.len];exact hi),by rw[dQ];exact rp⟩
  ·obtain⟨t0,e0,rfl⟩:=fV h e;obtain⟨u,a,b⟩:=re.val j d' t0 e0;exact⟨u,by rw[List.getElem?_set_ne (dk h)];exact a,by rw[dD h];exact b⟩
 emp:=fun j h=>by
  by_cases hj:j=i
  ·subst hj;exact absurd (dC hi) (h d t)
  ·rw[dD hj];refine re.emp j fun d' t' e=>h d' (t'.drop i) ?_
   rw[wV hj,e];rfl
 one:=fun j d' t' e o=>by
  by_cases h:j=i
  ·subst h;rw[dC hi] at e;cases e;obtain⟨a,b,c⟩:=ho o;rw[dQ];refine⟨a,b,fun x hx k d2 t2 e2 m=>?_⟩;by_cases hk:k=j
   ·subst hk;rw[dC hi] at e2;cases e2;cases t<;>simp_all [aX,bA]
   ·rw[dD hk] at m;exact absurd m (c x hx k hk)
  ·obtain⟨t0,e0,rfl⟩:=fV h e;rw[kf] at o;obtain⟨a,b,c⟩:=re.one j d' t0 e0 o;rw[dD h];refine⟨a,b,fun x hx k d2 t2 e2 m=>?_⟩;by_cases hk:k=i
   ·subst hk;rw[dC hi] at e2;cases e2;rw[dQ] at m;exact hs x m j d' t0 h e0 o hx
   ·rw[dD hk] at m;obtain⟨t3,e3,rfl⟩:=fV hk e2;exact kA (c x hx k d2 t3 e3 m) h
 wr:=fun j d' e=>by
  by_cases h:j=i
  ·subst h;rw[dC hi] at e;cases e;rw[dQ];exact hw rfl
  ·obtain⟨t0,e0,q⟩:=fV h e;rw[dD h];cases t0 with
   |own=>exact re.wr j d' e0
   |lk=>cases q
   |sh R=>cases q
 pl:=re.pl
theorem RE.forget (re:RE K P env σ H F){env':En}(hl:env'.length=env.length)(he:∀(i:Nat) (d:D) (t:Tg),env'[i]? = some (some (d,t))->env[i]? = some (some (d,t))) :
  RE K P env' σ H (fun i=>match env'[i]? with | some (some _)=>F i | _=>[]) where
 len:=hl.trans re.len
 val:=fun i d t e=>by rw[e];exact re.val i d t (he i d t e)
 emp:=fun i h=>by
  split
  ·rename_i p q;exact absurd q (h p.1 p.2)
  ·rfl
 one:=fun i d t e o=>by
  rw[e];obtain⟨a,b,c⟩:=re.one i d t (he i d t e) o;refine⟨a,b,fun x hx k d2 t2 e2 m=>?_⟩;rw[e2] at m;exact c x hx k d2 t2 (he k d2 t2 e2) m
 wr:=fun i d e=>by rw[e];exact re.wr i d (he i d _ e)
 pl:=re.pl
end
theorem cY (R:List Nat)(env:En):(kill R env).length=env.length:=by simp[kill]
theorem cL {R:List Nat}{env:En}{i:Nat}{d:D}{t:Tg}(e:(kill R env)[i]? = some (some (d,t))):env[i]? = some (some (d,t))/\i∉R/\∀ q∈R,q∉aX i t:=by
 unfold kill at e;rw[List.getElem?_mapIdx] at e;cases q:env[i]? with
 |none=>rw[q] at e;cases e
 |some s =>
  rw[q] at e;cases s with
  |none=>cases e
  |some p =>
   obtain⟨a,b⟩:=p;simp only[Option.map_some,Option.some.injEq] at e;by_cases h:(R.contains i || iR R b)=true
   ·rw[if_pos h] at e;cases e
   ·rw[if_neg h] at e;cases e;rw[ic,not_or] at h;have h1:i∉R:=fun z=>h.1 (by simpa using z)
    refine⟨rfl,h1,fun r hq z=>?_⟩;cases t with
    |own=>simp only[aX,List.mem_singleton] at z;subst z;exact h1 hq
    |lk=>simp only[aX,List.mem_singleton] at z;subst z;exact h1 hq
    |sh Q =>
     apply h.2;simp only[iR,List.any_eq_true];exact⟨r,z,by simpa using hq⟩
section
variable {K:Frag}{P:Addr->Prop}{env:En}{σ:L2.St}{H:Hp}{F:Nat->List Addr}
theorem nS {p b:Addr}{ws vs:List V}{o:HO}(hp:H p=some (.lst ws))(h:kq K H b vs):kq K (upd H p o) b vs:=by
 rcases h with h | h
 ·exact .inl (by rw[aM];exact h;intro z;subst z;rw[hp] at h;cases h)
 ·exact .inr h
theorem xP {p b:Addr}{ws:ML}{vs:List V}{o:HO}(hp:H p=some ws.o)(h:kq K H b vs):kq K (upd H p o) b vs:=by
 rcases h with h | h
 ·exact .inl (by rw[aM];exact h;intro z;subst z;rw[hp] at h;cases ws<;>cases h)
 ·exact .inr h
theorem BO {p b:Addr}{o o':HO}(hne:b≠p)(h:Rd H b o):Rd (upd H p o') b o:=by
 rcases h with h | ⟨u,h⟩
 ·exact .inl (by rw[aM hne];exact h)
 ·exact .inr ⟨u,by rw[aM hne];exact h⟩
theorem ou {H:Hp}{p:Addr}{ws:ML}{o:HO}(hp:H p=some ws.o):Eu H (L2.upd H p o):=fun b ob u h=>by
 rw[aM fun e=>?_]
 ·exact h
 ·subst e;rw[hp] at h;cases ws<;>cases h
theorem Rep.updM {p:Addr}{ws:ML}{o:HO}{d:D}{v:V}{G:List Addr}(hp:H p=some ws.o)(h:Rep K H d v G)(hn:p∉G):Rep K (L2.upd H p o) d v G :=
 h.keep (fun _ _=>xP hp) (ou hp) fun b hb _ h=>(aM (fun (z:b=p)=>hn (z ▸ hb))).trans h
theorem aG.upd {p:Addr}{ws:List V}{o:HO}{d:List D}{v:List V}{G:List Addr}(hp:H p=some (.lst ws))(h:aG K H d v G)(hn:p∉G):aG K (upd H p o) d v G :=
 h.keep (fun _ _=>nS hp) (ou (ws:=.l _) hp) fun b hb _ h=>(aM (fun (z:b=p)=>hn (z ▸ hb))).trans h
noncomputable def pR (F:Nat->List Addr)(env:En)(x:Nat)(R:List Nat)(G:List Addr):Nat->List Addr:=fun j=>if j=x then G else match (kill (x::R) env)[j]? with
 | some (some _)=>F j
 |_=>[]
theorem RE.mutateM (re:RE K P env σ H F){x:Nat}{d d':D}{v:V}{p:Addr}{vs:ML}{R:List Nat}{N G:List Addr}(hx:env[x]? = some (some (d,.own)))(hv:σ[x]? = some (some v))(hp:p∈F x)
  (rp:Rep K (upd H p vs.o) d' v G) (nd:G.Nodup) (sub:∀ a∈G,a∈F x\/a∈N)
  (hN:∀ a∈N,(∃ vs:ML,H a=some vs.o)/\¬ P a/\∀(j:Nat) (d:D) (t:Tg),env[j]? = some (some (d,t))->a∈F j->∃ q∈x::R,q∈aX j t) :
  RE K P ((kill (x::R) env).set x (some (d',.own))) σ (upd H p vs.o) (pR F env x R G):=by
 obtain⟨ndx,lsx,onx⟩:=re.one x d .own hx rfl;obtain⟨ws,hpl⟩:=lsx p hp;have hxl:x<(kill (x::R) env).length:=by
  rw[cY];exact (List.getElem?_eq_some_iff.mp hx).1
 have other:∀{j:Nat}{d2:D}{t2:Tg},j≠x->((kill (x::R) env).set x (some (d',.own)))[j]? = some (some (d2,t2))->(kill (x::R) env)[j]? = some (some (d2,t2)):=fun {j d2 t2} hj e=>by
  rw[List.getElem?_set_ne (dk hj)] at e;exact e
 have live:∀ a,(∃ vs:ML,H a=some vs.o)->∃ ws:ML,upd H p vs.o a=some ws.o:=fun a ⟨ws,h⟩=>by
  by_cases z:a=p
  ·subst z;exact⟨vs,aL⟩
  ·exact⟨ws,by rw[aM z];exact h⟩
 have apart:∀{j:Nat}{d2:D}{t2:Tg},j≠x->(kill (x::R) env)[j]? = some (some (d2,t2))->∀ a∈F x,a∉F j:=fun {j d2 t2} hj e a ha hb=>by
  obtain⟨e0,_,h3⟩:=cL e;exact h3 x au (onx a ha j d2 t2 e0 hb)
 have fj:∀{j:Nat}{d2:D}{t2:Tg},j≠x->(kill (x::R) env)[j]? = some (some (d2,t2))->pR F env x R G j=F j:=fun {j d2 t2} hj e=>by
  unfold pR;rw[if_neg hj,e]
 have fx:pR F env x R G x=G:=if_pos rfl;refine⟨?_,fun j d2 t2 e=>?_,fun j h=>?_,fun j d2 t2 e o=>?_,fun j d2 e=>?_,fun a h=>?_⟩
 ·rw[gh,cY];exact re.len
 ·by_cases hj:j=x
  ·subst hj;rw[List.getElem?_set_self hxl] at e;cases e;exact⟨v,hv,by rw[fx];exact rp⟩
  ·have e1:=other hj e;obtain⟨e0,_,_⟩:=cL e1;obtain⟨u,h1,h2⟩:=re.val j d2 t2 e0;exact⟨u,h1,by rw[fj hj e1];exact h2.updM hpl (apart hj e1 p hp)⟩
 ·by_cases hj:j=x
  ·subst hj;exact absurd (List.getElem?_set_self hxl) (h d' .own)
  ·unfold pR;rw[if_neg hj];split
   ·rename_i q e;exact absurd (by rw[List.getElem?_set_ne (dk hj)];exact e) (h q.1 q.2)
   ·rfl
 ·by_cases hj:j=x
  ·subst hj;rw[List.getElem?_set_self hxl] at e;cases e;rw[fx];refine⟨nd,fun a ha=>live a ?_,fun a ha k d3 t3 e3 m=>?_⟩
   ·rcases sub a ha with q | q
    ·exact lsx a q
    ·exact (hN a q).1
   ·by_cases hk:k=j
    ·subst hk;rw[List.getElem?_set_self hxl] at e3;cases e3;simp[aX]
    ·have e4:=other hk e3;rw[fj hk e4] at m;rcases sub a ha with q | q
     ·exact absurd m (apart hk e4 a q)
     ·obtain⟨e0,_,h3⟩:=cL e4;obtain⟨r,r1,r2⟩:=(hN a q).2.2 k d3 t3 e0 m;exact absurd r2 (h3 r r1)
  ·have e1:=other hj e;obtain⟨e0,_,_⟩:=cL e1;obtain⟨a,b,c⟩:=re.one j d2 t2 e0 o;rw[fj hj e1];refine⟨a,fun y hy=>live y (b y hy),fun y hy k d3 t3 e3 m=>?_⟩;by_cases hk:k=x
   ·subst hk;rw[List.getElem?_set_self hxl] at e3;cases e3;rw[fx] at m;rcases sub y m with q | q
    ·exact absurd hy (apart hj e1 y q)
    ·obtain⟨_,_,h3⟩:=cL e1;obtain⟨r,r1,r2⟩:=(hN y q).2.2 j d2 t2 e0 hy;exact absurd r2 (h3 r r1)
   ·have e4:=other hk e3;rw[fj hk e4] at m;exact c y hy k d3 t3 (cL e4).1 m
 ·by_cases hj:j=x
  ·subst hj;rw[fx];intro a ha;rcases sub a ha with q | q
   ·exact re.wr j d hx a q
   ·exact (hN a q).2.1
  ·have e1:=other hj e;rw[fj hj e1];exact re.wr j d2 (cL e1).1
 ·intro z;by_cases q:a=p
  ·subst q;rw[aL] at z;cases z
  ·rw[aM q] at z;exact re.pl a h z
theorem RE.mutate (re:RE K P env σ H F){x:Nat}{d d':D}{v:V}{p:Addr}{vs:List V}{R:List Nat}{N G:List Addr}(hx:env[x]? = some (some (d,.own)))(hv:σ[x]? = some (some v))(hp:p∈F x)
  (rp:Rep K (upd H p (.lst vs)) d' v G) (nd:G.Nodup) (sub:∀ a∈G,a∈F x\/a∈N)
  (hN:∀ a∈N,(∃ vs:ML,H a=some vs.o)/\¬ P a/\∀(j:Nat) (d:D) (t:Tg),env[j]? = some (some (d,t))->a∈F j->∃ q∈x::R,q∈aX j t) :
  RE K P ((kill (x::R) env).set x (some (d',.own))) σ (upd H p (.lst vs)) (pR F env x R G):=re.mutateM (vs:=.l vs) hx hv hp rp nd sub hN
inductive PV (K:Frag) (H:Hp):V->Option Int->Addr->Prop where
 | top (p:Addr):PV K H (.ref p) none p
 | item {q p:Addr}{ws:List V}{i:Int}{j:Nat}(h:Rd H q (.lst ws)\/je K H q ws) (hj:iZ ws.length i=some j) (e:ws[j]? = some (.ref p)):PV K H (.ref q) (some i) p
theorem Rep.lst_inv {ds:List D}{v:V}{G:List Addr}(h:Rep K H (.lst ds) v G):∃ p vs G',v = .ref p/\G=p::G'/\Rd H p (.lst vs)/\aG K H ds vs G':=by
 cases h with
 |lst a b=>exact⟨_,_,_,rfl,rfl,a,b⟩
theorem u5 {d:D}{v:V}{G:List Addr}{path:Option Int}{xs:List D}(rp:Rep K H d v G)(nd:G.Nodup)(h:d.at1 path=some xs):∃ p,PV K H v path p/\∀ H',aI H H'->(∀ a∈G,∃ vs:ML,H' a=some vs.o) ->
  ∃ vs Gx,H' p=some (.lst vs)/\aG K H' xs vs Gx/\p∈G/\(∀ a∈Gx,a∈G)/\Gx.Nodup/\p∉Gx /\
   ∀ ys us Gy,aG K (upd H' p (.lst us)) ys us Gy->Gy.Nodup->p∉Gy->(∀ a∈Gy,a∈Gx\/a∉G)->∃ G',Rep K (upd H' p (.lst us)) (d.set1 path ys) v G'/\G'.Nodup/\∀ a∈G',a∈G\/a∈Gy:=by
 have rdl:∀{H':Hp}{p:Addr}{vs:List V},(∀ a∈G,∃ vs:ML,H' a=some vs.o)->p∈G->Rd H' p (.lst vs)->H' p=some (.lst vs):=fun {H' p vs} hl hp r=>by
  obtain⟨ws,q⟩:=hl p hp;rcases r with r | ⟨o,r⟩
  ·exact r
  ·rw[q] at r;cases ws<;>cases r
 cases path with
 |none =>
  cases rp with
  |lst hr r =>
   rename_i p vs ds G0;simp only[D.at1,Option.some.injEq] at h;subst h;obtain⟨n1,n2⟩:=List.nodup_cons.mp nd;refine⟨p,.top p,fun H' e hl=>⟨vs,G0,rdl hl au (aI.rd e hr),r.same e,au,fun a ha=>ah _ ha,n2,n1,fun ys us Gy ry ny hy hs=>?_⟩⟩;exact⟨p::Gy,.lst (.inl aL) ry,List.nodup_cons.mpr ⟨hy,ny⟩,fun a ha=>(List.mem_cons.mp ha).imp (fun z=>by simp[z]) id⟩
  |_=>simp[D.at1] at h
 |some i =>
  have core:∀{ds:List D}{vs:List V}{G0:List Addr}{j:Nat}{q:Addr},aG K H ds vs G0->(∀ a∈G0,a∈G)->G0.Nodup->(Rd H q (.lst vs)\/je K H q vs)->v = .ref q->iZ ds.length i=some j->ds[j]? = some (.lst xs) ->
    ∃ p,PV K H v (some i) p/\∀ H',aI H H'->(∀ a∈G,∃ vs:ML,H' a=some vs.o)->∃ ws Gx,H' p=some (.lst ws)/\aG K H' xs ws Gx/\p∈G0/\(∀ a∈Gx,a∈G0)/\Gx.Nodup/\p∉Gx /\
     ∀ ys us Gy,aG K (upd H' p (.lst us)) ys us Gy->Gy.Nodup->p∉Gy->(∀ a∈Gy,a∈Gx\/a∉G) ->
      ∃ G1,aG K (upd H' p (.lst us)) (ds.set j (.lst ys)) vs G1/\G1.Nodup/\(∀ a∈G1,a∈G0\/a∈Gy):=by
   intro ds vs G0 j q r hs n0 hq hv hj he;obtain⟨w0,g0,e0,r0,_⟩:=r.get he;have hlen:=r.len;obtain⟨p,ws0,Gx0,rfl,_,_,_⟩:=r0.lst_inv
   ·refine⟨p,by rw[hv];exact .item hq (by rw[<-hlen];exact hj) e0,fun H' e hl=>?_⟩;obtain⟨w,A,B,C,e1,e2,r1,f⟩:=(r.same e).split he;rw[e0] at e1;cases e1;subst e2;obtain⟨p',ws,Gx,ep,rfl,hr,r2⟩:=r1.lst_inv;cases ep
    ·have hpG:p∈A++(p::Gx++C):=by simp
     rw[iq] at n0;obtain⟨nA,nB,nAB⟩:=n0;rw[iq] at nB;obtain⟨nB1,nC,nBC⟩:=nB;obtain⟨np,nx⟩:=List.nodup_cons.mp nB1;have hpl:=rdl hl (hs p hpG) hr;refine⟨ws,Gx,hpl,r2,hpG,fun a ha=>by simp[ha],nx,np,fun ys us Gy ry ny hy hsy=>?_⟩;have hA:p∉A:=fun z=>nAB p z p (by simp) rfl
     have hC:p∉C:=fun z=>nBC p (by simp) p z rfl
     have e3:=f (upd H' p (.lst us)) (.lst ys) (.ref p) (p::Gy) (fun _ _=>nS hpl) (ou (ws:=.l _) hpl) (fun b hb _ h=>(aM fun (z:b=p)=>by
      subst z;rcases List.mem_append.mp hb with hb | hb
      ·exact hA hb
      ·exact hC hb).trans h) (.lst (.inl aL) ry)
     have aV:vs.set j (.ref p)=vs:=by
      obtain⟨hj',ej⟩:=List.getElem?_eq_some_iff.mp e0;rw[<-ej,List.set_getElem_self]
     rw[aV] at e3;refine⟨_,e3,?_,fun a ha=>?_⟩
     ·rw[iq];refine⟨nA,?_,fun a ha b hb z=>?_⟩
      ·rw[iq];refine⟨List.nodup_cons.mpr ⟨hy,ny⟩,nC,fun a ha b hb z=>?_⟩;subst z;rcases g9.mp ha with rfl | ha
       ·exact hC hb
       ·rcases hsy a ha with q | q
        ·exact nBC a (by simp[q]) a hb rfl
        ·exact q (hs a (by simp[hb]))
      ·subst z;rcases List.mem_append.mp hb with hb | hb
       ·rcases g9.mp hb with rfl | hb
        ·exact hA ha
        ·rcases hsy a hb with q | q
         ·exact nAB a ha a (by simp[q]) rfl
         ·exact q (hs a (by simp[ha]))
       ·exact nAB a ha a (by simp[hb]) rfl
     ·simp only[List.mem_append,List.mem_cons,List.cons_append] at ha ⊢;rcases ha with ha | ha | ha | ha
      ·exact .inl (.inl ha)
      ·exact .inl (.inr (.inl ha))
      ·exact .inr ha
      ·exact .inl (.inr (.inr (.inr ha)))
  cases rp with
  |lst hr r =>
   rename_i q vs ds G0;simp only[D.at1,Option.bind_eq_some_iff] at h;obtain⟨j,hj,h⟩:=h;have he:ds[j]? = some (.lst xs):=by
    split at h
    ·rename_i ys e;cases h;exact e
    ·cases h
   obtain⟨n1,n2⟩:=List.nodup_cons.mp nd;obtain⟨p,a1,ff⟩:=core r (fun a ha=>ah _ ha) n2 (.inl hr) rfl hj he;refine⟨p,a1,fun H' e hl=>?_⟩;obtain⟨ws,Gx,a2,a3,a4,a5,a6,a7,f⟩:=ff H' e hl;have hqp:q≠p:=fun z=>n1 (by rw[z];exact a4)
   refine⟨ws,Gx,a2,a3,ah _ a4,fun a ha=>ah _ (a5 a ha),a6,a7,fun ys us Gy ry ny hy hs=>?_⟩;obtain⟨G1,b1,b2,b3⟩:=f ys us Gy ry ny hy hs;have es:D.set1 (.lst ds) (some i) ys = .lst (ds.set j (.lst ys)):=by simp[D.set1,hj]
   rw[es];refine⟨q::G1,.lst (BO hqp (aI.rd e hr)) b1,List.nodup_cons.mpr ⟨fun z=>?_,b2⟩,fun a ha=>?_⟩
   ·rcases b3 q z with z | z
    ·exact n1 z
    ·rcases hs q z with z | z
     ·exact n1 (a5 q z)
     ·exact z au
   ·rcases g9.mp ha with rfl | ha
    ·exact .inl au
    ·exact (b3 a ha).imp (ah _) id
  |tup hr r =>
   rename_i q vs ds;simp only[D.at1,Option.bind_eq_some_iff] at h;obtain⟨j,hj,h⟩:=h;have he:ds[j]? = some (.lst xs):=by
    split at h
    ·rename_i ys e;cases h;exact e
    ·cases h
   obtain⟨p,a1,ff⟩:=core r (fun a ha=>ha) nd (.inr hr.sq) rfl hj he;refine⟨p,a1,fun H' e hl=>?_⟩;obtain⟨ws,Gx,a2,a3,a4,a5,a6,a7,f⟩:=ff H' e hl;refine⟨ws,Gx,a2,a3,a4,a5,a6,a7,fun ys us Gy ry ny hy hs=>?_⟩;obtain⟨G1,b1,b2,b3⟩:=f ys us Gy ry ny hy hs;have es:D.set1 (.tup ds) (some i) ys = .tup (ds.set j (.lst ys)):=by simp[D.set1,hj]
   rw[es];exact⟨G1,.tup (nS a2 (aI.tqT e hr)) b1,b2,b3⟩
  |_=>simp[D.at1] at h
end
end Pc
end
section
namespace Pc
open PySem PySem.Spec PyProof.Rows L2
theorem Rs.bind_ok {α β:Type}{x:Rs α}{f:α->Rs β}{b:β}(h:x.bind f = .ok b):∃ a,x = .ok a/\f a = .ok b:=by
 cases x with
 |ok a=>exact⟨a,rfl,h⟩
 |exc e=>cases h
 |bad=>cases h
theorem cO {α:Type}{o:Option α}{a:α}(h:fE o = .ok a):o=some a:=by
 cases o with
 |none=>cases h
 |some b=>cases h;rfl
theorem aI.new {H:Hp}{p:Addr}{o:HO}(h:H p=none):aI H (upd H p o):=fun b u e=>by
 rw[aM];exact e;intro z;subst z;rw[h] at e;cases e
theorem qW:lim<=sizeLine:=by decide
theorem eO {n:Nat}(h:n<=lim):n<=sizeLine:=bg h qW
inductive Args (K:Frag) (env:En) (F:Nat->List Addr):Hp->Hp->List (D×Rt)->List V->List Addr->Prop where
 | nil {H H':Hp}(e:aI H H'):Args K env F H H' [] [] []
 | cons {H H1 H':Hp}{p:D×Rt}{v:V}{G G':List Addr}{l:List (D×Rt)}{vs:List V}(e:aI H H1) (r:Rep K H1 p.1 v G) (t:bK env F H p.2 H1 G) (s:Args K env F H1 H' l vs G'):Args K env F H H' (p::l) (v::vs) (G++G')
section
variable {K:Frag}{env:En}{F:Nat->List Addr}
theorem Args.same:∀{H H':Hp}{l:List (D×Rt)}{vs:List V}{G:List Addr},Args K env F H H' l vs G->aI H H'
 |_,_,_,_,_,.nil e=>e
 |_,_,_,_,_,.cons e _ _ s=>e.trans s.same
theorem Args.reps:∀{H H':Hp}{l:List (D×Rt)}{vs:List V}{G:List Addr},Args K env F H H' l vs G->aG K H' (l.map (·.1)) vs G
 |_,_,_,_,_,.nil _=>.nil
 |_,_,_,_,_,.cons _ r _ s=>.cons (r.same s.same) s.reps
theorem Args.cont:∀{H H':Hp}{l:List (D×Rt)}{vs:List V}{G:List Addr},Args K env F H H' l vs G->∀ a∈G,H a=none\/∃ i d t,a∈F i/\env[i]? = some (some (d,t))/\∀ q∈aX i t,q∈aT (l.map (·.2))
 |_,_,_,_,_,.nil _,a,h=>by cases h
 | _,_,_,_,_,.cons (p:=p) (l:=l) e r t s,a,h=>by
  have e1:aT ((p::l).map (·.2))=p.2.roots++aT (l.map (·.2)):=by simp[aT]
  rw[e1];rcases List.mem_append.mp h with h | h
  ·exact (t.cont a h).imp id fun ⟨i,d,t,x,y,z⟩=>⟨i,d,t,x,y,fun q hq=>bj _ (z q hq)⟩
  ·exact (s.cont a h).imp (aI.no e) fun ⟨i,d,t,x,y,z⟩=>⟨i,d,t,x,y,fun q hq=>ax _ (z q hq)⟩
theorem Args.two {H H':Hp}{p q:D×Rt}{x y:V}{G:List Addr}(ar:Args K env F H H' [p,q] [x,y] G) :
  ∃ H1 G1 G2,G=G1++G2/\aI H H1/\Rep K H1 p.1 x G1/\bK env F H p.2 H1 G1/\aI H1 H'/\Rep K H' q.1 y G2:=by
 cases ar with
 |cons e r t s =>
  cases s with
  |cons e' r' t' s' =>
   cases s' with
   |nil e''=>exact⟨_,_,_,by rw[bh],e,r,t,e'.trans e'',r'.same e''⟩
theorem Args.mv {P:Addr->Prop}{σ:L2.St}:∀{H H':Hp}{l:List (D×Rt)}{vs:List V}{G:List Addr}{R:List Nat},RE K P env σ H F->Args K env F H H' l vs G->eF (l.map (·.2))=some R->R.Nodup ->
  G.Nodup/\(∀ a∈G,∃ vs:ML,H' a=some vs.o)/\∀ a∈G,H a=none\/∃ i d t,i∈R/\a∈F i/\env[i]? = some (some (d,t))/\bA t=true
 |_,_,_,_,_,_,_,.nil _,_,_=>⟨cn,fun _ h=>(nomatch h),fun _ h=>(nomatch h)⟩
 | H,_,_,_,_,_,re,.cons (p:=p) (l:=l) (G:=G) (G':=G') e r t s,hm,nd=>by
  obtain⟨d,rt⟩:=p;cases rt with
  |sh Q=>simp[eF] at hm
  |mv R1 =>
   simp only[List.map_cons,eF,Option.map_eq_some_iff] at hm;obtain⟨R2,h2,rfl⟩:=hm;obtain⟨n1,n2,n12⟩:=iq.mp nd;obtain⟨a1,b1,c1⟩:=t.mv R1 rfl;obtain⟨a2,b2,c2⟩:=Args.mv (re.same e) s h2 n2;refine⟨iq.mpr ⟨a1,a2,fun x hx y hy z=>?_⟩,fun x hx=>?_,fun x hx=>?_⟩
   ·subst z;rcases c2 x hy with q | ⟨i2,d2,t2,m2,f2,e2,o2⟩
    ·exact r.nn hx q
    ·rcases c1 x hx with q | ⟨i1,d1,t1,m1,f1,e1,o1⟩
     ·obtain⟨v,_,rp⟩:=re.val i2 d2 t2 e2;exact rp.nn f2 q
     ·have q:=(re.one i1 d1 t1 e1 o1).2.2 x f1 i2 d2 t2 e2 f2;have q':i1=i2:=by cases t2<;>simp_all [aX,bA]
      exact n12 i1 m1 i2 m2 q'
   ·rcases List.mem_append.mp hx with hx | hx
    ·obtain⟨vs,q⟩:=b1 x hx;exact⟨vs,s.same _ _ q⟩
    ·exact b2 x hx
   ·rcases List.mem_append.mp hx with hx | hx
    ·exact (c1 x hx).imp id fun ⟨i,d,t,m,z⟩=>⟨i,d,t,bj _ m,z⟩
    ·exact (c2 x hx).imp (aI.no e) fun ⟨i,d,t,m,z⟩=>⟨i,d,t,ax _ m,z⟩
theorem Args.comb {P:Addr->Prop}{σ:L2.St}{H H':Hp}{l:List (D×Rt)}{vs:List V}{G:List Addr}(re:RE K P env σ H F)(ar:Args K env F H H' l vs G):bK env F H (oV (l.map (·.2))) H' G:=by
 unfold oV;cases hm:eF (l.map (·.2)) with
 |none=>exact⟨ar.cont,fun R e=>by cases e⟩
 |some R =>
  have er:∀(l:List Rt) (R:List Nat),eF l=some R->aT l=R:=by
   intro l
   induction l with
   |nil=>intro R h;simp[eF] at h;subst h;rfl
   |cons x r ih =>
    intro R h;cases x with
    |sh Q=>simp[eF] at h
    |mv Q =>
     simp only[eF,Option.map_eq_some_iff] at h;obtain⟨R2,h2,rfl⟩:=h;have:=ih R2 h2;simp only[aT,List.map_cons,List.flatten_cons,Rt.roots] at this ⊢;rw[this]
  have er:=er _ R hm;by_cases nd:R.Nodup
  ·simp only[nd,if_true];obtain⟨a,b,c⟩:=ar.mv re hm nd;refine⟨fun x hx=>?_,fun R' e=>by cases e;exact⟨a,b,c⟩⟩;rcases c x hx with q | ⟨i,d,t,m,f,e,o⟩
   ·exact .inl q
   ·exact .inr ⟨i,d,t,f,e,fun q hq=>by cases t<;>simp_all [aX,bA,Rt.roots]⟩
  ·simp only[nd,if_false];exact⟨fun x hx=>by have:=ar.cont x hx;rw[er] at this;exact this,fun R' e=>by cases e⟩
end
structure eU (H H':Hp)(G0:List Addr)(d:D)(G:List Addr):Prop where
 same:aI H H'
 sub:∀ a∈G,H a=none\/a∈G0
 new:d.inner=true->G.Nodup/\∀ a∈G,H a=none/\∃ vs:ML,H' a=some vs.o
section
variable {K:Frag}{H:Hp}{G0:List Addr}
theorem eU.nil {d:D}:eU H H G0 d []:=⟨aI.refl _,fun _ h=>(nomatch h),fun _=>⟨cn,fun _ h=>(nomatch h)⟩⟩
theorem j6 {ds:List D}{vs:List V}{G:List Addr}{p:Addr}(r:aG K H ds vs G)(hs:∀ a∈G,a∈G0)(hp:H p=none) :
  Rep K (upd H p (.lst vs)) (.lst ds) (.ref p) (p::G)/\eU H (upd H p (.lst vs)) G0 (.lst ds) (p::G):=by
 have e:=aI.new (o:=.lst vs) hp;refine⟨.lst (.inl aL) (r.same e),e,fun a ha=>?_,fun f=>?_⟩
 ·rcases g9.mp ha with rfl | ha
  ·exact .inl hp
  ·exact .inr (hs a ha)
 ·have:G=[]:=r.flat f;subst this;exact⟨by simp,fun a ha=>by
   have:a=p:=by simpa using ha
   subst this;exact⟨hp,.l _,aL⟩⟩
theorem wI {ds:List D}{vs:List V}{G:List Addr}{p:Addr}(r:aG K H ds vs G)(hs:∀ a∈G,a∈G0)(hp:H p=none) :
  Rep K (upd H p (.tup vs)) (.tup ds) (.ref p) G/\eU H (upd H p (.tup vs)) G0 (.tup ds) G:=by
 have e:=aI.new (o:=.tup vs) hp;refine⟨.tup (.inl aL) (r.same e),e,fun a ha=>.inr (hs a ha),fun f=>?_⟩;have:G=[]:=r.flat f;subst this;exact⟨by simp,fun a ha=>(nomatch ha)⟩
theorem bK.new {env:En}{F:Nat->List Addr}{H1 H':Hp}{l:List (D×Rt)}{vs:List V}{G:List Addr}{d:D}{R:List Nat}(ar:Args K env F H H1 l vs G0)(nv:eU H1 H' G0 d G)(hR:∀ q∈aT (l.map (·.2)),q∈R):bK env F H (dM d R) H' G:=by
 unfold dM;cases hi:d.inner with
 |true =>
  obtain⟨a,b⟩:=nv.new hi;have c:∀ x∈G,H x=none:=fun x hx=>aI.no ar.same (b x hx).1
  exact⟨fun x hx=>.inl (c x hx),fun R' e=>⟨a,fun x hx=>(b x hx).2,fun x hx=>.inl (c x hx)⟩⟩
 |false =>
  refine⟨fun x hx=>?_,fun R' e=>by cases e⟩;rcases nv.sub x hx with q | q
  ·exact .inl (aI.no ar.same q)
  ·exact (ar.cont x q).imp id fun ⟨i,d,t,f,e,z⟩=>⟨i,d,t,f,e,fun q hq=>hR q (z q hq)⟩
end
section
variable {X:Cx}
theorem bE {e:Expr}{t t':TE}(h:PE X e t)(k:∀ σ H Q,t' σ H Q->t σ H Q):PE X e t':=fun pins s σ H Q I q=>h pins s σ H Q I (k σ H Q q)
theorem rz {e:Expr}{t t':TT}(h:PT X e t)(k:∀ σ H Q,t' σ H Q->t σ H Q):PT X e t':=fun pins s σ H Q I q=>h pins s σ H Q I (k σ H Q q)
theorem yB {e:List Expr}{t t':TA}(h:PA X e t)(k:∀ σ H Q,t' σ H Q->t σ H Q):PA X e t':=fun pos pins s σ H Q I q=>h pos pins s σ H Q I (k σ H Q q)
theorem dH {e:Stmt}{t t':TS}(h:PS X e t)(k:∀ D σ H,t' D σ H->t D σ H):PS X e t':=fun pins s σ H D I q=>h pins s σ H D I (k D σ H q)
theorem t8 {e:List Stmt}{t t':TS}(h:jI X e t)(k:∀ D σ H,t' D σ H->t D σ H):jI X e t':=fun pins s σ H D I q=>h pins s σ H D I (k D σ H q)
end
def tE (K:Frag)(T:Tb)(c:Ex):TE:=fun σ H Q=>∃ P env F,RE K P env σ H F/\∃ p,ev T c env = .ok p/\∀ v H' G,aI H H'->Rep K H' p.1 v G->bK env F H p.2 H' G->Q v H'
def uC (K:Frag)(T:Tb)(cs:my):TA:=fun σ H Q=>∃ P env F,RE K P env σ H F/\∃ l,aV T cs env = .ok l/\∀ vs H' G,Args K env F H H' l vs G->Q vs H'
def mo (K:Frag)(T:Tb)(c:Ex):TT:=fun σ H Q=>∃ P env F,RE K P env σ H F/\∃ p b,ev T c env = .ok p/\truth p.1=some b/\∀ H',aI H H'->Q b H'
section
variable {K:Frag}{T:Tb}{P:Addr->Prop}{env:En}{F:Nat->List Addr}{σ:L2.St}{H:Hp}
theorem two {ca cb:Ex}{r:R2}{Q:VK}{p q:D×Rt}(re:RE K P env σ H F)(h1:ev T ca env = .ok p)(h2:ev T cb env = .ok q)(k:∀ x y H2 G,Args K env F H H2 [p,q] [x,y] G->r x y H2 Q):E4 r (tE K T ca) (tE K T cb) σ H Q :=
 ⟨P,env,F,re,p,h1,fun v1 H1 G1 s1 rp1 rt1=>⟨P,env,F,re.same s1,q,h2,fun v2 H2 G2 s2 rp2 rt2=>k v1 v2 H2 _ (.cons s1 rp1 rt1 (.cons s2 rp2 rt2 (.nil (aI.refl _))))⟩⟩
end
noncomputable def z9 (K:Frag)(f:D->D->Option D):R2:=fun x y H Q=>∃ d1 d2 d G,aG K H [d1,d2] [x,y] G/\f d1 d2=some d/\∀ v H' G',Rep K H' d v G'->eU H H' G d G'->Q v H'
noncomputable def FJ (K:Frag):R2:=fun x y H Q=>∃ d1 d2 d G,aG K H [d1,d2] [x,y] G/\Bv d1 d2=some d/\∀ v G',Rep K H d v G'->G'.Sublist G->Q v H
section
variable {X:Cx}{T:Tb}{a b c:Expr}{ca cb cc:Ex}{pos:Pos}
theorem Dc {op:Operator}(ho:gJ X (binaryOp op) (z9 X.K (lQ op)))(ha:PE X a (tE X.K T ca))(hb:PE X b (tE X.K T cb)):PE X (.BinOp a op b pos) (tE X.K T (.bin op ca cb)):=by
 refine bE (pB ho ha hb) fun σ H Q ⟨P,env,F,re,p0,hev,k⟩=>?_
 unfold ev at hev;obtain⟨p,h1,hev⟩:=Rs.bind_ok hev;obtain⟨q,h2,hev⟩:=Rs.bind_ok hev;obtain⟨d,h3,hev⟩:=Rs.bind_ok hev;have h3:=cO h3;cases hev;refine two re h1 h2 fun x y H2 G ar=>⟨p.1,q.1,d,G,ar.reps,h3,fun v H' G' rp nv=>k v H' G' (ar.same.trans nv.same) rp (bK.new ar nv fun z hz=>by simpa[aT] using hz)⟩
theorem D7 {op:CmpOp}(ho:gJ X (compareOp op) (z9 X.K fun x y=>(kz op x y).map .bl))(ha:PE X a (tE X.K T ca))(hb:PE X b (tE X.K T cb))(hm:behindInMarks op b=false):PE X (.Compare a [op] [b] pos) (tE X.K T (.cmp op ca cb)):=by
 refine bE (AS ho ha hb hm) fun σ H Q ⟨P,env,F,re,p0,hev,k⟩=>?_
 unfold ev at hev;obtain⟨p,h1,hev⟩:=Rs.bind_ok hev;obtain⟨q,h2,hev⟩:=Rs.bind_ok hev;obtain⟨d,h3,hev⟩:=Rs.bind_ok hev;have h3:=cO h3;cases hev;refine two re h1 h2 fun x y H2 G ar=>⟨p.1,q.1,.bl d,G,ar.reps,by simp[h3],fun v H' G' rp nv=>k v H' G' (ar.same.trans nv.same) rp ?_⟩
 have:G'=[]:=rp.flat rfl;subst this;exact bK.nil
theorem E5 (ho:Ey X (FJ X.K))(ha:PE X a (tE X.K T ca))(hb:PE X b (tE X.K T cb))(hs:nV b):PE X (.Subscript a b pos) (tE X.K T (.ix ca cb)):=by
 refine bE (GR ho ha hb hs) fun σ H Q ⟨P,env,F,re,p0,hev,k⟩=>?_
 unfold ev at hev;obtain⟨p,h1,hev⟩:=Rs.bind_ok hev;obtain⟨q,h2,hev⟩:=Rs.bind_ok hev;obtain⟨d,h3,hev⟩:=Rs.bind_ok hev;have h3:=cO h3;cases hev;refine two re h1 h2 fun x y H2 G ar=>⟨p.1,q.1,d,G,ar.reps,h3,fun v G' rp sl=>k v H2 G' ar.same rp ?_⟩
 unfold oH;cases hf:d.flat with
 |true =>
  have:G'=[]:=rp.flat hf;subst this;exact bK.nil
 |false =>
  obtain⟨H1,g1,g2,e1,s1,_,rt1,s2,rp2⟩:=ar.two;have hq:q.1.flat=true:=by
   revert h3;intro h3;cases hq:q.1 with
   |int _=>rfl
   |str _=>rfl
   |_=>rw[hq] at h3;revert h3;cases p.1<;>exact fun h3=>nomatch h3
  have rp2:=rp2.flat hq;have rp1:=rt1.later s2;subst rp2;rw[bh] at e1;subst e1;refine⟨fun z hz=>?_,fun R e=>by cases e⟩;exact rp1.cont z (sl.subset hz)
end
end Pc
end
section
namespace Pc
open PySem L2
structure jH (P:Addr->Prop)(H H':Hp):Prop where
 keep:∀ a,P a->H' a=H a
 tup:∀ b xs,H b=some (.tup xs)->H' b=some (.tup xs)
 fz:Eu H H'
theorem jH.refl {P:Addr->Prop}(H:Hp):jH P H H:=⟨fun _ _=>rfl,fun _ _ h=>h,fun _ _ _ h=>h⟩
theorem jH.trans {P:Addr->Prop}{H H1 H2:Hp}(a:jH P H H1)(b:jH P H1 H2):jH P H H2:=⟨fun x h=>(b.keep x h).trans (a.keep x h),fun x xs h=>b.tup x xs (a.tup x xs h),fun x o u h=>b.fz x o u (a.fz x o u h)⟩
theorem jH.of_same {P:Addr->Prop}{H H':Hp}(pl:∀ a,P a->H a≠none)(e:aI H H'):jH P H H':=⟨fun a h=>by
 cases q:H a with
 |none=>exact absurd q (pl a h)
 |some o=>exact e _ _ q,fun _ _=>e _ _,fun _ _ _ h=>e _ _ h⟩
theorem jH.weak {P P':Addr->Prop}{H H':Hp}(h:∀ a,P a->P' a)(e:jH P' H H'):jH P H H':=⟨fun a x=>e.keep a (h a x),e.tup,e.fz⟩
theorem jH.tqT {K:Frag}{P:Addr->Prop}{H H':Hp}(e:jH P H H'){b:Addr}{vs:List V}(h:kq K H b vs):kq K H' b vs:=by
 rcases h with h | h
 ·exact .inl (e.tup b vs h)
 ·exact .inr h
theorem jH.reps {K:Frag}{P:Addr->Prop}{H H':Hp}(e:jH P H H'){ds:List D}{vs:List V}{G:List Addr}(h:aG K H ds vs G)(hp:∀ a∈G,P a):aG K H' ds vs G :=
 h.keep (fun _ _=>e.tqT) e.fz fun b hb _ r=>(e.keep b (hp b hb)).trans r
def rH (env:En)(F:Nat->List Addr)(env':En)(F':Nat->List Addr):Prop:=∀(i:Nat) (d:D),env'[i]? = some (some (d,.lk))->env[i]? = some (some (d,.lk))/\F' i=F i
theorem rH.refl (env:En)(F:Nat->List Addr):rH env F env F:=fun _ _ h=>⟨h,rfl⟩
theorem rH.trans {e1 e2 e3:En}{F1 F2 F3:Nat->List Addr}(a:rH e1 F1 e2 F2)(b:rH e2 F2 e3 F3):rH e1 F1 e3 F3:=fun i d h=>by
 obtain⟨h1,h2⟩:=b i d h;obtain⟨h3,h4⟩:=a i d h1;exact⟨h3,h2.trans h4⟩
structure After (K:Frag)(P Z:Addr->Prop)(env:En)(F:Nat->List Addr)(H:Hp)(env':En)(σ':L2.St)(H':Hp)(F':Nat->List Addr):Prop where
 re:RE K P env' σ' H' F'
 z:∀ i,∀ a∈F' i,Z a
 ev:jH P H H'
 lk:rH env F env' F'
theorem After.trans {K:Frag}{P Z:Addr->Prop}{e1 e2 e3:En}{F1 F2 F3:Nat->List Addr}{H1 H2 H3:Hp}{σ2 σ3:L2.St}(a:After K P Z e1 F1 H1 e2 σ2 H2 F2)(b:After K P Z e2 F2 H2 e3 σ3 H3 F3):After K P Z e1 F1 H1 e3 σ3 H3 F3 :=
 ⟨b.re,b.z,a.ev.trans b.ev,a.lk.trans b.lk⟩
noncomputable def post (K:Frag)(P Z:Addr->Prop)(env:En)(F:Nat->List Addr)(H:Hp)(D:Ends):Fl->Prop
 |.nx env'=>∀ σ' H' F',After K P Z env F H env' σ' H' F'->D.nx σ' H'
 |.bk env'=>∀ σ' H' F',After K P Z env F H env' σ' H' F'->D.bk σ' H'
 |.ct env'=>∀ σ' H' F',After K P Z env F H env' σ' H' F'->D.ct σ' H'
 |.rt d fr=>∀ v H' G,Rep K H' d v G->jH P H H'->(∀ a∈G,Z a)->(fr=true->G.Nodup/\∀ a∈G,¬ P a/\∃ vs:ML,H' a=some vs.o)->D.rt v H'
 |.xc _ _=>False
 |.bad=>False
theorem post.trans {K:Frag}{P Z:Addr->Prop}{e1 e2:En}{F1 F2:Nat->List Addr}{H1 H2:Hp}{σ2:L2.St}{D:Ends}(a:After K P Z e1 F1 H1 e2 σ2 H2 F2):∀{f:Fl},post K P Z e1 F1 H1 D f->post K P Z e2 F2 H2 D f
 |.nx _,h=>fun σ' H' F' b=>h σ' H' F' (a.trans b)
 |.bk _,h=>fun σ' H' F' b=>h σ' H' F' (a.trans b)
 |.ct _,h=>fun σ' H' F' b=>h σ' H' F' (a.trans b)
 |.rt _ _,h=>fun v H' G r e z f=>h v H' G r (a.ev.trans e) z f
 |.xc _ _,h=>h
 |.bad,h=>h
section
variable {K:Frag}{P Z:Addr->Prop}{env:En}{σ:L2.St}{H:Hp}{F:Nat->List Addr}
theorem lP {i:Nat}{d:D}{t:Tg}{G:List Addr}(hi:i<env.length)(ht:t≠.lk):rH env F (put env i d t) (qa F i G):=fun j d' e=>by
 by_cases h:j=i
 ·subst h;rw[dC hi] at e;cases e;exact absurd rfl ht
 ·obtain⟨t0,e0,q⟩:=fV h e;cases t0 with
  |lk=>exact⟨e0,dD h⟩
  |own=>cases q
  |sh R=>cases q
theorem m9 {i:Nat}{G:List Addr}(hz:∀ i,∀ a∈F i,Z a)(hg:∀ a∈G,Z a):∀ j,∀ a∈qa F i G j,Z a:=fun j a ha=>by
 by_cases h:j=i
 ·subst h;rw[dQ] at ha;exact hg a ha
 ·rw[dD h] at ha;exact hz j a ha
theorem wH {H':Hp}{D:Ends}{i:Nat}{mv:Bool}{p:Pc.D×Rt}{v:V}{G:List Addr}(re:RE K P env σ H F)(hz:∀ i,∀ a∈F i,Z a)(zp:∀ a,¬ P a->Z a)(e:aI H H')(rp:Rep K H' p.1 v G)(rt:bK env F H p.2 H' G)
  (h:post K P Z env F H D (uP (.nm i) mv env p)):D.nx (σ.set i (some v)) H':=by
 have re':=re.same e;have ez:∀ a∈G,Z a:=fun a ha=>by
  rcases rt.cont a ha with q | ⟨j,_,_,f,_⟩
  ·exact zp a fun z=>re.pl a z q
  ·exact hz j a f
 have jQ:=jH.of_same (P:=P) re.pl e;unfold uP at h;by_cases hi:i<env.length
 ·simp only[hi,if_true] at h;have shared:∀ R,p.2.roots=R->post K P Z env F H D (.nx (put env i p.1 (.sh (R.filter (· != i)))))->D.nx (σ.set i (some v)) H':=fun R hR h=>by
   refine h _ H' (qa F i G) ⟨re'.put hi rp (fun o=>by cases o) (fun o=>by cases o) fun a ha j d' t' hj ej o m=>?_,m9 hz ez,jQ,lP hi (by intro z;cases z)⟩;rcases rt.cont a ha with q | ⟨k,d2,t2,f,e2,s⟩
   ·exact absurd q (re.nn ej m)
   ·have:=s j ((re.one j d' t' ej o).2.2 a m k d2 t2 e2 f);rw[hR] at this;simp only[aX,List.mem_filter];exact⟨this,by simpa using hj⟩
  cases hr:p.2 with
  |sh R=>rw[hr] at h;exact shared R (by rw[hr];rfl) h
  |mv R =>
   rw[hr] at h;obtain⟨m1,m2,m3⟩:=rt.mv R hr;cases R with
   |nil =>
    have fresh:∀ a∈G,H a=none:=fun a ha=>by
     rcases m3 a ha with q | ⟨_,_,_,q,_⟩
     ·exact q
     ·cases q
    refine h _ H' (qa F i G) ⟨re'.put hi rp (fun _=>⟨m1,m2,fun a ha j _ m=>?_⟩) (fun _ a ha z=>re.pl a z (fresh a ha)) fun a ha j d' t' hj ej o m=>?_,m9 hz ez,jQ,lP hi (by intro z;cases z)⟩
    ·obtain⟨d2,t2,e2⟩:=re.at' m;exact re.nn e2 m (fresh a ha)
    ·exact absurd (fresh a ha) (re.nn ej m)
   |cons r0 R0 =>
    cases mv with
    |false=>exact shared _ (by rw[hr];rfl) h
    |true =>
     simp only[if_true] at h;by_cases ho:iH env (r0::R0)=true
     ·rw[if_pos ho] at h;have fg:=re'.forget (env':=kill (r0::R0) env) (cY _ _) fun j d' t' ej=>(cL ej).1
      have ow:∀ k∈r0::R0,∃ d',env[k]? = some (some (d',.own)):=fun k hk=>by
       have:=cy.mp ho k hk;split at this
       ·rename_i d' q;exact⟨d',q⟩
       ·cases this
      have apart:∀ a∈G,∀ j,j≠i->a∉(match (kill (r0::R0) env)[j]? with | some (some _)=>F j | _=>[]):=fun a ha j hj m=>by
       split at m
       ·rename_i q ej;obtain⟨dj,tj⟩:=q;obtain⟨e0,h1,h2⟩:=cL ej;rcases m3 a ha with q | ⟨k,d2,t2,hk,f,e2,o2⟩
        ·exact re.nn e0 m q
        ·exact h2 k hk ((re.one k d2 t2 e2 o2).2.2 a f j dj tj e0 m)
       ·cases m
      refine h _ H' _ ⟨fg.put (by rw[cY];exact hi) rp (fun _=>⟨m1,m2,apart⟩) (fun _ a ha z=>?_) fun a ha j d' t' hj ej o m=>absurd m (apart a ha j hj),m9 (fun j a ha=>?_) ez,jQ,fun j d' ej=>?_⟩
      ·rcases m3 a ha with q | ⟨k,d2,t2,hk,f,e2,o2⟩
       ·exact re.pl a z q
       ·obtain⟨d3,e3⟩:=ow k hk;exact re.wr k d3 e3 a f z
      ·split at ha
       ·exact hz j a ha
       ·cases ha
      ·by_cases hj:j=i
       ·subst hj;rw[dC (by rw[cY];exact hi)] at ej;cases ej
       ·obtain⟨t0,e0,q⟩:=fV hj ej;cases t0 with
        |lk =>
         refine⟨(cL e0).1,?_⟩;rw[dD hj,e0]
        |own=>cases q
        |sh R=>cases q
     ·rw[if_neg ho] at h;exact h.elim
 ·simp only[hi,if_false] at h;exact h.elim
noncomputable def setM:List Nat->List V->L2.St->L2.St
 |i::is,v::vs,σ=>setM is vs (σ.set i (some v))
 |_,_,σ=>σ
theorem nu:∀{is:List Nat}{ds:List D}{vs:List V}{G:List Addr}{env env':En}{σ:L2.St}{F:Nat->List Addr},RE K P env σ H F->(∀ i,∀ a∈F i,Z a)->aG K H ds vs G->G.Nodup->(∀ a∈G,∃ vs:ML,H a=some vs.o)->(∀ a∈G,¬ P a)->(∀ a∈G,Z a) ->
  (∀ a∈G,∀ j,a∉F j)->bindM (fun _=>.own) is ds env=some env'->∃ F',RE K P env' (setM is vs σ) H F'/\(∀ i,∀ a∈F' i,Z a)/\rH env F env' F'/\is.length=vs.length
 | [],_,_,_,env,env',σ,F,re,hz,.nil,_,_,_,_,_,h=>by
  simp only[bindM,Option.some.injEq] at h;subst h;exact⟨F,re,hz,rH.refl _ _,rfl⟩
 | i::is,_,_,_,env,env',σ,F,re,hz,.cons (G:=G1) (G':=G2) r rs,nd,ll,np,gz,ap,h=>by
  simp only[bindM] at h;by_cases hi:i<env.length
  ·rw[if_pos hi] at h;obtain⟨n1,n2,n12⟩:=iq.mp nd;have re1:=re.put (t:=.own) hi r (fun _=>⟨n1,fun a ha=>ll a (bj _ ha),fun a ha j _=>ap a (bj _ ha) j⟩) (fun _ a ha=>np a (bj _ ha)) fun a ha j _ _ _ _ _ m=>absurd m (ap a (bj _ ha) j)
   obtain⟨F',a1,a2,a3,a4⟩:=nu re1 (m9 hz fun a ha=>gz a (bj _ ha)) rs n2 (fun a ha=>ll a (ax _ ha)) (fun a ha=>np a (ax _ ha)) (fun a ha=>gz a (ax _ ha)) (fun a ha j m=>by
    by_cases hj:j=i
    ·subst hj;rw[dQ] at m;exact n12 a m a ha rfl
    ·rw[dD hj] at m;exact ap a (ax _ ha) j m) h
   exact⟨F',a1,a2,(lP hi (by intro z;cases z)).trans a3,by simp[a4]⟩
  ·rw[if_neg hi] at h;cases h
 |[],_,_,_,_,_,_,_,_,_,.cons _ _,_,_,_,_,_,h=>by simp[bindM] at h
 |_::_,_,_,_,_,_,_,_,_,_,.nil,_,_,_,_,_,h=>by simp[bindM] at h
theorem qd {d:D}{R:List Nat}:dB d R≠.lk:=by unfold dB;split<;>intro z<;>cases z
theorem sW {i:Nat}{d:D}{v:V}{G:List Addr}{R:List Nat}(re:RE K P env σ H F)(hi:i<env.length)(rp:Rep K H d v G)(hs:∀ a∈G,∀(j:Nat) (d':D) (t':Tg),env[j]? = some (some (d',t'))->bA t'=true->a∈F j->j∈R) :
  RE K P (put env i d (dB d R)) (σ.set i (some v)) H (qa F i G):=by
 unfold dB;cases hf:d.flat with
 |true =>
  have:G=[]:=rp.flat hf;subst this;simp only[if_true];exact re.put hi rp (fun _=>⟨cn,fun _ h=>(nomatch h),fun _ h=>(nomatch h)⟩) (fun _ _ h=>(nomatch h)) fun _ h=>(nomatch h)
 |false =>
  simp only[Bool.false_eq_true,if_false];exact re.put hi rp (fun o=>by cases o) (fun o=>by cases o) fun a ha j d' t' hj ej o m=>hs a ha j d' t' ej o m
theorem lx {R:List Nat}:∀{is:List Nat}{ds:List D}{vs:List V}{G:List Addr}{env env':En}{σ:L2.St}{F:Nat->List Addr},RE K P env σ H F->(∀ i,∀ a∈F i,Z a)->aG K H ds vs G->(∀ a∈G,Z a) ->
  (∀ a∈G,∀(j:Nat) (d':D) (t':Tg),env[j]? = some (some (d',t'))->bA t'=true->a∈F j->j∈R)->bindM (fun d=>dB d R) is ds env=some env'->∃ F',RE K P env' (setM is vs σ) H F'/\(∀ i,∀ a∈F' i,Z a)/\rH env F env' F'/\is.length=vs.length
 | [],_,_,_,env,env',σ,F,re,hz,.nil,_,_,h=>by
  simp only[bindM,Option.some.injEq] at h;subst h;exact⟨F,re,hz,rH.refl _ _,rfl⟩
 | i::is,_,_,_,env,env',σ,F,re,hz,.cons (d:=d) (G:=G1) (G':=G2) r rs,gz,hs,h=>by
  simp only[bindM] at h;by_cases hi:i<env.length
  ·rw[if_pos hi] at h;have re1:=sW re hi r fun a ha=>hs a (bj _ ha)
   obtain⟨F',a1,a2,a3,a4⟩:=lx re1 (m9 hz fun a ha=>gz a (bj _ ha)) rs (fun a ha=>gz a (ax _ ha)) (fun a ha j d' t' ej o m=>by
    by_cases hj:j=i
    ·subst hj;rw[dC hi] at ej;simp only[Option.some.injEq,Prod.mk.injEq] at ej;obtain⟨rfl,rfl⟩:=ej;rw[dQ] at m;cases hf:d.flat with
     |true=>rw[r.flat hf] at m;cases m
     |false=>simp[dB,hf,bA] at o
    ·rw[dD hj] at m;obtain⟨t0,e0,rfl⟩:=fV hj ej;rw[kf] at o;exact hs a (ax _ ha) j d' t0 e0 o m) h
   exact⟨F',a1,a2,(lP hi qd).trans a3,by simp[a4]⟩
  ·rw[if_neg hi] at h;cases h
 |[],_,_,_,_,_,_,_,_,_,.cons _ _,_,_,h=>by simp[bindM] at h
 |_::_,_,_,_,_,_,_,_,_,_,.nil,_,_,h=>by simp[bindM] at h
theorem qg (R:List Nat)(env:En):(lock R env).length=env.length:=by simp[lock]
theorem lZ {R:List Nat}{env:En}{i:Nat}{d:D}{t:Tg}(e:(lock R env)[i]? = some (some (d,t))) :
  (env[i]? = some (some (d,t))/\(t = .own->i∉R))\/(t = .lk/\i∈R/\env[i]? = some (some (d,.own))):=by
 unfold lock at e;rw[List.getElem?_mapIdx] at e;cases q:env[i]? with
 |none=>rw[q] at e;cases e
 |some s =>
  rw[q] at e;cases s with
  |none=>cases e
  |some p =>
   obtain⟨a,b⟩:=p;simp only[Option.map_some,Option.some.injEq] at e;cases b with
   |own =>
    simp only at e;by_cases h:R.contains i=true
    ·rw[if_pos h] at e;cases e;exact .inr ⟨rfl,by simpa using h,rfl⟩
    ·rw[if_neg h] at e;cases e;exact .inl ⟨rfl,fun _ z=>h (by simpa using z)⟩
   |lk=>cases e;exact .inl ⟨rfl,fun z=>by cases z⟩
   |sh Q=>cases e;exact .inl ⟨rfl,fun z=>by cases z⟩
theorem xX {R:List Nat}{env:En}{i:Nat}{d:D}{t:Tg}(e:env[i]? = some (some (d,t))):∃ t',(lock R env)[i]? = some (some (d,t'))/\bA t'=bA t/\aX i t'=aX i t:=by
 unfold lock;rw[List.getElem?_mapIdx,e];cases t with
 |own =>
  simp only[Option.map_some];by_cases h:R.contains i=true
  ·exact⟨.lk,by rw[if_pos h],rfl,rfl⟩
  ·exact⟨.own,by rw[if_neg h],rfl,rfl⟩
 |lk=>exact⟨.lk,rfl,rfl,rfl⟩
 |sh Q=>exact⟨.sh Q,rfl,rfl,rfl⟩
theorem eW {R:List Nat}{env:En}{i:Nat}{d:D}{t:Tg}(e:(lock R env)[i]? = some (some (d,t))):∃ t0,env[i]? = some (some (d,t0))/\bA t0=bA t/\aX i t0=aX i t:=by
 rcases lZ e with ⟨h,_⟩ | ⟨rfl,_,h⟩
 ·exact⟨t,h,rfl,rfl⟩
 ·exact⟨.own,h,rfl,rfl⟩
theorem RE.locked (re:RE K P env σ H F){R:List Nat}{G:List Addr}(hg:∀ a∈G,H a≠none)(hc:∀ a∈G,∀(i:Nat) (d:D) (t:Tg),env[i]? = some (some (d,t))->bA t=true->a∈F i->i∈R) :
  RE K (fun a=>P a\/a∈G) (lock R env) σ H F where
 len:=(qg R env).trans re.len
 val:=fun i d t e=>let ⟨t0,e0,_⟩:=eW e;re.val i d t0 e0
 emp:=fun i h=>re.emp i fun d t e=>by
  obtain⟨t',e',_⟩:=xX (R:=R) e;exact h d t' e'
 one:=fun i d t e o=>by
  obtain⟨t0,e0,o0,_⟩:=eW e;obtain⟨a,b,c⟩:=re.one i d t0 e0 (o0.trans o);refine⟨a,b,fun x hx j d' t' ej m=>?_⟩;obtain⟨t1,e1,_,s1⟩:=eW ej;rw[<-s1];exact c x hx j d' t1 e1 m
 wr:=fun i d e a ha z=>by
  rcases lZ e with ⟨h,hn⟩ | ⟨q,_⟩
  ·rcases z with z | z
   ·exact re.wr i d h a ha z
   ·exact hn rfl (hc a z i d .own h rfl ha)
  ·cases q
 pl:=fun a h=>h.elim (re.pl a) (hg a)
theorem mB (R:List Nat)(env0 env:En):(unlock R env0 env).length=env.length:=by simp[unlock]
theorem i7 {R:List Nat}{env0 env:En}{i:Nat}{d:D}{t:Tg}(e:(unlock R env0 env)[i]? = some (some (d,t))) :
  (env[i]? = some (some (d,t))/\(t = .lk->¬ (i∈R/\∃ d0,env0[i]? = some (some (d0,.own)))))\/(t = .own/\i∈R/\env[i]? = some (some (d,.lk))/\∃ d0,env0[i]? = some (some (d0,.own))):=by
 unfold unlock at e;rw[List.getElem?_mapIdx] at e;cases q:env[i]? with
 |none=>rw[q] at e;cases e
 |some s =>
  rw[q] at e;cases s with
  |none=>cases e
  |some p =>
   obtain⟨a,b⟩:=p;simp only[Option.map_some,Option.some.injEq] at e;cases b with
   |own=>cases e;exact .inl ⟨rfl,fun z=>by cases z⟩
   |sh Q=>cases e;exact .inl ⟨rfl,fun z=>by cases z⟩
   |lk =>
    simp only at e;split at e
    ·rename_i d0 q0;by_cases h:R.contains i=true
     ·rw[if_pos h] at e;cases e;exact .inr ⟨rfl,by simpa using h,rfl,d0,q0⟩
     ·rw[if_neg h] at e;cases e;exact .inl ⟨rfl,fun _ z=>h (by simpa using z.1)⟩
    ·rename_i nq;cases e;exact .inl ⟨rfl,fun _ ⟨_,d0,q0⟩=>nq d0 q0⟩
theorem fJ {R:List Nat}{env0 env:En}{i:Nat}{d:D}{t:Tg}(e:(unlock R env0 env)[i]? = some (some (d,t))):∃ t0,env[i]? = some (some (d,t0))/\bA t0=bA t/\aX i t0=aX i t:=by
 rcases i7 e with ⟨h,_⟩ | ⟨rfl,_,h,_⟩
 ·exact⟨t,h,rfl,rfl⟩
 ·exact⟨.lk,h,rfl,rfl⟩
theorem qS {R:List Nat}{env0 env:En}{i:Nat}{d:D}{t:Tg}(e:env[i]? = some (some (d,t))):∃ t',(unlock R env0 env)[i]? = some (some (d,t')):=by
 unfold unlock;rw[List.getElem?_mapIdx,e];cases t with
 |own=>exact⟨.own,rfl⟩
 |sh Q=>exact⟨.sh Q,rfl⟩
 |lk =>
  simp only[Option.map_some];split
  ·by_cases h:R.contains i=true
   ·exact⟨.own,by rw[if_pos h]⟩
   ·exact⟨.lk,by rw[if_neg h]⟩
  ·exact⟨.lk,rfl⟩
theorem After.unlocked {R:List Nat}{G:List Addr}{env':En}{σ':L2.St}{H':Hp}{F':Nat->List Addr}(re:RE K P env σ H F)(a:After K (fun a=>P a\/a∈G) Z (lock R env) F H env' σ' H' F'):After K P Z env F H (unlock R env env') σ' H' F' where
 re:={
  len:=(mB R env env').trans a.re.len
  val:=fun i d t e=>let ⟨t0,e0,_⟩:=fJ e;a.re.val i d t0 e0
  emp:=fun i h=>a.re.emp i fun d t e=>by
   obtain⟨t',e'⟩:=qS (R:=R) (env0:=env) e;exact h d t' e'
  one:=fun i d t e o=>by
   obtain⟨t0,e0,o0,_⟩:=fJ e;obtain⟨x,y,c⟩:=a.re.one i d t0 e0 (o0.trans o);refine⟨x,y,fun z hz j d' t' ej m=>?_⟩;obtain⟨t1,e1,_,s1⟩:=fJ ej;rw[<-s1];exact c z hz j d' t1 e1 m
  wr:=fun i d e b hb z=>by
   rcases i7 e with ⟨h,_⟩ | ⟨_,hR,h,d0,h0⟩
   ·exact a.re.wr i d h b hb (.inl z)
   ·obtain⟨h1,h2⟩:=a.lk i d h;rw[h2] at hb;exact re.wr i d0 h0 b hb z
  pl:=fun b h=>a.re.pl b (.inl h) }
 z:=a.z
 ev:=a.ev.weak fun _ h=>.inl h
 lk:=fun i d e=>by
  rcases i7 e with ⟨h,hn⟩ | ⟨q,_⟩
  ·obtain⟨h1,h2⟩:=a.lk i d h;rcases lZ h1 with ⟨h3,_⟩ | ⟨_,hR,h3⟩
   ·exact⟨h3,h2⟩
   ·exact absurd ⟨hR,d,h3⟩ (hn rfl)
  ·cases q
end
section
variable {K:Frag}{P Z:Addr->Prop}{env:En}{σ:L2.St}{H:Hp}{F:Nat->List Addr}
theorem i6 {x:Nat}{d:D}(h:ownAt env x=some d):env[x]? = some (some (d,.own)):=by
 unfold ownAt at h;split at h
 ·rename_i d' q;cases h;exact q
 ·cases h
theorem ve (re:RE K P env σ H F){x:Nat}{d:D}{path:Option Int}{xs:List D}{v:V}(hx:ownAt env x=some d)(hv:σ[x]? = some (some v))(h:d.at1 path=some xs) :
  ∃ p,PV K H v path p/\∀ H',aI H H'->∃ ws Gx,H' p=some (.lst ws)/\aG K H' xs ws Gx/\p∈F x/\(∀ a∈Gx,a∈F x)/\Gx.Nodup/\p∉Gx /\
   ∀ ys us Gy,aG K (upd H' p (.lst us)) ys us Gy->Gy.Nodup->p∉Gy->(∀ a∈Gy,a∈Gx\/a∉F x)->∃ G',Rep K (upd H' p (.lst us)) (d.set1 path ys) v G'/\G'.Nodup/\∀ a∈G',a∈F x\/a∈Gy:=by
 have hx':=i6 hx;obtain⟨u,e,rp⟩:=re.val x d .own hx';rw[hv] at e;cases e;obtain⟨a,b,_⟩:=re.one x d .own hx' rfl;obtain⟨p,pv,f⟩:=u5 rp a h;exact⟨p,pv,fun H' e=>f H' e fun y hy=>let ⟨ws,q⟩:=b y hy;⟨ws,e _ _ q⟩⟩
theorem uZ {D:Ends}{x:Nat}{d:Pc.D}{path:Option Int}{ys:List Pc.D}{rs:List Rt}(h:post K P Z env F H D (gS x path env d ys rs)):ys.length<=lim:=by
 unfold gS at h;cases hR:eF rs with
 |none=>rw[hR] at h;exact h.elim
 |some R =>
  rw[hR] at h;simp only at h;by_cases hc:(decide R.Nodup&&iH env R && !R.contains x&&decide (ys.length<=lim))=true
  ·simp only[Bool.and_eq_true,decide_eq_true_eq] at hc;exact hc.2
  ·rw[if_neg hc] at h;exact h.elim
theorem xK {H1:Hp}{D:Ends}{x:Nat}{d:Pc.D}{path:Option Int}{ys:List Pc.D}{rs:List Rt}{v:V}{p:Addr}{us:List V}{N:List Addr}
  (re:RE K P env σ H F) (hz:∀ i,∀ a∈F i,Z a) (zp:∀ a,¬ P a->Z a) (e:aI H H1) (hx:ownAt env x=some d) (hv:σ[x]? = some (some v)) (hp:p∈F x)
  (hN:∀ R,eF rs=some R->R.Nodup->N.Nodup/\(∀ a∈N,∃ vs:ML,H1 a=some vs.o)/\∀ a∈N,H a=none\/∃ i d t,i∈R/\a∈F i/\env[i]? = some (some (d,t))/\bA t=true)
  (hset:(∀ a∈N,a∉F x)->N.Nodup->∃ G',Rep K (upd H1 p (.lst us)) (d.set1 path ys) v G'/\G'.Nodup/\∀ a∈G',a∈F x\/a∈N)
  (h:post K P Z env F H D (gS x path env d ys rs)):D.nx σ (upd H1 p (.lst us)):=by
 unfold gS at h;cases hR:eF rs with
 |none=>rw[hR] at h;exact h.elim
 |some R =>
  rw[hR] at h;simp only at h;by_cases hc:(decide R.Nodup&&iH env R && !R.contains x&&decide (ys.length<=lim))=true
  ·rw[if_pos hc] at h;simp only[Bool.and_eq_true,decide_eq_true_eq,Bool.not_eq_true'] at hc;obtain⟨⟨⟨hc1,hc2⟩,hc3⟩,hc4⟩:=hc;have hxR:x∉R:=fun z=>by
    have:R.contains x=true:=by simpa using z
    rw[this] at hc3;cases hc3
   obtain⟨n1,n2,n3⟩:=hN R hR hc1;have hx':=i6 hx;have ow:∀ k∈R,∃ d',env[k]? = some (some (d',.own)):=fun k hk=>by
    have:=cy.mp hc2 k hk;split at this
    ·rename_i d' q;exact⟨d',q⟩
    ·cases this
   have notx:∀ a∈N,a∉F x:=fun a ha m=>by
    rcases n3 a ha with q | ⟨i,d2,t2,hi,f,e2,o2⟩
    ·exact re.nn hx' m q
    ·have:=(re.one i d2 t2 e2 o2).2.2 a f x d .own hx' m;simp only[aX,List.mem_singleton] at this;subst this;exact hxR hi
   obtain⟨G',g1,g2,g3⟩:=hset notx n1;have re1:=re.same e;have pP:∀ a∈N,¬ P a:=fun a ha z=>by
    rcases n3 a ha with q | ⟨i,d2,t2,hi,f,e2,o2⟩
    ·exact re.pl a z q
    ·obtain⟨d3,e3⟩:=ow i hi;exact re.wr i d3 e3 a f z
   have re2:=re1.mutate (R:=R) (N:=N) hx' hv hp g1 g2 g3 fun a ha=>⟨n2 a ha,pP a ha,fun j dj tj ej m=>by
    rcases n3 a ha with q | ⟨i,d2,t2,hi,f,e2,o2⟩
    ·exact absurd q (re.nn ej m)
    ·exact⟨i,ah _ hi,(re.one i d2 t2 e2 o2).2.2 a f j dj tj ej m⟩⟩
   obtain⟨_,lsx,_⟩:=re1.one x d .own hx' rfl;obtain⟨ws,hpl⟩:=lsx p hp;have nPp:¬ P p:=re.wr x d hx' p hp;refine h σ _ _ ⟨re2,fun j a ha=>?_,(jH.of_same re.pl e).trans ⟨fun a z=>aM (fun q=>nPp (q ▸ z)),fun b xs r=>?_,ou hpl⟩,fun j dj ej=>?_⟩
   ·unfold pR at ha;split at ha
    ·rcases g3 a ha with q | q
     ·exact hz x a q
     ·exact zp a (pP a q)
    ·split at ha
     ·exact hz j a ha
     ·cases ha
   ·refine (aM (fun q=>?_)).trans r;subst q;rw[hpl] at r;cases ws<;>cases r
   ·by_cases hj:j=x
    ·subst hj;rw[List.getElem?_set_self (by rw[cY];exact (List.getElem?_eq_some_iff.mp hx').1)] at ej;cases ej
    ·rw[List.getElem?_set_ne (dk hj)] at ej;refine⟨(cL ej).1,?_⟩;unfold pR;rw[if_neg hj,ej]
  ·rw[if_neg hc] at h;exact h.elim
end
end Pc
end
section
namespace Pc
open PySem PySem.Spec PyProof.Rows L2
section
variable {K:Frag}{H:Hp}
theorem aG.inv2 {d e:D}{x y:V}{G:List Addr}(h:aG K H [d,e] [x,y] G):∃ G1 G2,Rep K H d x G1/\Rep K H e y G2/\G=G1++G2:=by
 cases h with
 |cons r s =>
  cases s with
  |cons r' s'=>cases s';exact⟨_,_,r,r',by rw[bh]⟩
theorem Rep.int_inv {i:Int}{v:V}{G:List Addr}(h:Rep K H (.int i) v G):v = .int i/\G=[]:=by cases h;exact⟨rfl,rfl⟩
theorem Rep.bl_inv {i:Bool}{v:V}{G:List Addr}(h:Rep K H (.bl i) v G):v = .bl i/\G=[]:=by cases h;exact⟨rfl,rfl⟩
theorem Rep.str_inv {i:Str}{v:V}{G:List Addr}(h:Rep K H (.str i) v G):v = .str i/\G=[]:=by cases h;exact⟨rfl,rfl⟩
theorem Rep.non_inv {v:V}{G:List Addr}(h:Rep K H .non v G):v = .non/\G=[]:=by cases h;exact⟨rfl,rfl⟩
theorem Rep.tup_inv {ds:List D}{v:V}{G:List Addr}(h:Rep K H (.tup ds) v G):∃ p vs,v = .ref p/\je K H p vs/\aG K H ds vs G:=by
 cases h with
 |tup a b=>exact⟨_,_,rfl,a.sq,b⟩
theorem Rep.tup_invT {ds:List D}{v:V}{G:List Addr}(h:Rep K H (.tup ds) v G):∃ p vs,v = .ref p/\kq K H p vs/\aG K H ds vs G:=by
 cases h with
 |tup a b=>exact⟨_,_,rfl,a,b⟩
end
section
variable {X:Cx}
theorem Inv.lstR {pins:List (Addr×Obj)}{σ:L2.St}{H:Hp}{s:Shared}{l:Addr}{xs:List V}(I:Inv X pins σ H s)(hH:Rd H l (.lst xs)):xs.length<=sizeLine/\∃(its:List Value) (n:Nat),aN xs its/\xs.length=its.length/\s.heap.get? l=some { cls:=.type "list",data:=.seq its.toArray n }:=by
 obtain⟨z,its,n,r,e⟩:=hH.ok I.hok;exact⟨z,its,n,r,r.length,e⟩
noncomputable def He:R2:=fun x y H Q=>∃ l b xs zs,x = .ref l/\y = .ref b/\Rd H l (.lst xs)/\Rd H b (.lst zs)/\xs.length+zs.length<=sizeLine/\∀ p,H p=none->Q (.ref p) (upd H p (.lst (xs++zs)))
theorem tY:gJ X (binaryOp .Add) He:=by
 intro pins s σ H x y v u Q I rx ry h;obtain⟨l,b,xs,zs,rfl,rfl,hH,hB,hz,q⟩:=h;cases rx;cases ry;obtain⟨z,its,n,r,hl,e⟩:=Inv.lstR I hH;obtain⟨z2,its2,n2,r2,hl2,e2⟩:=Inv.lstR I hB;refine PySem.P.add_list e e2 ?_ (by rw[ai,ai];omega);have ea:its.toArray++its2.toArray=(its++its2).toArray:=by simp
 rw[ea];exact⟨.ref _,_,I.lnew (t':=s.toks) (r.append r2) (by rw[aj];omega),rfl,q _ I.fresh⟩
noncomputable def E3:R2:=fun x y H Q=>∃ l k xs,x = .ref l/\y = .int k/\Rd H l (.lst xs)/\-(2 ^ 63)<=k/\k<2 ^ 63/\xs.length*k.toNat<=sizeLine /\
 ∀ p,H p=none->Q (.ref p) (upd H p (.lst (List.replicate k.toNat xs).flatten))
theorem zj:gJ X (binaryOp .Mult) E3:=by
 intro pins s σ H x y v u Q I rx ry h;obtain⟨l,k,xs,rfl,rfl,hH,h1,h2,hz,q⟩:=h;cases rx;obtain⟨t,rfl⟩:=ry;obtain⟨z,its,n,r,hl,e⟩:=Inv.lstR I hH;have hlen:its.toArray.size*k.toNat<=sizeLine:=by rw[ai,<-hl];exact hz
 have hcap:¬ its.toArray.size*k.toNat > (2 ^ 63 - 1) / 8:=by
  have:(sizeLine:Nat)<=(2 ^ 63 - 1) / 8:=by decide
  omega
 have hfit:¬ (!Builtin.List.listFitsIndex k)=true:=by
  rw[fitsIndex_both h1 h2];exact ao
 have hlong:¬ Builtin.List.listTooLong (its.toArray.size*k.toNat)=true:=by
  rw[xq hlen];exact ao
 have hnew:List.foldl (fun x1 x2=>x1++x2) #[] (List.replicate (if its.toArray.isEmpty=true then 0 else k.toNat) its.toArray)=(List.replicate k.toNat its).flatten.toArray:=by
  have f0:∀ m:Nat,List.foldl (fun x1 x2=>x1++x2) #[] (List.replicate m its.toArray)=(List.replicate m its).flatten.toArray:=fun m=>by
   have:=foldl_rep its m [];rw[i5] at this;exact this
  rw[f0];cases its with
  |nil=>simp
  |cons a r'=>rw[if_neg (by simp)]
 refine wpAny_binaryOp_repeat_ref (T:="list") (U:="int") (by decide) ⟨_,e,rfl⟩ (fun s'=>typeIs_int s' k t) noFill_list_mul F.fills_int_mul F.slot_int_rmul repeat_list F.slot_int_index.lookup
  (call_meets F.slot_int_rmul (typeIs_int s k t) F.entry_int_rmul (F.args_int_rmul_2 _ _) (int___rmul___int_list k t l its.toArray n)
   ⟨e,rfl,⟨_,e,rfl⟩,call_meets F.slot_list_mul ⟨_,e,rfl⟩ F.entry_list_mul (F.args_list_mul_2 _ _) (AutoListH.list___mul___list_int_3 l its.toArray n k t hfit hcap hlong) ⟨e,?_⟩⟩)
 rw[hnew];exact⟨.ref _,_,I.lnew (t':=s.toks) (r.rep k.toNat) (by rw[len_rep,Nat.mul_comm];exact hz),rfl,q _ I.fresh⟩
theorem aG.rep {K:Frag}{H:Hp}{ds:List D}{vs:List V}(h:aG K H ds vs []):∀ n:Nat,aG K H (List.replicate n ds).flatten (List.replicate n vs).flatten []
 |0=>.nil
 | n+1=>by
  rw[bz,bz,dm,dm];exact h.append (h.rep n)
theorem kI {n:Nat}{d e:D}(h:ck n d=some e):n<=lim/\e=d:=by
 unfold ck at h;split at h
 ·cases h;exact⟨‹_›,rfl⟩
 ·cases h
theorem nD {i:Int}:small i=true↔(-(2 ^ 64)<i/\i<2 ^ 64):=by unfold small;exact decide_eq_true_iff
theorem zG {op:Operator}{i j k:Int}(h:binI op i j=some k):gJ X (binaryOp op) (fun x y H Q=>x = .int i/\y = .int j/\Q (.int k) H):=by
 intro pins s σ H x y v u Q I rx ry q;obtain⟨rfl,rfl,q⟩:=q;cases op with
 |Add=>cases h;exact rh pins s σ H _ _ v u Q I rx ry ⟨i,j,rfl,rfl,q⟩
 |Sub=>cases h;exact DK pins s σ H _ _ v u Q I rx ry ⟨i,j,rfl,rfl,q⟩
 |Mult =>
  have h:(if small i || small j then some (i*j) else none)=some k:=h;by_cases hc:(small i || small j)=true
  ·rw[if_pos hc] at h;cases h;refine Dd pins s σ H _ _ v u Q I rx ry ⟨i,j,rfl,rfl,?_,q⟩;rw[ic,nD,nD] at hc;exact hc
  ·rw[if_neg hc] at h;cases h
 |FloorDiv =>
  have h:(if 0<j/\j<1073741824 then some (i / j) else none)=some k:=h;by_cases hc:0<j/\j<1073741824
  ·rw[if_pos hc] at h;cases h;exact yQ pins s σ H _ _ v u Q I rx ry ⟨i,j,rfl,rfl,hc,q⟩
  ·rw[if_neg hc] at h;cases h
 |Mod =>
  have h:(if 0<j then some (i%j) else none)=some k:=h;by_cases hc:0<j
  ·rw[if_pos hc] at h;cases h;exact Eb pins s σ H _ _ v u Q I rx ry ⟨i,j,rfl,rfl,hc,q⟩
  ·rw[if_neg hc] at h;cases h
 |Pow =>
  have h:(if 0<=j/\j<=1000000/\i.natAbs<2 ^ 64 then some (i ^ j.toNat) else none)=some k:=h;by_cases hc:0<=j/\j<=1000000/\i.natAbs<2 ^ 64
  ·rw[if_pos hc] at h;cases h;exact CA pins s σ H _ _ v u Q I rx ry ⟨i,j,rfl,rfl,hc,q⟩
  ·rw[if_neg hc] at h;cases h
 |LShift =>
  have h:(if 0<=j/\j<=1000000/\i.natAbs<2 ^ 64 then some (i*2 ^ j.toNat) else none)=some k:=h;by_cases hc:0<=j/\j<=1000000/\i.natAbs<2 ^ 64
  ·rw[if_pos hc] at h;cases h;exact D8 pins s σ H _ _ v u Q I rx ry ⟨i,j,rfl,rfl,hc,q⟩
  ·rw[if_neg hc] at h;cases h
 |RShift =>
  have h:(if 0<=j then some (i / 2 ^ j.toNat) else none)=some k:=h;by_cases hc:0<=j
  ·rw[if_pos hc] at h;cases h;exact DQ pins s σ H _ _ v u Q I rx ry ⟨i,j,rfl,rfl,hc,q⟩
  ·rw[if_neg hc] at h;cases h
 |BitAnd=>cases h;exact C2 pins s σ H _ _ v u Q I rx ry ⟨i,j,rfl,rfl,q⟩
 |BitOr=>cases h;exact Gz pins s σ H _ _ v u Q I rx ry ⟨i,j,rfl,rfl,q⟩
 |BitXor=>cases h;exact CV pins s σ H _ _ v u Q I rx ry ⟨i,j,rfl,rfl,q⟩
 |_=>cases h
theorem m7 (c:Array Nat):∀(k:Nat) (acc:Array Nat),((List.replicate k c).foldl (fun x y=>x++y) acc).size=acc.size+c.size*k
 |0,acc=>rfl
 | k+1,acc=>by
  rw[bz,List.foldl_cons,m7 c k,Array.size_append,Nat.mul_succ];omega
theorem wB (a:Str)(k:Nat):(uA a k).length=a.length*k:=by
 have:=m7 a.cps k #[];rw[show (#[]:Array Nat).size=0 from rfl,gd] at this;exact this
theorem rF:gJ X (binaryOp .Mult) (fun x y H Q=>∃(a:Str) (n:Int),x = .str a/\y = .int n/\(1<n/\n<=1000/\0<a.length/\a.length<=1000)/\Q (.str (uA a n.toNat)) H):=by
 intro pins s σ H x y v u Q I rx ry h;obtain⟨a,n,rfl,rfl,⟨h1,h2,h3,h4⟩,q⟩:=h;obtain⟨t,rfl⟩:=rx;obtain⟨t',rfl⟩:=ry;have hn1:¬ n<1:=by omega
 have hn2:(n==1 || a.length==0)=false:=by
  rw[Bool.or_eq_false_iff];exact⟨beq_false_of_ne (by omega),beq_false_of_ne (by omega)⟩
 have hm:a.length*n.toNat<=1000000:=bg (Nat.mul_le_mul h4 (show n.toNat<=1000 by omega)) (by decide);refine PySem.P.mul_str (by rw[aq (by omega),aq (by omega)];rfl) (fun _ _=>?_) (fun _ _=>?_) ?_
 ·have:(1000:Int)<=(2 ^ 63 - 1) / n:=by
   rw[Int.le_ediv_iff_mul_le (by omega)];omega
  omega
 ·unfold Builtin.Str.tooLong;rw[aq];rw[sizeLine_eq];omega
 ·rw[if_neg hn1,if_neg (by rw[hn2];exact ao)];simp only[Made.post];refine⟨?_,.str (uA a n.toNat),H,I.tok _,⟨_,rfl⟩,q⟩;show (uA a n.toNat).length<=sizeLine;rw[wB,sizeLine_eq];omega
theorem yZ (op:Operator):gJ X (binaryOp op) (z9 X.K (lQ op)):=by
 intro pins s σ H x y v u Q I rx ry h;obtain⟨d1,d2,d,G,rs,hd,k⟩:=h;obtain⟨G1,G2,r1,r2,rfl⟩:=rs.inv2;cases d1 with
 |int i =>
  cases d2 with
  |int j =>
   obtain⟨rfl,rfl⟩:=r1.int_inv;obtain⟨rfl,rfl⟩:=r2.int_inv;have:lQ op (.int i) (.int j)=(binI op i j).map .int:=rfl;rw[this,aa] at hd;obtain⟨z,hz,rfl⟩:=hd;exact zG hz pins s σ H _ _ v u Q I rx ry ⟨rfl,rfl,k _ H [] (.int z) eU.nil⟩
  |_=>cases hd
 |str a =>
  cases d2 with
  |str b =>
   cases op with
   |Add =>
    obtain⟨hl,rfl⟩:=kI hd;obtain⟨rfl,rfl⟩:=r1.str_inv;obtain⟨rfl,rfl⟩:=r2.str_inv;exact mq pins s σ H _ _ v u Q I rx ry ⟨a,b,rfl,rfl,eO hl,k _ H [] (.str _) eU.nil⟩
   |_=>cases hd
  |int n =>
   cases op with
   |Mult =>
    have hd:(if 1<n/\n<=1000/\0<a.length/\a.length<=1000 then some (D.str (uA a n.toNat)) else none)=some d:=hd;by_cases hc:1<n/\n<=1000/\0<a.length/\a.length<=1000
    ·rw[if_pos hc] at hd;cases hd;obtain⟨rfl,rfl⟩:=r1.str_inv;obtain⟨rfl,rfl⟩:=r2.int_inv;exact rF pins s σ H _ _ v u Q I rx ry ⟨a,n,rfl,rfl,hc,k _ H [] (.str _) eU.nil⟩
    ·rw[if_neg hc] at hd;cases hd
   |_=>cases hd
  |_=>cases op<;>cases hd
 |lst a =>
  obtain⟨p,vs,G',rfl,rfl,h1,h2⟩:=r1.lst_inv;cases d2 with
  |lst b =>
   cases op with
   |Add =>
    obtain⟨hl,rfl⟩:=kI hd;obtain⟨p',vs',G'',rfl,rfl,h1',h2'⟩:=r2.lst_inv;refine tY pins s σ H _ _ v u Q I rx ry ⟨p,p',vs,vs',rfl,rfl,h1,h1',by rw[<-h2.len,<-h2'.len];exact eO hl,fun q hq=>?_⟩;obtain⟨n1,n2⟩:=j6 (G0:=p::G'++p'::G'') (h2.append h2') (fun a ha=>by simp at ha ⊢;rcases ha with ha | ha<;>simp[ha]) hq;exact k _ _ _ n1 n2
   |_=>cases hd
  |int n =>
   cases op with
   |Mult =>
    have hd:(if -(2 ^ 63)<=n/\n<2 ^ 63 then (if D.flats a then ck (a.length*n.toNat) (.lst (List.replicate n.toNat a).flatten) else none) else none)=some d:=hd;by_cases hc : -(2 ^ 63)<=n/\n<2 ^ 63
    ·rw[if_pos hc] at hd;by_cases hf:D.flats a=true
     ·rw[if_pos hf] at hd;obtain⟨hl,rfl⟩:=kI hd;obtain⟨rfl,rfl⟩:=r2.int_inv;have eG:G'=[]:=h2.flat hf;subst eG;refine zj pins s σ H _ _ v u Q I rx ry ⟨p,n,vs,rfl,rfl,h1,hc.1,hc.2,by rw[<-h2.len];exact eO hl,fun q hq=>?_⟩;obtain⟨n1,n2⟩:=j6 (G0:=[p] ++ []) (h2.rep n.toNat) (fun a ha=>(nomatch ha)) hq;exact k _ _ _ n1 n2
     ·rw[if_neg hf] at hd;cases hd
    ·rw[if_neg hc] at hd;cases hd
   |_=>cases hd
  |_=>cases op<;>cases hd
 |tup a =>
  obtain⟨p,vs,rfl,h1,h2⟩:=r1.tup_invT;cases d2 with
  |tup b =>
   cases op with
   |Add =>
    have hd:(if a.isEmpty then none else ck (a.length+b.length) (.tup (a++b)))=some d:=hd;by_cases hc:a.isEmpty=true
    ·rw[if_pos hc] at hd;cases hd
    ·rw[if_neg hc] at hd;obtain⟨hl,rfl⟩:=kI hd;obtain⟨p',vs',rfl,h1',h2'⟩:=r2.tup_inv;refine AA pins s σ H _ _ v u Q I rx ry ⟨p,p',vs,vs',rfl,rfl,h1.sq,h1',?_,by rw[<-h2.len,<-h2'.len];exact eO hl,fun hy=>?_,fun _ q hq=>?_⟩
     ·intro z;have:=h2.len;rw[z] at this;cases a with
      |nil=>exact hc rfl
      |cons _ _=>simp at this
     ·subst hy;cases h2' with
      |nil =>
       simp only[List.append_nil] at k;refine k _ H G1 (.tup h1 h2) ⟨aI.refl _,fun a ha=>.inr ha,fun f=>?_⟩;have:G1=[]:=h2.flat (by simpa[D.inner] using f);subst this;exact⟨cn,fun _ h=>(nomatch h)⟩
     ·obtain⟨n1,n2⟩:=wI (G0:=G1++G2) (h2.append h2') (fun a ha=>ha) hq;exact k _ _ _ n1 n2
   |_=>cases hd
  |_=>cases op<;>cases hd
 |_=>cases hd
open SeqAt in
theorem gT {f:D->D->Option Bool}:∀{xs ys:List D}{b:Bool},mH f xs ys=some b->xs.length=ys.length/\∃ e:Nat->Bool,(∀ j x y,xs[j]? = some x->ys[j]? = some y->f x y=some (e j))/\b=(List.range xs.length).all e
 |[],[],b,h=>by cases h;exact⟨rfl,fun _=>true,fun j x y hx=>by simp at hx,rfl⟩
 | x::xs,y::ys,b,h=>by
  simp only[mH,Option.bind_eq_some_iff,Option.map_eq_some_iff] at h;obtain⟨a,h1,c,h2,rfl⟩:=h;obtain⟨hl,e,he,rfl⟩:=gT h2;refine⟨by simp[hl],fun j=>match j with | 0=>a | j+1=>e j,fun j x' y' hx hy=>?_,?_⟩
  ·cases j with
   |zero=>simp at hx hy;subst hx;subst hy;exact h1
   |succ j=>exact he j x' y' (by simpa using hx) (by simpa using hy)
  ·rw[ak,i3,fu,List.all_map];rfl
 |[],_::_,b,h=>by cases h
 |_::_,[],b,h=>by cases h
theorem jE:∀(n:Nat) (d:D) (b:Bool),D.eqf n d d=some b->b=true
 |0,_,_,h=>by cases h
 |n+1,.non,b,h=>by cases h;rfl
 | n+1,.bl x,b,h=>by
  have h:some (x==x)=some b:=h;rw[de] at h;cases h;rfl
 | n+1,.int x,b,h=>by
  have h:some (x==x)=some b:=h;rw[de] at h;cases h;rfl
 | n+1,.str x,b,h=>by
  have h:some (x==x)=some b:=h;rw[de] at h;cases h;rfl
 | n+1,.lst xs,b,h=>by
  have h:(if xs.length=xs.length then mH (D.eqf n) xs xs else some false)=some b:=h;rw[if_pos rfl] at h;obtain⟨_,e,he,rfl⟩:=gT h;rw[cy];intro j hj;have hj:j<xs.length:=by simpa using hj
  exact jE n xs[j] _ (he j _ _ (by simp[hj]) (by simp[hj]))
 |n+1,.dct _,b,h=>by cases h
 |n+1,.mpi _,b,h=>by cases h
 |n+1,.mpt _,b,h=>by cases h
 |n+1,.mpz _,b,h=>by cases h
 | n+1,.tup xs,b,h=>by
  have h:(if xs.length=xs.length then mH (D.eqf n) xs xs else none)=some b:=h;rw[if_pos rfl] at h;obtain⟨_,e,he,rfl⟩:=gT h;rw[cy];intro j hj;have hj:j<xs.length:=by simpa using hj
  exact jE n xs[j] _ (he j _ _ (by simp[hj]) (by simp[hj]))
section
variable {pins:List (Addr×Obj)}{σ:L2.St}{H:Hp}{s:Shared}
theorem fW.inj:∀{es:List DictEntry}{kvs kvs':List (Key×Option Int)},fW es kvs->fW es kvs'->kvs=kvs'
 |_,_,_,.nil,h=>by cases h;rfl
 | _,_,_,.cons hh hk hv r,h=>by
  cases h with
  |cons hh' hk' hv' r' =>
   rw[hk] at hk';rw[hv] at hv';cases hk';cases hv';rw[fW.inj r r']
  |si hk' hv' r'=>rw[hk] at hk';cases hk'
  |sn hk' hv' r'=>rw[hk] at hk';cases hk'
 | _,_,_,.si hk hv r,h=>by
  cases h with
  |cons hh' hk' hv' r'=>rw[hk] at hk';cases hk'
  |si hk' hv' r' =>
   rw[hk] at hk';rw[hv] at hv';cases hk';cases hv';rw[fW.inj r r']
  |sn hk' hv' r'=>rw[hv] at hv';cases hv'
 | _,_,_,.sn hk hv r,h=>by
  cases h with
  |cons hh' hk' hv' r'=>rw[hk] at hk';cases hk'
  |si hk' hv' r'=>rw[hv] at hv';cases hv'
  |sn hk' hv' r' =>
   rw[hk] at hk';cases hk';rw[fW.inj r r']
theorem qB.inj {K:Frag}{a:Addr}{kvs kvs':List (Key×Option Int)}(h:qB K a kvs)(h':qB K a kvs'):kvs=kvs':=by
 obtain⟨o,es,ep,h1,h2,h3,h4,_⟩:=h;obtain⟨o',es',ep',h1',h2',h3',h4',_⟩:=h';rw[h1] at h1';cases h1';rw[h3] at h3';cases h3';exact h4.inj h4'
theorem kK (I:L2.Inv X pins σ H s){a:Addr}{kvs:List (Key×Option Int)}(h:qB X.K a kvs):∃ o,s.heap.get? a=some o/\o.cls = .type "dict"/\o.ExactDict:=by
 obtain⟨o,es,ep,h1,h2,h3,h4,_⟩:=h;exact⟨o,I.kIn a o h1,h2.1,h2⟩
noncomputable def nf:HO->Bool
 |.frz _ _=>false
 |_=>true
noncomputable def nt:HO->Bool
 |.tup _=>false
 |_=>true
theorem eD {H:Hp}{a:Addr}{u u':HO}(h:Rd H a u)(h':Rd H a u')(hu:nf u=true:=by rfl)(hu':nf u'=true:=by rfl):u=u':=by
 rcases h with h | ⟨o,h⟩<;>rcases h' with h' | ⟨o',h'⟩<;>rw[h] at h'
 ·exact cw h'
 ·rw[cw h'] at hu;cases hu
 ·rw[<-cw h'] at hu';cases hu'
 ·cases h';rfl
theorem lj (I:L2.Inv X pins σ H s){a:Addr}{o:Obj}(h:X.K.lookup a=some o):H a=none:=(I.bs a o (I.ok.mod.kin a o h)).2
theorem sP:∀{a b:List Int},a.map (Sum.inl (β:=Str))=b.map Sum.inl->a=b
 |[],[],_=>rfl
 |[],_::_,h=>by cases h
 |_::_,[],h=>by cases h
 | x::a,y::b,h=>by
  have h:(Sum.inl x:Key)::a.map Sum.inl=Sum.inl y::b.map Sum.inl:=h;injection h with h1 h2
  injection h1 with h1
  rw[h1,sP h2]
theorem tX:∀{a b:List (List Int)},Ar a=Ar b->a=b
 |[],[],_=>rfl
 |[],_::_,h=>by cases h
 |_::_,[],h=>by cases h
 | x::a,y::b,h=>by
  have h:(x.map Sum.inl,V.bl true)::Ar a=(y.map Sum.inl,V.bl true)::Ar b:=h;injection h with h1 h2
  injection h1 with h1 _
  rw[sP h1,tX h2]
theorem je.not_rd (I:L2.Inv X pins σ H s){a:Addr}{vs:List V}{u:HO}(h:je X.K H a vs)(h':Rd H a u)(hu:nf u=true:=by rfl)(ht:nt u=true:=by rfl):False:=by
 rcases h with h | h
 ·rw[eD h' h hu] at ht;cases ht
 ·obtain⟨o,_,_,h1,_⟩:=h;exact Rd.ne_none h' (lj I h1)
theorem ph:∀{a b:List Int},a.map V.int=b.map V.int->a=b
 |[],[],_=>rfl
 |[],_::_,h=>by cases h
 |_::_,[],h=>by cases h
 | x::a,y::b,h=>by
  injection h with h1 h2
  injection h1 with h1
  rw[h1,ph h2]
theorem qU.inj (I:Inv X pins σ H s):∀{m m':MV}{v:V},qU X.K H m v->qU X.K H m' v->m=m'
 |.tr,.tr,_,_,_=>rfl
 |.int i,.int j,_,h,h'=>by cases h;cases h';rfl
 | .tup a,.tup b,_,⟨p,e,h⟩,⟨p',e',h'⟩=>by
  subst e;cases e';rw[ph (I.tuple_inj h.sq h'.sq)]
 |.tr,.int _,_,h,h'=>by cases h;cases h'
 |.int _,.tr,_,h,h'=>by cases h;cases h'
 |.tr,.tup _,_,h,⟨_,e,_⟩=>by cases h;cases e
 |.tup _,.tr,_,⟨_,e,_⟩,h=>by cases h;cases e
 |.int _,.tup _,_,h,⟨_,e,_⟩=>by cases h;cases e
 |.tup _,.int _,_,⟨_,e,_⟩,h=>by cases h;cases e
theorem iX.inj (I:Inv X pins σ H s):∀{a b:List (Int×MV)}{xs:List (Key×V)},iX X.K H a xs->iX X.K H b xs->a=b
 |[],[],_,_,_=>rfl
 |[],_::_,[],_,h=>h.elim
 |_::_,[],[],h,_=>h.elim
 |[],_::_,_::_,h,_=>h.elim
 |_::_,[],_::_,_,h=>h.elim
 |_::_,_::_,[],h,_=>h.elim
 | (k,m)::a,(k',m')::b,x::xs,⟨h1,h2,h3⟩,⟨g1,g2,g3⟩=>by
  rw[h1] at g1;injection g1 with g1
  have g1:k=k':=g1;rw[g1,show m=m' from qU.inj I h2 g2,iX.inj I h3 g3]
theorem Rep.inj (I:Inv X pins σ H s){d:D}{v:V}{G:List Addr}(h:Rep X.K H d v G):∀{e:D}{G':List Addr},Rep X.K H e v G'->d=e:=by
 refine Rep.rec (motive_1:=fun d v G _=>∀{e:D}{G':List Addr},Rep X.K H e v G'->d=e) (motive_2:=fun ds vs G _=>∀{es:List D}{G':List Addr},aG X.K H es vs G'->ds=es) ?non ?bl ?int ?str ?lst ?tup ?dct ?mpi ?mpt ?mpz ?nil ?cons h
 case non =>
  intro e' G' h;cases h;rfl
 case bl =>
  intro _ e' G' h;cases h;rfl
 case int =>
  intro _ e' G' h;cases h;rfl
 case str =>
  intro _ e' G' h;cases h;rfl
 case mpi =>
  intro p0 ks0 xs0 h r0 e' G' q;cases q with
  |mpi h' r'=>
   rw[h] at h';cases h';rw[iX.inj I r0 r']
  |mpz h' r'=>rw[h] at h';cases h'
  |mpt h'=>exact nomatch eD (.inl h) h'
  |lst h' _=>exact nomatch eD (.inl h) h'
  |tup h' _=>exact (je.not_rd I h'.sq (.inl h)).elim
  |dct h' =>
   obtain⟨o,_,_,h1,_⟩:=h';exact absurd (lj I h1) (Rd.ne_none (.inl h))
 case mpz =>
  intro p0 ks0 xs0 o0 h r0 e' G' q;cases q with
  |mpz h' r'=>
   rw[h] at h';cases h';rw[iX.inj I r0 r']
  |mpi h' r'=>rw[h] at h';cases h'
  |mpt h'=>exact nomatch eD (.inr ⟨_,h⟩) h'
  |lst h' _=>exact nomatch eD (.inr ⟨_,h⟩) h'
  |tup h' _=>exact (je.not_rd I h'.sq (.inr ⟨_,h⟩)).elim
  |dct h' =>
   obtain⟨o,_,_,h1,_⟩:=h';exact absurd (lj I h1) (Rd.ne_none (.inr ⟨_,h⟩))
 case mpt =>
  intro p0 ks0 h e' G' q;cases q with
  |mpt h'=>
   have:=eD h h';injection this with this
   rw[tX this]
  |mpi h' _=>exact nomatch eD h (.inl h')
  |mpz h' _=>exact nomatch eD h (.inr ⟨_,h'⟩)
  |lst h' _=>exact nomatch eD h h'
  |tup h' _=>exact (je.not_rd I h'.sq h).elim
  |dct h' =>
   obtain⟨o,_,_,h1,_⟩:=h';exact absurd (lj I h1) (Rd.ne_none h)
 case lst =>
  intro p0 vs0 ds0 G0 h r ih e' G' q;cases q with
  |mpi h' _=>exact nomatch eD h (.inl h')
  |mpz h' _=>exact nomatch eD h (.inr ⟨_,h'⟩)
  |mpt h'=>exact nomatch eD h h'
  |lst h' r' =>
   have e:=I.list_inj (.inl h) (.inl h');subst e;rw[ih r']
  |dct h' =>
   obtain⟨its,_,pl,_⟩:=I.list (.inl h);obtain⟨o,ho,hc,_⟩:=pl.isList;obtain⟨o',ho',hc',_⟩:=kK I h';rw[ho] at ho';cases ho';rw[hc] at hc';injection hc' with z;exact absurd z (by decide)
  |tup h' r' =>
   obtain⟨its,_,pl,_⟩:=I.list (.inl h);obtain⟨its',_,pt,_⟩:=I.tuple h'.sq;obtain⟨o,ho,hc,_⟩:=pl.isList;obtain⟨o',ho',hc',_⟩:=pt;rw[ho] at ho';cases ho';rw[hc] at hc';injection hc' with z;exact absurd z (by decide)
 case tup =>
  intro p0 vs0 ds0 G0 h r ih e' G' q;cases q with
  |mpi h' _=>exact (je.not_rd I h.sq (.inl h')).elim
  |mpz h' _=>exact (je.not_rd I h.sq (.inr ⟨_,h'⟩)).elim
  |mpt h'=>exact (je.not_rd I h.sq h').elim
  |tup h' r' =>
   have e:=I.tuple_inj h.sq h'.sq;subst e;rw[ih r']
  |dct h' =>
   obtain⟨its',_,pt,_⟩:=I.tuple h.sq;obtain⟨o,ho,hc,_⟩:=pt;obtain⟨o',ho',hc',_⟩:=kK I h';rw[ho] at ho';cases ho';rw[hc] at hc';injection hc' with z;exact absurd z (by decide)
  |lst h' r' =>
   obtain⟨its,_,pl,_⟩:=I.list (.inl h');obtain⟨its',_,pt,_⟩:=I.tuple h.sq;obtain⟨o,ho,hc,_⟩:=pl.isList;obtain⟨o',ho',hc',_⟩:=pt;rw[ho] at ho';cases ho';rw[hc] at hc';injection hc' with z;exact absurd z (by decide)
 case dct =>
  intro p0 ks0 h e' G' q;cases q with
  |mpi h' _ =>
   obtain⟨o,_,_,h1,_⟩:=h;exact absurd (lj I h1) (Rd.ne_none (.inl h'))
  |mpz h' _ =>
   obtain⟨o,_,_,h1,_⟩:=h;exact absurd (lj I h1) (Rd.ne_none (.inr ⟨_,h'⟩))
  |mpt h' =>
   obtain⟨o,_,_,h1,_⟩:=h;exact absurd (lj I h1) (Rd.ne_none h')
  |dct h'=>rw[qB.inj h h']
  |lst h' r' =>
   obtain⟨its,_,pl,_⟩:=I.list (.inl h');obtain⟨o,ho,hc,_⟩:=pl.isList;obtain⟨o',ho',hc',_⟩:=kK I h;rw[ho] at ho';cases ho';rw[hc] at hc';injection hc' with z;exact absurd z (by decide)
  |tup h' r' =>
   obtain⟨its',_,pt,_⟩:=I.tuple h'.sq;obtain⟨o,ho,hc,_⟩:=pt;obtain⟨o',ho',hc',_⟩:=kK I h;rw[ho] at ho';cases ho';rw[hc] at hc';injection hc' with z;exact absurd z (by decide)
 case nil=>intro e' G' h;cases h;rfl
 case cons =>
  intro d0 v0 ds0 vs0 G0 G1 h r i1 i2 e' G' q;cases q with
  |cons h' r'=>rw[i1 h',i2 r']
open SeqAt in
theorem tV (I:Inv X pins σ H s):∀(n:Nat) (A:Around) (d e:D) (v w:V) (G G':List Addr) (u u':Value) (b:Bool),A.units+n<cLine->Rep X.K H d v G->Rep X.K H e w G'->RelV v u->RelV w u'->D.eqf n d e=some b->RcAt A s u u' b/\EqAt A s u u' b
 |0,_,_,_,_,_,_,_,_,_,_,_,_,_,_,_,h=>by cases h
 | n+1,A,d,e,v,w,G,G',u,u',b,hu,r1,r2,q1,q2,h=>by
  have hu1:A.in1.units+n<cLine:=by show A.units+1+n<cLine;omega
  have hu0:A.units<cLine:=by omega
  have items:∀{xs ys:List D}{vs ws:List V}{G1 G2:List Addr}{its its':List Value}{c:Bool},aG X.K H xs vs G1->aG X.K H ys ws G2->aN vs its->aN ws its'->mH (D.eqf n) xs ys=some c ->
    its.toArray.size=its'.toArray.size/\∃ ee:Nat->Bool,c=(List.range its.toArray.size).all ee/\∀ j (h1:j<its.toArray.size) (h2:j<its'.toArray.size),EqAt A.in1 s its.toArray[j] its'.toArray[j] (ee j):=by
   intro xs ys vs ws G1 G2 its its' c a1 a2 b1 b2 hc;obtain⟨hl,ee,he,rfl⟩:=gT hc;have l1:=a1.len;have l2:=a2.len;have l3:=b1.length;have l4:=b2.length;have sz:its.toArray.size=xs.length:=by rw[ai];omega
   refine⟨by rw[ai,ai];omega,ee,by rw[sz],fun j h1 h2=>?_⟩;have j1:j<xs.length:=by rw[<-sz];exact h1
   have j2:j<ys.length:=by omega
   obtain⟨v1,g1,e1,p1,_⟩:=a1.get (i:=j) (d:=xs[j]) (by simp[j1]);obtain⟨v2,g2,e2,p2,_⟩:=a2.get (i:=j) (d:=ys[j]) (by simp[j2]);obtain⟨u1,f1,t1⟩:=b1.get e1;obtain⟨u2,f2,t2⟩:=b2.get e2;have x1:its.toArray[j]=u1:=by
    have:=List.getElem?_eq_some_iff.mp f1;simpa using this.2
   have x2:its'.toArray[j]=u2:=by
    have:=List.getElem?_eq_some_iff.mp f2;simpa using this.2
   rw[x1,x2];exact (tV I n A.in1 _ _ _ _ _ _ _ _ _ hu1 p1 p2 t1 t2 (he j _ _ (by simp[j1]) (by simp[j2]))).2
  have refs:∀{l m:Addr}{c:Bool},(l=m->c=true)->RcAt A s (.ref l) (.ref m) c->RcAt A s (.ref l) (.ref m) c/\EqAt A s (.ref l) (.ref m) c:=fun {l m c} hs hr=>⟨hr,by
   by_cases z:l=m
   ·subst z;rw[hs rfl];exact EqAt.same _
   ·exact EqAt.of_refs z hr⟩
  cases d with
  |dct _=>cases h
  |mpi _=>cases e<;>cases h
  |mpt _=>cases e<;>cases h
  |mpz _=>cases e<;>cases h
  |non =>
   obtain⟨rfl,rfl⟩:=r1.non_inv;cases q1;cases e with
   |dct _=>cases h
   |mpi _=>cases h
   |mpt _=>cases h
   |mpz _=>cases h
   |non=>obtain⟨rfl,rfl⟩:=r2.non_inv;cases q2;cases h;exact⟨RcAt.none_none,EqAt.same _⟩
   |bl c=>obtain⟨rfl,rfl⟩:=r2.bl_inv;cases q2;cases h;exact⟨RcAt.none_bool c,EqAt.none_bool c⟩
   |int i=>obtain⟨rfl,rfl⟩:=r2.int_inv;obtain⟨t,rfl⟩:=q2;cases h;exact⟨RcAt.none_int i t,EqAt.none_int i t⟩
   |str x=>obtain⟨rfl,rfl⟩:=r2.str_inv;obtain⟨t,rfl⟩:=q2;cases h;exact⟨RcAt.none_str x t,EqAt.none_str x t⟩
   |lst ys =>
    obtain⟨m,ws,g,rfl,rfl,a1,a2⟩:=r2.lst_inv;cases q2;obtain⟨its,_,pl,_⟩:=I.list (.inl a1);cases h;exact⟨RcAt.none_list pl.isList hu0,EqAt.none_list pl.isList hu0⟩
   |tup ys =>
    obtain⟨m,ws,rfl,a1,a2⟩:=r2.tup_inv;cases q2;obtain⟨its,_,pl,_⟩:=I.tuple a1;cases h;exact⟨RcAt.none_tuple pl hu0,EqAt.none_tuple pl hu0⟩
  |bl a =>
   obtain⟨rfl,rfl⟩:=r1.bl_inv;cases q1;cases e with
   |dct _=>cases h
   |mpi _=>cases h
   |mpt _=>cases h
   |mpz _=>cases h
   |non=>obtain⟨rfl,rfl⟩:=r2.non_inv;cases q2;cases h;exact⟨RcAt.bool_none a,EqAt.bool_none a⟩
   |bl c=>obtain⟨rfl,rfl⟩:=r2.bl_inv;cases q2;cases h;exact⟨RcAt.bool_bool a c,EqAt.bool_bool a c⟩
   |int i=>obtain⟨rfl,rfl⟩:=r2.int_inv;obtain⟨t,rfl⟩:=q2;cases h;exact⟨RcAt.bool_int a i t,EqAt.bool_int a i t⟩
   |str x=>obtain⟨rfl,rfl⟩:=r2.str_inv;obtain⟨t,rfl⟩:=q2;cases h;exact⟨RcAt.bool_str a x t,EqAt.bool_str a x t⟩
   |lst ys =>
    obtain⟨m,ws,g,rfl,rfl,a1,a2⟩:=r2.lst_inv;cases q2;obtain⟨its,_,pl,_⟩:=I.list (.inl a1);cases h;exact⟨RcAt.bool_list a pl.isList hu0,EqAt.bool_list a pl.isList hu0⟩
   |tup ys =>
    obtain⟨m,ws,rfl,a1,a2⟩:=r2.tup_inv;cases q2;obtain⟨its,_,pl,_⟩:=I.tuple a1;cases h;exact⟨RcAt.bool_tuple a pl hu0,EqAt.bool_tuple a pl hu0⟩
  |int a =>
   obtain⟨rfl,rfl⟩:=r1.int_inv;obtain⟨t0,rfl⟩:=q1;cases e with
   |dct _=>cases h
   |mpi _=>cases h
   |mpt _=>cases h
   |mpz _=>cases h
   |non=>obtain⟨rfl,rfl⟩:=r2.non_inv;cases q2;cases h;exact⟨RcAt.int_none a t0,EqAt.int_none a t0⟩
   |bl c=>obtain⟨rfl,rfl⟩:=r2.bl_inv;cases q2;cases h;exact⟨RcAt.int_bool a t0 c,EqAt.int_bool a t0 c⟩
   |int i=>obtain⟨rfl,rfl⟩:=r2.int_inv;obtain⟨t,rfl⟩:=q2;cases h;exact⟨RcAt.int_int a t0 i t,EqAt.int_int a t0 i t⟩
   |str x=>obtain⟨rfl,rfl⟩:=r2.str_inv;obtain⟨t,rfl⟩:=q2;cases h;exact⟨RcAt.int_str a t0 x t,EqAt.int_str a t0 x t⟩
   |lst ys =>
    obtain⟨m,ws,g,rfl,rfl,a1,a2⟩:=r2.lst_inv;cases q2;obtain⟨its,_,pl,_⟩:=I.list (.inl a1);cases h;exact⟨RcAt.int_list a t0 pl.isList hu0,EqAt.int_list a t0 pl.isList hu0⟩
   |tup ys =>
    obtain⟨m,ws,rfl,a1,a2⟩:=r2.tup_inv;cases q2;obtain⟨its,_,pl,_⟩:=I.tuple a1;cases h;exact⟨RcAt.int_tuple a t0 pl hu0,EqAt.int_tuple a t0 pl hu0⟩
  |str a =>
   obtain⟨rfl,rfl⟩:=r1.str_inv;obtain⟨t0,rfl⟩:=q1;cases e with
   |dct _=>cases h
   |mpi _=>cases h
   |mpt _=>cases h
   |mpz _=>cases h
   |non=>obtain⟨rfl,rfl⟩:=r2.non_inv;cases q2;cases h;exact⟨RcAt.str_none a t0,EqAt.str_none a t0⟩
   |int i=>obtain⟨rfl,rfl⟩:=r2.int_inv;obtain⟨t,rfl⟩:=q2;cases h;exact⟨RcAt.str_int a t0 i t,EqAt.str_int a t0 i t⟩
   |str x=>obtain⟨rfl,rfl⟩:=r2.str_inv;obtain⟨t,rfl⟩:=q2;cases h;exact⟨RcAt.str_str a t0 x t,EqAt.str_str a t0 x t⟩
   |bl c=>obtain⟨rfl,rfl⟩:=r2.bl_inv;cases q2;cases h;exact⟨RcAt.str_bool a t0 c,EqAt.str_bool a t0 c⟩
   |lst ys =>
    obtain⟨m,ws,g,rfl,rfl,a1,a2⟩:=r2.lst_inv;cases q2;obtain⟨its,_,pl,_⟩:=I.list (.inl a1);cases h;exact⟨RcAt.str_list a t0 pl.isList hu0,EqAt.str_list a t0 pl.isList hu0⟩
   |tup ys =>
    obtain⟨m,ws,rfl,a1,a2⟩:=r2.tup_inv;cases q2;obtain⟨its,_,pl,_⟩:=I.tuple a1;cases h;exact⟨RcAt.str_tuple a t0 pl hu0,EqAt.str_tuple a t0 pl hu0⟩
  |lst xs =>
   obtain⟨l,vs,g,rfl,rfl,a1,a2⟩:=r1.lst_inv;cases q1;obtain⟨its,rv,pl,_⟩:=I.list (.inl a1);cases e with
   |dct _=>cases h
   |mpi _=>cases h
   |mpt _=>cases h
   |mpz _=>cases h
   |non=>obtain⟨rfl,rfl⟩:=r2.non_inv;cases q2;cases h;exact⟨RcAt.list_none pl.isList hu0,EqAt.list_none pl.isList hu0⟩
   |lst ys =>
    obtain⟨m,ws,g',rfl,rfl,b1,b2⟩:=r2.lst_inv;cases q2;obtain⟨its',rv',pl',_⟩:=I.list (.inl b1);have same:l=m->b=true:=fun z=>by
     subst z;have e0:=Rep.inj I r1 r2;rw[e0] at h;exact jE _ _ _ h
    have h:(if xs.length=ys.length then mH (D.eqf n) xs ys else some false)=some b:=h;by_cases hl:xs.length=ys.length
    ·rw[if_pos hl] at h;obtain⟨hz,ee,rfl,he⟩:=items a2 b2 rv rv' h;exact refs same (RcAt.lists pl.isList pl'.isList hz hu0 he)
    ·rw[if_neg hl] at h;cases h;have hz:(its.toArray.size != its'.toArray.size)=true:=by
      have l1:=a2.len;have l2:=b2.len;have l3:=rv.length;have l4:=rv'.length;simp only[bne_iff_ne,ne_eq,List.size_toArray];omega
     exact refs same (RcAt.lists_lengths pl.isList pl'.isList hz hu0)
   |bl c=>obtain⟨rfl,rfl⟩:=r2.bl_inv;cases q2;cases h;exact⟨RcAt.list_bool c pl.isList hu0,EqAt.list_bool c pl.isList hu0⟩
   |int c=>obtain⟨rfl,rfl⟩:=r2.int_inv;obtain⟨t,rfl⟩:=q2;cases h;exact⟨RcAt.list_int c t pl.isList hu0,EqAt.list_int c t pl.isList hu0⟩
   |str c=>obtain⟨rfl,rfl⟩:=r2.str_inv;obtain⟨t,rfl⟩:=q2;cases h;exact⟨RcAt.list_str c t pl.isList hu0,EqAt.list_str c t pl.isList hu0⟩
   |tup ys =>
    obtain⟨m,ws,rfl,b1,b2⟩:=r2.tup_inv;cases q2;obtain⟨its',rv',pl',_⟩:=I.tuple b1;cases h;exact⟨RcAt.list_tuple pl.isList pl' hu0,EqAt.list_tuple pl.isList pl' hu0⟩
  |tup xs =>
   obtain⟨l,vs,rfl,a1,a2⟩:=r1.tup_inv;cases q1;obtain⟨its,rv,pl,_⟩:=I.tuple a1;cases e with
   |dct _=>cases h
   |mpi _=>cases h
   |mpt _=>cases h
   |mpz _=>cases h
   |tup ys =>
    obtain⟨m,ws,rfl,b1,b2⟩:=r2.tup_inv;cases q2;obtain⟨its',rv',pl',_⟩:=I.tuple b1;have same:l=m->b=true:=fun z=>by
     subst z;have e0:=Rep.inj I r1 r2;rw[e0] at h;exact jE _ _ _ h
    have h:(if xs.length=ys.length then mH (D.eqf n) xs ys else none)=some b:=h;by_cases hl:xs.length=ys.length
    ·rw[if_pos hl] at h;obtain⟨hz,ee,rfl,he⟩:=items a2 b2 rv rv' h;have q:=RcAt.tuples (e:=ee) pl pl' hu0 he;rw[<-hz,Nat.min_self,de,Bool.and_true] at q;exact refs same q
    ·rw[if_neg hl] at h;cases h
   |non=>obtain⟨rfl,rfl⟩:=r2.non_inv;cases q2;cases h;exact⟨RcAt.tuple_none pl hu0,EqAt.tuple_none pl hu0⟩
   |bl c=>obtain⟨rfl,rfl⟩:=r2.bl_inv;cases q2;cases h;exact⟨RcAt.tuple_bool c pl hu0,EqAt.tuple_bool c pl hu0⟩
   |int c=>obtain⟨rfl,rfl⟩:=r2.int_inv;obtain⟨t,rfl⟩:=q2;cases h;exact⟨RcAt.tuple_int c t pl hu0,EqAt.tuple_int c t pl hu0⟩
   |str c=>obtain⟨rfl,rfl⟩:=r2.str_inv;obtain⟨t,rfl⟩:=q2;cases h;exact⟨RcAt.tuple_str c t pl hu0,EqAt.tuple_str c t pl hu0⟩
   |lst ys =>
    obtain⟨m,ws,g',rfl,rfl,b1,b2⟩:=r2.lst_inv;cases q2;obtain⟨its',rv',pl',_⟩:=I.list (.inl b1);cases h;exact⟨RcAt.tuple_list pl pl'.isList hu0,EqAt.tuple_list pl pl'.isList hu0⟩
end
end
section
open PySem.SeqAt
open PySem.AutoSeq1 (wpAny_loadPart')
open PySem.MeetsSeq PySem.MeetsSeq2 PySem.MeetsSeq3
theorem yj (A:Around)(s:Shared)(a:Int)(t:Tok)(c:Int)(u:Tok)(prog:Program)(w:World)(E:Value->Shared->Prop)(Q:Value->Shared->Prop)(h:Q (.bool (decide (a<=c))) s) :
  wpAny (model prog w) A (richCompare .LtE (.int a t) (.int c u)) Q E s :=
 (PyProof.Rows.le_int h:wpAny (model prog w) A (compareOp .LtE (.int a t) (.int c u)) Q E s)
noncomputable def uF (R:Result->Shared->Prop)(s0:Shared)(z1 z2:Nat)(rest:List (Value×Value)):Prop :=
 ∃(xs ys:List Value) (p q:List Int),rest=xs.zip ys/\IntsAre xs p/\IntsAre ys q/\p.length+z2=q.length+z1/\R (.ok (.ret (.bool (lz p q)))) s0
theorem uF.turn {R:Result->Shared->Prop}{s0:Shared}{z1 z2:Nat}{y x:Value}{rest:List (Value×Value)}(h:uF R s0 z1 z2 ((y,x)::rest)):∃ a t c u,y = .int a t/\x = .int c u/\(a=c->uF R s0 z1 z2 rest)/\(a≠c->R (.ok (.ret (.bool (decide (a<=c))))) s0):=by
 obtain⟨xs,ys,p,q,hz,h1,h2,hl,hR⟩:=h;cases h1 with
 |nil=>rw[List.zip_nil_left] at hz;cases hz
 |cons a t h1'=>cases h2 with
  |nil=>rw[List.zip_nil_right] at hz;cases hz
  |cons c u h2' =>
   rw[il] at hz;injection hz with e1 e2
   injection e1 with e3 e4
   refine⟨a,t,c,u,e3,e4,fun e=>?_,fun e=>?_⟩
   ·refine⟨_,_,_,_,e2,h1',h2',?_,?_⟩
    ·simp only[List.length_cons] at hl;omega
    ·unfold lz at hR;rw[if_pos e] at hR;exact hR
   ·unfold lz at hR;rw[if_neg e] at hR;exact hR
theorem uF.fin {R:Result->Shared->Prop}{s0:Shared}{z1 z2:Nat}(h:uF R s0 z1 z2 []):R (.ok (.ret (.bool (decide (z1<=z2))))) s0:=by
 obtain⟨xs,ys,p,q,hz,h1,h2,hl,hR⟩:=h;have e:lz p q=decide (z1<=z2):=by
  cases h1 with
  |nil=>exact (decide_eq_true (by simp only[List.length_nil] at hl;omega)).symm
  |cons a t h1'=>cases h2 with
   |nil=>exact (decide_eq_false (by simp only[List.length_cons,List.length_nil] at hl;omega)).symm
   |cons c u h2'=>rw[il] at hz;cases hz
 rw[<-e];exact hR
theorem le_meets (l b:Addr)(xs ys:Array Value)(n n2:Nat)(dd dd2:Option Addr)(sl sl2:Array (Option Value))(p q:List Int)(hp:IntsAre xs.toList p)(hq:IntsAre ys.toList q) :
  Meets (Builtin.«tuple.__le__» ⟨[.ref l,.ref b],[]⟩) (fun _ R s=>s.heap.get? l=some { cls:=.type "tuple",dict:=dd,data:=.seq xs n,slots:=sl }/\s.heap.get? b=some { cls:=.type "tuple",dict:=dd2,data:=.seq ys n2,slots:=sl2 }/\R (.ok (.ret (.bool (lz p q)))) s) :=
 .of_wp fun prog w A R s h=>by
  obtain⟨hl,hb,h⟩:=h;have f2:=AutoSeq1.sub_tuple_tuple;have z1:xs.size=p.length:=by rw[<-hp.length];simp
  have z2:ys.size=q.length:=by rw[<-hq.length];simp
  obtain⟨hp',g,d,tk,os⟩:=s
  wp_walk using wpAny_loadPart' hl,wpAny_loadPart' hb,wpAny_forIn_list _ (fun rest b s'=>b.1=none/\s'=⟨hp',g,d,tk,os⟩/\uF R ⟨hp',g,d,tk,os⟩ xs.size ys.size rest) _
  case turn =>
   rintro⟨y,x⟩ rest b s' ⟨hb',rfl,hL⟩;obtain⟨a,t,c,u,rfl,rfl,k1,k2⟩:=hL.turn;obtain⟨e,he,hiff⟩:=HT.pJ A.in1 ⟨hp',g,d,tk,os⟩ a t c u;refine wpAny_bind (he prog w _ _ ?_);cases e with
   |true =>
    have k:=k1 (hiff.mp rfl)
    wp_walk
    exact⟨rfl,rfl,k⟩
   |false =>
    have k:=k2 (fun q=>absurd (hiff.mpr q) ao);have hri:=yj A.in1 ⟨hp',g,d,tk,os⟩ a t c u prog w
    wp_walk using hri
    exact⟨_,rfl,by simpa using k⟩
  case fin =>
   rintro⟨b1,b2⟩ s' ⟨hb',rfl,hL⟩;simp only at hb';subst hb';have hR:=hL.fin
   wp_walk
   exact⟨_,rfl,by simpa[Builtin.Tuple.tupleCompareSizes] using hR⟩
  case h =>
   exact⟨rfl,rfl,xs.toList,ys.toList,p,q,rfl,hp,hq,by omega,h⟩
end
theorem A3 {prog:Program}{w:World}{A:Around}{E:Value->Shared->Prop}{s:Shared}{l b:Addr}{xs ys:Array Value}{p q:List Int}{Q:Value->Shared->Prop}(hl:IsTup s.heap l xs)(hb:IsTup s.heap b ys)(hp:IntsAre xs.toList p)(hq:IntsAre ys.toList q)
  (hu:A.units<cLine) (h:Q (.bool (lz p q)) s):wpAny (model prog w) A (compareOp .LtE (.ref l) (.ref b)) Q E s:=by
 obtain⟨⟨c1,d1,t1,sl1⟩,ho,hc,n,hd⟩:=id hl;obtain⟨⟨c2,d2,t2,sl2⟩,ho2,hc2,n2,hd2⟩:=id hb;cases hc;cases hd;cases hc2;cases hd2;exact richCompare_meets_room (op:=.LtE) ⟨_,ho,rfl⟩ ⟨_,ho2,rfl⟩ PySem.F.slot_tuple_le PySem.F.entry_tuple_le (PySem.F.args_tuple_le_2 _ _) (le_meets l b xs ys n n2 d1 d2 sl1 sl2 p q hp hq)
  ⟨ho,ho2,show Value.bool (lz p q)≠Value.notImplemented/\Q (.bool (lz p q)) s from ⟨(fun x=>nomatch x),h⟩⟩ hu
def oa (A:Around)(s:Shared)(y x:Value)(b:Bool):Prop:=∀(prog:Program) (w:World) (E Q:Value->Shared->Prop),Q (.bool b) s->wpAny (model prog w) A (richCompare .Lt y x) Q E s
noncomputable def Bj (A:Around)(s:Shared)(z:Bool):List (Value×Value)->Bool->Prop
 |[],b=>b=z
 |p::r,b=>∃ e,SeqAt.EqAt A.in1 s p.1 p.2 e/\(if e=true then Bj A s z r b else oa A.in1 s p.1 p.2 b)
section
open PySem.SeqAt
open PySem.AutoSeq1 (wpAny_loadPart')
open PySem.MeetsSeq PySem.MeetsSeq2 PySem.MeetsSeq3
theorem vk (l b:Addr)(xs ys:Array Value)(n n2:Nat)(dd dd2:Option Addr)(sl sl2:Array (Option Value))(c:Bool) :
  Meets (Builtin.«tuple.__lt__» ⟨[.ref l,.ref b],[]⟩) (fun A R s=>s.heap.get? l=some { cls:=.type "tuple",dict:=dd,data:=.seq xs n,slots:=sl }/\s.heap.get? b=some { cls:=.type "tuple",dict:=dd2,data:=.seq ys n2,slots:=sl2 }/\Bj A s (decide (xs.size<ys.size)) (xs.toList.zip ys.toList) c/\R (.ok (.ret (.bool c))) s) :=
 .of_wp fun prog w A R s h=>by
  obtain⟨hl,hb,hc,h⟩:=h;have f2:=AutoSeq1.sub_tuple_tuple;obtain⟨hp',g,d,tk,os⟩:=s
  wp_walk using wpAny_loadPart' hl,wpAny_loadPart' hb,wpAny_forIn_list _ (fun rest b s'=>b.1=none/\s'=⟨hp',g,d,tk,os⟩/\Bj A ⟨hp',g,d,tk,os⟩ (decide (xs.size<ys.size)) rest c) _
  case turn =>
   rintro⟨y,x⟩ rest b s' ⟨hb',rfl,hL⟩;obtain⟨e,he,hr⟩:=hL;refine wpAny_bind (he prog w _ _ ?_);cases e with
   |true =>
    rw[if_pos rfl] at hr
    wp_walk
    exact⟨rfl,rfl,hr⟩
   |false =>
    rw[if_neg ao] at hr;have hri:=hr prog w
    wp_walk using hri
    exact⟨_,rfl,h⟩
  case fin =>
   rintro⟨b1,b2⟩ s' ⟨hb',rfl,hL⟩;simp only at hb';subst hb';have hL:c=_:=hL;rw[hL] at h
   wp_walk
   exact⟨_,rfl,by simpa[Builtin.Tuple.tupleCompareSizes] using h⟩
  case h =>
   exact⟨rfl,rfl,hc⟩
theorem zt (l b:Addr)(xs ys:Array Value)(n n2:Nat)(dd dd2:Option Addr)(sl sl2:Array (Option Value))(c:Bool):∀(k i:Nat),min xs.size ys.size - i=k ->
  Meets (Builtin.«list.__eq__.loop» ⟨[.ref l,.ref b,rawInt (i:Int),rawInt 0],[]⟩) (fun A R s=>s.heap.get? l=some { cls:=.type "list",dict:=dd,data:=.seq xs n,slots:=sl }/\s.heap.get? b=some { cls:=.type "list",dict:=dd2,data:=.seq ys n2,slots:=sl2 }/\Bj A s (decide (xs.size<ys.size)) ((xs.toList.zip ys.toList).drop i) c/\R (.ok (.ret (.bool c))) s):=by
 intro k
 induction k with
 |zero =>
  intro i hk prog w A R s h;obtain⟨hl,hb,hc,hR⟩:=h;have hz:(xs.toList.zip ys.toList).drop i=[]:=List.drop_eq_nil_of_le (by rw[List.length_zip,df,df];omega);rw[hz] at hc;have hc:c=_:=hc;have e12:xs[i]? = none\/ys[i]? = none:=by
   by_cases h1:i<xs.size
   ·right;rw[Array.getElem?_eq_none_iff];omega
   ·left;rw[Array.getElem?_eq_none_iff];omega
  unfold Builtin.«list.__eq__.loop»
  wp_walk using wpAny_loadPart' hl,wpAny_loadPart' hb
  rw[bo];rw[hc] at hR;have fin:∀(f:PySem.Fin) (s':Shared),f = .done (.ret (.bool (decide (xs.size<ys.size))))->s'=s->(match f with
   |.done f=>R (.ok f) s'
   |.again c'=>c'.quiet=true/\codeAny (model prog w) A c' R s'):=fun f s' e1 e2=>by subst e1 e2;exact hR
  rcases e12 with e | e
  ·rw[e]
   wp_walk using wpAny_loadPart' hl,wpAny_loadPart' hb
   exact hR
  ·rw[e];cases xs[i]?<;>(dsimp only;wp_walk using wpAny_loadPart' hl,wpAny_loadPart' hb;exact hR)
 |succ k ih =>
  intro i hk prog w A R s h;obtain⟨hl,hb,hc,hR⟩:=h;have hi1:i<xs.size:=by omega
  have hi2:i<ys.size:=by omega
  have hz:(xs.toList.zip ys.toList).drop i=(xs[i],ys[i])::(xs.toList.zip ys.toList).drop (i+1):=by
   rw[ip (by rw[List.length_zip,df,df];omega)];simp
  rw[hz] at hc;obtain⟨e,he,hr⟩:=hc;have e1:xs[i]? = some xs[i]:=by simp[hi1]
  have e2:ys[i]? = some ys[i]:=by simp[hi2]
  unfold Builtin.«list.__eq__.loop»
  wp_walk using wpAny_loadPart' hl,wpAny_loadPart' hb
  rw[bo,e1,e2];dsimp only;refine wpAny_bind (he prog w _ _ ?_);cases e with
  |true =>
   rw[if_pos rfl] at hr;rw[if_pos rfl];refine wpAny_pure ⟨plainId_quiet plain_eq_loop _,codeAny_builtin entry_eq_loop ?_⟩;rw[Around.under_plainId plain_eq_loop _];exact ih (i+1) (by omega) prog w A R s ⟨hl,hb,hr,hR⟩
  |false =>
   rw[if_neg ao] at hr;rw[if_neg ao];have hri:=hr prog w
   wp_walk using wpAny_loadPart' hl,wpAny_loadPart' hb
   rw[e1,e2];dsimp only
   wp_walk using hri
   exact hR
theorem vn (l b:Addr)(xs ys:Array Value)(n n2:Nat)(dd dd2:Option Addr)(sl sl2:Array (Option Value))(c:Bool) :
  Meets (Builtin.«list.__lt__» ⟨[.ref l,.ref b],[]⟩) (fun A R s=>s.heap.get? l=some { cls:=.type "list",dict:=dd,data:=.seq xs n,slots:=sl }/\s.heap.get? b=some { cls:=.type "list",dict:=dd2,data:=.seq ys n2,slots:=sl2 }/\Bj A s (decide (xs.size<ys.size)) (xs.toList.zip ys.toList) c/\R (.ok (.ret (.bool c))) s):=by
 intro prog w A R s h;have h':=h;obtain⟨hl,hb,hc,hR⟩:=h;have f2:=AutoSeq1.sub_list_list;unfold Builtin.«list.__lt__»
 wp_walk using wpAny_loadPart' hl,wpAny_loadPart' hb
 refine⟨plainId_quiet plain_eq_loop _,codeAny_builtin entry_eq_loop ?_⟩;rw[Around.under_plainId plain_eq_loop _];exact zt l b xs ys n n2 dd dd2 sl sl2 c _ 0 rfl prog w A R s ⟨hl,hb,hc,hR⟩
theorem oa.tuples {A:Around}{s:Shared}{l b:Addr}{xs ys:Array Value}{c:Bool}(hl:IsTup s.heap l xs)(hb:IsTup s.heap b ys)(hu:A.units<cLine)(h:Bj A s (decide (xs.size<ys.size)) (xs.toList.zip ys.toList) c):oa A s (.ref l) (.ref b) c:=by
 intro prog w E Q hQ;obtain⟨⟨c1,d1,t1,sl1⟩,ho,hc,n,hd⟩:=id hl;obtain⟨⟨c2,d2,t2,sl2⟩,ho2,hc2,n2,hd2⟩:=id hb;cases hc;cases hd;cases hc2;cases hd2;exact richCompare_meets_room (op:=.Lt) ⟨_,ho,rfl⟩ ⟨_,ho2,rfl⟩ PySem.F.slot_tuple_lt PySem.F.entry_tuple_lt (PySem.F.args_tuple_lt_2 _ _) (vk l b xs ys n n2 d1 d2 sl1 sl2 c)
  ⟨ho,ho2,h,show Value.bool c≠Value.notImplemented/\Q (.bool c) s from ⟨(fun x=>nomatch x),hQ⟩⟩ hu
theorem oa.lists {A:Around}{s:Shared}{l b:Addr}{xs ys:Array Value}{c:Bool}(hl:s.heap.IsList l xs)(hb:s.heap.IsList b ys)(hu:A.units<cLine)(h:Bj A s (decide (xs.size<ys.size)) (xs.toList.zip ys.toList) c):oa A s (.ref l) (.ref b) c:=by
 intro prog w E Q hQ;obtain⟨⟨c1,d1,t1,sl1⟩,ho,hc,n,hd⟩:=id hl;obtain⟨⟨c2,d2,t2,sl2⟩,ho2,hc2,n2,hd2⟩:=id hb;cases hc;cases hd;cases hc2;cases hd2;exact richCompare_meets_room (op:=.Lt) ⟨_,ho,rfl⟩ ⟨_,ho2,rfl⟩ PySem.F.slot_list_lt PySem.F.entry_list_lt (PySem.F.args_list_lt_2 _ _) (vn l b xs ys n n2 d1 d2 sl1 sl2 c)
  ⟨ho,ho2,h,show Value.bool c≠Value.notImplemented/\Q (.bool c) s from ⟨(fun x=>nomatch x),hQ⟩⟩ hu
end
section
variable {X:Cx}{pins:List (Addr×Obj)}{σ:L2.St}{H:Hp}{s:Shared}
theorem rj (I:Inv X pins σ H s){n:Nat}{A:Around}(hu1:A.in1.units+n<cLine)(ih:∀(d e:D) (v w:V) (G G':List Addr) (u u':Value) (b:Bool),Rep X.K H d v G->Rep X.K H e w G'->RelV v u->RelV w u'->D.ltf n d e=some b->oa A.in1 s u u' b){z1 z2:Nat}{b:Bool} :
  ∀{xs ys:List D}{vs ws:List V}{G1 G2:List Addr}{its its':List Value},aG X.K H xs vs G1->aG X.K H ys ws G2->aN vs its->aN ws its'->xs.length+z2=ys.length+z1->GH (D.eqf n) (D.ltf n) xs ys=some b->Bj A s (decide (z1<z2)) (its.zip its') b
 | [],[],_,_,_,_,_,_,a1,a2,b1,b2,hl,h=>by
  cases a1;cases a2;cases b1;cases b2;cases h;exact (decide_eq_false (by simp only[List.length_nil] at hl;omega)).symm
 | [],y::ys,_,_,_,_,_,_,a1,a2,b1,b2,hl,h=>by
  cases a1;cases b1;cases h;rw[List.zip_nil_left];exact (decide_eq_true (by simp only[List.length_nil,List.length_cons] at hl;omega)).symm
 | x::xs,[],_,_,_,_,_,_,a1,a2,b1,b2,hl,h=>by
  cases a2;cases b2;cases h;rw[List.zip_nil_right];exact (decide_eq_false (by simp only[List.length_nil,List.length_cons] at hl;omega)).symm
 | x::xs,y::ys,_,_,_,_,_,_,a1,a2,b1,b2,hl,h=>by
  unfold GH at h;obtain⟨e,h1,h2⟩:=ae.mp h;cases a1 with
  |cons p1 p2=>cases a2 with
   |cons r1 r2=>cases b1 with
    |cons t1 t2=>cases b2 with
     |cons q1 q2 =>
      refine⟨e,(tV I n A.in1 _ _ _ _ _ _ _ _ _ hu1 p1 r1 t1 q1 h1).2,?_⟩;cases e with
      |true =>
       rw[if_pos rfl] at h2 ⊢;exact rj I hu1 ih p2 r2 t2 q2 (by simp only[List.length_cons] at hl;omega) h2
      |false =>
       rw[if_neg ao] at h2 ⊢;exact ih _ _ _ _ _ _ _ _ _ p1 r1 t1 q1 h2
theorem A5 (I:Inv X pins σ H s):∀(n:Nat) (A:Around) (d e:D) (v w:V) (G G':List Addr) (u u':Value) (b:Bool),A.units+n<cLine->Rep X.K H d v G->Rep X.K H e w G'->RelV v u->RelV w u'->D.ltf n d e=some b->oa A s u u' b
 |0,_,_,_,_,_,_,_,_,_,_,_,_,_,_,_,h=>by cases h
 | n+1,A,d,e,v,w,G,G',u,u',b,hu,r1,r2,q1,q2,h=>by
  have hu1:A.in1.units+n<cLine:=by show A.units+1+n<cLine;omega
  have hu0:A.units<cLine:=by omega
  have ih:=fun d e v w G G' u u' b=>A5 I n A.in1 d e v w G G' u u' b hu1
  cases d with
  |int i=>cases e with
   |int j =>
    cases h;obtain⟨rfl,rfl⟩:=r1.int_inv;obtain⟨rfl,rfl⟩:=r2.int_inv;obtain⟨t,rfl⟩:=q1;obtain⟨t',rfl⟩:=q2;exact fun prog w E Q hQ=>HT.lr A s _ t _ t' prog w E Q hQ
   |_=>cases h
  |tup xs=>cases e with
   |tup ys =>
    obtain⟨m,vs,rfl,a1,a2⟩:=r1.tup_inv;obtain⟨m',ws,rfl,c1,c2⟩:=r2.tup_inv;cases q1;cases q2;obtain⟨its,rv,pl,_⟩:=I.tuple a1;obtain⟨its',rv',pl',_⟩:=I.tuple c1;have l1:=a2.len;have l2:=c2.len;have l3:=rv.length;have l4:=rv'.length;exact oa.tuples pl pl' hu0 (rj I hu1 ih a2 c2 rv rv' (by rw[ai,ai];omega) h)
   |_=>cases h
  |lst xs=>cases e with
   |lst ys =>
    obtain⟨m,vs,g,rfl,rfl,a1,a2⟩:=r1.lst_inv;obtain⟨m',ws,g',rfl,rfl,c1,c2⟩:=r2.lst_inv;cases q1;cases q2;obtain⟨its,rv,pl,_⟩:=I.list (.inl a1);obtain⟨its',rv',pl',_⟩:=I.list (.inl c1);have l1:=a2.len;have l2:=c2.len;have l3:=rv.length;have l4:=rv'.length;exact oa.lists pl.isList pl'.isList hu0 (rj I hu1 ih a2 c2 rv rv' (by rw[ai,ai];omega) h)
   |_=>cases h
  |_=>cases h
end
section
variable {X:Cx}{pins:List (Addr×Obj)}{σ:L2.St}{H:Hp}{s:Shared}
open SeqAt in
theorem EZ (I:Inv X pins σ H s)(n:Nat)(A:Around)(d e:D)(v w:V)(G G':List Addr)(u u':Value)(b:Bool)(hu:A.units+n<cLine)(r1:Rep X.K H d v G)(r2:Rep X.K H e w G')(q1:RelV v u)(q2:RelV w u')(h:D.eqf n d e=some b):RcNeAt A s u u' (!b):=by
 cases n with
 |zero=>cases h
 |succ n =>
  have hu1:A.in1.units+n<cLine:=by show A.units+1+n<cLine;omega
  have hu0:A.units<cLine:=by omega
  have items:∀{xs ys:List D}{vs ws:List V}{G1 G2:List Addr}{its its':List Value}{c:Bool},aG X.K H xs vs G1->aG X.K H ys ws G2->aN vs its->aN ws its'->mH (D.eqf n) xs ys=some c ->
    its.toArray.size=its'.toArray.size/\∃ ee:Nat->Bool,c=(List.range its.toArray.size).all ee/\∀ j (h1:j<its.toArray.size) (h2:j<its'.toArray.size),EqAt A.in1 s its.toArray[j] its'.toArray[j] (ee j):=by
   intro xs ys vs ws G1 G2 its its' c a1 a2 b1 b2 hc;obtain⟨hl,ee,he,rfl⟩:=gT hc;have l1:=a1.len;have l2:=a2.len;have l3:=b1.length;have l4:=b2.length;have sz:its.toArray.size=xs.length:=by rw[ai];omega
   refine⟨by rw[ai,ai];omega,ee,by rw[sz],fun j h1 h2=>?_⟩;have j1:j<xs.length:=by rw[<-sz];exact h1
   have j2:j<ys.length:=by omega
   obtain⟨v1,g1,e1,p1,_⟩:=a1.get (i:=j) (d:=xs[j]) (by simp[j1]);obtain⟨v2,g2,e2,p2,_⟩:=a2.get (i:=j) (d:=ys[j]) (by simp[j2]);obtain⟨u1,f1,t1⟩:=b1.get e1;obtain⟨u2,f2,t2⟩:=b2.get e2;have x1:its.toArray[j]=u1:=by
    have:=List.getElem?_eq_some_iff.mp f1;simpa using this.2
   have x2:its'.toArray[j]=u2:=by
    have:=List.getElem?_eq_some_iff.mp f2;simpa using this.2
   rw[x1,x2];exact (tV I n A.in1 _ _ _ _ _ _ _ _ _ hu1 p1 p2 t1 t2 (he j _ _ (by simp[j1]) (by simp[j2]))).2
  have lsti:∀{ys:List D}{w:V}{g:List Addr}{u:Value},Rep X.K H (.lst ys) w g->RelV w u->∃ m its vs g',u = .ref m/\s.heap.IsList m its.toArray/\aN vs its/\aG X.K H ys vs g':=fun {ys w g u} r q=>by
   obtain⟨m,ws,g',rfl,rfl,a1,a2⟩:=r.lst_inv;cases q;obtain⟨its,rv,pl,_⟩:=I.list (.inl a1);exact⟨m,its,ws,g',rfl,pl.isList,rv,a2⟩
  have tupi:∀{ys:List D}{w:V}{g:List Addr}{u:Value},Rep X.K H (.tup ys) w g->RelV w u->∃ m its vs,u = .ref m/\s.heap.IsTuple m its.toArray/\aN vs its/\aG X.K H ys vs g:=fun {ys w g u} r q=>by
   obtain⟨m,ws,rfl,a1,a2⟩:=r.tup_inv;cases q;obtain⟨its,rv,pl,_⟩:=I.tuple a1;exact⟨m,its,ws,rfl,pl,rv,a2⟩
  cases d with
  |dct _=>cases h
  |mpi _=>cases e<;>cases h
  |mpt _=>cases e<;>cases h
  |mpz _=>cases e<;>cases h
  |non =>
   obtain⟨rfl,rfl⟩:=r1.non_inv;cases q1;cases e with
   |dct _=>cases h
   |mpi _=>cases h
   |mpt _=>cases h
   |mpz _=>cases h
   |non=>obtain⟨rfl,rfl⟩:=r2.non_inv;cases q2;cases h;exact RcNeAt.none_none
   |bl c=>obtain⟨rfl,rfl⟩:=r2.bl_inv;cases q2;cases h;exact RcNeAt.none_bool c
   |int i=>obtain⟨rfl,rfl⟩:=r2.int_inv;obtain⟨t,rfl⟩:=q2;cases h;exact RcNeAt.none_int i t
   |str x=>obtain⟨rfl,rfl⟩:=r2.str_inv;obtain⟨t,rfl⟩:=q2;cases h;exact RcNeAt.none_str x t
   |lst ys=>obtain⟨m,its,vs,g',rfl,pl,_,_⟩:=lsti r2 q2;cases h;exact RcNeAt.none_list pl hu0
   |tup ys=>obtain⟨m,its,vs,rfl,pl,_,_⟩:=tupi r2 q2;cases h;exact RcNeAt.none_tuple pl hu0
  |bl a =>
   obtain⟨rfl,rfl⟩:=r1.bl_inv;cases q1;cases e with
   |dct _=>cases h
   |mpi _=>cases h
   |mpt _=>cases h
   |mpz _=>cases h
   |non=>obtain⟨rfl,rfl⟩:=r2.non_inv;cases q2;cases h;exact RcNeAt.bool_none a
   |bl c=>obtain⟨rfl,rfl⟩:=r2.bl_inv;cases q2;cases h;exact RcNeAt.bool_bool a c
   |int i=>obtain⟨rfl,rfl⟩:=r2.int_inv;obtain⟨t,rfl⟩:=q2;cases h;exact RcNeAt.bool_int a i t
   |str x=>obtain⟨rfl,rfl⟩:=r2.str_inv;obtain⟨t,rfl⟩:=q2;cases h;exact RcNeAt.bool_str a x t
   |lst ys=>obtain⟨m,its,vs,g',rfl,pl,_,_⟩:=lsti r2 q2;cases h;exact RcNeAt.bool_list a pl hu0
   |tup ys=>obtain⟨m,its,vs,rfl,pl,_,_⟩:=tupi r2 q2;cases h;exact RcNeAt.bool_tuple a pl hu0
  |int a =>
   obtain⟨rfl,rfl⟩:=r1.int_inv;obtain⟨t0,rfl⟩:=q1;cases e with
   |dct _=>cases h
   |mpi _=>cases h
   |mpt _=>cases h
   |mpz _=>cases h
   |non=>obtain⟨rfl,rfl⟩:=r2.non_inv;cases q2;cases h;exact RcNeAt.int_none a t0
   |bl c=>obtain⟨rfl,rfl⟩:=r2.bl_inv;cases q2;cases h;exact RcNeAt.int_bool a t0 c
   |int i=>obtain⟨rfl,rfl⟩:=r2.int_inv;obtain⟨t,rfl⟩:=q2;cases h;exact RcNeAt.int_int a t0 i t
   |str x=>obtain⟨rfl,rfl⟩:=r2.str_inv;obtain⟨t,rfl⟩:=q2;cases h;exact RcNeAt.int_str a t0 x t
   |lst ys=>obtain⟨m,its,vs,g',rfl,pl,_,_⟩:=lsti r2 q2;cases h;exact RcNeAt.int_list a t0 pl hu0
   |tup ys=>obtain⟨m,its,vs,rfl,pl,_,_⟩:=tupi r2 q2;cases h;exact RcNeAt.int_tuple a t0 pl hu0
  |str a =>
   obtain⟨rfl,rfl⟩:=r1.str_inv;obtain⟨t0,rfl⟩:=q1;cases e with
   |dct _=>cases h
   |mpi _=>cases h
   |mpt _=>cases h
   |mpz _=>cases h
   |non=>obtain⟨rfl,rfl⟩:=r2.non_inv;cases q2;cases h;exact RcNeAt.str_none a t0
   |bl c=>obtain⟨rfl,rfl⟩:=r2.bl_inv;cases q2;cases h;exact RcNeAt.str_bool a t0 c
   |int i=>obtain⟨rfl,rfl⟩:=r2.int_inv;obtain⟨t,rfl⟩:=q2;cases h;exact RcNeAt.str_int a t0 i t
   |str x=>obtain⟨rfl,rfl⟩:=r2.str_inv;obtain⟨t,rfl⟩:=q2;cases h;exact RcNeAt.str_str a t0 x t
   |lst ys=>obtain⟨m,its,vs,g',rfl,pl,_,_⟩:=lsti r2 q2;cases h;exact RcNeAt.str_list a t0 pl hu0
   |tup ys=>obtain⟨m,its,vs,rfl,pl,_,_⟩:=tupi r2 q2;cases h;exact RcNeAt.str_tuple a t0 pl hu0
  |lst xs =>
   obtain⟨l,its,vs,g1,rfl,pl,rv,a2⟩:=lsti r1 q1;cases e with
   |dct _=>cases h
   |mpi _=>cases h
   |mpt _=>cases h
   |mpz _=>cases h
   |non=>obtain⟨rfl,rfl⟩:=r2.non_inv;cases q2;cases h;exact RcNeAt.list_none pl hu0
   |bl c=>obtain⟨rfl,rfl⟩:=r2.bl_inv;cases q2;cases h;exact RcNeAt.list_bool c pl hu0
   |int c=>obtain⟨rfl,rfl⟩:=r2.int_inv;obtain⟨t,rfl⟩:=q2;cases h;exact RcNeAt.list_int c t pl hu0
   |str c=>obtain⟨rfl,rfl⟩:=r2.str_inv;obtain⟨t,rfl⟩:=q2;cases h;exact RcNeAt.list_str c t pl hu0
   |lst ys =>
    obtain⟨m,its',ws,g2,rfl,pl',rv',b2⟩:=lsti r2 q2;have h:(if xs.length=ys.length then mH (D.eqf n) xs ys else some false)=some b:=h;by_cases hl:xs.length=ys.length
    ·rw[if_pos hl] at h;obtain⟨hz,ee,rfl,he⟩:=items a2 b2 rv rv' h;exact RcNeAt.lists pl pl' hz hu0 he
    ·rw[if_neg hl] at h;cases h;have hz:(its.toArray.size != its'.toArray.size)=true:=by
      have l1:=a2.len;have l2:=b2.len;have l3:=rv.length;have l4:=rv'.length;simp only[bne_iff_ne,ne_eq,List.size_toArray];omega
     exact RcNeAt.lists_lengths pl pl' hz hu0
   |tup ys=>obtain⟨m,its',ws,rfl,pl',_,_⟩:=tupi r2 q2;cases h;exact RcNeAt.list_tuple pl pl' hu0
  |tup xs =>
   obtain⟨l,its,vs,rfl,pl,rv,a2⟩:=tupi r1 q1;cases e with
   |dct _=>cases h
   |mpi _=>cases h
   |mpt _=>cases h
   |mpz _=>cases h
   |non=>obtain⟨rfl,rfl⟩:=r2.non_inv;cases q2;cases h;exact RcNeAt.tuple_none pl hu0
   |bl c=>obtain⟨rfl,rfl⟩:=r2.bl_inv;cases q2;cases h;exact RcNeAt.tuple_bool c pl hu0
   |int c=>obtain⟨rfl,rfl⟩:=r2.int_inv;obtain⟨t,rfl⟩:=q2;cases h;exact RcNeAt.tuple_int c t pl hu0
   |str c=>obtain⟨rfl,rfl⟩:=r2.str_inv;obtain⟨t,rfl⟩:=q2;cases h;exact RcNeAt.tuple_str c t pl hu0
   |lst ys=>obtain⟨m,its',ws,g2,rfl,pl',_,_⟩:=lsti r2 q2;cases h;exact RcNeAt.tuple_list pl pl' hu0
   |tup ys =>
    obtain⟨m,its',ws,rfl,pl',rv',b2⟩:=tupi r2 q2;have h:(if xs.length=ys.length then mH (D.eqf n) xs ys else none)=some b:=h;by_cases hl:xs.length=ys.length
    ·rw[if_pos hl] at h;obtain⟨hz,ee,rfl,he⟩:=items a2 b2 rv rv' h;have q:=RcNeAt.tuples (e:=ee) pl pl' hu0 he;rw[<-hz,Nat.min_self,de,Bool.and_true] at q;exact q
    ·rw[if_neg hl] at h;cases h
end
section
variable {X:Cx}
theorem iB {K:Frag}{H:Hp}{d:D}{v:V}{G:List Addr}(h:Rep K H d v G)(s:d.dJ=true):iE v=true:=by
 cases h<;>simp_all [D.dJ,iE]
theorem fM {K:Frag}{H:Hp}:∀{ds:List D}{vs:List V}{G:List Addr},aG K H ds vs G->ds.all D.dJ=true->vs.all iE=true
 |_,_,_,.nil,_=>rfl
 | _,_,_,.cons h r,s=>by
  simp only[List.all_cons,Bool.and_eq_true] at s ⊢;exact⟨iB h s.1,fM r s.2⟩
theorem AU {K:Frag}{H:Hp}{d e:D}{v w:V}{G G':List Addr}(h:Rep K H d v G)(h':Rep K H e w G')(s:d.dJ=true)(s':e.dJ=true):yO v w=D.eqs d e:=by
 cases h<;>first | (cases s;done) | (cases h'<;>first | (cases s';done) | rfl | simp[yO,D.eqs])
theorem lW {K:Frag}{H:Hp}{x:D}{w:V}{G0:List Addr}(hx:Rep K H x w G0)(sx:x.dJ=true):∀{ds:List D}{vs:List V}{G:List Addr},aG K H ds vs G->ds.all D.dJ=true->inV w vs=ds.any fun y=>D.eqs y x
 |_,_,_,.nil,_=>rfl
 | _,_,_,.cons h r,s=>by
  simp only[List.all_cons,Bool.and_eq_true] at s;have ih:=lW hx sx r s.2;unfold inV at ih ⊢;rw[fh,fh,ih,AU h hx s.1 sx]
theorem iX.any {K:Frag}{H:Hp}(n:Int):∀{q:List (Int×MV)}{x:List (Key×V)},iX K H q x->(x.any fun kv=>decide (kv.1=Sum.inl n))=q.any fun kv=>decide (kv.1=n)
 |[],[],_=>rfl
 | (k,m)::q,p::x,⟨a,_,c⟩=>by
  rw[fh,fh,c.any n,a];congr 1;exact decide_eq_decide.mpr ⟨fun e=>by injection e,fun e=>by rw[e]⟩
 |[],_::_,h=>h.elim
 |_::_,[],h=>h.elim
theorem iX.val {K:Frag}{H:Hp}(n:Int):∀{q:List (Int×MV)}{x:List (Key×V)}{e:Int×MV},iX K H q x->(q.find? fun kv=>decide (kv.1=n))=some e->∃ v,i8 x (.inl n)=some v/\qU K H e.2 v
 |[],[],_,_,h=>by cases h
 | (k,m)::q,p::x,e,⟨a,b,c⟩,h=>by
  by_cases hk:k=n
  ·rw[List.find?_cons_of_pos (by simpa using hk)] at h;cases h;exact⟨p.2,jk (by rw[a,hk]),b⟩
  ·rw[List.find?_cons_of_neg (by simpa using hk)] at h;rw[jj (by rw[a];exact fun z=>hk (by injection z))];exact c.val n h
 |[],_::_,_,h,_=>h.elim
 |_::_,[],_,h,_=>h.elim
theorem jV {K:Frag}{H:Hp}:∀ ks:List Int,aG K H (ks.map D.int) (ks.map V.int) []
 |[]=>.nil
 |k::ks=>.cons (G:=[]) (G':=[]) (.int k) (jV ks)
theorem qU.rep {K:Frag}{H:Hp}:∀{m:MV}{v:V},qU K H m v->Rep K H (GX m) v []
 |.tr,_,h=>by cases h;exact .bl true
 |.int i,_,h=>by cases h;exact .int i
 |.tup is,_,⟨b,e,h⟩=>by subst e;exact .tup h (jV is)
theorem lH:∀{a b:List Int},(a.map Sum.inl:List Key)=b.map Sum.inl->a=b
 |[],[],_=>rfl
 |[],_::_,e=>by simp at e
 |_::_,[],e=>by simp at e
 | x::xs,y::ys,e=>by
  rw[ay,ay] at e;injection e with e1 e2
  rw[Sum.inl.inj e1,lH e2]
theorem tT (n:List Int):∀ ks:List (List Int),((Ar ks).any fun kv=>decide (kv.1=n.map Sum.inl))=ks.contains n
 |[]=>rfl
 | k::ks=>by
  show (decide ((k.map Sum.inl:List Key)=n.map Sum.inl) || (Ar ks).any fun kv=>decide (kv.1=n.map Sum.inl))=_;rw[tT n ks,fw];congr 1;by_cases e:k=n
  ·subst e;simp
  ·rw[aq (fun z=>e (lH z)),beq_eq_false_iff_ne.mpr (dk e)]
theorem sH {K:Frag}{H:Hp}{i j:Int}{vs:List V}{G:List Addr}(h:aG K H [.int i,.int j] vs G):vs=[.int i,.int j]/\G=[]:=by
 cases h with
 |cons h r=>cases r with
  |cons h' r' =>
   cases r';obtain⟨rfl,rfl⟩:=h.int_inv;obtain⟨rfl,rfl⟩:=h'.int_inv;exact⟨rfl,rfl⟩
theorem wj {pins:List (Addr×Obj)}{σ:L2.St}{H:Hp}{s:Shared}{a:Addr}{ks:List Key}(I:Inv X pins σ H s)(h:je X.K H a (ks.map kV)):(tupleKind (aO X.prog X.w)).is s.heap ks a:=by
 obtain⟨its,r,⟨o,h1,h2,n,h3⟩,_⟩:=I.tuple h;exact⟨o,its.toArray,n,h1,h2,h3,by simpa using jY r⟩
noncomputable def vV:Option Int->V
 |none=>.non
 |some i=>.int i
theorem ub {K:Frag}{H:Hp}:∀ z:Option Int,Rep K H (ET z) (vV z) []
 |none=>.non
 |some i=>.int i
theorem xO (q:Key×Option Int)(kvs:List (Key×Option Int))(k:Key):qy (q::kvs) k=if q.1=k then some q.2 else qy kvs k:=by
 unfold qy;rw[List.find?_cons];by_cases h:q.1=k
 ·rw[ba h,if_pos h];rfl
 ·rw[aq h,if_neg h]
theorem nW (q:Key×Value)(kvs:List (Key×Value))(k:Key):valueAt (q::kvs) k=if q.1=k then some q.2 else valueAt kvs k:=by
 unfold valueAt;rw[List.find?_cons];by_cases h:q.1=k
 ·rw[ba h,if_pos h];rfl
 ·rw[aq h,if_neg h]
theorem fW.pairs {P:Program}{w:World}:∀{es:List DictEntry}{kvs:List (Key×Option Int)},fW es kvs->(∀ e∈es,∀ s t,e.key = .str s t->e.hash=hashStr w s)->∃ vs:List (Key×Value),Pairs (aO P w) es vs/\vs.map (·.1)=kvs.map (·.1) /\
  (∀ k,(∀ z,qy kvs k=some z->∃ u,RelV (vV z) u/\valueAt vs k=some u)/\(valueAt vs k).isSome=(qy kvs k).isSome)/\(∀ e∈es,∃ k,(aO P w).is k e.key=true/\e.hash=(aO P w).hash k):=by
 have step:∀{e:DictEntry}{es:List DictEntry}{k:Key}{z:Option Int}{kvs:List (Key×Option Int)}{u:Value},(aO P w).is k e.key=true->e.hash=(aO P w).hash k->e.val=u->RelV (vV z) u ->
   (∃ vs:List (Key×Value),Pairs (aO P w) es vs/\vs.map (·.1)=kvs.map (·.1)/\(∀ k,(∀ z,qy kvs k=some z->∃ u,RelV (vV z) u/\valueAt vs k=some u)/\(valueAt vs k).isSome=(qy kvs k).isSome)/\(∀ e∈es,∃ k,(aO P w).is k e.key=true/\e.hash=(aO P w).hash k)) ->
   ∃ vs:List (Key×Value),Pairs (aO P w) (e::es) vs/\vs.map (·.1)=((k,z)::kvs).map (·.1)/\(∀ k',(∀ z',qy ((k,z)::kvs) k'=some z'->∃ u,RelV (vV z') u/\valueAt vs k'=some u)/\(valueAt vs k').isSome=(qy ((k,z)::kvs) k').isSome)/\(∀ e'∈e::es,∃ k,(aO P w).is k e'.key=true/\e'.hash=(aO P w).hash k):=by
  intro e es k z kvs u hk hh hv hr ⟨vs,p1,p2,p3,p4⟩;refine⟨(k,u)::vs,.cons hk hv p1,by rw[ay,ay,p2],fun k'=>?_,fun e' he=>?_⟩
  ·rw[xO,nW];by_cases h:k=k'
   ·rw[if_pos h,if_pos h];exact⟨fun z' q=>by cases q;exact⟨u,hr,rfl⟩,rfl⟩
   ·rw[if_neg h,if_neg h];exact p3 k'
  ·rcases g9.mp he with rfl | he
   ·exact⟨k,hk,hh⟩
   ·exact p4 e' he
 intro es kvs h
 induction h with
 |nil=>exact fun _=>⟨[],.nil,rfl,fun k=>⟨fun z h=>(by cases h),rfl⟩,fun _ h=>(nomatch h)⟩
 |@cons e es k v kvs t u hh hk hv r ih=>exact fun hs=>step (by rw[hk];exact eB P w k t) hh hv ⟨u,rfl⟩ (ih fun e he=>hs e (ah _ he))
 |@si e es k v kvs t u hk hv r ih=>exact fun hs=>step (by rw[hk];exact dA P w k t) (hs e au k t hk) hv ⟨u,rfl⟩ (ih fun e he=>hs e (ah _ he))
 |@sn e es k kvs t hk hv r ih=>exact fun hs=>step (by rw[hk];exact dA P w k t) (hs e au k t hk) hv (show RelV .non .none from rfl) (ih fun e he=>hs e (ah _ he))
theorem rq {pins:List (Addr×Obj)}{σ:L2.St}{H:Hp}{s:Shared}(hx:uQ X.w X.K)(I:Inv X pins σ H s){p:Addr}{kvs:List (Key×Option Int)}(h:qB X.K p kvs):∃ vs,s.heap.DictOf (aO X.prog X.w) p vs /\
  (∀ k,(∀ z,qy kvs k=some z->∃ u,RelV (vV z) u/\valueAt vs k=some u)/\(valueAt vs k).isSome=(qy kvs k).isSome)/\(∀ z v r,kvs=(.inr z,v)::r->(p==sysModules)=false):=by
 obtain⟨o,es,ep,h1,h2,h3,h4,h5⟩:=h;obtain⟨vs,p1,p2,p3,p4⟩:=h4.pairs (P:=X.prog) (w:=X.w) fun e he s t q=>(hx p o es ep h1 h3 kvs h4 e he s t q).2
 refine⟨vs,⟨o,es,ep,I.kIn _ o h1,h2,h3,fun e he=>p4 e (by simpa using he),p1,by rw[p2];exact h5⟩,p3,fun z v r q=>?_⟩;subst q;cases hl:es.toList with
 |nil=>rw[hl] at h4;cases h4
 |cons e l =>
  have hm:e∈es.toList:=by rw[hl];exact au
  have hk:∃ t,e.key = .str z t:=by
   rw[hl] at h4;cases h4 with
   |si hk hv r=>exact⟨_,hk⟩
   |sn hk hv r=>exact⟨_,hk⟩
  obtain⟨t,hk⟩:=hk;exact (hx p o es ep h1 h3 _ h4 e hm z t hk).1
theorem xw {A:Around}{E:Value->Shared->Prop}{pins:List (Addr×Obj)}{σ:L2.St}{H:Hp}{s:Shared}{d1:D}{kvs:List (Key×Option Int)}{x y:V}{v u:Value}{G1 G2:List Addr}{b:Bool}{Q:Value->Shared->Prop}(hx:uQ X.w X.K)(I:Inv X pins σ H s)(r1:Rep X.K H d1 x G1)(r2:Rep X.K H (.dct kvs) y G2)(rx:RelV x v)(ry:RelV y u)(hb:inD d1 (.dct kvs)=some b) :
  ((∀ s',Inv X pins σ H s'->Q (.bool b) s')->wpAny (model X.prog X.w) A (compareOp .In v u) Q E s)/\((∀ s',Inv X pins σ H s'->Q (.bool (!b)) s')->wpAny (model X.prog X.w) A (compareOp .NotIn v u) Q E s):=by
 cases r2 with
 |@dct p _ hp =>
  match kvs,hb,hp with
  | (.inr z,q)::r,hb,hp =>
   cases d1 with
   |str w =>
    cases hb;obtain⟨rfl,rfl⟩:=r1.str_inv;cases ry;obtain⟨t,rfl⟩:=rx;obtain⟨vs,dd,p3,p5⟩:=rq hx I hp;have e:=(p3 (.inr w)).2;refine⟨fun h=>wpAny_in_of (dA X.prog X.w w t) (p5 z q r rfl) dd.mapOf ?_,fun h=>wpAny_notIn_of (dA X.prog X.w w t) (p5 z q r rfl) dd.mapOf ?_⟩
    ·rw[e];exact h _ (I.tok _)
    ·rw[e];exact h _ (I.tok _)
   |_=>cases hb
noncomputable def isMp:D->Bool
 |.mpi _=>true
 |.mpt _=>true
 |.mpz _=>true
 |_=>false
theorem iN {A:Around}{E:Value->Shared->Prop}{pins:List (Addr×Obj)}{σ:L2.St}{H:Hp}{s:Shared}{d1 d2:D}{x y:V}{v u:Value}{G1 G2:List Addr}{b:Bool}{Q:Value->Shared->Prop}(hu:A.units+1<cLine)(I:Inv X pins σ H s)(r1:Rep X.K H d1 x G1)(r2:Rep X.K H d2 y G2)(rx:RelV x v)(ry:RelV y u)(hm:isMp d2=true)(hb:inD d1 d2=some b) :
  ((∀ s',Inv X pins σ H s'->Q (.bool b) s')->wpAny (model X.prog X.w) A (compareOp .In v u) Q E s)/\((∀ s',Inv X pins σ H s'->Q (.bool (!b)) s')->wpAny (model X.prog X.w) A (compareOp .NotIn v u) Q E s):=by
 cases r2 with
 |@mpi p ks xs hr kr =>
  have inv:(∃ k,d1 = .int k/\b=ks.any fun q=>decide (q.1=k))\/∃ i j,d1 = .tup [.int i,.int j]/\ks=[]/\b=false:=by
   cases d1 with
   |int k=>cases hb;exact .inl ⟨_,rfl,rfl⟩
   |tup ts =>
    obtain⟨i,j,rfl⟩:∃ i j,ts=[.int i,.int j]:=by
     cases ts with
     |nil=>cases hb
     |cons a r=>cases a with
      |int i=>cases r with
       |nil=>cases hb
       |cons c q=>cases c with
        |int j=>cases q with
         |nil=>exact⟨i,j,rfl⟩
         |cons _ _=>cases hb
        |_=>cases hb
      |_=>cases hb
    have hb:(if ks.isEmpty then some false else none)=some b:=hb;by_cases he:ks.isEmpty=true
    ·rw[if_pos he] at hb;cases hb;exact .inr ⟨_,_,rfl,List.isEmpty_iff.mp he,rfl⟩
    ·rw[if_neg he] at hb;cases hb
   |_=>cases hb
  rcases inv with ⟨k,rfl,rfl⟩ | ⟨i,j,rfl,rfl,rfl⟩
  ·obtain⟨rfl,rfl⟩:=r1.int_inv;obtain rfl:u = .ref p:=ry;have g:y9 H p (.int k) (i8 xs (.inl k)):=.inl ⟨xs,.inl k,.inl hr,rfl,rfl⟩;have e:(i8 xs (.inl k)).isSome=ks.any fun q=>decide (q.1=k):=by rw[<-jq,kr.any]
   exact⟨fun h=>Fw hu I g rx (by rw[e];exact h),fun h=>uo hu I g rx (by rw[e];exact h)⟩
  ·obtain⟨q,vs,rfl,a1,a2⟩:=r1.tup_inv;obtain⟨rfl,rfl⟩:=sH a2;obtain rfl:u = .ref p:=ry;obtain rfl:v = .ref q:=rx;cases xs with
   |cons _ _=>exact kr.elim
   |nil =>
   obtain⟨z,hd,vs,rel,o,es,ep,h1,h2,h3,h4,h5,h6⟩:=j9 I.hok (.inl hr);cases rel;have hes:es.toList=[]:=by
    cases q:es.toList with
    |nil=>rfl
    |cons x r=>rw[q] at h5;cases h5
   have dd:s.heap.DictOfH (tupleKind (aO X.prog X.w)) p []:=⟨o,es,ep,h1,h2,h3,hes,fun x hx=>(nomatch hx),cn⟩;have ky:(tupleKind (aO X.prog X.w)).is s.heap ([i,j].map Sum.inl) q:=wj I a1;exact⟨fun h=>wpAny_in_heap (tupleKind_room_in1 hu) ky hd dd (h _ (I.tok _)),fun h=>wpAny_notIn_heap (tupleKind_room_in1 hu) ky hd dd (h _ (I.tok _))⟩
 |@mpz p ks xs ob hr kr =>
  have inv:∃ k,d1 = .int k/\b=ks.any fun q=>decide (q.1=k):=by
   cases d1 with
   |int k=>cases hb;exact⟨_,rfl,rfl⟩
   |_=>cases hb
  obtain⟨k,rfl,rfl⟩:=inv;obtain⟨rfl,rfl⟩:=r1.int_inv;obtain rfl:u = .ref p:=ry;have g:y9 H p (.int k) (i8 xs (.inl k)):=.inl ⟨xs,.inl k,.inr ⟨_,hr⟩,rfl,rfl⟩;have e:(i8 xs (.inl k)).isSome=ks.any fun q=>decide (q.1=k):=by rw[<-jq,kr.any]
  exact⟨fun h=>Fw hu I g rx (by rw[e];exact h),fun h=>uo hu I g rx (by rw[e];exact h)⟩
 |@mpt p ks hr =>
  have inv:∃ i j,d1 = .tup [.int i,.int j]/\b=ks.contains [i,j]:=by
   cases d1 with
   |tup ts=>cases ts with
     |nil=>cases hb
     |cons a r=>cases a with
      |int i=>cases r with
       |nil=>cases hb
       |cons c q=>cases c with
        |int j=>cases q with
         |nil=>cases hb;exact⟨i,j,rfl,rfl⟩
         |cons _ _=>cases hb
        |_=>cases hb
      |_=>cases hb
   |_=>cases hb
  obtain⟨i,j,rfl,rfl⟩:=inv;obtain⟨q,vs,rfl,a1,a2⟩:=r1.tup_inv;obtain⟨rfl,rfl⟩:=sH a2;obtain rfl:u = .ref p:=ry;obtain rfl:v = .ref q:=rx;obtain⟨z,hd,xs,rel,dd⟩:=sC I.hok hr;have ky:(tupleKind (aO X.prog X.w)).is s.heap ([i,j].map Sum.inl) q:=wj I a1;have e:ks.contains [i,j]=((atKey xs ([i,j].map Sum.inl))).isSome:=by
   have e1:=(rel.val ([i,j].map Sum.inl)).isSome_eq;rw[Option.isSome_map] at e1;rw[<-e1,<-jq,tT]
  refine⟨fun h=>wpAny_in_heap (tupleKind_room_in1 hu) ky hd dd ?_,fun h=>wpAny_notIn_heap (tupleKind_room_in1 hu) ky hd dd ?_⟩
  ·rw[<-e];exact h _ (I.tok _)
  ·rw[<-e];exact h _ (I.tok _)
 |_=>cases hm
theorem cX:∀{xs:List D}{k:List Int},eE xs=some k->xs=k.map D.int
 |[],k,h=>by cases h;rfl
 | .int i::r,k,h=>by
  have h:(eE r).map (i :: ·)=some k:=h;rw[aa] at h;obtain⟨k',h1,rfl⟩:=h;rw[cX h1];rfl
theorem jx {K:Frag}{H:Hp}:∀{ns:List Int}{vs:List V}{G:List Addr}{us:List Value},aG K H (ns.map D.int) vs G->aN vs us->IntsAre us ns
 |[],_,_,_,.nil,.nil=>.nil
 | n::ns,_,_,_,.cons h r,.cons x y=>by
  obtain⟨rfl,_⟩:=h.int_inv;obtain⟨t,rfl⟩:=x;exact .cons _ _ (jx r y)
theorem ur (op:CmpOp)(hx:X.A.units+40<cLine/\uQ X.w X.K):gJ X (compareOp op) (z9 X.K fun x y=>(kz op x y).map .bl):=by
 have hu:=hx.1;intro pins s σ H x y v u Q I rx ry h;obtain⟨d1,d2,d,G,rs,hd,k⟩:=h;obtain⟨G1,G2,r1,r2,rfl⟩:=rs.inv2;rw[aa] at hd;obtain⟨b,hb,rfl⟩:=hd;have fin:Q (.bl b) H:=k _ H [] (.bl b) eU.nil;have ep:∀ c,c=b->EP X pins σ Q (.bool c) s:=fun c e=>⟨.bl b,H,I,by rw[e];rfl,fin⟩
 have onInts:∀{f:Int->Int->Bool},(∀ i j,kz op (.int i) (.int j)=some (f i j))->(∀ d1 d2,(∀ i j,¬ (d1 = .int i/\d2 = .int j))->kz op d1 d2=none)->gJ X (compareOp op) (vE fun i j=>.bl (f i j))->wpAny (model X.prog X.w) X.A (compareOp op v u) (EP X pins σ Q) X.xe s:=by
  intro f h1 h2 ho;by_cases hi:∃ i j,d1 = .int i/\d2 = .int j
  ·obtain⟨i,j,rfl,rfl⟩:=hi;rw[h1] at hb;cases hb;obtain⟨rfl,rfl⟩:=r1.int_inv;obtain⟨rfl,rfl⟩:=r2.int_inv;exact ho pins s σ H _ _ v u Q I rx ry ⟨i,j,rfl,rfl,fin⟩
  ·rw[h2 d1 d2 fun i j z=>hi ⟨i,j,z⟩] at hb;cases hb
 have nope:∀(op:CmpOp),(op = .Gt\/op = .GtE)->∀ d1 d2:D,(∀ i j,¬ (d1 = .int i/\d2 = .int j))->kz op d1 d2=none:=by
  intro op ho d1 d2 hn;cases d1 with
  |int i =>
   cases d2 with
   |int j=>exact absurd ⟨rfl,rfl⟩ (hn i j)
   |_=>rcases ho with rfl | rfl<;>rfl
  |_=>rcases ho with rfl | rfl<;>rfl
 cases op with
 |Lt =>
  cases d1 with
  |int i =>
   cases d2 with
   |int j =>
    cases hb;obtain⟨rfl,rfl⟩:=r1.int_inv;obtain⟨rfl,rfl⟩:=r2.int_inv;exact EF pins s σ H _ _ v u Q I rx ry ⟨i,j,rfl,rfl,fin⟩
   |_=>cases hb
  |tup xs =>
   cases d2 with
   |tup ys=>exact A5 I 39 X.A _ _ _ _ _ _ _ _ _ (by omega) r1 r2 rx ry hb _ _ _ _ (ep _ rfl)
   |_=>cases hb
  |_=>cases hb
 |LtE =>
  cases d1 with
  |int i =>
   cases d2 with
   |int j =>
    cases hb;obtain⟨rfl,rfl⟩:=r1.int_inv;obtain⟨rfl,rfl⟩:=r2.int_inv;exact Gg pins s σ H _ _ v u Q I rx ry ⟨i,j,rfl,rfl,fin⟩
   |_=>cases hb
  |tup xs =>
   cases d2 with
   |tup ys =>
    have hb:((eE xs).bind fun a=>(eE ys).map fun b=>lz a b)=some b:=hb;rw[ae] at hb;obtain⟨ks,h1,hb⟩:=hb;rw[aa] at hb;obtain⟨ls,h2,rfl⟩:=hb;obtain rfl:=cX h1;obtain rfl:=cX h2;obtain⟨p,vs,rfl,a1,a2⟩:=r1.tup_inv;obtain⟨q,ws,rfl,b1,b2⟩:=r2.tup_inv;cases rx;cases ry;obtain⟨its,rv,p1,_⟩:=I.tuple a1;obtain⟨its2,rv2,p2,_⟩:=I.tuple b1;exact A3 p1 p2 (jx a2 (by simpa using rv)) (jx b2 (by simpa using rv2)) (by omega) (ep _ rfl)
   |_=>cases hb
  |_=>cases hb
 |Gt=>exact onInts (fun _ _=>rfl) (nope .Gt (.inl rfl)) Bp
 |GtE=>exact onInts (fun _ _=>rfl) (nope .GtE (.inr rfl)) G5
 |Eq =>
  have hb:D.eqf 40 d1 d2=some b:=hb;exact (tV I 40 X.A d1 d2 x y G1 G2 v u b hu r1 r2 rx ry hb).1 _ _ _ _ (ep b rfl)
 |NotEq =>
  have hb:(D.eqf 40 d1 d2).map (!·)=some b:=hb;rw[aa] at hb;obtain⟨c,hc,rfl⟩:=hb;exact EZ I 40 X.A d1 d2 x y G1 G2 v u c hu r1 r2 rx ry hc _ _ _ _ (ep _ rfl)
 |Is =>
  cases d2 with
  |non =>
   obtain⟨rfl,rfl⟩:=r2.non_inv;refine DJ pins s σ H _ _ v u Q I rx ry ⟨rfl,?_⟩;have hb:some (nL d1)=some b:=hb;cases hb;have:decide (x=V.non)=nL d1:=by
    cases r1<;>rfl
   rw[this];exact fin
  |bl c =>
   cases d1 with
   |bl a =>
    cases hb;obtain⟨rfl,rfl⟩:=r1.bl_inv;obtain⟨rfl,rfl⟩:=r2.bl_inv;cases rx;cases ry;exact wpAny_is_plain rfl (ep _ (by cases a<;>cases c<;>rfl))
   |_=>cases hb
  |_=>cases hb
 |IsNot =>
  cases d2 with
  |non =>
   obtain⟨rfl,rfl⟩:=r2.non_inv;refine AV pins s σ H _ _ v u Q I rx ry ⟨rfl,?_⟩;have hb:some (!nL d1)=some b:=hb;cases hb;have:(!decide (x=V.non)) = !nL d1:=by
    cases r1<;>rfl
   rw[this];exact fin
  |bl c =>
   cases d1 with
   |bl a =>
    cases hb;obtain⟨rfl,rfl⟩:=r1.bl_inv;obtain⟨rfl,rfl⟩:=r2.bl_inv;cases rx;cases ry;exact wpAny_isNot_plain rfl (ep _ (by cases a<;>cases c<;>rfl))
   |_=>cases hb
  |_=>cases hb
 |In =>
  have hb:inD d1 d2=some b:=hb;cases d2 with
  |lst ys =>
   have hb:(if d1.dJ&&ys.all D.dJ then some (ys.any fun y=>D.eqs y d1) else none)=some b:=hb;by_cases hc:(d1.dJ&&ys.all D.dJ)=true
   ·rw[if_pos hc] at hb;cases hb;rw[ag] at hc;obtain⟨p,vs,g,rfl,rfl,a1,a2⟩:=r2.lst_inv;refine nE pins s σ H _ _ v u Q I rx ry ⟨p,vs,rfl,.inl (.inl a1),iB r1 hc.1,fM a2 hc.2,?_⟩;rw[lW r1 hc.1 a2 hc.2];exact fin
   ·rw[if_neg hc] at hb;cases hb
  |tup ys =>
   have hb:(if d1.dJ&&ys.all D.dJ then some (ys.any fun y=>D.eqs y d1) else none)=some b:=hb;by_cases hc:(d1.dJ&&ys.all D.dJ)=true
   ·rw[if_pos hc] at hb;cases hb;rw[ag] at hc;obtain⟨p,vs,rfl,a1,a2⟩:=r2.tup_inv;refine nE pins s σ H _ _ v u Q I rx ry ⟨p,vs,rfl,.inr a1,iB r1 hc.1,fM a2 hc.2,?_⟩;rw[lW r1 hc.1 a2 hc.2];exact fin
   ·rw[if_neg hc] at hb;cases hb
  |str z =>
   cases d1 with
   |str w =>
    cases hb;obtain⟨rfl,rfl⟩:=r1.str_inv;obtain⟨rfl,rfl⟩:=r2.str_inv;exact vC pins s σ H _ _ v u Q I rx ry ⟨w,z,rfl,rfl,fin⟩
   |_=>cases hb
  |mpi ks=>exact (iN (by omega) I r1 r2 rx ry rfl hb).1 fun s' I'=>⟨.bl b,H,I',rfl,fin⟩
  |dct kvs=>exact (xw hx.2 I r1 r2 rx ry hb).1 fun s' I'=>⟨.bl b,H,I',rfl,fin⟩
  |mpt ks=>exact (iN (by omega) I r1 r2 rx ry rfl hb).1 fun s' I'=>⟨.bl b,H,I',rfl,fin⟩
  |mpz ks=>exact (iN (by omega) I r1 r2 rx ry rfl hb).1 fun s' I'=>⟨.bl b,H,I',rfl,fin⟩
  |_=>cases hb
 |NotIn =>
  have hb:(inD d1 d2).map (!·)=some b:=hb;rw[aa] at hb;obtain⟨c,hi,rfl⟩:=hb;clear hb;cases d2 with
  |lst ys =>
   have hi:(if d1.dJ&&ys.all D.dJ then some (ys.any fun y=>D.eqs y d1) else none)=some c:=hi;by_cases hc:(d1.dJ&&ys.all D.dJ)=true
   ·rw[if_pos hc] at hi;cases hi;rw[ag] at hc;obtain⟨p,vs,g,rfl,rfl,a1,a2⟩:=r2.lst_inv;refine jG pins s σ H _ _ v u Q I rx ry ⟨p,vs,rfl,.inl (.inl a1),iB r1 hc.1,fM a2 hc.2,?_⟩;rw[lW r1 hc.1 a2 hc.2];exact fin
   ·rw[if_neg hc] at hi;cases hi
  |tup ys =>
   have hi:(if d1.dJ&&ys.all D.dJ then some (ys.any fun y=>D.eqs y d1) else none)=some c:=hi;by_cases hc:(d1.dJ&&ys.all D.dJ)=true
   ·rw[if_pos hc] at hi;cases hi;rw[ag] at hc;obtain⟨p,vs,rfl,a1,a2⟩:=r2.tup_inv;refine jG pins s σ H _ _ v u Q I rx ry ⟨p,vs,rfl,.inr a1,iB r1 hc.1,fM a2 hc.2,?_⟩;rw[lW r1 hc.1 a2 hc.2];exact fin
   ·rw[if_neg hc] at hi;cases hi
  |str z =>
   cases d1 with
   |str w =>
    cases hi;obtain⟨rfl,rfl⟩:=r1.str_inv;obtain⟨rfl,rfl⟩:=r2.str_inv;exact oC pins s σ H _ _ v u Q I rx ry ⟨w,z,rfl,rfl,fin⟩
   |_=>cases hi
  |mpi ks=>exact (iN (by omega) I r1 r2 rx ry rfl hi).2 fun s' I'=>⟨.bl _,H,I',rfl,fin⟩
  |dct kvs=>exact (xw hx.2 I r1 r2 rx ry hi).2 fun s' I'=>⟨.bl _,H,I',rfl,fin⟩
  |mpt ks=>exact (iN (by omega) I r1 r2 rx ry rfl hi).2 fun s' I'=>⟨.bl _,H,I',rfl,fin⟩
  |mpz ks=>exact (iN (by omega) I r1 r2 rx ry rfl hi).2 fun s' I'=>⟨.bl _,H,I',rfl,fin⟩
  |_=>cases hi
theorem C1 (n:Nat)(i:Int):Pc.iZ n i=L2.iZ n i:=rfl
theorem Au (hx:uQ X.w X.K):Ey X (FJ X.K):=by
 intro value slice pins s σ H x y v u Q I rx ry h hs;obtain⟨d1,d2,d,G,rs,hd,k⟩:=h;obtain⟨G1,G2,r1,r2,rfl⟩:=rs.inv2;cases d2 with
 |int i =>
  obtain⟨rfl,rfl⟩:=r2.int_inv;rw[bh] at k;have seq:∀{xs:List D}{vs:List V}{g:List Addr},aG X.K H xs vs g->((iZ xs.length i).bind fun j=>xs[j]?)=some d->∃ w g',Cj vs i=some w/\Rep X.K H d w g'/\g'.Sublist g:=fun {xs vs g} r e=>by
   rw[ae] at e;obtain⟨j,e1,e2⟩:=e;obtain⟨w,g',a,b,c⟩:=r.get e2;refine⟨w,g',?_,b,c⟩;unfold Cj;rw[<-r.len,<-C1,e1];exact a
  cases d1 with
  |lst xs =>
   obtain⟨p,vs,g,rfl,rfl,a1,a2⟩:=r1.lst_inv;obtain⟨w,g',e1,e2,e3⟩:=seq a2 hd;exact zl value slice pins s σ H _ _ v u Q I rx ry ⟨p,vs,i,w,rfl,rfl,.inl a1,e1,k w g' e2 (e3.trans (List.sublist_cons_self _ _))⟩ hs
  |tup xs =>
   obtain⟨p,vs,rfl,a1,a2⟩:=r1.tup_inv;obtain⟨w,g',e1,e2,e3⟩:=seq a2 hd;exact DW value slice pins s σ H _ _ v u Q I rx ry ⟨p,vs,i,w,rfl,rfl,a1,e1,k w g' e2 e3⟩ hs
  |str z =>
   obtain⟨rfl,rfl⟩:=r1.str_inv;have hd:(if z.length<=lim then ((Pc.iZ z.cps.toList.length i).bind fun j=>z.cps.toList[j]?).map (fun c=>D.str ⟨#[c]⟩) else none)=some d:=hd;by_cases hl:z.length<=lim
   ·rw[if_pos hl,aa] at hd;obtain⟨c,hc,rfl⟩:=hd;exact Em value slice pins s σ H _ _ v u Q I rx ry ⟨z,i,c,rfl,rfl,eO hl,hc,k _ [] (.str _) (g7 _)⟩ hs
   ·rw[if_neg hl] at hd;cases hd
  |dct kvs =>
   cases r1 with
   |dct hp =>
    have hd:(qy kvs (Sum.inl i)).map ET=some d:=hd;rw[aa] at hd;obtain⟨z,hz,rfl⟩:=hd;cases rx;obtain⟨t,rfl⟩:=ry;obtain⟨vs,dd,p3,_⟩:=rq hx I hp;obtain⟨u',ru,hu⟩:=(p3 (.inl i)).1 z hz;have fin:EP X pins σ Q u' { s with toks:=s.toks+1 }:=⟨vV z,H,I.tok _,ru,k _ [] (ub z) (g7 _)⟩;exact subscriptTail_builtinR (x:=u') dd.mapOf.typeIs slot_dict_getitem.lookup (wpAny_getItem_of (Q:=fun r s'=>r=u'/\EP X pins σ Q r s') (eB X.prog X.w i t) dd.mapOf hu ⟨rfl,fin⟩) hs
  |mpi ks =>
   cases r1 with
   |@mpi p _ xs hr kr =>
    have hd:(ks.find? fun q=>decide (q.1=i)).map (fun q=>GX q.2)=some d:=hd;rw[aa] at hd;obtain⟨e,he,rfl⟩:=hd;obtain⟨v',hv',mr⟩:=kr.val i he;cases rx;obtain⟨t,rfl⟩:=ry;obtain⟨z,lo,vs,rel,dd⟩:=j9 I.hok (.inl hr);obtain⟨u',hu,ru⟩:∃ u',valueAt vs (.inl i)=some u'/\RelV v' u':=by
     have:=rel.val (.inl i);rw[hv'] at this;cases q:valueAt vs (.inl i) with
     |none=>rw[q] at this;exact this.elim
     |some u'=>rw[q] at this;exact⟨u',rfl,this⟩
    have fin:EP X pins σ Q u' { s with toks:=s.toks+1 }:=⟨v',H,I.tok _,ru,k _ [] mr.rep (g7 _)⟩;exact subscriptTail_builtinR (x:=u') dd.mapOf.typeIs slot_dict_getitem.lookup (wpAny_getItem_of (Q:=fun r s'=>r=u'/\EP X pins σ Q r s') (eB X.prog X.w i t) dd.mapOf hu ⟨rfl,fin⟩) hs
  |mpz ks =>
   cases r1 with
   |@mpz p _ xs ob hr kr =>
    have hd:(ks.find? fun q=>decide (q.1=i)).map (fun q=>GX q.2)=some d:=hd;rw[aa] at hd;obtain⟨e,he,rfl⟩:=hd;obtain⟨v',hv',mr⟩:=kr.val i he;cases rx;obtain⟨t,rfl⟩:=ry;obtain⟨z,lo,vs,rel,dd⟩:=j9 I.hok (.inr ⟨_,hr⟩);obtain⟨u',hu,ru⟩:∃ u',valueAt vs (.inl i)=some u'/\RelV v' u':=by
     have:=rel.val (.inl i);rw[hv'] at this;cases q:valueAt vs (.inl i) with
     |none=>rw[q] at this;exact this.elim
     |some u'=>rw[q] at this;exact⟨u',rfl,this⟩
    have fin:EP X pins σ Q u' { s with toks:=s.toks+1 }:=⟨v',H,I.tok _,ru,k _ [] mr.rep (g7 _)⟩;exact subscriptTail_builtinR (x:=u') dd.mapOf.typeIs slot_dict_getitem.lookup (wpAny_getItem_of (Q:=fun r s'=>r=u'/\EP X pins σ Q r s') (eB X.prog X.w i t) dd.mapOf hu ⟨rfl,fin⟩) hs
  |_=>cases hd
 |str i =>
  obtain⟨rfl,rfl⟩:=r2.str_inv;rw[bh] at k;cases d1 with
  |dct kvs =>
   cases r1 with
   |dct hp =>
    have hd:(qy kvs (Sum.inr i)).map ET=some d:=hd;rw[aa] at hd;obtain⟨z,hz,rfl⟩:=hd;cases rx;obtain⟨t,rfl⟩:=ry;obtain⟨vs,dd,p3,_⟩:=rq hx I hp;obtain⟨u',ru,hu⟩:=(p3 (.inr i)).1 z hz;have fin:EP X pins σ Q u' { s with toks:=s.toks+1 }:=⟨vV z,H,I.tok _,ru,k _ [] (ub z) (g7 _)⟩;exact subscriptTail_builtinR (x:=u') dd.mapOf.typeIs slot_dict_getitem.lookup (wpAny_getItem_of (Q:=fun r s'=>r=u'/\EP X pins σ Q r s') (dA X.prog X.w i t) dd.mapOf hu ⟨rfl,fin⟩) hs
  |_=>cases hd
 |_=>cases d1<;>cases hd
end
section
variable {X:Cx}{T:Tb}{a b c:Expr}{ca cb cc:Ex}{pos:Pos}
theorem DN {i:Nat}{x:Str}(hN:X.N[i]? = some x)(hv:Bx X.env.scope x)(hd:(x==("__debug__" : Str))=false) (hcd:(x==("__classdict__" : Str))=false):PE X (.Name x pos) (tE X.K T (.var i)):=by
 refine bE (qI hN hv hd hcd) fun σ H Q ⟨P,env,F,re,p,hev,k⟩=>?_
 unfold ev at hev;cases hs:env[i]? with
 |none=>rw[hs] at hev;cases hev
 |some o =>
  cases o with
  |none=>rw[hs] at hev;cases hev
  |some q =>
   obtain⟨d,t⟩:=q;rw[hs] at hev;simp only[Rs.ok.injEq] at hev;subst hev;obtain⟨v,e1,rp⟩:=re.val i d t hs;refine⟨v,e1,k v H (F i) (aI.refl _) rp ?_⟩;cases hf:d.flat with
   |true =>
    rw[rp.flat hf];exact bK.nil
   |false =>
    simp only[Bool.false_eq_true,if_false];have ow:bA t=true->bK env F H (.mv [i]) H (F i):=fun o=>by
     obtain⟨n1,n2,n3⟩:=re.one i d t hs o;refine⟨fun a ha=>.inr ⟨i,d,t,ha,hs,fun q hq=>by cases t<;>simp_all [aX,bA,Rt.roots]⟩,fun R e=>?_⟩;cases e;exact⟨n1,n2,fun a ha=>.inr ⟨i,d,t,by simp,ha,hs,o⟩⟩
    cases t with
    |own=>exact ow rfl
    |lk=>exact ow rfl
    |sh R=>exact⟨fun a ha=>.inr ⟨i,d,.sh R,ha,hs,fun q hq=>hq⟩,fun R' e=>by cases e⟩
theorem gW {e:Expr}{d:D}{v:V}(h:PE X e (tC v))(hr:∀ H,Rep X.K H d v []):PE X e (tE X.K T (.cst d)):=by
 refine bE h fun σ H Q ⟨P,env,F,re,p,hev,k⟩=>?_
 unfold ev at hev;cases hev;exact k v H [] (aI.refl _) (hr H) bK.nil
theorem BN {e:Expr}{i:Nat}{v:V}(h:PE X e (tC v))(hr:∀ H,Rep X.K H (T.gl i) v []):PE X e (tE X.K T (.glb i)):=by
 refine bE h fun σ H Q ⟨P,env,F,re,p,hev,k⟩=>?_
 unfold ev at hev;cases hev;exact k v H [] (aI.refl _) (hr H) bK.nil
theorem Cm (ha:PE X a (tE X.K T ca)):PE X (.UnaryOp .USub a pos) (tE X.K T (.neg ca)):=by
 refine bE (Fe Er ha) fun σ H Q ⟨P,env,F,re,p,hev,k⟩=>?_
 unfold ev at hev;obtain⟨q,h1,hev⟩:=Rs.bind_ok hev;refine⟨P,env,F,re,q,h1,fun v H1 G s rp rt=>?_⟩;cases hq:q.1 with
 |int i =>
  rw[hq] at hev rp;cases hev;obtain⟨rfl,rfl⟩:=rp.int_inv;exact⟨i,rfl,k _ H1 [] s (.int _) bK.nil⟩
 |_=>rw[hq] at hev;cases hev
theorem DV {op:CmpOp}(hu:X.A.units+40<cLine/\uQ X.w X.K)(ha:PE X a (tE X.K T ca))(hb:PE X b (tE X.K T cb))(hm:behindInMarks op b=false):PT X (.Compare a [op] [b] pos) (mo X.K T (.cmp op ca cb)):=by
 refine rz (sA (ur op hu) ha hb hm) fun σ H Q ⟨P,env,F,re,p0,bb,hev,ht,k⟩=>?_
 unfold ev at hev;obtain⟨p,h1,hev⟩:=Rs.bind_ok hev;obtain⟨q,h2,hev⟩:=Rs.bind_ok hev;obtain⟨d,h3,hev⟩:=Rs.bind_ok hev;have h3:=cO h3;cases hev;obtain rfl:d=bb:=cw ht;refine two re h1 h2 fun x y H2 G ar=>⟨p.1,q.1,.bl d,G,ar.reps,by simp[h3],fun v H' G' rp nv=>?_⟩
 obtain⟨rfl,_⟩:=rp.bl_inv;exact⟨d,rfl,k H' (ar.same.trans nv.same)⟩
variable {rest:List Expr}
theorem DT (ha:PE X a (tE X.K T ca))(hb:PE X (.BoolOp .And (b::rest) pos) (tE X.K T cb)):PE X (.BoolOp .And (a::b::rest) pos) (tE X.K T (.and ca cb)):=by
 refine bE (Cz ha hb) fun σ H Q ⟨P,env,F,re,p,hev,k⟩=>?_
 unfold ev at hev;obtain⟨q,h1,hev⟩:=Rs.bind_ok hev;refine⟨P,env,F,re,q,h1,fun v H1 G s rp rt=>?_⟩;cases hq:q.1 with
 |bl kb =>
  rw[hq] at hev rp;obtain⟨rfl,rfl⟩:=rp.bl_inv;cases kb with
  |true=>exact⟨true,rfl,by rw[if_pos rfl];exact⟨P,env,F,re.same s,p,hev,fun v H' G s' rp' rt'=>k v H' G (s.trans s') rp' (rt'.back s)⟩⟩
  |false =>
   cases hev;exact⟨false,rfl,by rw[if_neg ao];exact k _ H1 [] s (.bl _) bK.nil⟩
 |_=>rw[hq] at hev;cases hev
theorem GG (ha:PE X a (tE X.K T ca))(hb:PE X (.BoolOp .Or (b::rest) pos) (tE X.K T cb)):PE X (.BoolOp .Or (a::b::rest) pos) (tE X.K T (.or ca cb)):=by
 refine bE (GP ha hb) fun σ H Q ⟨P,env,F,re,p,hev,k⟩=>?_
 unfold ev at hev;obtain⟨q,h1,hev⟩:=Rs.bind_ok hev;refine⟨P,env,F,re,q,h1,fun v H1 G s rp rt=>?_⟩;cases hq:q.1 with
 |bl kb =>
  rw[hq] at hev rp;obtain⟨rfl,rfl⟩:=rp.bl_inv;cases kb with
  |false=>exact⟨false,rfl,by rw[if_neg ao];exact⟨P,env,F,re.same s,p,hev,fun v H' G s' rp' rt'=>k v H' G (s.trans s') rp' (rt'.back s)⟩⟩
  |true =>
   cases hev;exact⟨true,rfl,by rw[if_pos rfl];exact k _ H1 [] s (.bl _) bK.nil⟩
 |_=>rw[hq] at hev;cases hev
theorem Eo (ha:PE X a (tE X.K T ca)):PE X (.UnaryOp .Not a pos) (tE X.K T (.not ca)):=by
 refine bE (xB ha) fun σ H Q ⟨P,env,F,re,p,hev,k⟩=>?_
 unfold ev at hev;obtain⟨q,h1,hev⟩:=Rs.bind_ok hev;refine⟨P,env,F,re,q,h1,fun v H1 G s rp rt=>?_⟩;cases hq:q.1 with
 |bl kb =>
  rw[hq] at hev rp;obtain⟨rfl,rfl⟩:=rp.bl_inv;cases hev;exact⟨kb,rfl,k _ H1 [] s (.bl _) bK.nil⟩
 |_=>rw[hq] at hev;cases hev
theorem Dn (ha:PT X a (mo X.K T ca))(hb:PW X (.BoolOp .And (b::rest) pos) (mo X.K T cb)):PW X (.BoolOp .And (a::b::rest) pos) (mo X.K T (.and ca cb)):=by
 intro wh pins s σ H Q I h;refine CN ha hb wh pins s σ H Q I ?_;obtain⟨P,env,F,re,p,bb,hev,ht,k⟩:=h;unfold ev at hev;obtain⟨q,h1,hev⟩:=Rs.bind_ok hev;cases hq:q.1 with
 |bl kb =>
  rw[hq] at hev;cases kb with
  |true=>exact⟨P,env,F,re,q,true,h1,by rw[hq];rfl,fun H' s=>by show if true=true then _ else _;rw[if_pos rfl];exact⟨P,env,F,re.same s,p,bb,hev,ht,fun H2 s2=>k H2 (s.trans s2)⟩⟩
  |false =>
   cases hev;cases ht;exact⟨P,env,F,re,q,false,h1,by rw[hq];rfl,fun H' s=>by show if false=true then _ else _;rw[if_neg ao];exact k H' s⟩
 |_=>rw[hq] at hev;cases hev
theorem Fk (ha:PT X a (mo X.K T ca))(hb:PW X (.BoolOp .Or (b::rest) pos) (mo X.K T cb)):PW X (.BoolOp .Or (a::b::rest) pos) (mo X.K T (.or ca cb)):=by
 intro wh pins s σ H Q I h;refine Bh ha hb wh pins s σ H Q I ?_;obtain⟨P,env,F,re,p,bb,hev,ht,k⟩:=h;unfold ev at hev;obtain⟨q,h1,hev⟩:=Rs.bind_ok hev;cases hq:q.1 with
 |bl kb =>
  rw[hq] at hev;cases kb with
  |false=>exact⟨P,env,F,re,q,false,h1,by rw[hq];rfl,fun H' s=>by show if false=true then _ else _;rw[if_neg ao];exact⟨P,env,F,re.same s,p,bb,hev,ht,fun H2 s2=>k H2 (s.trans s2)⟩⟩
  |true =>
   cases hev;cases ht;exact⟨P,env,F,re,q,true,h1,by rw[hq];rfl,fun H' s=>by show if true=true then _ else _;rw[if_pos rfl];exact k H' s⟩
 |_=>rw[hq] at hev;cases hev
theorem Dg (ha:PT X a (mo X.K T ca)):PT X (.UnaryOp .Not a pos) (mo X.K T (.not ca)):=by
 refine rz (qM ha) fun σ H Q ⟨P,env,F,re,p,bb,hev,ht,k⟩=>?_
 unfold ev at hev;obtain⟨q,h1,hev⟩:=Rs.bind_ok hev;cases hq:q.1 with
 |bl kb =>
  rw[hq] at hev;cases hev;cases ht;exact⟨P,env,F,re,q,kb,h1,by rw[hq];rfl,fun H' s=>k H' s⟩
 |_=>rw[hq] at hev;cases hev
theorem yW {K:Frag}{H:Hp}{d:D}{v:V}{G:List Addr}{b:Bool}(rp:Rep K H d v G)(h:truth d=some b):Cu K v H b:=by
 cases rp with
 |dct _=>cases h
 |mpi _=>cases h
 |mpt _=>cases h
 |mpz _=>cases h
 |non=>cases h;rfl
 |bl c=>cases h;rfl
 |int i=>cases h;rfl
 |str z =>
  simp only[truth] at h;by_cases hl:z.length<=lim
  ·rw[if_pos hl] at h;cases h;exact⟨eO hl,rfl⟩
  ·rw[if_neg hl] at h;cases h
 |lst a r =>
  rename_i vs ds g;cases h;refine .inl ⟨vs,.inl a,?_⟩;have:=r.len;cases ds<;>cases vs<;>simp_all
 |tup a r =>
  rename_i vs ds;cases h;refine .inr (.inl ⟨vs,a.sq,?_⟩);have:=r.len;cases ds<;>cases vs<;>simp_all
theorem bZ {e:Expr}(h:PE X e (tE X.K T ca))(he:∀ whole,isTrue e X.env whole=(do let v <- whole;standAt e.pos;holding [v] (truthy v))):PT X e (mo X.K T ca):=by
 refine rz (xx h he) fun σ H Q ⟨P,env,F,re,p,bb,hev,ht,k⟩=>?_
 exact⟨P,env,F,re,p,hev,fun v H' G s rp rt=>⟨bb,yW rp ht,k H' s⟩⟩
theorem B3 (hc:PT X c (mo X.K T cc))(ha:PE X a (tE X.K T ca))(hb:PE X b (tE X.K T cb)):PE X (.IfExp c a b pos) (tE X.K T (.ite cc ca cb)):=by
 refine bE (pq hc ha hb) fun σ H Q ⟨P,env,F,re,p,hev,k⟩=>?_
 unfold ev at hev;obtain⟨q,h1,hev⟩:=Rs.bind_ok hev;obtain⟨kb,h2,hev⟩:=Rs.bind_ok hev;refine⟨P,env,F,re,q,kb,h1,cO h2,fun H' s=>?_⟩;cases kb with
 |true=>rw[if_pos rfl];exact⟨P,env,F,re.same s,p,hev,fun v H2 G s' rp' rt'=>k v H2 G (s.trans s') rp' (rt'.back s)⟩
 |false=>rw[if_neg ao];exact⟨P,env,F,re.same s,p,hev,fun v H2 G s' rp' rt'=>k v H2 G (s.trans s') rp' (rt'.back s)⟩
variable {es:List Expr}{cs:my}
theorem Eh:PA X [] (uC X.K T .nil):=by
 refine yB aW fun σ H Q ⟨P,env,F,re,l,hev,k⟩=>?_
 unfold aV at hev;cases hev;exact k [] H [] (.nil (aI.refl _))
theorem yU (ha:PE X a (tE X.K T ca))(hr:PA X es (uC X.K T cs))(hs:starEach (a::es) X.env=(false,eval a X.env)::starEach es X.env):PA X (a::es) (uC X.K T (.cons ca cs)):=by
 refine yB (aK ha hr hs) fun σ H Q ⟨P,env,F,re,l,hev,k⟩=>?_
 unfold aV at hev;obtain⟨p,h1,hev⟩:=Rs.bind_ok hev;obtain⟨q,h2,hev⟩:=Rs.bind_ok hev;cases hev;exact⟨P,env,F,re,p,h1,fun v H1 G s rp rt=>⟨P,env,F,re.same s,q,h2,fun vs H2 G' ar=>k (v::vs) H2 _ (.cons s rp rt ar)⟩⟩
theorem bK.addNew {env:En}{F:Nat->List Addr}{H H1:Hp}{r:Rt}{G:List Addr}{p:Addr}{vs:List V}(h:bK env F H r H1 G)(e:aI H H1)(hp:H1 p=none)(hl:∀ a∈G,H1 a≠none):bK env F H r (upd H1 p (.lst vs)) (p::G) where
 cont:=fun a ha=>by
  rcases g9.mp ha with rfl | ha
  ·exact .inl (aI.no e hp)
  ·exact h.cont a ha
 mv:=fun R hr=>by
  obtain⟨a,b,c⟩:=h.mv R hr;refine⟨List.nodup_cons.mpr ⟨fun z=>hl p z hp,a⟩,fun x hx=>?_,fun x hx=>?_⟩
  ·rcases g9.mp hx with rfl | hx
   ·exact⟨.l _,aL⟩
   ·obtain⟨ws,q⟩:=b x hx;exact⟨ws,aI.new hp _ _ q⟩
  ·rcases g9.mp hx with rfl | hx
   ·exact .inl (aI.no e hp)
   ·exact c x hx
theorem BV (h:PA X es (uC X.K T cs)):PE X (.List es pos) (tE X.K T (.lst cs)):=by
 refine bE (qH h) fun σ H Q ⟨P,env,F,re,p,hev,k⟩=>?_
 unfold ev at hev;obtain⟨l,h1,hev⟩:=Rs.bind_ok hev;by_cases hl:l.length<=lim
 ·rw[if_pos hl] at hev;cases hev;refine⟨P,env,F,re,l,h1,fun vs H1 G ar=>?_⟩;have rs:=ar.reps;have hlen:=rs.len;rw[av] at hlen;refine⟨by rw[<-hlen];exact eO hl,fun q hq=>?_⟩;have e:=aI.new (o:=.lst vs) hq;exact k _ _ (q::G) (ar.same.trans e) (.lst (.inl aL) (rs.same e)) ((ar.comb re).addNew ar.same hq fun a ha=>rs.nn ha)
 ·rw[if_neg hl] at hev;cases hev
theorem Ek {x1:Nat}(h:PA X es (uC X.K T cs)):PE X (.Tuple es x1 pos) (tE X.K T (.tup cs)):=by
 refine bE (oo h) fun σ H Q ⟨P,env,F,re,p,hev,k⟩=>?_
 unfold ev at hev;obtain⟨l,h1,hev⟩:=Rs.bind_ok hev;by_cases hl:l.length<=lim
 ·rw[if_pos hl] at hev;cases hev;refine⟨P,env,F,re,l,h1,fun vs H1 G ar=>?_⟩;have rs:=ar.reps;have hlen:=rs.len;rw[av] at hlen;refine⟨by rw[<-hlen];exact eO hl,fun q hq=>?_⟩;have e:=aI.new (o:=.tup vs) hq;exact k _ _ G (ar.same.trans e) (.tup (.inl aL) (rs.same e)) ((ar.comb re).later e)
 ·rw[if_neg hl] at hev;cases hev
def uE (K:Frag)(n:Nat)(f:List D->Rs (D×Bool)):Sp:=fun vs H Q E=>∃ ds G,ds.length=n/\aG K H ds vs G/\∃ r,f ds = .ok r/\∀ v H' G',aI H H'->Rep K H' r.1 v G'->(∀ a∈G',H a=none\/a∈G)->(r.2=true->G'.Nodup/\∀ a∈G',H a=none/\∃ vs:ML,H' a=some vs.o)->Q v H'
theorem iI {K:Frag}{n:Nat}{f:List D->Rs (D×Bool)}{vs:List V}{H:Hp}{Q:VK}{E:XK}(h:uE K n f vs H Q E):vs.length=n:=by
 obtain⟨ds,G,h1,h2,_⟩:=h;rw[<-h1,h2.len]
theorem nQ {f:Nat}{n:Nat}{σ:L2.St}{H:Hp}{Q:VK}(hn:∀ ds r,T.cl f ds = .ok r->ds.length=n)(h:tE X.K T (.call f cs) σ H Q):xb (uE X.K n (T.cl f)) [] E0 (uC X.K T cs) σ H Q:=by
 obtain⟨P,env,F,re,p,hev,k⟩:=h;unfold ev at hev;obtain⟨l,h1,hev⟩:=Rs.bind_ok hev;obtain⟨r,h2,hev⟩:=Rs.bind_ok hev;cases hev;refine⟨P,env,F,re,l,h1,fun vs H1 G ar=>?_⟩;show uE X.K n (T.cl f) (vs ++ []) H1 Q E0;rw[bh];refine⟨l.map (·.1),G,hn _ _ h2,ar.reps,r,h2,fun v H' G' s rp sub fr=>k v H' G' (ar.same.trans s) rp ?_⟩;cases hr:r.2 with
 |true =>
  obtain⟨a,b⟩:=fr hr;have c:∀ x∈G',H x=none:=fun x hx=>aI.no ar.same (b x hx).1
  exact⟨fun x hx=>.inl (c x hx),fun R e=>⟨a,fun x hx=>(b x hx).2,fun x hx=>.inl (c x hx)⟩⟩
 |false =>
  refine⟨fun x hx=>?_,fun R e=>by cases e⟩;rcases sub x hx with q | q
  ·exact .inl (aI.no ar.same q)
  ·exact ar.cont x q
end
def nZ (K:Frag)(b:Bt):List V->Hp->VK->Prop:=fun xs H Q=>∃ ds d G,aG K H ds xs G/\fQ b ds=some d/\∀ v H' G',Rep K H' d v G'->eU H H' G d G'->Q v H'
section
variable {X:Cx}{T:Tb}
theorem pK {b:Bt}{cs:my}{σ:L2.St}{H:Hp}{Q:VK}(h:tE X.K T (.blt b cs) σ H Q):DG (nZ X.K b) (uC X.K T cs) σ H Q:=by
 obtain⟨P,env,F,re,p,hev,k⟩:=h;unfold ev at hev;obtain⟨l,h1,hev⟩:=Rs.bind_ok hev;obtain⟨d,h2,hev⟩:=Rs.bind_ok hev;cases hev;exact⟨P,env,F,re,l,h1,fun vs H1 G ar=>⟨l.map (·.1),d,G,ar.reps,cO h2,fun v H' G' rp nv=>k v H' G' (ar.same.trans nv.same) rp (bK.new ar nv fun _ z=>z)⟩⟩
theorem aG.of1 {K:Frag}{H:Hp}{d:D}{xs:List V}{G:List Addr}(h:aG K H [d] xs G):∃ x,xs=[x]/\Rep K H d x G:=by
 cases h with
 |cons r s=>cases s;exact⟨_,rfl,by rw[bh];exact r⟩
theorem aG.of2 {K:Frag}{H:Hp}{d e:D}{xs:List V}{G:List Addr}(h:aG K H [d,e] xs G):∃ x y G1 G2,xs=[x,y]/\Rep K H d x G1/\Rep K H e y G2:=by
 cases h with
 |cons r s =>
  cases s with
  |cons r' s'=>cases s';exact⟨_,_,_,_,rfl,r,r'⟩
theorem DS {prog:Program}{w:World}(d:Addr)(hd:(d==sysModules)=false):MeetsIn prog w (Builtin.«dict.__len__» ⟨[.ref d],[]⟩) (fun _ R s=>∃ o es ep,s.heap.get? d=some o/\o.ExactDict/\o.data = .dict es ep/\R (.ok (.ret (.int es.size s.toks))) { s with toks:=s.toks+1 }):=by
 intro A R s h;obtain⟨o,es,ep,h1,h2,h3,h⟩:=h;unfold Builtin.«dict.__len__»
 wp_walk
 rw[h3];unfold Builtin.Dict.pendingCount;rw[hd]
 wp_walk
 simpa using h
theorem vm:dY X (.builtin "len") (nZ X.K .len):=by
 intro pins s σ H xs us Q I r h;obtain⟨ds,d,G,rs,hd,k⟩:=h
 match ds,hd with
 |[.lst ys],hd =>
  cases hd;obtain⟨x,rfl,rp⟩:=rs.of1;obtain⟨p,vs,g,rfl,rfl,a1,a2⟩:=rp.lst_inv;exact fX pins s σ H _ us Q I r ⟨p,vs,rfl,.inl (.inl a1),by rw[<-a2.len];exact k _ H [] (.int _) eU.nil⟩
 |[.tup ys],hd =>
  cases hd;obtain⟨x,rfl,rp⟩:=rs.of1;obtain⟨p,vs,rfl,a1,a2⟩:=rp.tup_inv;exact fX pins s σ H _ us Q I r ⟨p,vs,rfl,.inr a1,by rw[<-a2.len];exact k _ H [] (.int _) eU.nil⟩
 |[.str z],hd =>
  have hd:(if z.length<=lim then some (D.int (z.length:Int)) else none)=some d:=hd;by_cases hl:z.length<=lim
  ·rw[if_pos hl] at hd;cases hd;obtain⟨x,rfl,rp⟩:=rs.of1;obtain⟨rfl,rfl⟩:=rp.str_inv;exact oS pins s σ H _ us Q I r ⟨z,rfl,eO hl,k _ H [] (.int _) eU.nil⟩
  ·rw[if_neg hl] at hd;cases hd
 |[.mpt ks],hd =>
  cases hd;obtain⟨x,rfl,rp⟩:=rs.of1;obtain⟨u,rfl,rx⟩:=r.one;cases rp with
  |@mpt p _ hr =>
   obtain rfl:u = .ref p:=rx;obtain⟨z,lo,xs,rel,dd⟩:=sC I.hok hr;have hty:=dd.typeIs;obtain⟨o,es,ep,h1,h2,h3,h4,_,_⟩:=dd;have hl:ks.length=es.size:=by
    have e1:=Paired.length rel;have e2:=gc List.length h4;unfold Ar at e1;rw[av] at e1 e2;rw[e1,<-e2,df]
   have hz:ks.length<=sizeLine:=by
    unfold Ar at z
    rwa [av] at z
   rw[sizeLine_eq] at hz;refine call_len_slot (n:=(ks.length:Int)) hty PySem.F.slot_dict_len (fun Q' hQ'=>call_meetsIn PySem.F.slot_dict_len hty PySem.F.entry_dict_len (PySem.F.args_dict_len_1 _) (DS p lo) ⟨o,es,ep,h1,h2,h3,?_⟩) (by omega) (by omega) ⟨.int _,H,(I.tok _).tok _,⟨_,rfl⟩,k _ H [] (.int _) eU.nil⟩;rw[<-hl];exact hQ'
theorem qr {pins:List (Addr×Obj)}{s:Shared}{σ:L2.St}{H:Hp}{xs:List V}{us:List Value}{Q:VK}(I:Inv X pins σ H s)(r:aN xs us){ds:List D}{d:D}{G:List Addr}(rs:aG X.K H ds xs G)(hd:fQ .list ds=some d)(k:∀ v H' G',Rep X.K H' d v G'->eU H H' G d G'->Q v H')(hn:∀ ks,ds≠[.mpi ks]):wpAny (model X.prog X.w) X.A (call (.type "list") us) (EP X pins σ Q) X.xe s:=by
 match ds,hd with
 |[.mpi ks],hd=>exact absurd rfl (hn ks)
 |[.lst ys],hd =>
  cases hd;obtain⟨x,rfl,rp⟩:=rs.of1;obtain⟨p,vs,g,rfl,rfl,a1,a2⟩:=rp.lst_inv;refine jl pins s σ H _ us Q I r ⟨p,vs,rfl,.inl (.inl a1),fun l hl=>?_⟩;obtain⟨n1,n2⟩:=j6 (G0:=p::g) a2 (fun a ha=>ah _ ha) hl;exact k _ _ _ n1 n2
 |[.tup ys],hd =>
  cases hd;obtain⟨x,rfl,rp⟩:=rs.of1;obtain⟨p,vs,rfl,a1,a2⟩:=rp.tup_inv;refine jl pins s σ H _ us Q I r ⟨p,vs,rfl,.inr a1,fun l hl=>?_⟩;obtain⟨n1,n2⟩:=j6 (G0:=G) a2 (fun a ha=>ha) hl;exact k _ _ _ n1 n2
end
def lN (K:Frag)(P:Addr->Prop)(H0:Hp)(J:It)(ds:List D)(G:List Addr):Prop:=∀ H,jH P H0 H->(∀(i:Nat) (d:D),ds[i]? = some d->J.go i H/\∀ x H',J.yld i H x H'->aI H H'/\∃ G',Rep K H' d x G'/\∀ a∈G',a∈G)/\J.stop ds.length H
noncomputable def tI (K:Frag)(T:Tb)(it:vG):TI:=fun σ H R=>∃ P env F,RE K P env σ H F/\∃ p,iS T it env = .ok p/\∀ J H' G,aI H H'->bK env F H (.sh p.2) H' G->(∀ a∈G,H' a≠none)->(∀ P',(∀ a∈G,P' a)->lN K P' H' J p.1 G)->R J H'
theorem uS {K:Frag}{P:Addr->Prop}{H0:Hp}{p:Addr}{vs:List V}{ds:List D}{G:List Addr}(h1:Rd H0 p (.lst vs))(h2:aG K H0 ds vs G)(hp:∀ a∈p::G,P a):lN K P H0 (Itl K p) ds (p::G):=fun H e=>by
 have ep:=e.keep p (hp p au);have h1':Rd H p (.lst vs):=by
  rcases h1 with q | ⟨o,q⟩
  ·exact .inl (ep.trans q)
  ·exact .inr ⟨o,ep.trans q⟩
 have h2':=e.reps h2 fun a ha=>hp a (ah _ ha)
 refine⟨fun i d hd=>?_,⟨vs,.inl h1',by rw[h2.len];exact aw _⟩⟩;obtain⟨v,G',a,b,c⟩:=h2'.get hd;refine⟨⟨vs,v,.inl h1',a⟩,fun x H' ⟨e1,e2⟩=>?_⟩;subst e1;have:=e2 vs (.inl h1');rw[a] at this;cases this;exact⟨aI.refl _,G',b,fun z hz=>ah _ (c.subset hz)⟩
theorem wW {K:Frag}{P:Addr->Prop}{H0:Hp}{p:Addr}{vs:List V}{ds:List D}{G:List Addr}(h1:kq K H0 p vs)(h2:aG K H0 ds vs G)(hp:∀ a∈G,P a):lN K P H0 (Itt K p) ds G:=fun H e=>by
 have h1':=e.tqT h1;have h2':=e.reps h2 hp;refine⟨fun i d hd=>?_,⟨vs,h1'.sq,by rw[h2.len];exact aw _⟩⟩;obtain⟨v,G',a,b,c⟩:=h2'.get hd;refine⟨⟨vs,v,h1'.sq,a⟩,fun x H' ⟨e1,e2⟩=>?_⟩;subst e1;have:=e2 vs h1'.sq;rw[a] at this;cases this;exact⟨aI.refl _,G',b,fun z hz=>c.subset hz⟩
noncomputable def FP (xs:List V):It:=⟨fun i _=>i<xs.length,fun i H x H'=>H'=H/\xs[i]? = some x,fun i _=>xs.length<=i⟩
theorem mP {K:Frag}{P:Addr->Prop}{H0:Hp}{vs:List V}{ds:List D}(hr:∀ H,aG K H ds vs []):lN K P H0 (FP vs) ds []:=fun H e=>by
 have hl:=(hr H).len;refine⟨fun i d hd=>?_,by show vs.length<=ds.length;omega⟩;obtain⟨v,G',a,b,c⟩:=(hr H).get hd;refine⟨by show i<vs.length;rw[<-hl];exact (List.getElem?_eq_some_iff.mp hd).1,fun x H' ⟨e1,e2⟩=>?_⟩;subst e1;rw[a] at e2;cases e2;exact⟨aI.refl _,G',b,fun z hz=>c.subset hz⟩
theorem nJ {P:Program}{w:World}{K:Frag}{tg:Expr}{it:Addr}{xs:List V}{Pv:Nat->Value->Prop}{St:Nat->Heap->Prop}(W:∀ A:Around,A.handled=none->Walks P w A it [it] [it] xs.length Pv St)(hP:∀ i v,Pv i v->∃ x,xs[i]? = some x/\RelV x v)
  (ob:∀ i h,St i h->∃ o n vs,h.get? it=some o/\o.cls = .type n/\o.data = .fields vs/\["enumerate","zip","dict_itemiterator","dict_reverseitemiterator","odict_iterator","itertools.zip_longest","itertools.pairwise"].contains n=false)
  (fr:∀ i h h',St i h->(∀ o,h.get? it=some o->h'.get? it=some o)->St i h') (le:∀ i h,St i h->i<=xs.length) (slf:∀(A:Around) (i:Nat) (s:Shared) (Q E:Value->Shared->Prop),St i s.heap->Q (.ref it) s->wpAny (model P w) A (pyIter (.ref it)) Q E s):Turn P w K tg (FP xs) [it] it St where
 mem:=by simp
 obj:=fun i h st b hb=>by
  have e:b=it:=by simpa using hb
  subst e;obtain⟨o,n,vs,h1,h2,h3,_⟩:=ob i h st;exact⟨o,h1,fun v z=>by rw[h3] at z;cases z⟩
 keep:=fun i h h' st k=>fr i h h' st fun o e=>k it (by simp) o e
 item:=by
  intro X hp hw hK hc i pins s σ H E I hf st hg;subst hp hw hK;obtain⟨f0,f1,f2,f3,f4,f5⟩:=hf it (by simp);refine (W X.A (I.ok.hd hc)).item i s _ _ hg st fun v h' tk hv st' kk=>?_
  obtain⟨x,ex,rx⟩:=hP i v hv;have I1:Inv X pins σ H { s with heap:=h',toks:=tk }:=I.turned (fun b o hb e=>kk b o (by simpa using hb) e) f0 f1 f3 f4 f5;obtain⟨o,n,vs,h1,h2,h3,h4⟩:=ob (i+1) h' st';exact⟨v,rfl,sV (s:={ s with heap:=h',toks:=tk }) (n:=n) h1 h2 h3 h4 ⟨x,H,I1,rx,⟨rfl,ex⟩,st',fun b hb=>(hf b hb).1⟩⟩
 done:=by
  intro X hp hw hK hc i pins s σ H E I hf st hg;subst hp hw hK;obtain⟨f0,f1,f2,f3,f4,f5⟩:=hf it (by simp);have hi:i=xs.length:=Nat.le_antisymm (le i _ st) hg;subst hi;exact (W X.A (I.ok.hd hc)).done s _ _ st fun h' tk kk=>⟨rfl,I.turned (fun b o hb e=>kk b o (by simpa using hb) e) f0 f1 f3 f4 f5⟩
 self:=fun A i s Q E st h=>slf A i s Q E st h
noncomputable def fU (a c:Int)(n:Nat):List V:=(List.range n).map fun (i:Nat)=>.int (a+(i:Int)*c)
theorem lT (a c:Int)(n:Nat):(fU a c n).length=n:=by simp[fU]
theorem mn {K:Frag}{H:Hp}(c:Int):∀(n:Nat) (a:Int),aG K H (aZ a c n) (fU a c n) []
 |0,a=>.nil
 | n+1,a=>by
  have e:fU a c (n+1) = .int a::fU (a+c) c n:=by
   unfold fU;rw[i3,ay,gg];congr 1
   ·simp
   ·refine List.map_congr_left fun i _=>?_
    simp only[Function.comp_apply,V.int.injEq,Nat.succ_eq_add_one]
    push_cast
    rw[Int.add_mul];omega
  rw[e];show aG K H (.int a::aZ (a+c) c n) _ ([] ++ []);exact .cons (.int a) (mn c n (a+c))
theorem jy (a b c:Int)(hc:c≠0):0<=Builtin.Range.rangeSize a b c:=by
 unfold Builtin.Range.rangeSize;split
 ·rename_i h;split
  ·have:0<=(b - a - 1) / c:=Int.ediv_nonneg (by omega) (by omega);omega
  ·omega
 ·split
  ·have:0<=(a - b - 1) / (-c):=Int.ediv_nonneg (by omega) (by omega);omega
  ·omega
theorem qo {a b c:Int}(ha:gL a=true)(hb:gL b=true)(hc:c≠0)(hs:c.natAbs<1073741824):Builtin.Range.small a b c=true:=by
 unfold gL at ha hb;have ha:=dt ha;have hb:=dt hb;have hn:=jy a b c hc;have hu:Builtin.Range.rangeSize a b c<2 ^ 63:=by
  unfold Builtin.Range.rangeSize;split
  ·split
   ·have:=Int.ediv_le_self (b:=c) (a:=b - a - 1) (by omega);omega
   ·decide
  ·split
   ·have:=Int.ediv_le_self (b:=-c) (a:=a - b - 1) (by omega);omega
   ·decide
 unfold Builtin.Range.small;simp only[Builtin.Range.rangeFitsLong,Bool.and_eq_true,Bool.or_eq_true,decide_eq_true_eq,beq_iff_eq];refine⟨⟨⟨⟨⟨by omega,by omega⟩,by omega,by omega⟩,by omega,by omega⟩,by omega,hu⟩,.inr ?_⟩;split<;>simp only[Bool.and_eq_true,decide_eq_true_eq]<;>omega
section
variable {X:Cx}{tg:Expr}
theorem jK {pins:List (Addr×Obj)}{σ:L2.St}{H:Hp}{s:Shared}{R:It->Hp->Prop}{E:Value->Shared->Prop}{lo hi c:Int}{t u v:Tok}{tk:Nat}(I:Inv X pins σ H s)(h1:gL lo=true)(h2:gL hi=true)(h3:c≠0)(h4:c.natAbs<1073741824)
  (q:R (FP (fU lo c (Builtin.Range.rangeSize lo hi c).toNat)) H):wpAny (model X.prog X.w) X.A (pyIter (.ref s.heap.objs.size)) (C9 X pins σ tg R) E { s with heap:=s.heap.push { cls:=.type "range",data:=.fields #[.int lo t,.int hi u,.int c v] },toks:=tk }:=by
 refine wpAny_pyIter_range (IsRange.new ..) (qo h1 h2 h3 h4) ?_;have I1:Inv X pins σ H { s with heap:=s.heap.push { cls:=.type "range",data:=.fields #[.int lo t,.int hi u,.int c v] },toks:=tk }:=I.kept fun b o e=>Heap.get?_push_of_some _ e
 have hn:=jy lo hi c h3;let n:=(Builtin.Range.rangeSize lo hi c).toNat;refine⟨(s.heap.push { cls:=.type "range",data:=.fields #[.int lo t,.int hi u,.int c v] }).objs.size,[(s.heap.push { cls:=.type "range",data:=.fields #[.int lo t,.int hi u,.int c v] }).objs.size],
  (fun i h=>i<=n/\IsRangeIter h (s.heap.push { cls:=.type "range",data:=.fields #[.int lo t,.int hi u,.int c v] }).objs.size (lo+(i:Nat)*c) ((n:Int) - (i:Nat)) c),_,H,rfl,
  I1.kept (t':=tk) fun b o e=>Heap.get?_push_of_some _ e,nJ (Pv:=fun i v=>i<n/\∃ t,v = .int (lo+i*c) t) (fun A hA=>?_) (fun i v hv=>?_) (fun i h st=>?_) (fun i h h' st k=>⟨st.1,k _ st.2⟩) (fun i h st=>by rw[lT];exact st.1) (fun A i s Q E st h=>wpAny_pyIter_rangeiter st.2 h),?_,fun b hb=>?_,q⟩
 ·rw[lT];have W:=Walks.range (prog:=X.prog) (w:=X.w) hA (s.heap.push { cls:=.type "range",data:=.fields #[.int lo t,.int hi u,.int c v] }).objs.size lo c n;exact⟨W.sub,fun i h h' st k=>⟨st.1,W.frame i h h' st.2 k⟩,fun i s Q E hi st hQ=>W.item i s Q E hi st.2 fun v h' tk hv st' kk=>hQ v h' tk ⟨hi,hv⟩ ⟨hi,st'⟩ kk,fun s Q E st hQ=>W.done s Q E st.2 hQ,fun i s Q E st h=>W.self i s Q E st.2 h⟩
 ·obtain⟨hi',t',rfl⟩:=hv;exact⟨.int (lo+i*c),by unfold fU;rw[List.getElem?_map,List.getElem?_range hi'];rfl,t',rfl⟩
 ·exact⟨_,_,_,st.2,rfl,rfl,by decide⟩
 ·refine⟨en _,?_⟩;have e1:lo+((0:Nat):Int)*c=lo:=by simp
  have e2:((n:Nat):Int) - ((0:Nat):Int)=Builtin.Range.rangeSize lo hi c:=by omega
  rw[e1,e2];exact Heap.get?_push_size _ rfl
 ·have e:b=(s.heap.push { cls:=.type "range",data:=.fields #[.int lo t,.int hi u,.int c v] }).objs.size:=by simpa using hb
  subst e;exact I1.fpOk (aw _) (I1.hok.fresh (aw _))
end
section
variable {X:Cx}{tg:Expr}{T:Tb}{pins:List (Addr×Obj)}{σ:L2.St}{H:Hp}{s:Shared}{R:It->Hp->Prop}{E:Value->Shared->Prop}
theorem yV {a:Addr}{xs:List V}(I:Inv X pins σ H s)(hq:oJ X.K H a xs)(q:R (Itl X.K a) H):wpAny (model X.prog X.w) X.A (pyIter (.ref a)) (C9 X pins σ tg R) E s:=by
 obtain⟨its,rv,p,hz⟩:=I.list hq;refine wpAny_pyIter_list p.isList ?_;refine⟨s.heap.objs.size,[s.heap.objs.size],_,_,H,rfl,I.kept (t':=s.toks) fun b o e=>Heap.get?_push_of_some _ e,vB a _,⟨_,Heap.get?_push_size _ rfl,rfl,rfl⟩,fun b hb=>?_,q⟩;have e:b=s.heap.objs.size:=by simpa using hb
 subst e;exact I.fpOk (aw _) (I.hok.fresh (aw _))
theorem wO {a:Addr}{xs:List V}(I:Inv X pins σ H s)(hq:je X.K H a xs)(q:R (Itt X.K a) H):wpAny (model X.prog X.w) X.A (pyIter (.ref a)) (C9 X pins σ tg R) E s:=by
 obtain⟨its,rv,p,hz⟩:=I.tuple hq;refine wpAny_pyIter_tuple (show s.heap.IsTuple a its.toArray from p) ?_;refine⟨s.heap.objs.size,[s.heap.objs.size],_,_,H,rfl,I.kept (t':=s.toks) fun b o e=>Heap.get?_push_of_some _ e,rm a _,⟨_,Heap.get?_push_size _ rfl,rfl,rfl⟩,fun b hb=>?_,q⟩;have e:b=s.heap.objs.size:=by simpa using hb
 subst e;exact I.fpOk (aw _) (I.hok.fresh (aw _))
noncomputable def ItZ (d:Addr)(o:Obj)(xs:List (Key×V)):It:=⟨fun i H=>H d=some (.frz o (.dK xs))/\i<xs.length,fun i H x H'=>H'=H/\∃ kv,xs[i]? = some kv/\x=kV kv.1,fun i H=>H d=some (.frz o (.dK xs))/\xs.length<=i⟩
theorem uL {P:Program}{w:World}{K:Frag}{tg:Expr}{it d:Addr}{o:Obj}{xs:List (Key×V)}{vs:List (Key×Value)}{ep:Nat}(hne:d≠it)(rel:KV xs vs)(hat:∀ h:Heap,h.get? d=some o->h.DictAt (aO P w) d vs ep):Turn P w K tg (ItZ d o xs) [it] it (fun i h=>i<=vs.length/\h.IsKeyIter it d i vs.length ep) where
 mem:=by simp
 obj:=fun i h st b hb=>by
  have e:b=it:=by simpa using hb
  subst e;obtain⟨_,o',h1,h2,h3⟩:=st;exact⟨o',h1,fun v z=>by rw[h3] at z;cases z⟩
 keep:=fun i h h' st k=>⟨st.1,st.2.at fun o e=>k it (by simp) o e⟩
 item:=by
  intro X hp hw hK hc i pins s σ H E I hf st hg;subst hp hw hK;obtain⟨f0,f1,f2,f3,f4,f5⟩:=hf it (by simp);obtain⟨hz,hlt⟩:=hg;have ho:s.heap.get? d=some o:=(I.hok d _ hz).1;have hl:=rel.length;refine (Walks.dictKeys (I.ok.hd hc) it d hne vs ep).item i s _ _ (by omega) ⟨st.2,hat _ ho⟩ fun v h' tk hv st' kk=>?_
  obtain⟨k,x,hx,hk⟩:=hv;have I1:Inv X pins σ H { s with heap:=h',toks:=tk }:=I.turned (fun b o hb e=>kk b o (by simpa using hb) e) f0 f1 f3 f4 f5;obtain⟨oi,h1,h2,h3⟩:=st'.1;obtain⟨kv,e1⟩:∃ kv,xs[i]? = some kv:=⟨xs[i],List.getElem?_eq_getElem hlt⟩;have ek:kv.1=k:=by
   have:=gc (fun l:List Key=>l[i]?) rel.keys;simp only[List.getElem?_map,e1,hx,Option.map_some,Option.some.injEq] at this;exact this
  have rx:RelV (kV kv.1) v:=by
   rw[ek];rcases be (show km k v=true from hk) with ⟨i,t,rfl,rfl⟩ | ⟨x,t,rfl,rfl⟩
   ·exact⟨t,rfl⟩
   ·exact⟨t,rfl⟩
  exact⟨v,rfl,sV (s:={ s with heap:=h',toks:=tk }) (n:="dict_keyiterator") h1 h2 h3 (by decide) ⟨kV kv.1,H,I1,rx,⟨rfl,kv,e1,rfl⟩,⟨by omega,st'.1⟩,fun b hb=>(hf b hb).1⟩⟩
 done:=by
  intro X hp hw hK hc i pins s σ H E I hf st hg;subst hp hw hK;obtain⟨f0,f1,f2,f3,f4,f5⟩:=hf it (by simp);obtain⟨hz,hge⟩:=hg;have ho:s.heap.get? d=some o:=(I.hok d _ hz).1;have hl:=rel.length;have hi:i=vs.length:=by have:=st.1;omega
  subst hi;exact (Walks.dictKeys (I.ok.hd hc) it d hne vs ep).done s _ _ ⟨st.2,hat _ ho⟩ fun h' tk kk=>⟨rfl,I.turned (fun b o hb e=>kk b o (by simpa using hb) e) f0 f1 f3 f4 f5⟩
 self:=fun A i s Q E st h=>wpAny_pyIter_keyiter st.2 h
theorem zB {a:Addr}{o:Obj}{xs:List (Key×V)}(I:Inv X pins σ H s)(hq:H a=some (.frz o (.dK xs)))(q:R (ItZ a o xs) H):wpAny (model X.prog X.w) X.A (pyIter (.ref a)) (C9 X pins σ tg R) E s:=by
 have ho:s.heap.get? a=some o:=(I.hok a _ hq).1;obtain⟨z,lo,vs,rel,dd⟩:=j9 I.hok (.inr ⟨_,hq⟩);obtain⟨ep,o',es,h1,h2⟩:=dd.dictAt;rw[ho] at h1;cases h1;refine wpAny_pyIter_dict lo ⟨o,es,ho,h2⟩ ?_;refine⟨s.heap.objs.size,[s.heap.objs.size],_,_,H,rfl,I.kept (t':=s.toks) fun b o e=>Heap.get?_push_of_some _ e,uL (vs:=vs) (ep:=ep) (bq (Heap.lt_size ho)) rel (fun h e=>⟨o,es,e,h2⟩),⟨en _,⟨_,Heap.get?_push_size _ rfl,rfl,rfl⟩⟩,fun b hb=>?_,q⟩;have e:b=s.heap.objs.size:=by simpa using hb
 subst e;exact I.fpOk (aw _) (I.hok.fresh (aw _))
theorem vD {K:Frag}{P:Addr->Prop}{H0:Hp}{p:Addr}{o:Obj}{xs:List (Key×V)}{ks:List (Int×MV)}(h1:H0 p=some (.frz o (.dK xs)))(h2:iX K H0 ks xs):lN K P H0 (ItZ p o xs) (ks.map fun q=>.int q.1) []:=fun H e=>by
 have h1':=e.fz _ _ _ h1;have hl:=h2.len;refine⟨fun i d hd=>?_,⟨h1',by rw[av];omega⟩⟩;have hi:i<ks.length:=by have:=(List.getElem?_eq_some_iff.mp hd).1;rwa [av] at this
 refine⟨⟨h1',by omega⟩,fun x H' ⟨e1,kv,e2,e3⟩=>?_⟩;subst e1 e3;refine⟨aI.refl _,[],?_,fun a ha=>nomatch ha⟩;rw[List.getElem?_map] at hd;have key:∀{ks:List (Int×MV)}{xs:List (Key×V)}{i:Nat}{kv:Key×V}{q:Int×MV},iX K H0 ks xs->xs[i]? = some kv->ks[i]? = some q->kv.1 = .inl q.1:=by
  intro ks
  induction ks with
  |nil=>intro xs i kv q _ _ h;cases h
  |cons a r ih =>
   intro xs i kv q h e1 e2;cases xs with
   |nil=>cases e1
   |cons x xs =>
    cases i with
    |zero=>cases e1;cases e2;exact h.1
    |succ i=>exact ih h.2.2 e1 e2
 cases hq:ks[i]? with
 |none=>rw[hq] at hd;cases hd
 |some q =>
  rw[hq] at hd;cases hd;rw[key h2 e2 hq];exact .int q.1
noncomputable def oq (z:Str):List V:=z.cps.toList.map fun c=>.str ⟨#[c]⟩
theorem C6 {z:Str}{t:Tok}(I:Inv X pins σ H s)(q:R (FP (oq z)) H):wpAny (model X.prog X.w) X.A (pyIter (.str z t)) (C9 X pins σ tg R) E s:=by
 have hlen:(oq z).length=z.cps.size:=by simp[oq]
 have core:∀(nm:String) (hn:["enumerate","zip","dict_itemiterator","dict_reverseitemiterator","odict_iterator","itertools.zip_longest","itertools.pairwise"].contains nm=false)
   (W:∀ A:Around,A.handled=none->Walks X.prog X.w A s.heap.objs.size [s.heap.objs.size] [s.heap.objs.size] z.cps.size (SignAt z) (fun i h=>h.IsStrIter s.heap.objs.size nm z t i))
   (slf:∀(A:Around) (i:Nat) (s':Shared) (Q E:Value->Shared->Prop),s'.heap.IsStrIter s.heap.objs.size nm z t i->Q (.ref s.heap.objs.size) s'->wpAny (model X.prog X.w) A (pyIter (.ref s.heap.objs.size)) Q E s'),
   C9 X pins σ tg R (.ref s.heap.objs.size) { s with heap:=s.heap.push { cls:=.type nm,data:=.fields #[.str z t,.int 0 0] } }:=by
  intro nm hn W slf;refine⟨s.heap.objs.size,[s.heap.objs.size],(fun i h=>i<=z.cps.size/\h.IsStrIter s.heap.objs.size nm z t i),_,H,rfl,I.kept (t':=s.toks) fun b o e=>Heap.get?_push_of_some _ e,
   nJ (Pv:=SignAt z) (fun A hA=>?_) (fun i v hv=>?_) (fun i h st=>?_) (fun i h h' st k=>⟨st.1,let ⟨o,ho,r⟩:=st.2;⟨o,k o ho,r⟩⟩) (fun i h st=>by rw[hlen];exact st.1) (fun A i s Q E st h=>slf A i s Q E st.2 h),⟨en _,⟨_,Heap.get?_push_size _ rfl,rfl,rfl⟩⟩,fun b hb=>?_,q⟩
  ·rw[hlen];have W:=W A hA;exact⟨W.sub,fun i h h' st k=>⟨st.1,W.frame i h h' st.2 k⟩,fun i s Q E hi st hQ=>W.item i s Q E hi st.2 fun v h' tk hv st' kk=>hQ v h' tk hv ⟨hi,st'⟩ kk,fun s Q E st hQ=>W.done s Q E st.2 hQ,fun i s Q E st h=>W.self i s Q E st.2 h⟩
  ·obtain⟨c,u,e,rfl⟩:=hv;exact⟨.str ⟨#[c]⟩,by simp[oq];exact e,u,rfl⟩
  ·obtain⟨o,ho,hc,hd⟩:=st.2;exact⟨o,nm,_,ho,hc,hd,hn⟩
  ·have e:b=s.heap.objs.size:=by simpa using hb
   subst e;exact I.fpOk (aw _) (I.hok.fresh (aw _))
 cases ha:z.cps.all (· < 128)
 ·exact wpAny_pyIter_wide ha (core "str_iterator" (by decide) (fun A' hA=>Walks.strWide hA _ z t) fun A i s' Q E st h=>wpAny_pyIter_striter_wide st h)
 ·exact wpAny_pyIter_ascii ha (core "str_ascii_iterator" (by decide) (fun A' hA=>Walks.strAscii hA _ z t) fun A i s' Q E st h=>wpAny_pyIter_striter_ascii st h)
theorem lI {K:Frag}{H:Hp}:∀(cs:List Nat),aG K H (cs.map fun c=>D.str ⟨#[c]⟩) (cs.map fun c=>V.str ⟨#[c]⟩) []
 |[]=>.nil
 | c::cs=>by
  show aG K H (_::_) (_::_) ([] ++ []);exact .cons (.str _) (lI cs)
theorem yL {e:Expr}{c:Ex}(h:PE X e (tE X.K T c)):PI X tg e (tI X.K T (.seq c)):=by
 intro pins s σ H R I hq;obtain⟨P,env,F,re,p,hev,k⟩:=hq;unfold iS at hev;obtain⟨q,h1,hev⟩:=Rs.bind_ok hev;obtain⟨l,h2,hev⟩:=Rs.bind_ok hev;have h2:=cO h2;cases hev;refine cH (h pins s σ H (fun v H'=>∃ G,aI H H'/\Rep X.K H' q.1 v G/\bK env F H q.2 H' G) I ⟨P,env,F,re,q,h1,fun v H' G s rp rt=>⟨G,s,rp,rt⟩⟩) fun u s1 ⟨v,H1,I1,r1,G,e,rp,rt⟩=>?_
 have rt':bK env F H (.sh q.2.roots) H1 G:=rt.part (fun _ h=>h) (fun _ h=>h) fun R e=>by cases e
 cases hd:q.1 with
 |lst xs =>
  rw[hd] at rp h2;cases h2;obtain⟨a,vs,g,rfl,rfl,a1,a2⟩:=rp.lst_inv;cases r1;exact yV I1 (.inl a1) (k _ H1 (a::g) e rt' (fun b hb=>rp.nn hb) fun P' hP=>uS a1 a2 hP)
 |tup xs =>
  rw[hd] at rp h2;cases h2;obtain⟨a,vs,rfl,a1,a2⟩:=rp.tup_invT;cases r1;exact wO I1 a1.sq (k _ H1 G e rt' (fun b hb=>rp.nn hb) fun P' hP=>wW a1 a2 hP)
 |str z =>
  rw[hd] at rp h2;simp only[wm] at h2;by_cases hl:z.length<=lim
  ·rw[if_pos hl] at h2;cases h2;obtain⟨rfl,rfl⟩:=rp.str_inv;obtain⟨t,rfl⟩:=r1;exact C6 I1 (k _ H1 [] e bK.nil (fun _ h=>(nomatch h)) fun P' hP=>mP fun H=>lI _)
  ·rw[if_neg hl] at h2;cases h2
 |mpz ks =>
  rw[hd] at rp h2;cases h2;cases rp with
  |@mpz a _ xs o hz kr =>
   cases r1;exact zB I1 hz (k _ H1 [] e rt' (fun _ h=>(nomatch h)) fun P' hP=>vD hz kr)
 |_=>rw[hd] at h2;cases h2
theorem ku (a b:Int):(Builtin.Range.rangeSize a b 1).toNat=(b - a).toNat:=by
 rw[rangeSize_one];split<;>omega
theorem DL {es:List Expr}{cs:my}{it:vG}{p pos:Pos}{e0:Expr}{rest:List Expr}(hes:es=e0::rest)(hg:Gl X "range") (hm:X.mg "range" = none) (ha:PA X es (uC X.K T cs)) (hs:starEach es X.env=(false,eval e0 X.env)::starEach rest X.env) (hpl:(backTo pos (starEach rest X.env)).any (·.1)=false)
  (hit:∀ env p,iS T it env = .ok p->p.2=[]/\∃ l,aV T cs env = .ok l/\((∃ j,l.map (·.1)=[.int j]/\gL j=true/\p.1=aZ 0 1 j.toNat)\/(∃ i j,l.map (·.1)=[.int i,.int j]/\gL i=true/\gL j=true/\p.1=aZ i 1 (j - i).toNat) \/
   ∃ i j k,l.map (·.1)=[.int i,.int j,.int k]/\gL i=true/\gL j=true/\k≠0/\k.natAbs<1073741824/\p.1=aZ i k (Builtin.Range.rangeSize i j k).toNat)) :
  PI X tg (.Call (.Name "range" p) es [] pos) (tI X.K T it):=by
 subst hes;intro pins s σ H R I hq;obtain⟨P,env,F,re,q,hev,k⟩:=hq;obtain⟨hq2,l,hl,hc⟩:=hit env q hev;refine Call_ (nU I hg hm boot_range (PyProof.Rows.callWith_type1 (cH (ha pos pins s σ H (fun vs H'=>∃ G,Args X.K env F H H' l vs G) I ⟨P,env,F,re,l,hl,fun vs H' G ar=>⟨G,ar⟩⟩) fun us s1 ⟨vs,H1,I1,r1,G,ar⟩=>?_) hs hpl));have rs:=ar.reps;have fin:∀(a c:Int) (n:Nat),q.1=aZ a c n->R (FP (fU a c n)) H1:=fun a c n e=>by
  refine k _ H1 [] ar.same bK.nil (fun _ h=>(nomatch h)) fun P' _=>?_
  rw[e];exact mP fun H=>mn c n a
 have one:∀{d:D}{ds:List D}{vs:List V}{us:List Value}{G:List Addr},aG X.K H1 (d::ds) vs G->aN vs us->∀ i,d = .int i->∃ t us' vs' G',us = .int i t::us'/\vs = .int i::vs'/\aG X.K H1 ds vs' G'/\aN vs' us':=by
  intro d ds vs us G r rv i e;subst e;cases r with
  |cons r rr =>
   obtain⟨rfl,rfl⟩:=r.int_inv;cases rv with
   |cons x y =>
    obtain⟨t,rfl⟩:=x;exact⟨t,_,_,_,rfl,rfl,rr,y⟩
 have nil:∀{vs:List V}{us:List Value}{G:List Addr},aG X.K H1 [] vs G->aN vs us->us=[]:=by
  intro vs us G r rv;cases r;cases rv;rfl
 rcases hc with ⟨j,e1,e2,e3⟩ | ⟨i,j,e1,e2,e3,e4⟩ | ⟨i,j,c,e1,e2,e3,e4,e5,e6⟩
 ·rw[e1] at rs;obtain⟨t,us',vs',G',rfl,_,rs,r1⟩:=one rs r1 j rfl;obtain rfl:=nil rs r1;refine call_range_1 (jK (c:=1) I1 (by decide) e2 (by decide) (by decide) ?_);refine fin _ _ _ ?_;rw[e3,ku];simp
 ·rw[e1] at rs;obtain⟨t,us',vs',G',rfl,_,rs,r1⟩:=one rs r1 i rfl;obtain⟨t',us'',vs'',G'',rfl,_,rs,r1⟩:=one rs r1 j rfl;obtain rfl:=nil rs r1;refine call_range_2 (jK (c:=1) I1 e2 e3 (by decide) (by decide) ?_);refine fin _ _ _ ?_;rw[e4,ku]
 ·rw[e1] at rs;obtain⟨t,us',vs',G',rfl,_,rs,r1⟩:=one rs r1 i rfl;obtain⟨t',us'',vs'',G'',rfl,_,rs,r1⟩:=one rs r1 j rfl;obtain⟨t3,us3,vs3,G3,rfl,_,rs,r1⟩:=one rs r1 c rfl;obtain rfl:=nil rs r1;refine call_range_3 e4 (jK (c:=c) I1 e2 e3 e4 e5 ?_) (.inl (PyProof.noPylong_small e5));exact fin _ _ _ e6
end
section
variable {X:Cx}{pins:List (Addr×Obj)}{σ:L2.St}{H:Hp}{s:Shared}
end
section
variable {X:Cx}{T:Tb}
end
def tS (K:Frag)(T:Tb)(c:St):TS:=fun D σ H=>∃ P Z env F,RE K P env σ H F/\(∀ i,∀ a∈F i,Z a)/\(∀ a,¬ P a->Z a)/\post K P Z env F H D (bM T c env)
def Bq (K:Frag)(T:Tb)(c:cJ):TS:=fun D σ H=>∃ P Z env F,RE K P env σ H F/\(∀ i,∀ a∈F i,Z a)/\(∀ a,¬ P a->Z a)/\post K P Z env F H D (aD T c env)
section
variable {K:Frag}{P Z:Addr->Prop}{env:En}{σ:L2.St}{H:Hp}{F:Nat->List Addr}{D:Ends}
theorem dU {α:Type}{x:Rs α}{k:α->Fl}(h:post K P Z env F H D (gB env x k)):∃ a,x = .ok a/\post K P Z env F H D (k a):=by
 cases x with
 |ok a=>exact⟨a,rfl,h⟩
 |exc e=>exact h.elim
 |bad=>exact h.elim
theorem After.same {H':Hp}(re:RE K P env σ H F)(hz:∀ i,∀ a∈F i,Z a)(e:aI H H'):After K P Z env F H env σ H' F:=⟨re.same e,hz,jH.of_same re.pl e,rH.refl _ _⟩
theorem Cb {H':Hp}{r:Rt}{G:List Addr}(re:RE K P env σ H F)(hz:∀ i,∀ a∈F i,Z a)(zp:∀ a,¬ P a->Z a)(rt:bK env F H r H' G):∀ a∈G,Z a:=fun a ha=>by
 rcases rt.cont a ha with q | ⟨j,_,_,f,_⟩
 ·exact zp a fun z=>re.pl a z q
 ·exact hz j a f
end
section
variable {X:Cx}{T:Tb}{pos:Pos}{e:Expr}{c:Ex}
theorem AZ:jI X [] (Bq X.K T .nil):=by
 refine t8 jA fun D σ H ⟨P,Z,env,F,re,hz,zp,h⟩=>?_
 unfold aD at h;exact h σ H F (After.same re hz (aI.refl _))
theorem wM {st:Stmt}{rest:List Stmt}{cs:St}{cr:cJ}(h1:PS X st (tS X.K T cs))(h2:jI X rest (Bq X.K T cr)):jI X (st::rest) (Bq X.K T (.cons cs cr)):=by
 refine t8 (aQ h1 h2) fun D σ H ⟨P,Z,env,F,re,hz,zp,h⟩=>⟨P,Z,env,F,re,hz,zp,?_⟩
 unfold aD at h;cases hs:bM T cs env with
 |nx env' =>
  rw[hs] at h;exact fun σ' H' F' af=>⟨P,Z,env',F',af.re,af.z,zp,post.trans af h⟩
 |bk env'=>rw[hs] at h;exact h
 |ct env'=>rw[hs] at h;exact h
 |rt d fr=>rw[hs] at h;exact h
 |xc e env'=>rw[hs] at h;exact h
 |bad=>rw[hs] at h;exact h
theorem Av:PS X (.Pass pos) (tS X.K T .pass):=by
 refine dH ze fun D σ H ⟨P,Z,env,F,re,hz,zp,h⟩=>?_
 unfold bM at h;exact h σ H F (After.same re hz (aI.refl _))
theorem C5 {x:Str}{j:Nat}{pos':Pos}:PS X (.Expr (.Constant (.str x) j pos) pos') (tS X.K T .pass):=by
 refine dH CW fun D σ H ⟨P,Z,env,F,re,hz,zp,h⟩=>?_
 unfold bM at h;exact h σ H F (After.same re hz (aI.refl _))
theorem zw:PS X (.Return none pos) (tS X.K T .retN):=by
 refine dH zP fun D σ H ⟨P,Z,env,F,re,hz,zp,h⟩=>?_
 unfold bM at h;exact h .non H [] .non (jH.refl _) (fun _ h=>(nomatch h)) fun _=>⟨cn,fun _ h=>(nomatch h)⟩
theorem BM (he:PE X e (tE X.K T c)):PS X (.Return (some e) pos) (tS X.K T (.ret c)):=by
 refine dH (iY he) fun D σ H ⟨P,Z,env,F,re,hz,zp,h⟩=>?_
 unfold bM at h;obtain⟨p,hp,h⟩:=dU h;refine⟨P,env,F,re,p,hp,fun v H' G s rp rt=>h v H' G rp (jH.of_same re.pl s) (Cb re hz zp rt) fun fr=>?_⟩;cases hr:p.2 with
 |sh R=>rw[hr] at fr;cases fr
 |mv R =>
  rw[hr] at fr;obtain⟨a,b,d⟩:=rt.mv R hr;refine⟨a,fun x hx=>⟨fun z=>?_,b x hx⟩⟩;rcases d x hx with q | ⟨i,d2,t2,hi,f,e2,o2⟩
  ·exact re.pl x z q
  ·have:=cy.mp fr i hi;split at this
   ·rename_i d' q;exact re.wr i d' q x f z
   ·cases this
theorem zy (he:PE X e (tE X.K T c))(hs:swapsWith e none pos.line X.env=pure false):PS X (.Expr e pos) (tS X.K T (.expr c)):=by
 refine dH (jr he hs) fun D σ H ⟨P,Z,env,F,re,hz,zp,h⟩=>?_
 unfold bM at h;obtain⟨p,hp,h⟩:=dU h;exact⟨P,env,F,re,p,hp,fun v H' G s rp rt=>h σ H' F (After.same re hz s)⟩
theorem B8 {a b:List Stmt}{ca cb:cJ}(hc:PT X e (mo X.K T c))(ha:jI X a (Bq X.K T ca))(hb:jI X b (Bq X.K T cb)):PS X (.If e a b pos) (tS X.K T (.ite c ca cb)):=by
 refine dH (qj hc ha hb) fun D σ H ⟨P,Z,env,F,re,hz,zp,h⟩=>?_
 unfold bM at h;obtain⟨p,hp,h⟩:=dU h;cases ht:truth p.1 with
 |none=>rw[ht] at h;exact h.elim
 |some k =>
  rw[ht] at h;refine⟨P,env,F,re,p,k,hp,ht,fun H' s=>?_⟩;have af:=After.same (Z:=Z) re hz s;cases k with
  |true=>show if true=true then _ else _;rw[if_pos rfl];exact⟨P,Z,env,F,af.re,hz,zp,post.trans af h⟩
  |false=>show if false=true then _ else _;rw[if_neg ao];exact⟨P,Z,env,F,af.re,hz,zp,post.trans af h⟩
theorem wF {i:Nat}{x:Str}{pos':Pos}{mv:Bool}(hN:X.N.Nodup)(hi:X.N[i]? = some x)(hx:Loc X.env.scope x)(he:PE X e (tE X.K T c))(hs:swapsWith e (some (.Name x pos')) pos.line X.env=pure false)(hf:X.fn x=true\/X.env.scope.names.lookup x=some .local) :
  PS X (.Assign [.Name x pos'] e pos) (tS X.K T (.asg (.nm i) c mv)):=by
 refine dH (cC hN hi hx he hs hf) fun D σ H ⟨P,Z,env,F,re,hz,zp,h⟩=>?_
 unfold bM at h;obtain⟨p,hp,h⟩:=dU h;exact⟨P,env,F,re,p,hp,fun v H' G s rp rt=>wH re hz zp s rp rt h⟩
noncomputable def fT:List Nat->Bk
 |[]=>GO
 |i::is=>Bm (kW i) (fT is)
theorem jb:∀{is:List Nat}{vs:List V}{σ:L2.St}{H:Hp}{Q:L2.St->Hp->Prop},is.length=vs.length->Q (setM is vs σ) H->fT is vs σ H Q
 |[],[],_,_,_,_,q=>⟨rfl,q⟩
 |i::is,v::vs,σ,H,Q,hl,q=>⟨v,vs,rfl,jb (is:=is) (vs:=vs) (by simpa using hl) q⟩
 |[],_::_,_,_,_,hl,_=>by simp at hl
 |_::_,[],_,_,_,hl,_=>by simp at hl
theorem zr {tg:Expr}{is:List Nat}{mv:Bool}(hg:PG X tg (yq X.K is.length (fT is)))(he:PE X e (tE X.K T c))(hs:swapsWithSole [tg] e pos.line X.env=pure false)(hw:swappedStores [tg] e X.env=pure none)(h1:(assignEach [tg] X.env).map (·.2)=[assign tg X.env]) :
  PS X (.Assign [tg] e pos) (tS X.K T (.asg (.tp is) c mv)):=by
 refine dH (Cs he hg hs hw h1) fun D σ H ⟨P,Z,env,F,re,hz,zp,h⟩=>?_
 unfold bM at h;obtain⟨p,hp,h⟩:=dU h;refine⟨P,env,F,re,p,hp,fun v H' G s rp rt=>?_⟩;have re':=re.same s;have ez:=Cb re hz zp rt;have jQ:=jH.of_same (P:=P) re.pl s;unfold uP at h;cases hd:p.1 with
 |tup ds =>
  rw[hd] at h rp;obtain⟨a,vs,rfl,a1,a2⟩:=rp.tup_inv;have fin:∀{o:Option En},post X.K P Z env F H D (yT o)->(∀ env',o=some env'->∃ F',RE X.K P env' (setM is vs σ) H' F'/\(∀ i,∀ a∈F' i,Z a)/\rH env F env' F'/\is.length=vs.length)->yq X.K is.length (fT is) (.ref a) σ H' D.nx:=fun {o} h q=>by
   cases o with
   |none=>exact h.elim
   |some env' =>
    obtain⟨F',b1,b2,b3,b4⟩:=q env' rfl;exact⟨a,vs,rfl,a1,b4.symm,jb b4 (h _ H' F' ⟨b1,b2,jQ,b3⟩)⟩
  have shared:post X.K P Z env F H D (if is.all (fun i=>!p.2.roots.contains i) then yT (bindM (fun d=>dB d p.2.roots) is ds env) else .bad)->yq X.K is.length (fT is) (.ref a) σ H' D.nx:=fun h=>by
   by_cases hc:is.all (fun i=>!p.2.roots.contains i)=true
   ·rw[if_pos hc] at h;refine fin h fun env' he'=>lx re' hz a2 ez (fun x hx j d' t' ej o m=>?_) he'
    rcases rt.cont x hx with q | ⟨k,d2,t2,f,e2,sr⟩
    ·exact absurd q (re.nn ej m)
    ·exact sr j ((re.one j d' t' ej o).2.2 x m k d2 t2 e2 f)
   ·rw[if_neg hc] at h;exact h.elim
  cases hr:p.2 with
  |sh R=>rw[hr] at h shared;exact shared h
  |mv R =>
   cases R with
   |cons r0 R0=>rw[hr] at h shared;exact shared h
   |nil =>
    rw[hr] at h;obtain⟨m1,m2,m3⟩:=rt.mv [] hr;have fresh:∀ a∈G,H a=none:=fun a ha=>by
     rcases m3 a ha with q | ⟨_,_,_,q,_⟩
     ·exact q
     ·cases q
    exact fin h fun env' he'=>nu re' hz a2 m1 m2 (fun x hx z=>re.pl x z (fresh x hx)) ez (fun x hx j m=>by
     obtain⟨d2,t2,e2⟩:=re.at' m;exact re.nn e2 m (fresh x hx)) he'
 |_=>rw[hd] at h;exact h.elim
theorem Dv {b:List Stmt}{cb:cJ}(hp:PassesOwn (model X.prog X.w) X.A X.env X.xe)(hc:PT X e (mo X.K T c))(hb:jI X b (Bq X.K T cb)):PS X (.While e b [] pos) (tS X.K T (.whl c cb)):=by
 refine dH (jz hp hc hb) fun D σ H ⟨P,Z,env,F,re,hz,zp,h⟩=>?_
 unfold bM at h;refine⟨fun m σ' H'=>∃ env' F',After X.K P Z env F H env' σ' H' F'/\post X.K P Z env' F' H' D (fA (fun env=>(ev T c env).bind fun p=>fE (truth p.1)) (aD T cb) m env'),⟨T.fuel,env,F,After.same re hz (aI.refl _),h⟩,fun m σ1 H1 ⟨env1,F1,af,h1⟩=>?_⟩;cases m with
 |zero=>exact h1.elim
 |succ m =>
  unfold fA at h1;obtain⟨k,hk,h1⟩:=dU h1;obtain⟨p,hp1,hk⟩:=Rs.bind_ok hk;refine⟨P,env1,F1,af.re,p,k,hp1,cO hk,fun H2 s2=>?_⟩;have af2:=After.same (Z:=Z) af.re af.z s2;cases k with
  |false =>
   show if false=true then _ else _
   rw[if_neg ao];simp only[Bool.false_eq_true,if_false] at h1;exact h1 σ1 H2 F1 af2
  |true =>
   show if true=true then _ else _
   rw[if_pos rfl];simp only[if_true] at h1;refine⟨fun σ' H'=>∃ env' F',After X.K P Z env F H env' σ' H' F'/\post X.K P Z env' F' H' D (fA (fun env=>(ev T c env).bind fun p=>fE (truth p.1)) (aD T cb) m env'),fun σ' H' q=>⟨m,fi _,q⟩,P,Z,env1,F1,af2.re,af.z,zp,?_⟩;have h1:=post.trans af2 h1;cases hs:aD T cb env1 with
   |nx e'=>rw[hs] at h1;exact fun σ' H' F' af3=>⟨e',F',af.trans (af2.trans af3),post.trans af3 h1⟩
   |ct e'=>rw[hs] at h1;exact fun σ' H' F' af3=>⟨e',F',af.trans (af2.trans af3),post.trans af3 h1⟩
   |bk e'=>rw[hs] at h1;exact h1
   |rt d fr=>rw[hs] at h1;exact h1
   |xc x e'=>rw[hs] at h1;exact h1
   |bad=>rw[hs] at h1;exact h1
noncomputable def rB (K:Frag):kD->TG
 |.nm i=>kW i
 |.tp is=>yq K is.length (fT is)
theorem pE {K:Frag}{P Z:Addr->Prop}{env env':En}{σ:L2.St}{H:Hp}{F:Nat->List Addr}{t:kD}{d:Pc.D}{v:V}{G:List Addr}{R:List Nat}{Q:L2.St->Hp->Prop}(re:RE K P env σ H F)(hz:∀ i,∀ a∈F i,Z a)(rp:Rep K H d v G)(gz:∀ a∈G,Z a)
  (hs:∀ a∈G,∀(j:Nat) (d':Pc.D) (t':Tg),env[j]? = some (some (d',t'))->bA t'=true->a∈F j->j∈R) (hb:bQ R t d env=some env') (hQ:∀ σ' F',RE K P env' σ' H F'->(∀ i,∀ a∈F' i,Z a)->rH env F env' F'->Q σ' H):rB K t v σ H Q:=by
 cases t with
 |nm i =>
  simp only[bQ] at hb;by_cases hi:i<env.length
  ·rw[if_pos hi] at hb;cases hb;exact hQ _ _ (sW re hi rp hs) (m9 hz gz) (lP hi qd)
  ·rw[if_neg hi] at hb;cases hb
 |tp is =>
  cases d with
  |tup ds =>
   simp only[bQ] at hb;obtain⟨a,vs,rfl,a1,a2⟩:=rp.tup_inv;obtain⟨F',b1,b2,b3,b4⟩:=lx re hz a2 gz hs hb;exact⟨a,vs,rfl,a1,b4.symm,jb b4 (hQ _ F' b1 b2 b3)⟩
  |_=>cases hb
theorem jn {t:kD}{R:List Nat}{b:En->Fl}:∀(ds:List Pc.D) (env:En),(∀ e,bL t R b ds env≠.bk e)/\∀ e,bL t R b ds env≠.ct e
 |[],env=>⟨fun e z=>(by cases z),fun e z=>(by cases z)⟩
 | d::ds,env=>by
  unfold bL;cases bQ R t d env with
  |none=>exact⟨fun e z=>(by cases z),fun e z=>(by cases z)⟩
  |some env' =>
   simp only;cases b env' with
   |nx e'=>exact jn ds e'
   |ct e'=>exact jn ds e'
   |bk e'=>exact⟨fun e z=>(by cases z),fun e z=>(by cases z)⟩
   |rt d fr=>exact⟨fun e z=>(by cases z),fun e z=>(by cases z)⟩
   |xc x e'=>exact⟨fun e z=>(by cases z),fun e z=>(by cases z)⟩
   |bad=>exact⟨fun e z=>(by cases z),fun e z=>(by cases z)⟩
theorem Cf {tg iter:Expr}{t:kD}{it:vG}{b:List Stmt}{cb:cJ}(hp:PassesOwn (model X.prog X.w) X.A X.env X.xe)(hc:X.calm=true)(hi:PI X tg iter (tI X.K T it))(hg:PG X tg (rB X.K t))(hb:jI X b (Bq X.K T cb))(hs:∀ x,foldedSetIterable iter X.env x=pure x) :
  PS X (.For tg iter b [] pos) (tS X.K T (.forr t it cb)):=by
 refine dH (CZ hp hc hi hg hb hs) fun D σ H ⟨P,Z,env,F,re,hz,zp,h⟩=>?_
 unfold bM at h;obtain⟨p,hp,h⟩:=dU h;refine⟨P,env,F,re,p,hp,fun J H1 G s1 rt nn wk=>?_⟩;have af1:=After.same (Z:=Z) re hz s1;have h:=post.trans af1 h;let P':Addr->Prop:=fun a=>P a\/a∈G
 have wk:=wk P' fun a ha=>.inr ha
 have seen:∀ a∈G,∀(i:Nat) (d:Pc.D) (t:Tg),env[i]? = some (some (d,t))->bA t=true->a∈F i->i∈p.2:=fun a ha i d t e o m=>by
  rcases rt.cont a ha with q | ⟨k,d2,t2,f,e2,sr⟩
  ·exact absurd q (re.nn e m)
  ·exact sr i ((re.one i d t e o).2.2 a m k d2 t2 e2 f)
 have reL:RE X.K P' (lock p.2 env) σ H1 F:=af1.re.locked nn seen;have gz:∀ a∈G,Z a:=Cb re hz zp rt;let E':Ends:={ D with nx:=fun σ' H'=>∀ env' F',After X.K P' Z (lock p.2 env) F H1 env' σ' H' F'->D.nx σ' H' };have stepP:∀{f:Fl},(∀ e,f≠.bk e)->(∀ e,f≠.ct e)->post X.K P Z env F H1 D (match f with | .nx e=>.nx (unlock p.2 env e) | x=>x)->post X.K P' Z (lock p.2 env) F H1 D f:=fun {f} nb nc h=>by
  cases f with
  |nx e=>exact fun σ' H' F' af=>h σ' H' F' (af.unlocked af1.re)
  |bk e=>exact absurd rfl (nb e)
  |ct e=>exact absurd rfl (nc e)
  |rt d fr=>exact fun v H' G' rp ev z f=>h v H' G' rp (ev.weak fun _ q=>.inl q) z fun w=>⟨(f w).1,fun a ha=>⟨fun q=>((f w).2 a ha).1 (.inl q),((f w).2 a ha).2⟩⟩
  |xc x e=>exact h
  |bad=>exact h
 have h:=stepP (jn _ _).1 (jn _ _).2 h;have zpL:∀ a,¬ P' a->Z a:=fun a ha=>zp a fun q=>ha (.inl q)
 refine⟨fun i m σ' H'=>m=p.1.length - i/\i<=p.1.length/\∃ env' F',After X.K P' Z (lock p.2 env) F H1 env' σ' H' F'/\post X.K P' Z env' F' H' D (bL t p.2 (aD T cb) (p.1.drop i) env'),⟨p.1.length,by simp,Nat.zero_le _,lock p.2 env,F,After.same reL hz (aI.refl _),by simpa using h⟩,?_⟩;rintro i m σ2 H2 ⟨rfl,hi,env2,F2,af2,h2⟩;obtain⟨w1,w2⟩:=wk H2 af2.ev;by_cases hlt:i<p.1.length
 ·right;have hd:p.1[i]? = some p.1[i]:=by simp[hlt]
  obtain⟨g1,g2⟩:=w1 i _ hd;refine⟨g1,fun σ' H'=>∃ env' F',After X.K P' Z (lock p.2 env) F H1 env' σ' H' F'/\post X.K P' Z env' F' H' D (bL t p.2 (aD T cb) (p.1.drop (i+1)) env'),fun σ' H' q=>⟨p.1.length - (i+1),by omega,rfl,hlt,q⟩,fun x H3 y=>?_⟩;obtain⟨s3,G3,rp3,sub3⟩:=g2 x H3 y;have af3:=After.same (Z:=Z) af2.re af2.z s3;have h2:=post.trans af3 h2;rw[ip hlt] at h2;unfold bL at h2;cases hb:bQ p.2 t p.1[i] env2 with
  |none=>rw[hb] at h2;exact h2.elim
  |some env4 =>
   rw[hb] at h2;refine pE af3.re af2.z rp3 (fun a ha=>gz a (sub3 a ha)) (fun a ha j d' t' ej o m=>?_) hb fun σ4 F4 re4 z4 lk4=>?_
   ·cases t' with
    |own=>exact absurd (.inr (sub3 a ha)) (af2.re.wr j d' ej a m)
    |lk =>
     obtain⟨e5,e6⟩:=af2.lk j d' ej;rw[e6] at m;obtain⟨t0,e0,o0,_⟩:=eW e5;exact seen a (sub3 a ha) j d' t0 e0 (o0.trans o) m
    |sh Q=>cases o
   ·have af4:After X.K P' Z env2 F2 H3 env4 σ4 H3 F4:=⟨re4,z4,jH.refl _,lk4⟩;refine⟨P',Z,env4,F4,re4,z4,zpL,?_⟩;have h2:=post.trans af4 h2;have all:=(af2.trans af3).trans af4;cases hs:aD T cb env4 with
    |nx e'=>simp only[hs] at h2;exact fun σ' H' F' af5=>⟨e',F',all.trans af5,post.trans af5 h2⟩
    |ct e'=>simp only[hs] at h2;exact fun σ' H' F' af5=>⟨e',F',all.trans af5,post.trans af5 h2⟩
    |bk e'=>simp only[hs] at h2;exact h2
    |rt d fr=>simp only[hs] at h2;exact h2
    |xc x e'=>simp only[hs] at h2;exact h2
    |bad=>simp only[hs] at h2;exact h2
 ·left;have e:i=p.1.length:=by omega
  subst e;rw[List.drop_length] at h2;exact⟨w2,h2 σ2 H2 F2 (After.same af2.re af2.z (aI.refl _))⟩
end
noncomputable def fR (cells:List (Str×Addr)):List (Str×NameKind)->List (Str×Addr)->List (Str×Addr)
 |[],acc=>acc
 | (n,k)::r,acc=>fR cells r (if k == .free then (match cells.lookup n with | some c=>(n,c)::acc | none=>acc) else acc)
theorem r9 {scope:Scope}{env:Env}(h:∀ x,(x,NameKind.free)∈scope.names->∃ c,env.cells.lookup x=some c):closureFor scope env=pure (fR env.cells scope.names []):=by
 unfold closureFor;have gen:∀(names:List (Str×NameKind)) (acc:List (Str×Addr)),(∀ x,(x,NameKind.free)∈names->∃ c,env.cells.lookup x=some c) ->
   (forIn names acc fun (p:Str×NameKind) (cs:List (Str×Addr))=>(match p with
    | (name,kind)=>if (kind == .free)=true then (do let c <- cellOf env name;pure (ForInStep.yield ((name,c)::cs))) else pure (ForInStep.yield cs):Sem (ForInStep (List (Str×Addr)))))=(pure (fR env.cells names acc):Sem (List (Str×Addr))):=by
  intro names
  induction names with
  |nil=>intro acc _;rfl
  |cons x r ih =>
   intro acc hx;obtain⟨n,k⟩:=x;rw[List.forIn_cons];simp only[fR];have hr:∀ x,(x,NameKind.free)∈r->∃ c,env.cells.lookup x=some c:=fun x hm=>hx x (ah _ hm)
   by_cases hk:(k==NameKind.free)=true
   ·have e:k = .free:=by simpa using hk
    subst e;obtain⟨c,hc⟩:=hx n au;simp only[hk,if_true,cellOf,hc];exact ih ((n,c)::acc) hr
   ·simp only[hk,if_false];exact ih acc hr
 have:=gen scope.names [] h;simpa using this
theorem mZ {cells:List (Str×Addr)}{x:Str}{c:Addr}:∀{names:List (Str×NameKind)}{acc:List (Str×Addr)},(∀ y d,acc.lookup y=some d->cells.lookup y=some d)->(fR cells names acc).lookup x=some c->cells.lookup x=some c
 |[],acc,ha,h=>ha x c h
 | (n,k)::r,acc,ha,h=>by
  simp only[fR] at h;refine mZ (names:=r) (fun y d q=>?_) h;by_cases hk:(k==NameKind.free)=true
  ·rw[if_pos hk] at q;cases hc:cells.lookup n with
   |none=>rw[hc] at q;exact ha y d q
   |some e =>
    rw[hc] at q;simp only[List.lookup_cons] at q;cases hy:y==n with
    |true =>
     rw[hy] at q;have:=eq_of_beq hy;subst this;rw[hc];exact q
    |false=>rw[hy] at q;exact ha y d q
  ·rw[if_neg hk] at q;exact ha y d q
theorem mM {cells:List (Str×Addr)}{x:Str}:∀{names:List (Str×NameKind)}{acc:List (Str×Addr)},(∃ c,acc.lookup x=some c)->∃ c,(fR cells names acc).lookup x=some c
 |[],acc,h=>h
 | (n,k)::r,acc,h=>by
  simp only[fR];refine mM (names:=r) ?_;by_cases hk:(k==NameKind.free)=true
  ·rw[if_pos hk];cases hc:cells.lookup n with
   |none=>exact h
   |some e =>
    simp only[List.lookup_cons];cases hy:x==n with
    |true=>exact⟨e,rfl⟩
    |false=>exact h
  ·rw[if_neg hk];exact h
theorem kZ {cells:List (Str×Addr)}{x:Str}{c:Addr}(hc:cells.lookup x=some c):∀{names:List (Str×NameKind)}{acc:List (Str×Addr)},(x,NameKind.free)∈names->∃ c,(fR cells names acc).lookup x=some c
 |[],acc,h=>by cases h
 | (n,k)::r,acc,h=>by
  simp only[fR];rcases g9.mp h with e | h
  ·cases e;refine mM (names:=r) ?_;simp only[beq_self_eq_true,if_true,hc,List.lookup_cons];exact⟨c,rfl⟩
  ·exact kZ hc (names:=r) h
noncomputable def inner (X:Cx)(scope:Scope)(N':List Str)(C:Addr)(s0:Shared)(H0:Hp)(ex:List Addr):Cx :=
 { X with N:=N',s₀:=s0,H₀:=H0,env:=compEnvC scope (cellsFrom (C+1) scope.names (fR X.env.cells scope.names [])) C X.env,outer:=X.stack,stack:=X.stack,ex:=ex,fn:=fun x=>scope.names.lookup x==some .cell,pn:=[],xe:=fun _ _=>False }
structure dP (X:Cx)(scope:Scope)(N':List Str)(pick:List (Option Nat)):Prop where
 kind:scope.kind = .function
 cells:∀ y∈scope.names,y.2 = .cell->scope.names.lookup y.1=some .cell
 names:∀ y∈scope.names,y.2 = .local->scope.names.lookup y.1=some .local
 len:pick.length=N'.length
 outer:∀ x,scope.names.lookup x=some .free->(X.env.kindOf x=some .cell\/X.env.kindOf x=some .free)
 free:∀ x,(x,NameKind.free)∈scope.names->scope.names.lookup x=some .free
 pick:∀(i j:Nat) (x:Str),pick[i]? = some (some j)->N'[i]? = some x->scope.names.lookup x=some .free/\X.N[j]? = some x
noncomputable def eZ (σ:L2.St)(pick:List (Option Nat)):L2.St:=pick.map fun o=>o.bind fun j=>(σ[j]?).join
theorem eI {env:Env}:∀{names:List (Str×NameKind)}{x:Str}{k:NameKind},(names.map fun (n,k)=>if (k==NameKind.free&&env.scope.kind == .function&&env.kindOf n==some .cell) then (n,NameKind.cell) else (n,k)).lookup x=some k ->
  ∃ k0,names.lookup x=some k0/\(k=k0\/(k0 = .free/\k = .cell))
 |[],_,_,h=>by simp at h
 | (n,k0)::r,x,k,h=>by
  rw[ay] at h;by_cases hc:(k0==NameKind.free&&env.scope.kind == .function&&env.kindOf n==some .cell)=true
  ·simp only[hc,if_true,List.lookup_cons] at h;simp only[List.lookup_cons];cases hx:x==n with
   |true =>
    rw[hx] at h;cases h;rw[ag,ag] at hc;exact⟨k0,rfl,.inr ⟨by simpa using hc.1.1,rfl⟩⟩
   |false=>rw[hx] at h;exact eI h
  ·have hc:(k0==NameKind.free&&env.scope.kind == .function&&env.kindOf n==some .cell)=false:=by simpa using hc
   simp only[hc,Bool.false_eq_true,if_false,List.lookup_cons] at h;simp only[List.lookup_cons];cases hx:x==n with
   |true=>rw[hx] at h;cases h;exact⟨k0,rfl,.inl rfl⟩
   |false=>rw[hx] at h;exact eI h
theorem eK {env:Env}:∀{names:List (Str×NameKind)}{x:Str},names.lookup x=some .free ->
  (names.map fun (n,k)=>if (k==NameKind.free&&env.scope.kind == .function&&env.kindOf n==some .cell) then (n,NameKind.cell) else (n,k)).lookup x=some .cell \/
  (names.map fun (n,k)=>if (k==NameKind.free&&env.scope.kind == .function&&env.kindOf n==some .cell) then (n,NameKind.cell) else (n,k)).lookup x=some .free
 |[],_,h=>by simp at h
 | (n,k0)::r,x,h=>by
  rw[ay];by_cases hc:(k0==NameKind.free&&env.scope.kind == .function&&env.kindOf n==some .cell)=true
  ·simp only[hc,if_true,List.lookup_cons] at h ⊢;cases hx:x==n with
   |true=>left;rfl
   |false=>rw[hx] at h;exact eK h
  ·have hc:(k0==NameKind.free&&env.scope.kind == .function&&env.kindOf n==some .cell)=false:=by simpa using hc
   simp only[hc,Bool.false_eq_true,if_false,List.lookup_cons] at h ⊢;cases hx:x==n with
   |true=>rw[hx] at h;cases h;right;rfl
   |false=>rw[hx] at h;exact eK h
theorem gF:∀(names:List (Str×NameKind)) (n:Nat) (acc:List (Str×Addr)),cellsFrom n names acc=cellsFrom n names []++acc
 |[],_,_=>rfl
 | (nm,k)::r,n,acc=>by
  unfold cellsFrom;split
  ·rw[gF r (n+1) ((nm,n)::acc),gF r (n+1) [(nm,n)],dq];rfl
  ·exact gF r n acc
theorem r8:∀(names:List (Str×NameKind)) (n:Nat) {x:Str}{c:Addr},(x,c)∈cellsFrom n names []->(x,NameKind.cell)∈names
 |[],_,_,_,h=>by cases h
 | (nm,k)::r,n,x,c,h=>by
  unfold cellsFrom at h;split at h
  ·rename_i hk;rw[gF] at h;rcases List.mem_append.mp h with h | h
   ·exact ah _ (r8 r _ h)
   ·have e:(x,c)=(nm,n):=by simpa using h
    cases e;rw[show k = .cell by simpa using hk];exact au
  ·exact ah _ (r8 r _ h)
theorem oy:∀(names:List (Str×NameKind)) (n:Nat) {x:Str},(x,NameKind.cell)∈names->∃ c,(cellsFrom n names []).lookup x=some c
 | (nm,k)::r,n,x,h=>by
  unfold cellsFrom;rcases g9.mp h with e | h
  ·cases e;rw[if_pos (by decide),gF,gu];cases (cellsFrom (n+1) r []).lookup nm with
   |some c=>exact⟨c,rfl⟩
   |none=>exact⟨n,by simp⟩
  ·split
   ·obtain⟨c,hc⟩:=oy r (n+1) h;rw[gF,gu,hc];exact⟨c,rfl⟩
   ·exact oy r n h
theorem nfe {M:Model}{A:Around}{E:Value->Shared->Prop}{s:Shared}{scope:Scope}{globals:Addr}{cl:List (Str×Addr)}{qual:Str}{env:Env}{Q:Env->Shared->Prop}
  (h:Q { scope:=scope,locals:=s.heap.objs.size,globals:=globals,cells:=cellsFrom (s.heap.objs.size+1) scope.names cl,qual:=qual,func:=none,code:=env.code,frame:=env.frame,builtins:=env.builtins } { s with heap:=pushCells (s.heap.push { cls:=.type "dict",data:=.dict #[] }) scope.names }) :
  wpAny M A (newFunctionEnv scope globals cl [] qual none .none (some env)) Q E s:=by
 simp only[newFunctionEnv,Option.isSome_some,if_true];refine wpAny_bind (wpAny_alloc (wpAny_bind (wpAny_layCells _ (fun name kind cells=>by cases hkc:kind==NameKind.cell<;>simp[hkc]) _ _ _ _ ?_)));rw[show ({ s with heap:=s.heap.push { cls:=.type "dict",data:=.dict #[] } }:Shared).heap.objs.size=s.heap.objs.size+1 from Heap.size_push ..];exact wpAny_pure h
section
variable {X:Cx}{scope:Scope}{N':List Str}{pick:List (Option Nat)}{pins:List (Addr×Obj)}{σ:L2.St}{H:Hp}{s:Shared}
theorem pM (S:dP X scope N' pick)(I:Inv X pins σ H s){fp:List Addr}(hf:∀ b∈fp,mm X pins H b)(hl:∀ b∈fp,b<s.heap.objs.size) :
  Inv (inner X scope N' s.heap.objs.size s H fp) [] (eZ σ pick) H { s with heap:=pushCells (s.heap.push { cls:=.type "dict",data:=.dict #[] }) scope.names }:=by
 have old:∀ x c,(fR X.env.cells scope.names []).lookup x=some c->X.env.cells.lookup x=some c:=fun x c h=>mZ (acc:=[]) (fun y d q=>by simp at q) h
 have hk:∀ b o,s.heap.get? b=some o->(pushCells (s.heap.push { cls:=.type "dict",data:=.dict #[] }) scope.names).get? b=some o:=fun b o e=>pushCells_keeps _ _ b o (Heap.get?_push_of_some _ e)
 have hn:(pushCells (s.heap.push { cls:=.type "dict",data:=.dict #[] }) scope.names).Ns s.heap.objs.size (fun _=>none):=(Heap.Ns.new s.heap (.type "dict")).keeps (pushCells_keeps _ _);have ok:=cellsFrom_ok scope.names (s.heap.push { cls:=.type "dict",data:=.dict #[] }) (s.heap.objs.size+1) [] ⟨fun _ _ hm=>(nomatch hm),List.Pairwise.nil⟩ (by rw[Heap.size_push];exact aw _);rw[Heap.size_push] at ok;generalize hh:pushCells (s.heap.push { cls:=.type "dict",data:=.dict #[] }) scope.names=h' at *;have oldlt:∀ x c,X.env.cells.lookup x=some c->c<s.heap.objs.size:=fun x c h=>by
  obtain⟨v,hv⟩:=I.cell x c h;exact hv.lt
 have look:∀ x c,(cellsFrom (s.heap.objs.size+1) scope.names (fR X.env.cells scope.names [])).lookup x=some c->((x,c)∈cellsFrom (s.heap.objs.size+1) scope.names []/\s.heap.objs.size+1<=c)\/((x,NameKind.cell)∉scope.names/\X.env.cells.lookup x=some c):=fun x c h=>by
  rw[gF,gu] at h;cases q:(cellsFrom (s.heap.objs.size+1) scope.names []).lookup x with
  |some c' =>
   rw[q] at h;cases h;have hm:=bw q;exact .inl ⟨hm,(ok.empty _ _ hm).2⟩
  |none =>
   rw[q] at h;refine .inr ⟨fun z=>?_,old x c h⟩;obtain⟨c',hc'⟩:=oy scope.names (s.heap.objs.size+1) z;rw[q] at hc';cases hc'
 have sees:∀ x c,scope.names.lookup x=some .free->(fR X.env.cells scope.names []).lookup x=some c->(cellsFrom (s.heap.objs.size+1) scope.names (fR X.env.cells scope.names [])).lookup x=some c:=fun x c hx h=>by
  rw[gF,gu];cases q:(cellsFrom (s.heap.objs.size+1) scope.names []).lookup x with
  |some c' =>
   have:=S.cells _ (r8 _ _ (bw q)) rfl;rw[hx] at this;cases this
  |none=>rw[h];rfl
 refine⟨⟨I.ok.mod,S.kind,I.ok.glob,I.ok.blt,aw _,fun x y c h1 h2=>?inj,fun x hx=>?_,fun x c hx h=>?cab,I.ok.hd,I.ok.frames,.inl rfl,fun b hb=>?_,I.bs,bg I.ok.bsz I.sz,fun b o e hb=>?_,fun b hb hb'=>?_,I.stack,I.stkFree⟩,
  rfl,I.bare,Un.kept hk,⟨_,hn,fun i x v h1 h2 h3=>?_⟩,fun x c h=>?_,I.hok.fresh (Nat.le_refl _),fun x c h=>?frc,fun p hp=>absurd (show p∈([]:List (Addr×Obj)) from hp) (by simp),I.hok.kept hk,?_⟩
 case inj =>
  rcases look x c h1 with ⟨m1,l1⟩ | ⟨_,o1⟩<;>rcases look y c h2 with ⟨m2,l2⟩ | ⟨_,o2⟩
  ·exact name_of_addr ok.apart m1 m2
  ·exact absurd (az (oldlt y c o2) (Nat.le_of_succ_le l1)) (eh _)
  ·exact absurd (az (oldlt x c o1) (Nat.le_of_succ_le l2)) (eh _)
  ·exact I.ok.inj x y c o1 o2
 case cab =>
  have hx:scope.names.lookup x=some .cell:=by simpa[inner] using hx
  rcases look x c h with ⟨_,l1⟩ | ⟨n1,_⟩
  ·exact bg (Nat.le_succ _) l1
  ·exact absurd (bw hx) n1
 case frc =>
  rcases look x c h with ⟨_,l1⟩ | ⟨_,o1⟩
  ·exact I.hok.fresh (bg (Nat.le_succ _) l1)
  ·exact I.freeC x c o1
 ·have hx:(relabel scope X.env).names.lookup x=some .cell\/(relabel scope X.env).names.lookup x=some .free:=hx;have hfree:scope.names.lookup x=some .free\/scope.names.lookup x=some .cell:=by
   rcases hx with hx | hx
   ·obtain⟨k0,h1,h2 | ⟨h2,_⟩⟩:=eI hx
    ·subst h2;exact .inr h1
    ·rw[h2] at h1;exact .inl h1
   ·obtain⟨k0,h1,h2 | ⟨h2,h3⟩⟩:=eI hx
    ·subst h2;exact .inl h1
    ·cases h3
  rcases hfree with hfree | hfree
  ·obtain⟨c,hc⟩:=I.ok.has x (S.outer x hfree);obtain⟨c',hc'⟩:=kZ (acc:=[]) hc (bw hfree);exact⟨c',sees x c' hfree hc'⟩
  ·obtain⟨c,hc⟩:=oy scope.names (s.heap.objs.size+1) (bw hfree);refine⟨c,?_⟩;show (cellsFrom (s.heap.objs.size+1) scope.names (fR X.env.cells scope.names [])).lookup x=some c;rw[gF,gu,hc];rfl
 ·refine⟨bq (hl b hb),fun x c h=>?_⟩;rcases look x c h with ⟨_,l1⟩ | ⟨_,o1⟩
  ·exact fun e=>eh _ (az (hl b hb) (e ▸ Nat.le_of_succ_le l1))
  ·exact (hf b hb).2.2.2.2.1 x c o1
 ·obtain⟨f0,f1,f2,f3,f4,f5⟩:=hf b hb;rcases f3 with f3 | f3
  ·exact I.ok.noex b o e f3
  ·exact absurd (az (Heap.lt_size e) (bg I.ok.bsz f3)) (eh _)
 ·obtain⟨f0,f1,f2,f3,f4,f5⟩:=hf b hb;exact (g9.mp (I.stkSub b hb')).elim f1 f2
 ·
  have h2':(pick.map fun o=>o.bind fun j=>(σ[j]?).join)[i]? = some (some v):=h2;rw[List.getElem?_map] at h2';cases hp:pick[i]? with
  |none=>rw[hp] at h2';cases h2'
  |some o =>
   rw[hp] at h2';cases o with
   |none=>simp at h2'
   |some j =>
    simp only[Option.map_some,Option.bind_some,Option.some.injEq] at h2';have hj:σ[j]? = some (some v):=by
     cases q:σ[j]? with
     |none=>rw[q] at h2';cases h2'
     |some o=>rw[q] at h2';cases o with
      |none=>cases h2'
      |some w=>simp at h2';rw[h2']
    obtain⟨k1,k2⟩:=S.pick i j x hp h1;obtain⟨m0,hn0,hl0⟩:=I.loc;have vis:Bx X.env.scope x:=by
     rcases S.outer x k1 with q | q
     ·exact .inr (.inl q)
     ·exact .inr (.inr q)
    obtain⟨u,r,lk⟩:=hl0 j x v k2 hj vis;refine⟨u,r,?_⟩;rcases lk with ⟨z,_⟩ | ⟨_,c,hc,hcell⟩
    ·rcases S.outer x k1 with q | q<;>· rw[z] at q;cases q
    ·obtain⟨c',hc'⟩:=kZ (names:=scope.names) (acc:=[]) hc (bw k1);have:=old x c' hc';rw[hc] at this;cases this;refine .inr ⟨eK k1,c,sees x c k1 hc',?_⟩;obtain⟨o,ho,hd⟩:=hcell;exact⟨o,hk c o ho,hd⟩
 ·rcases look x c h with ⟨m1,_⟩ | ⟨_,o1⟩
  ·exact⟨none,(ok.empty _ _ m1).1⟩
  ·obtain⟨v,o,ho,hd⟩:=I.cell x c o1;exact⟨v,o,hk c o ho,hd⟩
 ·show (pick.map _).length=N'.length;rw[av,S.len]
end
noncomputable abbrev tK (ifs:List Expr)(env:Env):Sem Bool:=forIn ifs true fun c r=>if r=true then do let ok <- isTrue c env (eval c env);pure (ForInStep.yield ok) else pure (ForInStep.yield r)
noncomputable def Ew (X:Cx)(ifs:List Expr)(t:TT):Prop :=
 ∀(pins:List (Addr×Obj)) (s:Shared) (σ:L2.St) (H:Hp) (Q:Bool->Hp->Prop),Inv X pins σ H s->t σ H Q->wpAny (model X.prog X.w) X.A (tK ifs X.env) (TP X pins σ Q) X.xe s
theorem AM {X:Cx}:Ew X [] (fun _ H Q=>Q true H):=fun _ _ _ H Q I h=>wpAny_tests_nil ⟨H,I,h⟩
theorem z8 {X:Cx}{c:Expr}{t:TT}(h:PT X c t):Ew X [c] t:=fun pins s σ H Q I q=>wpAny_tests_one (h pins s σ H Q I q)
section
variable {prog:Program}{w:World}{A:Around}{R:Result->Shared->Prop}{s:Shared}
theorem qb {elt target iter:Expr}{ifs:List Expr}{scope:Scope}{pos:Pos}{it acc:Value}{env:Env}(I:Nat->Shared->Prop)
  (turn:∀ n s,I n s->wpAny (model prog w) A (pyNext it) (fun r s₁=>match r with
   |none=>R (.ok .next) s₁
   |some v=>wpAny (model prog w) A (letOwnedTupleGo target it v) (fun _ s₀=>wpAny (model prog w) A (assign target env v) (fun _ s₂ =>
     wpAny (model prog w) A (tK ifs env) (fun ok s₃ =>
      if ok=true then wpAny (model prog w) A (eval elt env) (fun x s₄ =>
       wpAny (model prog w) A (call (.builtin "list.append") [acc,x]) (fun _ s₅=>∃ m,m<n/\I m s₅) (fun _ _=>False) s₄) (fun _ _=>False) s₃
      else ∃ m,m<n/\I m s₃) (fun _ _=>False) s₂) (fun _ _=>False) s₀) (fun _ _=>False) s₁) (fun _ _=>False) s)
  (n:Nat) (h:I n s):codeAny (model prog w) A (.compLoop (.ListComp elt [⟨target,iter,ifs,0⟩] scope pos) 0 it acc env) R s:=by
 refine codeAny_loop rfl I (fun n s hI=>?_) n h;show wpAny _ A ((compTurn (.ListComp elt [⟨target,iter,ifs,0⟩] scope pos) 0 it acc env).onRaise (fun x=>do noteFrame x env;theTreesLotGoes x)) _ _ s;refine wpAny_noted ?_;rw[compTurn_list];refine wpAny_bind (wpAny_standAt (wpAny_bind (wpAny_mono (turn n s hI) (fun r s₁ h₁=>?_) fun _ _ h'=>h'.elim)));cases r with
 |none=>exact wpAny_pure h₁
 |some v =>
  refine wpAny_bind (wpAny_mono h₁ (fun _ s₀ h₀=>?_) fun _ _ h'=>h'.elim);refine wpAny_bind (wpAny_mono h₀ (fun _ s₂ h₂=>wpAny_bind (wpAny_mono h₂ (fun ok s₃ h₃=>?_) fun _ _ h'=>h'.elim)) fun _ _ h'=>h'.elim);cases ok with
  |false=>exact wpAny_pure ⟨rfl,h₃⟩
  |true =>
   exact wpAny_bind (wpAny_bind (wpAny_mono h₃ (fun x s₄ h₄=>wpAny_bind (wpAny_mono h₄ (fun _ s₅ h₅=>wpAny_pure (wpAny_pure ⟨rfl,h₅⟩)) fun _ _ h'=>h'.elim)) fun _ _ h'=>h'.elim))
end
def wX (pick:List (Option Nat))(wi:TI)(g:TG)(tt:TT)(te:TE):TE:=fun σ H Q=>wi σ H fun J H1=>∀ l,H1 l=none->∃ W:Nat->Nat->Hp->Prop,(∃ m,W 0 m (upd H1 l (.lst [])))/\∀ i m H,W i m H ->
 (J.stop i H/\Q (.ref l) H)\/(J.go i H/\∃ N:Hp->Prop,(∀ H',N H'->∃ m',m'<m/\W (i+1) m' H')/\∀ x H',J.yld i H x H'->g x (eZ σ pick) H' fun σ2 H2 =>
  tt σ2 H2 fun b H3=>if b=true then te σ2 H3 fun y H4=>∃ xs,H4 l=some (.lst xs)/\xs.length<sizeLine/\N (upd H4 l (.lst (xs ++ [y]))) else N H3)
section
variable {X:Cx}{scope:Scope}{N':List Str}{pick:List (Option Nat)}{tg iter elt:Expr}{ifs:List Expr}{pos:Pos}{wi:TI}{g:TG}{tt:TT}{te:TE}
theorem k9 (S:dP X scope N' pick)(hc:X.calm=true)(hin:∀ C s0 H0 ex,PG (inner X scope N' C s0 H0 ex) tg g/\Ew (inner X scope N' C s0 H0 ex) ifs tt/\PE (inner X scope N' C s0 H0 ex) elt te)
  (gk:∀(v:V) (σ:L2.St) (H:Hp) (Q:L2.St->Hp->Prop),g v σ H Q->g v σ H fun σ' H'=>Q σ' H'/\σ'.length=σ.length/\∀(i:Nat) u,pick[i]?≠some none->σ[i]? = some u->σ'[i]? = some u)
  {pins:List (Addr×Obj)}{σ:L2.St}{H:Hp}{s:Shared}{it:Addr}{fp:List Addr}{tn:Nat->Heap->Prop}{J:It}{E:Value->Shared->Prop}{RR:Value->Addr->Result->Shared->Prop}(I:Inv X pins σ H s) (T:Turn X.prog X.w X.K tg J fp it tn) (st:tn 0 s.heap) (hf:∀ b∈fp,mm X pins H b)
  (Q:VK) (h:∀ l,H l=none->∃ W:Nat->Nat->Hp->Prop,(∃ m,W 0 m (upd H l (.lst [])))/\∀ i m H,W i m H ->
   (J.stop i H/\Q (.ref l) H)\/(J.go i H/\∃ N:Hp->Prop,(∀ H',N H'->∃ m',m'<m/\W (i+1) m' H')/\∀ x H',J.yld i H x H'->g x (eZ σ pick) H' fun σ2 H2 =>
    tt σ2 H2 fun b H3=>if b=true then te σ2 H3 fun y H4=>∃ xs,H4 l=some (.lst xs)/\xs.length<sizeLine/\N (upd H4 l (.lst (xs ++ [y]))) else N H3))
  (hR:∀(l C:Addr) (s':Shared) (H':Hp) (m:Str->Option Value),s'.heap.Ns C m->mm X pins H' C->Q (.ref l) H'->Inv X pins σ H' s'->RR (.ref l) C (.ok .next) s') :
  wpAny (model X.prog X.w) X.A (newList []) (fun acc s₃=>wpAny (model X.prog X.w) X.A (newFunctionEnv scope X.env.globals (fR X.env.cells scope.names []) [] X.env.qual none .none (some X.env)) (fun cenv s₄ =>
   codeAny (model X.prog X.w) X.A (.compStart (.ListComp elt [⟨tg,iter,ifs,0⟩] scope pos) 0 (.ref it) acc { cenv with scope:=relabel scope X.env }) (RR acc cenv.locals) s₄) E s₃) E s:=by
 have hltI:∀ b∈fp,b<s.heap.objs.size:=fun b hb=>let ⟨o,e,_⟩:=T.obj 0 _ st b hb;Heap.lt_size e
 refine wpAny_newObj_type (nfe ?_);dsimp only;have I3:Inv X pins σ (upd H s.heap.objs.size (.lst [])) { s with heap:=s.heap.push { cls:=.type "list",data:=.seq ([]:List Value).toArray } }:=I.lnew (ys:=[]) (its:=[]) (t':=s.toks) .nil (en _);obtain⟨W,⟨m0,w0⟩,turn⟩:=h s.heap.objs.size I.fresh;have hC:(s.heap.push { cls:=.type "list",dict:=none,data:=.seq ([]:List Value).toArray }).objs.size=s.heap.objs.size+1:=Heap.size_push ..;have hf3:∀ b∈fp,mm X pins (upd H s.heap.objs.size (.lst [])) b:=fun b hb=>⟨by rw[aM (bq (hltI b hb))];exact (hf b hb).1,(hf b hb).2⟩
 have keep3:∀ b o,(s.heap.push { cls:=.type "list",dict:=none,data:=.seq ([]:List Value).toArray }).get? b=some o->(pushCells ((s.heap.push { cls:=.type "list",dict:=none,data:=.seq ([]:List Value).toArray }).push { cls:=.type "dict",data:=.dict #[] }) scope.names).get? b=some o:=fun b o e=>pushCells_keeps _ _ b o (Heap.get?_push_of_some _ e)
 have I4:=pM (s:={ s with heap:=s.heap.push { cls:=.type "list",dict:=none,data:=.seq ([]:List Value).toArray } }) S I3 hf3 (fun b hb=>by show b<(s.heap.push _).objs.size;rw[hC];exact gw (hltI b hb));dsimp only at I4;generalize hh₁:pushCells ((s.heap.push { cls:=.type "list",dict:=none,data:=.seq ([]:List Value).toArray }).push { cls:=.type "dict",data:=.dict #[] }) scope.names=h₁ at *;have st4:tn 0 h₁:=T.keep 0 _ _ st fun b hb o e=>keep3 b o (Heap.get?_push_of_some _ e)
 generalize hY:inner X scope N' (s.heap.push { cls:=.type "list",dict:=none,data:=.seq ([]:List Value).toArray }).objs.size { s with heap:=s.heap.push { cls:=.type "list",dict:=none,data:=.seq ([]:List Value).toArray } } (upd H s.heap.objs.size (.lst [])) fp=Y at I4;have hYin:=hin (s.heap.push { cls:=.type "list",dict:=none,data:=.seq ([]:List Value).toArray }).objs.size { s with heap:=s.heap.push { cls:=.type "list",dict:=none,data:=.seq ([]:List Value).toArray } } (upd H s.heap.objs.size (.lst [])) fp;rw[hY] at hYin;obtain⟨yg,yt,ye⟩:=hYin;have yE:Y.env=compEnvC scope (cellsFrom ((s.heap.push { cls:=.type "list",dict:=none,data:=.seq ([]:List Value).toArray }).objs.size+1) scope.names (fR X.env.cells scope.names [])) (s.heap.push { cls:=.type "list",dict:=none,data:=.seq ([]:List Value).toArray }).objs.size X.env:=by rw[<-hY];rfl
 have hCL:(s.heap.push { cls:=.type "list",dict:=none,data:=.seq ([]:List Value).toArray }).objs.size≠X.env.locals:=by
  rw[hC];exact Nat.ne_of_gt (gw I.lt)
 have back:∀{H5:Hp}{s5:Shared},Inv Y [] (eZ σ pick) H5 s5->Q (.ref s.heap.objs.size) H5->RR (.ref s.heap.objs.size) (s.heap.push { cls:=.type "list",dict:=none,data:=.seq ([]:List Value).toArray }).objs.size (.ok .next) s5:=fun {H5 s5} I5 q=>by
  subst hY;obtain⟨m,hn,_⟩:=I5.loc;have J5:Inv X pins σ H5 s5:=Inv.call' I3 I5.os I5.base I5.hok I5.bare fun b hb=>by
   obtain⟨f0,f1,f2,f3,f4,f5⟩:=hf b hb;exact⟨f3,f1,f4,f5⟩
  have lt3:∀{b:Addr}{o:Obj},s.heap.get? b=some o->b≠(s.heap.push { cls:=.type "list",dict:=none,data:=.seq ([]:List Value).toArray }).objs.size:=fun e=>by rw[hC];exact bq (gw (Heap.lt_size e))
  refine hR _ _ s5 H5 m hn ⟨I5.free,hCL,I.nofs (by rw[hC];exact Nat.le_succ _),.inr (by rw[hC];exact Nat.le_succ_of_le I.sz),fun x c e z=>?_,fun p hp z=>?_⟩ q J5
  ·obtain⟨v,o,ho,_⟩:=I.cell x c e;exact lt3 ho z
  ·exact lt3 (I.pin p hp).1 z
 have yP:Y.prog=X.prog:=by rw[<-hY];rfl
 have yw:Y.w=X.w:=by rw[<-hY];rfl
 have yK:Y.K=X.K:=by rw[<-hY];rfl
 have yA:Y.A=X.A:=by rw[<-hY];rfl
 have yc:Y.calm=true:=by rw[<-hY];exact hc
 have yx:Y.xe=fun _ _=>False:=by rw[<-hY];rfl
 have yp:Y.pn=[]:=by rw[<-hY];rfl
 have yex:Y.ex=fp:=by rw[<-hY];rfl
 have stat:∀{H':Hp},(∀ b∈fp,H' b=none)->∀ b∈fp,mm Y [] H' b:=fun {H'} hn b hb=>by
  have hb':b∈Y.ex:=by rw[yex];exact hb
  obtain⟨x1,x2⟩:=I4.ok.exf b hb';exact⟨hn b hb,x1,I4.ok.exfs b hb',.inl hb',x2,fun p hp=>by rw[yp] at hp;cases hp⟩
 rw[<-yP,<-yw,<-yA];have loop:codeAny (model Y.prog Y.w) Y.A (.compLoop (.ListComp elt [⟨tg,iter,ifs,0⟩] scope pos) 0 (.ref it) (.ref s.heap.objs.size) Y.env) (RR (.ref s.heap.objs.size) (s.heap.push { cls:=.type "list",dict:=none,data:=.seq ([]:List Value).toArray }).objs.size) { s with heap:=h₁ }:=by
  refine qb (fun n s5=>∃ i H5,Inv Y [] (eZ σ pick) H5 s5/\tn i s5.heap/\(∀ b∈fp,H5 b=none)/\W i n H5) ?_ m0 ⟨0,_,I4,st4,fun b hb=>(hf3 b hb).1,w0⟩;rintro n s5 ⟨i,H5,I5,st5,fr5,w5⟩;rcases turn i n H5 w5 with ⟨stop,qn⟩ | ⟨go,N,hN,step⟩
  ·have d:=T.done Y yP yw yK yc i [] s5 (eZ σ pick) H5 (fun _ _=>False) I5 (stat fr5) st5 stop;rw[<-yP,<-yw] at d;refine cH d fun r s6 ⟨hr,I6⟩=>?_
   subst hr;exact back I6 qn
  ·have d:=T.item Y yP yw yK yc i [] s5 (eZ σ pick) H5 (fun _ _=>False) I5 (stat fr5) st5 go;rw[<-yP,<-yw] at d;refine cH d fun r s6 ⟨u,hr,h6⟩=>?_
   subst hr;refine cH h6 fun _ s7 ⟨x,H7,I7,r7,y7,st7,fr7⟩=>?_
   have I7':=I7.pinned (stat fr7) (T.obj _ _ st7);have yg':=yg _ s7 (eZ σ pick) H7 x u _ I7' r7 (gk _ _ _ _ (step x H7 y7));rw[yx] at yg';refine cH yg' fun _ s8 ⟨σ8,H8,I8,q8,l8,k8⟩=>?_
   have yt':=yt _ s8 σ8 H8 _ I8 q8;rw[yx] at yt';refine cH yt' fun b s9 ⟨H9,I9,q9⟩=>?_
   have again:∀{σ':L2.St}{H':Hp}{s':Shared},Inv Y ([]++lh fp s7.heap) σ' H' s'->σ'=σ8->N H'->∃ m,m<n/\∃ i H5,Inv Y [] (eZ σ pick) H5 s'/\tn i s'.heap/\(∀ b∈fp,H5 b=none)/\W i m H5:=fun {σ' H' s'} J e nn=>by
    subst e;obtain⟨m',hm,w'⟩:=hN H' nn;refine⟨m',hm,i+1,H',(J.unpinned).weak (l8.symm) (fun j v e=>?_),T.keep _ _ _ st7 fun b hb o e=>(J.pin (b,o) (ax _ (ax _ (eQ hb e)))).1,fun b hb=>?_,w'⟩
    ·refine k8 j _ (fun z=>?_) e;unfold eZ at e;rw[List.getElem?_map,z] at e;simp at e
    ·obtain⟨o,e,_⟩:=T.obj _ _ st7 b hb;exact (J.pin (b,o) (ax _ (ax _ (eQ hb e)))).2.1
   cases b with
   |false =>
    rw[if_neg ao];exact again I9 rfl q9
   |true =>
    rw[if_pos rfl];have q9:te σ8 H9 fun y H4=>∃ xs,H4 s.heap.objs.size=some (.lst xs)/\xs.length<sizeLine/\N (upd H4 s.heap.objs.size (.lst (xs ++ [y]))):=q9
    have ye':=ye _ s9 σ8 H9 _ I9 q9;rw[yx] at ye';refine cH ye' fun v s10 ⟨y,H10,I10,r10,xs,e10,z10,n10⟩=>?_
    have ap:=jT _ s10 σ8 H10 (.ref s.heap.objs.size) [y] (.ref s.heap.objs.size) [v] (fun _ H'=>N H') I10 rfl (.cons r10 .nil) ⟨s.heap.objs.size,xs,y,rfl,rfl,e10,z10,n10⟩;rw[yx] at ap;exact cH ap fun _ s11 ⟨_,H11,I11,_,n11⟩=>again I11 rfl n11
 show codeAny (model Y.prog Y.w) Y.A (.compStart (.ListComp elt [⟨tg,iter,ifs,0⟩] scope pos) 0 (.ref it) (.ref s.heap.objs.size) (compEnvC scope (cellsFrom ((s.heap.push { cls:=.type "list",dict:=none,data:=.seq ([]:List Value).toArray }).objs.size+1) scope.names (fR X.env.cells scope.names [])) (s.heap.push { cls:=.type "list",dict:=none,data:=.seq ([]:List Value).toArray }).objs.size X.env))
  (RR (.ref s.heap.objs.size) (s.heap.push { cls:=.type "list",dict:=none,data:=.seq ([]:List Value).toArray }).objs.size) { s with heap:=h₁ }
 rw[<-yE];refine codeAny_compStart_list loop ?_;have l2:=loop;rw[yP,yw] at l2 ⊢;exact T.self Y.A 0 _ _ _ st4 l2
theorem fC (S:dP X scope N' pick)(hh:∀ x,(X.env.kindOf x=some .cell\/X.env.kindOf x=some .free)->∃ c,X.env.cells.lookup x=some c):closureFor scope X.env=pure (fR X.env.cells scope.names []) :=
 r9 fun x hx=>hh x (S.outer x (S.free x hx))
theorem AY (S:dP X scope N' pick)(hc:X.calm=true)(hi:PI X tg iter wi)(hin:∀ C s0 H0 ex,PG (inner X scope N' C s0 H0 ex) tg g/\Ew (inner X scope N' C s0 H0 ex) ifs tt/\PE (inner X scope N' C s0 H0 ex) elt te)
  (gk:∀(v:V) (σ:L2.St) (H:Hp) (Q:L2.St->Hp->Prop),g v σ H Q->g v σ H fun σ' H'=>Q σ' H'/\σ'.length=σ.length/\∀(i:Nat) u,pick[i]?≠some none->σ[i]? = some u->σ'[i]? = some u) (hs:∀ x,foldedSetIterable iter X.env x=pure x) :
  PE X (.ListComp elt [⟨tg,iter,ifs,0⟩] scope pos) (wX pick wi g tt te):=by
 intro pins s σ H Q I h;rw[eval_ListComp];refine wpAny_comprehension_free (use:=none) rfl hs (fC S I.ok.has) S.kind S.names (cH (hi pins s σ H _ I h) fun v s1 h1=>cH h1 fun itv s2 h2=>?_);obtain⟨it,fp,tn,J,H2,e,I2,T,st2,f2,q⟩:=h2;subst e;refine k9 (RR:=fun acc C=>compPost (model X.prog X.w) X.A X.xe none (EP X pins σ Q) acc C) S hc hin gk I2 T st2 f2 Q q fun l C s' H' m hn fc hq J0=>?_
 obtain⟨f0,f1,f2,f3,f4,f5⟩:=fc;exact⟨m,hn,fun h' sb=>⟨.ref l,H',J0.turned (t':=s'.toks) (fun b o hb e=>sb.extBut b o hb e) f0 f1 f3 f4 f5,rfl,hq⟩⟩
theorem rR {i:Nat}{x:Str}{pos' spos:Pos}(S:dP X scope N' pick)(hc:X.calm=true)(hi:PI X tg iter wi)(hin:∀ C s0 H0 ex,PG (inner X scope N' C s0 H0 ex) tg g/\Ew (inner X scope N' C s0 H0 ex) ifs tt/\PE (inner X scope N' C s0 H0 ex) elt te)
  (gk:∀(v:V) (σ:L2.St) (H:Hp) (Q:L2.St->Hp->Prop),g v σ H Q->g v σ H fun σ' H'=>Q σ' H'/\σ'.length=σ.length/\∀(i:Nat) u,pick[i]?≠some none->σ[i]? = some u->σ'[i]? = some u) (hs:∀ x,foldedSetIterable iter X.env x=pure x)
  (hN:X.N.Nodup) (hx:X.N[i]? = some x) (hl:Loc X.env.scope x) (hf:X.fn x=true\/X.env.scope.names.lookup x=some .local) (hsw:swapsWith (.ListComp elt [⟨tg,iter,ifs,0⟩] scope pos) (some (.Name x pos')) spos.line X.env=pure true) :
  PS X (.Assign [.Name x pos'] (.ListComp elt [⟨tg,iter,ifs,0⟩] scope pos) spos) (Az (wX pick wi g tt te) (kW i)):=by
 intro pins s σ H D I h;rw[exec_Assign_Name_used _ _ _ _ hsw];refine wpAny_bind (wpAny_standAt (wpAny_bind ?_));show wpAny _ X.A (do let _ <- comprehension (.ListComp elt [⟨tg,iter,ifs,0⟩] scope pos) scope X.env _ (newList []) false (eval iter X.env) (some (assign (.Name x pos') X.env))) _ _ s;refine wpAny_bind (wpAny_mono (wpAny_comprehension_free (use:=some (assign (.Name x pos') X.env)) (Q:=fun _ s'=>SP X pins D .next s') rfl hs (fC S I.ok.has) S.kind S.names
  (cH (hi pins s σ H _ I h) fun v s1 h1=>cH h1 fun itv s2 h2=>?_)) (fun _ s' hq=>wpAny_pure (wpAny_pure hq)) fun _ _ e=>e)
 obtain⟨it,fp,tn,J,H2,e,I2,T,st2,f2,q⟩:=h2;subst e;refine k9 (RR:=fun acc C=>compPost (model X.prog X.w) X.A X.xe (some (assign (.Name x pos') X.env)) (fun _ s'=>SP X pins D .next s') acc C) S hc hin gk I2 T st2 f2 (fun x H1=>kW i x σ H1 D.nx) q fun l C s' H' m hn fc hq J0=>?_
 obtain⟨o,es,ep,ho,hd,hr⟩:=id hn;have J1:=J0.pinned (fp:=[C]) (fun b hb=>by rw[gp.mp hb];exact fc) fun b hb=>by rw[gp.mp hb];exact⟨o,ho,fun v z=>by rw[hd] at z;cases z⟩
 show wpAny (model X.prog X.w) X.A (assign (.Name x pos') X.env (.ref l)) _ _ s';refine wpAny_assign_Name (iC J1 hN hx hl (v:=.ref l) rfl (fun s2 I2=>?_) hf);have hC2:=(I2.pin (C,o) (List.mem_append_right _ (List.mem_append_right _ (eQ (by simp) ho)))).1;obtain⟨f0,f1,f2,f3,f4,f5⟩:=fc;refine⟨m,⟨o,es,ep,hC2,hd,hr⟩,fun h' sb=>?_⟩;exact⟨_,H',I2.unpinned.turned (t':=s2.toks) (fun b o hb e=>sb.extBut b o hb e) f0 f1 f3 f4 f5,hq⟩
end
noncomputable def dX (own:Nat)(pick:List Nat):List (Option Nat):=List.replicate own none++pick.map some
theorem oz (σ:L2.St)(pk:List (Option Nat)):(eZ σ pk).length=pk.length:=by simp[eZ]
theorem mK (env:En)(own:Nat)(pick:List Nat):(eR env own pick).length=own+pick.length:=by simp[eR]
noncomputable def mX (F:Nat->List Addr)(env:En)(own:Nat)(pick:List Nat):Nat->List Addr:=fun i=>match (eR env own pick)[i]? with
 | some (some _)=>match pick[i - own]? with
  |some j=>F j
  |none=>[]
 |_=>[]
theorem eL {env:En}{own:Nat}{pick:List Nat}{i:Nat}{d:D}{t:Tg}(h:(eR env own pick)[i]? = some (some (d,t))):t = .sh []/\own<=i/\∃ j t0,pick[i - own]? = some j/\env[j]? = some (some (d,t0)):=by
 unfold eR at h;by_cases hi:i<own
 ·rw[List.getElem?_append_left (by simpa using hi),List.getElem?_replicate] at h;split at h<;>cases h
 ·have hi:own<=i:=iu hi;rw[List.getElem?_append_right (by simpa using hi),List.length_replicate,List.getElem?_map] at h;cases hp:pick[i - own]? with
  |none=>rw[hp] at h;cases h
  |some j =>
   rw[hp] at h;simp only[Option.map_some,Option.some.injEq] at h;split at h
   ·rename_i d0 t0 q;cases h;exact⟨rfl,hi,j,t0,rfl,q⟩
   ·cases h
section
variable {K:Frag}{P:Addr->Prop}{env:En}{σ:L2.St}{H:Hp}{F:Nat->List Addr}
theorem RE.picked (re:RE K P env σ H F)(own:Nat)(pick:List Nat):RE K (fun _=>False) (eR env own pick) (eZ σ (dX own pick)) H (mX F env own pick) where
 len:=by rw[mK,oz];simp[dX]
 val:=fun i d t h=>by
  obtain⟨rfl,hi,j,t0,hp,he⟩:=eL h;obtain⟨v,e,r⟩:=re.val j d t0 he;refine⟨v,?_,?_⟩
  ·unfold eZ dX;rw[List.getElem?_map,List.getElem?_append_right (by simpa using hi),List.length_replicate,List.getElem?_map,hp];simp[e]
  ·unfold mX;rw[h,hp];exact r
 emp:=fun i h=>by
  unfold mX;split
  ·rename_i p q;exact absurd q (h p.1 p.2)
  ·rfl
 one:=fun i d t h o=>by
  obtain⟨rfl,_⟩:=eL h;cases o
 wr:=fun i d h=>by
  obtain⟨q,_⟩:=eL h;cases q
 pl:=fun _ h=>h.elim
theorem uD {own:Nat}{pick:List Nat}{i:Nat}{a:Addr}(re:RE K P env σ H F)(h:a∈mX F env own pick i):∃ j∈pick,∃ d t,a∈F j/\env[j]? = some (some (d,t)):=by
 unfold mX at h;split at h
 ·rename_i p q;obtain⟨_,hi,j,t0,hp,he⟩:=eL (d:=p.1) (t:=p.2) q;rw[hp] at h;exact⟨j,List.mem_of_getElem? hp,p.1,t0,h,he⟩
 ·cases h
end
noncomputable def C4 (K:Frag)(T:Tb):mL->TT
 |.none=>fun _ H Q=>Q true H
 |.some c=>mo K T c
section
variable {X:Cx}{T:Tb}{scope:Scope}{N':List Str}{own:Nat}{pick:List Nat}{t:kD}{it:vG}{c:mL}{e:Ex}
theorem D2 {σ:L2.St}{H:Hp}{Q:Bool->Hp->Prop}{P:Addr->Prop}{env:En}{F:Nat->List Addr}{k:Bool}(re:RE X.K P env σ H F)(hk:Ej T c env = .ok k)(q:∀ H',aI H H'->Q k H'):C4 X.K T c σ H Q:=by
 cases c with
 |none =>
  unfold Ej at hk;cases hk;exact q H (aI.refl _)
 |some c =>
  unfold Ej at hk;obtain⟨p,h1,h2⟩:=Rs.bind_ok hk;exact⟨P,env,F,re,p,k,h1,cO h2,q⟩
theorem nr {σ:L2.St}{H:Hp}{Q:VK}(h:tE X.K T (.comp own pick t it c e) σ H Q):wX (dX own pick) (tI X.K T it) (rB X.K t) (C4 X.K T c) (tE X.K T e) σ H Q:=by
 obtain⟨P,env,F,re,p0,hev,k⟩:=h;unfold ev at hev;obtain⟨p,h1,hev⟩:=Rs.bind_ok hev;obtain⟨rT,h2,hev⟩:=Rs.bind_ok hev;have hlim:p.1.length<=lim:=Decidable.byContradiction fun hn=>by rw[if_neg hn] at hev;cases hev
 rw[if_pos hlim] at hev;cases hev;refine⟨P,env,F,re,p,h1,fun J H1 Gs s1 rt nn wk l hl=>?_⟩;have re1:=re.same s1;have wk:=wk (fun a=>a∈Gs) fun a ha=>ha
 let S0:Addr->Prop:=fun a=>a∈Gs\/∃ j∈pick,∃ d t,a∈F j/\env[j]? = some (some (d,t))
 have S0n:∀ a,S0 a->H1 a≠none:=fun a ha=>by
  rcases ha with ha | ⟨j,_,d,t,m,ej⟩
  ·exact nn a ha
  ·exact re1.nn ej m
 have lS:¬ S0 l:=fun z=>S0n l z hl
 refine⟨fun i m H2=>m=p.1.length - i/\i<=p.1.length/\∃(acc rest:List (D×Rt)) (vs:List V) (G:List Addr),iA (fun d=>gQ (bQ [] t d (eR env own pick)) (Ej T c) (ev T e)) (p.1.drop i) = .ok rest/\rT=acc++rest/\acc.length<=i/\H2 l=some (.lst vs)/\aG X.K H2 (acc.map (·.1)) vs G/\aI H1 H2/\l∉G /\
  (∀ a∈G,H1 a=none\/S0 a)/\(acc.all (fun q=>q.1.flat || iP q.2)=true->G.Nodup/\∀ a∈G,H1 a=none/\∃ ws:ML,H2 a=some ws.o),?_,?_⟩
 ·refine⟨p.1.length,by simp,Nat.zero_le _,[],rT,[],[],by simpa using h2,rfl,Nat.le_refl _,aL,.nil,aI.new hl,by simp,fun _ h=>(nomatch h),fun _=>⟨List.nodup_nil,fun _ h=>(nomatch h)⟩⟩
 ·rintro i m H2 ⟨rfl,hi,acc,rest,vs,G,hgo,htot,hacc,hl2,rs,s2,hlG,hG,hfr⟩;obtain⟨w1,w2⟩:=wk H2 (jH.of_same (fun a ha=>nn a ha) s2);by_cases hlt:i<p.1.length
  ·right;have hd:p.1[i]? = some p.1[i]:=by simp[hlt]
   obtain⟨g1,g2⟩:=w1 i _ hd;refine⟨g1,fun H3=>i+1<=p.1.length/\∃(acc rest:List (D×Rt)) (vs:List V) (G:List Addr),iA (fun d=>gQ (bQ [] t d (eR env own pick)) (Ej T c) (ev T e)) (p.1.drop (i+1)) = .ok rest/\rT=acc++rest/\acc.length<=i+1/\H3 l=some (.lst vs)/\aG X.K H3 (acc.map (·.1)) vs G/\aI H1 H3/\l∉G /\
    (∀ a∈G,H1 a=none\/S0 a)/\(acc.all (fun q=>q.1.flat || iP q.2)=true->G.Nodup/\∀ a∈G,H1 a=none/\∃ ws:ML,H3 a=some ws.o),fun H3 q=>⟨p.1.length - (i+1),by omega,rfl,q⟩,fun x H3 y=>?_⟩
   obtain⟨s3,G3,rp3,sub3⟩:=g2 x H3 y;rw[ip hlt] at hgo;unfold iA at hgo;obtain⟨o,hstep,hgo⟩:=Rs.bind_ok hgo;obtain⟨rest',hrest,hgo⟩:=Rs.bind_ok hgo;cases hb:bQ [] t p.1[i] (eR env own pick) with
   |none=>rw[hb] at hstep;cases hstep
   |some env4 =>
    rw[hb] at hstep;unfold gQ at hstep;obtain⟨kc,hkc,hstep⟩:=Rs.bind_ok hstep;have rep:=(re1.same (s2.trans s3)).picked own pick;let Z:Addr->Prop:=fun a=>S0 a
    have zF:∀ i,∀ a∈mX F env own pick i,Z a:=fun i a ha=>by
     obtain⟨j,hj,d,t,m,ej⟩:=uD (re1.same (s2.trans s3)) ha;exact .inr ⟨j,hj,d,t,m,ej⟩
    refine pE (Z:=Z) rep zF rp3 (fun a ha=>.inl (sub3 a ha)) (fun a ha j d' t' ej o m=>?_) hb fun σ4 F4 re4 z4 _=>?_
    ·obtain⟨rfl,_⟩:=eL ej;cases o
    ·refine D2 re4 hkc fun H5 s5=>?_
     have base5:=s2.trans (s3.trans s5);have l5:H5 l=some (.lst vs):=s5 _ _ (s3 _ _ hl2);cases kc with
     |false =>
      show if false=true then _ else _
      rw[if_neg ao];simp only[Bool.false_eq_true,if_false] at hstep;cases hstep;cases hgo;refine⟨hlt,acc,rest',vs,G,hrest,htot,Nat.le_succ_of_le hacc,l5,rs.same (s3.trans s5),base5,hlG,hG,fun f=>?_⟩;obtain⟨n1,n2⟩:=hfr f;exact⟨n1,fun a ha=>⟨(n2 a ha).1,let ⟨ws,q⟩:=(n2 a ha).2;⟨ws,s5 _ _ (s3 _ _ q)⟩⟩⟩
     |true =>
      show if true=true then _ else _
      rw[if_pos rfl];simp only[if_true] at hstep;obtain⟨q,hq,hstep⟩:=Rs.bind_ok hstep;cases hstep;cases hgo;refine⟨_,env4,F4,re4.same s5,q,hq,fun yv H6 Gy s6 rpy rty=>?_⟩;have l6:H6 l=some (.lst vs):=s6 _ _ l5;have base6:=base5.trans s6;have old6:=s3.trans (s5.trans s6);have yS:∀ a∈Gy,H5 a=none\/S0 a:=fun a ha=>(rty.cont a ha).imp id fun ⟨i,d,t,m,_⟩=>z4 i a m
      have ly:l∉Gy:=fun z=>by
       rcases yS l z with q | q
       ·rw[l5] at q;cases q
       ·exact lS q
      have len6:vs.length=acc.length:=by have:=rs.len;rw[av] at this;exact this.symm
      refine⟨vs,l6,Nat.lt_of_le_of_lt (Nat.le_trans (Nat.le_of_eq len6) (Nat.le_trans hacc (Nat.le_of_lt (Nat.lt_of_lt_of_le hlt hlim)))) (by decide),hlt,acc ++ [q],rest',vs ++ [yv],G++(Gy ++ []),hrest,by rw[htot];simp,by simp;exact hacc,aL,?_,?_,?_,?_,?_⟩
      ·rw[fk];exact (aG.append (rs.same old6) (.cons rpy .nil)).upd l6 (by simp;exact⟨hlG,ly⟩)
      ·intro b o e;rw[aM (fun z=>by subst z;rw[hl] at e;cases e)];exact base6 _ _ e
      ·simp;exact⟨hlG,ly⟩
      ·intro a ha;rw[bh] at ha;rcases List.mem_append.mp ha with ha | ha
       ·exact hG a ha
       ·exact (yS a ha).imp (aI.no base5) id
      ·intro f;rw[List.all_append,ag] at f;obtain⟨n1,n2⟩:=hfr f.1;have fy:Gy.Nodup/\∀ a∈Gy,H5 a=none/\∃ ws:ML,H6 a=some ws.o:=by
        have f2:q.1.flat=true\/iP q.2=true:=by simpa using f.2
        rcases f2 with f2 | f2
        ·rw[rpy.flat f2];exact⟨cn,fun _ h=>(nomatch h)⟩
        ·have:q.2 = .mv []:=by
          cases hr:q.2 with
          |sh R=>rw[hr] at f2;cases f2
          |mv R=>cases R with
           |nil=>rfl
           |cons a b=>rw[hr] at f2;cases f2
         obtain⟨m1,m2,m3⟩:=rty.mv [] this;refine⟨m1,fun a ha=>⟨?_,m2 a ha⟩⟩;rcases m3 a ha with z | ⟨_,_,_,z,_⟩
         ·exact z
         ·cases z
       rw[bh];refine⟨iq.mpr ⟨n1,fy.1,fun a ha b hb z=>?_⟩,fun a ha=>?_⟩
       ·subst z;obtain⟨_,ws,w⟩:=n2 a ha;have:=s5 _ _ (s3 _ _ w);rw[(fy.2 a hb).1] at this;cases this
       ·have ne:a≠l:=fun z=>by
         subst z;rcases List.mem_append.mp ha with ha | ha
         ·exact hlG ha
         ·exact ly ha
        rcases List.mem_append.mp ha with ha | ha
        ·obtain⟨u1,ws,w⟩:=n2 a ha;exact⟨u1,ws,by rw[aM ne];exact old6 _ _ w⟩
        ·obtain⟨u1,ws,w⟩:=fy.2 a ha;exact⟨aI.no base5 u1,ws,by rw[aM ne];exact w⟩
  ·left;have ei:i=p.1.length:=by omega
   subst ei;refine⟨w2,?_⟩;rw[List.drop_length] at hgo;unfold iA at hgo;cases hgo;rw[bh] at htot;subst htot;refine k _ H2 (l::G) (s1.trans s2) (.lst (.inl hl2) rs) ?_;have hl0:=aI.no s1 hl;cases hf:rT.all (fun q=>q.1.flat || iP q.2) with
   |true =>
    obtain⟨n1,n2⟩:=hfr hf;have new:∀ a∈l::G,H a=none:=fun a ha=>by
     rcases g9.mp ha with rfl | ha
     ·exact hl0
     ·exact aI.no s1 (n2 a ha).1
    refine⟨fun a ha=>.inl (new a ha),fun R e=>⟨List.nodup_cons.mpr ⟨hlG,n1⟩,fun a ha=>?_,fun a ha=>.inl (new a ha)⟩⟩;rcases g9.mp ha with rfl | ha
    ·exact⟨.l _,hl2⟩
    ·exact (n2 a ha).2
   |false =>
    refine⟨fun a ha=>?_,fun R e=>by cases e⟩;rcases g9.mp ha with rfl | ha
    ·exact .inl hl0
    ·rcases hG a ha with q | q | ⟨j,hj,d,t,m,ej⟩
     ·exact .inl (aI.no s1 q)
     ·exact (rt.cont a q).imp id fun ⟨i,d,t,x,y,z⟩=>⟨i,d,t,x,y,fun r hr=>bj _ (z r hr)⟩
     ·refine .inr ⟨j,d,t,m,ej,fun r hr=>ax _ ?_⟩;unfold mU;rw[List.mem_flatten];exact⟨aX j t,List.mem_map.mpr ⟨j,hj,by rw[ej]⟩,hr⟩
theorem mV {K:Frag}{t:kD}{pk:List (Option Nat)}(ht:∀ i,(t = .nm i\/∃ is,t = .tp is/\i∈is)->pk[i]? = some none)(v:V)(σ:L2.St)(H:Hp)(Q:L2.St->Hp->Prop)(h:rB K t v σ H Q) :
  rB K t v σ H fun σ' H'=>Q σ' H'/\σ'.length=σ.length/\∀(i:Nat) u,pk[i]?≠some none->σ[i]? = some u->σ'[i]? = some u:=by
 cases t with
 |nm i=>exact⟨h,by simp,fun j u hj e=>by rw[List.getElem?_set_ne];exact e;rintro rfl;exact hj (ht i (.inl rfl))⟩
 |tp is =>
  obtain⟨a,xs,e1,e2,e3,h⟩:=h;refine⟨a,xs,e1,e2,e3,?_⟩;have gen:∀(is:List Nat) (xs:List V) (σ1:L2.St),(∀ i∈is,pk[i]? = some none)->σ1.length=σ.length->(∀(i:Nat) u,pk[i]?≠some none->σ[i]? = some u->σ1[i]? = some u)->fT is xs σ1 H Q->fT is xs σ1 H fun σ' H'=>Q σ' H'/\σ'.length=σ.length/\∀(i:Nat) u,pk[i]?≠some none->σ[i]? = some u->σ'[i]? = some u:=by
   intro is
   induction is with
   |nil=>intro xs σ1 _ hl hk h;exact⟨h.1,h.2,hl,hk⟩
   |cons j js ih =>
    intro xs σ1 hi hl hk h;obtain⟨v,r,e,h⟩:=h;refine⟨v,r,e,ih r (σ1.set j (some v)) (fun i hm=>hi i (List.mem_cons_of_mem _ hm)) (by simp[hl]) (fun i u hi' e'=>?_) h⟩;rw[List.getElem?_set_ne];exact hk i u hi' e';rintro rfl;exact hi' (hi j au)
  exact gen is xs σ (fun i hm=>ht i (.inr ⟨is,rfl,hm⟩)) rfl (fun _ _ _ e=>e) h
end
def sY (K:Frag)(T:Tb)(x:Nat)(path:mL):TE:=fun σ H Q=>∃ P env F po v p,RE K P env σ H F/\jQ T path env = .ok po/\σ[x]? = some (some v)/\PV K H v po p/\∀ H',aI H H'->Q (.ref p) H'
section
variable {X:Cx}{T:Tb}{pos:Pos}{i:Nat}{x:Str}
theorem Dy (hN:X.N[i]? = some x)(hv:Bx X.env.scope x)(hd:(x==("__debug__" : Str))=false) (hcd:(x==("__classdict__" : Str))=false):PE X (.Name x pos) (sY X.K T i .none):=by
 refine bE (qI hN hv hd hcd) fun σ H Q ⟨P,env,F,po,v,p,re,hpo,hv,pv,k⟩=>?_
 unfold jQ at hpo;cases hpo;cases pv;exact⟨_,hv,k H (aI.refl _)⟩
end
theorem aG.ins {K:Frag}{H:Hp}{d:D}{y:V}{Gd:List Addr}(rp:Rep K H d y Gd):∀(n:Nat) {xs:List D}{ws:List V}{Gx:List Addr},aG K H xs ws Gx->∃ A,aG K H (xs.take n++d::xs.drop n) (ws.take n++y::ws.drop n) A/\List.Perm A (Gx++Gd)
 |0,_,_,_,r=>⟨_,by simpa using .cons rp r,List.perm_append_comm⟩
 |_+1,_,_,_,.nil=>⟨_,by simpa using .cons rp .nil,by simp⟩
 | n+1,_,_,_,.cons h r=>by
  obtain⟨A,p1,p2⟩:=aG.ins rp n r;refine⟨_,by simpa using .cons h p1,?_⟩;rw[dq];exact List.Perm.append_left _ p2
def vd (K:Frag)(m:qi):V->List V->Hp->VK->Prop:=fun x vs H Q=>∃ l ws xs ds Gx G ys,x = .ref l/\H l=some (.lst ws)/\aG K H xs ws Gx/\aG K H ds vs G/\uW m xs ds=some ys/\ys.length<=lim/\l∉Gx/\l∉G/\Gx.Nodup /\
 ∀ us Gy v,aG K (upd H l (.lst us)) ys us Gy->(∀ a∈Gy,a∈Gx\/(m.copies=false/\a∈G))->((∀ a∈Gx,a∉G)->G.Nodup\/m.copies=true->Gy.Nodup)->Q v (upd H l (.lst us))
section
variable {X:Cx}
def zZ:V->List V->Hp->VK->Prop:=fun x vs H Q=>∃ l xs i y,x = .ref l/\vs=[.int i,y]/\H l=some (.lst xs)/\-(2 ^ 63)<=i/\i<2 ^ 63/\xs.length<sizeLine/\Q .non (upd H l (.lst (xs.take (aU xs.length 0 (some i))++y::xs.drop (aU xs.length 0 (some i)))))
theorem vv:MtM X "list.insert" zZ:=by
 intro pins s σ H x vs v us Q I rx rv h;obtain⟨l,xs,i,y,rfl,rfl,hH,h1,h2,hz,q⟩:=h;cases rx;obtain⟨u,w,rfl,⟨t,rfl⟩,rw'⟩:=rv.two;obtain⟨z,its,n,r,hl,e⟩:=I.lstM hH;refine call_meets F.slot_list_insert ⟨_,e,rfl⟩ F.entry_list_insert (F.args_list_insert_3 _ _ _) (AutoListH.list_insert_list_int_val_1 l its.toArray n i t w (by rw[fitsIndex_both h1 h2];exact ao) (by rw[ai];omega)) ⟨e,?_⟩;have hk:(if i<0 then (i+((its.toArray.size:Nat):Int)).toNat else min i.toNat its.toArray.size)=aU xs.length 0 (some i):=by
  rw[ai,<-hl];rfl
 refine⟨.non,_,I.lset (its':=its.take (aU xs.length 0 (some i))++w::its.drop (aU xs.length 0 (some i))) hH e ?_ ((r.take _).append (.cons rw' (r.drop _))) ?_,rfl,q⟩
 ·simp only[hk];simp;exact List.take_of_length_le (by simp)
 ·simp only[List.length_append,List.length_cons,List.length_take,List.length_drop];omega
theorem qO:MtM X "list.append" (vd X.K .append):=by
 intro pins s σ H x vs v us Q I rx rv h;obtain⟨l,ws,xs,ds,Gx,G,ys,rfl,hl,r1,r2,hm,hlen,n1,n2,nd,k⟩:=h
 match ds,hm with
 |[d],hm =>
  cases hm;obtain⟨y,rfl,rp⟩:=r2.of1;refine jT pins s σ H _ _ v us Q I rx rv ⟨l,ws,y,rfl,rfl,hl,?_,k (ws ++ [y]) (Gx++(G ++ [])) _ ?_ (fun a ha=>?_) fun dj o=>?_⟩
  ·rw[<-r1.len];simp only[List.length_append,List.length_singleton] at hlen;exact az (az (fi _) hlen) qW
  ·exact (r1.append (.cons rp .nil)).upd hl (by simp;exact⟨n1,n2⟩)
  ·simp at ha;exact ha.imp id fun z=>⟨rfl,z⟩
  ·rcases o with o | o
   ·rw[bh];exact iq.mpr ⟨nd,o,fun a ha b hb z=>by subst z;exact dj a ha hb⟩
   ·cases o
theorem qX:MtM X "list.insert" (vd X.K .insert):=by
 intro pins s σ H x vs v us Q I rx rv h;obtain⟨l,ws,xs,ds,Gx,G,ys,rfl,hl,r1,r2,hm,hlen,n1,n2,nd,k⟩:=h
 match ds,hm with
 |[.int i,d],hm =>
  have hm:(if -(2 ^ 63)<=i/\i<2 ^ 63 then some (xs.take (aU xs.length 0 (some i))++d::xs.drop (aU xs.length 0 (some i))) else none)=some ys:=hm;by_cases hi : -(2 ^ 63)<=i/\i<2 ^ 63
  ·rw[if_pos hi] at hm;cases hm;cases r2 with
   |cons ri r2 =>
    obtain⟨rfl,rfl⟩:=ri.int_inv;obtain⟨y,rfl,rp⟩:=r2.of1;have hln:=r1.len;simp only[List.nil_append] at n2 k;obtain⟨A,t1,t2⟩:=aG.ins rp (aU xs.length 0 (some i)) r1;refine vv pins s σ H _ _ v us Q I rx rv ⟨l,ws,i,y,rfl,rfl,hl,hi.1,hi.2,?_,?_⟩
    ·rw[<-hln];simp only[List.length_append,List.length_cons,List.length_take,List.length_drop] at hlen;have:=qW;omega
    ·rw[<-hln];refine k _ A _ (t1.upd hl (fun z=>?_)) (fun a ha=>?_) fun dj o=>?_
     ·have:=t2.subset z;simp at this;exact this.elim n1 n2
     ·have:=t2.subset ha;simp at this;exact this.imp id fun z=>⟨rfl,z⟩
     ·rcases o with o | o
      ·exact t2.nodup_iff.mpr (iq.mpr ⟨nd,o,fun a ha b hb z=>by subst z;exact dj a ha hb⟩)
      ·cases o
  ·rw[if_neg hi] at hm;cases hm
theorem lM {T:Tb}{i:Nat}{path:mL}{m:qi}{cs:my}{D:Ends}{σ:L2.St}{H:Hp}(h:tS X.K T (.mut i path m cs) D σ H):wL (G9 X.K "list" (vd X.K m) (sY X.K T i path) (uC X.K T cs)) D σ H:=by
 obtain⟨P,Z,env,F,re,hz,zp,h⟩:=h;unfold bM at h;cases hx:ownAt env i with
 |none=>rw[hx] at h;exact h.elim
 |some d =>
  rw[hx] at h;obtain⟨po,hpo,h⟩:=dU h;cases hat:d.at1 po with
  |none=>rw[hat] at h;exact h.elim
  |some xs =>
   rw[hat] at h;obtain⟨l,hl,h⟩:=dU h;cases hm:uW m xs (l.map (·.1)) with
   |none=>rw[hm] at h;exact h.elim
   |some ys =>
    rw[hm] at h;have hx':=i6 hx;obtain⟨v,hv,_⟩:=re.val i d .own hx';obtain⟨p,pv,f⟩:=ve re hx hv hat;refine⟨P,env,F,po,v,p,re,hpo,hv,pv,fun H1 s1=>?_⟩;obtain⟨ws1,g1,e1,_⟩:=f H1 s1;refine⟨.inl ⟨rfl,ws1,.inl (.inl e1)⟩,P,env,F,re.same s1,l,hl,fun vs H2 G ar=>?_⟩;have s2:=s1.trans ar.same;obtain⟨ws,Gx,a1,a2,a3,a4,a5,a6,fs⟩:=f H2 s2;by_cases hroot:(aT (l.map (·.2))).contains i=true
    ·simp only[hroot,if_true] at h;exact h.elim
    simp only[hroot,if_false] at h;have disj:∀ a∈F i,a∉G:=fun a ha hg=>by
     rcases ar.cont a hg with q | ⟨j,d2,t2,m2,e2,sr⟩
     ·exact (re.same s1).nn hx' ha q
     ·exact hroot (by simpa using sr i ((re.one i d .own hx' rfl).2.2 a ha j d2 t2 e2 m2))
    have nG:=disj p a3;refine⟨p,ws,xs,l.map (·.1),Gx,G,ys,rfl,a1,a2,ar.reps,hm,uZ h,a6,nG,a5,fun us Gy w rs sub nd=>?_⟩;refine xK (N:=if m.copies then [] else G) re hz zp s2 hx hv a3 (fun R hR ndR=>?_) (fun hN hNd=>?_) h
    ·cases hc:m.copies with
     |true=>exact⟨cn,fun _ h=>(nomatch h),fun _ h=>(nomatch h)⟩
     |false =>
      rw[hc] at hR;obtain⟨n1,n2,n3⟩:=Args.mv (re.same s1) ar hR ndR;exact⟨n1,n2,fun a ha=>(n3 a ha).imp (aI.no s1) id⟩
    ·have ngy:Gy.Nodup:=nd (fun a ha=>disj a (a4 a ha)) (by
      cases hc:m.copies with
      |true=>exact .inr rfl
      |false=>rw[hc] at hNd;exact .inl hNd)
     obtain⟨G',b1,b2,b3⟩:=fs ys us Gy rs ngy (fun z=>(sub p z).elim a6 fun q=>nG q.2) fun a ha=>(sub a ha).imp id fun q z=>disj a z q.2
     refine⟨G',b1,b2,fun a ha=>?_⟩;rcases b3 a ha with q | q
     ·exact .inl q
     ·rcases sub a q with z | ⟨z1,z2⟩
      ·exact .inl (a4 a z)
      ·rw[z1];exact .inr z2
theorem vo {T:Tb}{i:Nat}{path:mL}{m:qi}{D:Ends}{σ:L2.St}{H:Hp}(h:tS X.K T (.mut i path m .nil) D σ H):wL (GJ X.K "list" (vd X.K m) (sY X.K T i path)) D σ H:=by
 obtain⟨P,env,F,po,v,p,re,hpo,hv,pv,k⟩:=lM h;refine⟨P,env,F,po,v,p,re,hpo,hv,pv,fun H' s=>?_⟩;obtain⟨ty,P',env',F',re',l,hl,f⟩:=k H' s;unfold aV at hl;cases hl;exact⟨ty,f [] H' [] (.nil (aI.refl _))⟩
end
section
variable {X:Cx}
noncomputable def iM:List String:=["int","bool","str","list","tuple"]
theorem ty_type {T:String}(h:T∈iM):typeOf (.type T)=pure (.type "type"):=by
 simp only[iM,List.mem_cons,List.not_mem_nil,or_false] at h;rcases h with rfl | rfl | rfl | rfl | rfl<;>kernel_rfl
def Gv (K:Frag):List V->Hp->VK->Prop:=fun xs H Q=>∃ x T d G,xs=[x,.ty T]/\T∈iM/\((∀ kvs,d≠.dct kvs)/\(∀ ks,d≠.mpi ks)/\(∀ ks,d≠.mpt ks)/\∀ ks,d≠.mpz ks)/\Rep K H d x G/\Q (.bl (wc T d)) H
theorem uK:dY X (.builtin "isinstance") (Gv X.K):=by
 intro pins s σ H xs us Q I r h;obtain⟨x,T,d,G,rfl,hT,hnd,rp,q⟩:=h;obtain⟨u,w,rfl,rx,rt⟩:=r.two;obtain rfl:w=Value.type T:=rt;have hty:=ty_type hT;have yes:∀{Tx:String},s.TypeIs u Tx->isSubtype (.type Tx) (.type T)=pure true->wc T d=true->wpAny (model X.prog X.w) X.A (call (.builtin "isinstance") [u,.type T]) (EP X pins σ Q) X.xe s:=fun h1 h2 h3 =>
  call_isinstance (isinstance_true hty h2) ⟨h1,⟨.bl true,H,I,rfl,by rw[h3] at q;exact q⟩⟩
 have no:wc T d=false->EP X pins σ Q (.bool false) { s with toks:=s.toks+1 }:=fun h=>⟨.bl false,H,I.tok _,rfl,by rw[h] at q;exact q⟩
 simp only[iM,List.mem_cons,List.not_mem_nil,or_false] at hT;cases d with
 |dct kvs=>exact absurd rfl (hnd.1 kvs)
 |mpi ks=>exact absurd rfl (hnd.2.1 ks)
 |mpt ks=>exact absurd rfl (hnd.2.2.1 ks)
 |mpz ks=>exact absurd rfl (hnd.2.2.2 ks)
 |non =>
  obtain⟨rfl,_⟩:=rp.non_inv;cases rx;rcases hT with rfl | rfl | rfl | rfl | rfl
  ·exact call_isinstance (isinstance_false_none (by decide) hty F.sub_NoneType_int) (no rfl)
  ·exact call_isinstance (isinstance_false_none (by decide) hty F.sub_NoneType_bool) (no rfl)
  ·exact call_isinstance (isinstance_false_none (by decide) hty F.sub_NoneType_str) (no rfl)
  ·exact call_isinstance (isinstance_false_none (by decide) hty F.sub_NoneType_list) (no rfl)
  ·exact call_isinstance (isinstance_false_none (by decide) hty F.sub_NoneType_tuple) (no rfl)
 |bl b =>
  obtain⟨rfl,_⟩:=rp.bl_inv;cases rx;rcases hT with rfl | rfl | rfl | rfl | rfl
  ·exact yes (PySem.typeIs_bool s b) F.sub_bool_int rfl
  ·exact yes (PySem.typeIs_bool s b) F.sub_bool_bool rfl
  ·exact call_isinstance (isinstance_false_bool (by decide) hty F.sub_bool_str) (no rfl)
  ·exact call_isinstance (isinstance_false_bool (by decide) hty F.sub_bool_list) (no rfl)
  ·exact call_isinstance (isinstance_false_bool (by decide) hty F.sub_bool_tuple) (no rfl)
 |int i =>
  obtain⟨rfl,_⟩:=rp.int_inv;obtain⟨t,rfl⟩:=rx;rcases hT with rfl | rfl | rfl | rfl | rfl
  ·exact yes (typeIs_int s i t) F.sub_int_int rfl
  ·exact call_isinstance (isinstance_false_int (by decide) hty F.sub_int_bool) (no rfl)
  ·exact call_isinstance (isinstance_false_int (by decide) hty F.sub_int_str) (no rfl)
  ·exact call_isinstance (isinstance_false_int (by decide) hty F.sub_int_list) (no rfl)
  ·exact call_isinstance (isinstance_false_int (by decide) hty F.sub_int_tuple) (no rfl)
 |str z =>
  obtain⟨rfl,_⟩:=rp.str_inv;obtain⟨t,rfl⟩:=rx;rcases hT with rfl | rfl | rfl | rfl | rfl
  ·exact call_isinstance (isinstance_false_str (by decide) hty F.sub_str_int) (no rfl)
  ·exact call_isinstance (isinstance_false_str (by decide) hty F.sub_str_bool) (no rfl)
  ·exact yes (typeIs_str s z t) F.sub_str_str rfl
  ·exact call_isinstance (isinstance_false_str (by decide) hty F.sub_str_list) (no rfl)
  ·exact call_isinstance (isinstance_false_str (by decide) hty F.sub_str_tuple) (no rfl)
 |lst ds =>
  obtain⟨p,vs,g,rfl,_,a1,_⟩:=rp.lst_inv;cases rx;obtain⟨its,_,pl,_⟩:=I.list (.inl a1);obtain⟨o,ho,hc,_⟩:=pl.isList;rcases hT with rfl | rfl | rfl | rfl | rfl
  ·exact call_isinstance (isinstance_false_list (by decide) hty F.sub_list_int) ⟨⟨o,ho,hc⟩,no rfl⟩
  ·exact call_isinstance (isinstance_false_list (by decide) hty F.sub_list_bool) ⟨⟨o,ho,hc⟩,no rfl⟩
  ·exact call_isinstance (isinstance_false_list (by decide) hty F.sub_list_str) ⟨⟨o,ho,hc⟩,no rfl⟩
  ·exact yes ⟨o,ho,hc⟩ F.sub_list_list rfl
  ·exact call_isinstance (isinstance_false_list (by decide) hty F.sub_list_tuple) ⟨⟨o,ho,hc⟩,no rfl⟩
 |tup ds =>
  obtain⟨p,vs,rfl,a1,_⟩:=rp.tup_inv;cases rx;obtain⟨its,_,pl,_⟩:=I.tuple a1;obtain⟨o,ho,hc,_⟩:=pl;rcases hT with rfl | rfl | rfl | rfl | rfl
  ·exact call_isinstance (isinstance_false_tuple (by decide) hty F.sub_tuple_int) ⟨⟨o,ho,hc⟩,no rfl⟩
  ·exact call_isinstance (isinstance_false_tuple (by decide) hty F.sub_tuple_bool) ⟨⟨o,ho,hc⟩,no rfl⟩
  ·exact call_isinstance (isinstance_false_tuple (by decide) hty F.sub_tuple_str) ⟨⟨o,ho,hc⟩,no rfl⟩
  ·exact call_isinstance (isinstance_false_tuple (by decide) hty F.sub_tuple_list) ⟨⟨o,ho,hc⟩,no rfl⟩
  ·exact yes ⟨o,ho,hc⟩ F.sub_tuple_tuple rfl
theorem xf {T:Tb}{b:String}{c:Ex}{σ:L2.St}{H:Hp}{Q:VK}(hb:b∈iM)(h:tE X.K T (.blt (.isi b) (.cons c .nil)) σ H Q):DG (Gv X.K) (bR (tE X.K T c) (bR (tC (.ty b)) lJ)) σ H Q:=by
 obtain⟨P,env,F,re,p,hev,k⟩:=h;unfold ev aV aV at hev;obtain⟨l,h1,hev⟩:=Rs.bind_ok hev;obtain⟨q,h2,h1⟩:=Rs.bind_ok h1;cases h1;obtain⟨d',h3,hev⟩:=Rs.bind_ok hev;have h3:fQ (.isi b) [q.1]=some d':=cO h3;have hnd:(∀ kvs,q.1≠.dct kvs)/\(∀ ks,q.1≠.mpi ks)/\(∀ ks,q.1≠.mpt ks)/\∀ ks,q.1≠.mpz ks:=⟨fun kvs e=>(by rw[e] at h3;cases h3),fun kvs e=>(by rw[e] at h3;cases h3),fun kvs e=>(by rw[e] at h3;cases h3),fun kvs e=>(by rw[e] at h3;cases h3)⟩;have hd:d' = .bl (wc b q.1):=by
  cases hq:q.1 with
  |dct kvs=>exact absurd hq (hnd.1 kvs)
  |mpi ks=>exact absurd hq (hnd.2.1 ks)
  |mpt ks=>exact absurd hq (hnd.2.2.1 ks)
  |mpz ks=>exact absurd hq (hnd.2.2.2 ks)
  |_=>rw[hq] at h3;cases h3;rfl
 subst hd;cases hev;exact⟨P,env,F,re,q,h2,fun v H1 G s rp rt=>⟨v,b,q.1,G,rfl,hb,hnd,rp,k _ H1 [] s (.bl _) bK.nil⟩⟩
theorem nH:∀{ds:List D}{a r:Int},rS a ds=some r->∃ ns:List Int,ds=ns.map D.int/\r=a+ns.sum
 |[],a,r,h=>by cases h;exact⟨[],rfl,by simp⟩
 | .int i::ds,a,r,h=>by
  obtain⟨ns,rfl,rfl⟩:=nH (ds:=ds) (a:=a+i) h;exact⟨i::ns,rfl,by rw[List.sum_cons];omega⟩
 |.non::_,_,_,h=>by cases h
 |.bl _::_,_,_,h=>by cases h
 |.str _::_,_,_,h=>by cases h
 |.lst _::_,_,_,h=>by cases h
 |.tup _::_,_,_,h=>by cases h
theorem l7 {K:Frag}{H:Hp}:∀{ns:List Int}{vs:List V}{G:List Addr}{us:List Value},aG K H (ns.map D.int) vs G->aN vs us->us.length=ns.length/\∀ i u,us[i]? = some u->∃ t,u=Value.int (ns.getD i 0) t
 |[],_,_,_,.nil,.nil=>⟨rfl,fun i u h=>by simp at h⟩
 | n::ns,_,_,_,.cons h r,.cons x y=>by
  obtain⟨rfl,_⟩:=h.int_inv;obtain⟨t,rfl⟩:=x;obtain⟨a,b⟩:=l7 r y;refine⟨by simp[a],fun i u h=>?_⟩;cases i with
  |zero=>simp at h;exact⟨t,by simp[<-h]⟩
  |succ i =>
   obtain⟨t',e⟩:=b i u (by simpa using h);exact⟨t',by simpa using e⟩
theorem uu (hc:X.calm=true):dY X (.builtin "sum") (nZ X.K .sum):=by
 intro pins s σ H xs us Q I r h;obtain⟨ds,d,G,rs,hd,k⟩:=h
 match ds,hd with
 |[.lst ys],hd =>
  simp only[fQ,BF] at hd;rw[aa] at hd;obtain⟨b,hb',rfl⟩:=hd;obtain⟨ns,rfl,rfl⟩:=nH hb';obtain⟨x,rfl,rp⟩:=rs.of1;obtain⟨p,vs,g,rfl,rfl,a1,a2⟩:=rp.lst_inv;obtain⟨u,rfl,ru⟩:=r.one;cases ru;obtain⟨its,rv,pl,_⟩:=I.list (.inl a1);obtain⟨hl,hv⟩:=l7 a2 rv;have hlt:p<s.heap.objs.size:=by
   obtain⟨o,ho,_⟩:=pl.isList;exact Heap.lt_size ho
  refine call_sum_walkG (wpAny_pyIter_list pl.isList ⟨s.heap.objs.size,[s.heap.objs.size,p],[s.heap.objs.size],its.toArray.size,_,_,fun i=>ns.getD i 0,rfl,Walks.list (A:=X.A.in1) (show X.A.in1.handled=none from I.ok.hd hc) s.heap.objs.size p (bq hlt) its.toArray,⟨⟨_,Heap.get?_push_size _ rfl,rfl,rfl⟩,pl.isList.at fun o e=>Heap.get?_push_of_some _ e⟩,fun b hb=>?_,fun i v hP=>?_,fun h' tk t' hk=>?_⟩)
  ·simp only[List.mem_cons,List.not_mem_nil,or_false] at hb;rw[Heap.size_push];rcases hb with rfl | rfl
   ·exact fi _
   ·exact gw hlt
  ·have hP:its.toArray[i]? = some v:=hP;rw[List.getElem?_toArray] at hP;exact hv i v hP
  ·rw[preSum_getD,ai,hl,List.take_length];refine⟨.int ns.sum,H,?_,⟨_,rfl⟩,by have:=k (.int (0+ns.sum)) H [] (.int _) eU.nil;rwa [Int.zero_add] at this⟩;have I1:Inv X pins σ H { s with heap:=s.heap.push { cls:=.type "list_iterator",data:=.fields #[.ref p,.int 0 0] } }:=I.kept (t':=s.toks) fun b o e=>Heap.get?_push_of_some _ e
   obtain⟨f0,f1,f2,f3,f4,f5⟩:=I.fpOk (b:=s.heap.objs.size) (aw _) (I.hok.fresh (aw _));exact I1.turned (t':=tk) (fun b o hb e=>hk b o (by simpa using hb) e) f0 f1 f3 f4 f5
end
section
variable {X:Cx}{T:Tb}
theorem iX.map {K:Frag}{H:Hp}(k:Int){m:MV}{v:V}(hm:qU K H m v):∀{q:List (Int×MV)}{x:List (Key×V)},iX K H q x->iX K H (q.map fun z=>if z.1=k then (z.1,m) else z) (x.map fun z=>if z.1=Sum.inl k then (z.1,v) else z)
 |[],[],_=>trivial
 | (j,n)::q,p::x,⟨a,b,c⟩=>by
  refine⟨?_,?_,c.map k hm⟩
  ·show (if p.1=Sum.inl k then (p.1,v) else p).1=Sum.inl (if j=k then (j,m) else (j,n)).1;rw[show (if p.1=Sum.inl k then (p.1,v) else p).1=p.1 by split<;>rfl,show (if j=k then (j,m) else (j,n)).1=j by split<;>rfl];exact a
  ·show qU K H (if j=k then (j,m) else (j,n)).2 (if p.1=Sum.inl k then (p.1,v) else p).2;by_cases e:j=k
   ·rw[if_pos e,if_pos (by rw[a,<-e])];exact hm
   ·rw[if_neg e,if_neg (by rw[a];exact fun z=>e (by injection z))];exact b
 |[],_::_,h=>h.elim
 |_::_,[],h=>h.elim
theorem iX.snoc {K:Frag}{H:Hp}(k:Int){m:MV}{v:V}(hm:qU K H m v):∀{q:List (Int×MV)}{x:List (Key×V)},iX K H q x->iX K H (q ++ [(k,m)]) (x ++ [(.inl k,v)])
 |[],[],_=>⟨rfl,hm,trivial⟩
 |_::_,_::_,⟨a,b,c⟩=>⟨a,b,c.snoc k hm⟩
 |[],_::_,h=>h.elim
 |_::_,[],h=>h.elim
theorem iX.put {K:Frag}{H:Hp}(k:Int){m:MV}{v:V}(hm:qU K H m v){q:List (Int×MV)}{x:List (Key×V)}(h:iX K H q x):iX K H (za q k m) (putK x (.inl k) v):=by
 unfold za putK;rw[h.any k];split
 ·exact h.map k hm
 ·exact h.snoc k hm
theorem m6 {K:Frag}{H:Hp}:∀ ks:List (Int×MV),aG K H (ks.map fun q=>D.int q.1) (ks.map fun q=>V.int q.1) []
 |[]=>.nil
 |k::ks=>.cons (G:=[]) (G':=[]) (.int k.1) (m6 ks)
theorem mQ {P:Program}{w:World}{K:Frag}{H:Hp}:∀{ks:List (Int×MV)}{xs:List (Key×V)}{vs:List (Key×Value)}{us:List Value},iX K H ks xs->KV xs vs->us.length=vs.length->(∀(j:Nat) u,us[j]? = some u->∃ k x,vs[j]? = some (k,x)/\(aO P w).is k u=true)->aN (ks.map fun q=>V.int q.1) us
 | [],[],_,us,_,r,hl,_=>by
  cases r;rw[List.length_eq_zero_iff.mp hl];exact .nil
 |[],_::_,_,_,h,_,_,_=>h.elim
 |_::_,[],_,_,h,_,_,_=>h.elim
 | (k,m)::ks,x::xs,_,us,⟨hk0,_,kr⟩,r,hl,h=>by
  have r:Paired _ (x::xs) _:=r;cases r with
  |@cons _ q _ qs h1 t =>
   cases us with
   |nil=>cases hl
   |cons u us =>
    obtain⟨k',y,e,hk⟩:=h 0 u rfl;have e:some q=some (k',y):=e;cases e;have h1:x.1=k':=h1.1;rw[hk0] at h1;have h1:(Sum.inl k:Key)=k':=h1;subst h1;obtain⟨i,t',e1,e2⟩ | ⟨x',t',e1,_⟩:=be (show km (.inl k) u=true from hk)
    ·cases e1;exact .cons ⟨t',e2⟩ (mQ kr t (Nat.succ.inj hl) fun j u hu=>h (j+1) u hu)
    ·cases e1
theorem rP (hc:X.calm=true):dY X (.type "list") (nZ X.K .list):=by
 intro pins s σ H xs us Q I r h;obtain⟨ds,d,G,rs,hd,k⟩:=h;by_cases hm:∃ ks,ds=[.mpi ks]
 ·obtain⟨ks,rfl⟩:=hm;have hd:(if ks.length<=lim then some (D.lst (ks.map fun q=>D.int q.1)) else none)=some d:=hd;by_cases hl:ks.length<=lim
  ·rw[if_pos hl] at hd;cases hd;obtain⟨x,rfl,rp⟩:=rs.of1;obtain⟨u,rfl,rx⟩:=r.one;cases rp with
   |@mpi p _ xs hr kr =>
    obtain rfl:u = .ref p:=rx;obtain⟨z,lo,vs,rel,dd⟩:=j9 I.hok (.inl hr);obtain⟨ep,hat⟩:=dd.dictAt;have hlen:vs.length=ks.length:=by rw[<-rel.length,kr.len]
    refine PySem.W.kdl_call (PySem.W.kdl_dict (knd:=aO X.prog X.w) (kvs:=vs) (ep:=ep) lo) (I.ok.hd hc) hat (by rw[hlen,sizeLine_eq];unfold lim at hl;omega) fun h' tk acc c hk hD hacc=>?_
    have hv:aN (ks.map fun q=>V.int q.1) acc.toList:=mQ kr rel (by rw[df];exact hacc.1) fun j u hu=>hacc.2 j u (by rw[<-Array.getElem?_toList];exact hu)
    refine⟨.ref s.heap.objs.size,upd H s.heap.objs.size (.lst (ks.map fun q=>V.int q.1)),I.laid hk (aw _) ⟨by rw[av,sizeLine_eq];unfold lim at hl;omega,acc.toList,c,hv,by rw[hD,Array.toArray_toList]⟩,rfl,?_⟩;obtain⟨n1,n2⟩:=j6 (G0:=[p]) (m6 (K:=X.K) (H:=H) ks) (fun a ha=>nomatch ha) I.fresh;exact k _ _ _ n1 n2
  ·rw[if_neg hl] at hd;cases hd
 ·exact qr I r rs hd k fun ks e=>hm ⟨ks,e⟩
end
theorem bW.live' {P:Program}{w:World}{H:Hp}{h:Heap}{a:Addr}{o:HO}(x:bW P w H h a o):∃ ob,h.get? a=some ob:=by
 cases o with
 |lst xs=>obtain⟨_,_,_,_,e⟩:=x;exact⟨_,e⟩
 |tup xs=>obtain⟨_,_,_,ob,e,_⟩:=x;exact⟨_,e⟩
 |dK kvs=>obtain⟨_,_,_,_,o,_,_,e,_⟩:=x;exact⟨_,e⟩
 |dT kvs=>obtain⟨_,_,_,_,o,_,_,e,_⟩:=x;exact⟨_,e⟩
 |set S n=>obtain⟨o,_,_,_,e,_⟩:=x;exact⟨_,e⟩
 |ins C dx fs=>obtain⟨_,_,_,e,_⟩:=x;exact⟨_,e⟩
 |own y=>obtain⟨_,e⟩:=x;exact⟨_,e⟩
 |xd fs=>obtain⟨_,⟨_,_,_,e,_⟩,_⟩:=x;exact⟨_,e⟩
 |rng lo hi=>obtain⟨_,_,_,e⟩:=x;exact⟨_,e⟩
 |frz ob u=>obtain⟨e,_⟩:=x;exact⟨_,e⟩
 |tbl ps=>exact⟨_,(show h.get? a=some _ from x)⟩
 |met f y=>exact⟨_,(show h.get? a=some _ from x)⟩
 |ext φ=>obtain⟨_,⟨_,e⟩,_⟩:=x;exact⟨_,e⟩
section
variable {prog:Program}{w:World}{A:Around}
def TupI (h:Heap)(v:Value)(k:List Int):Prop:=∃ a o its n,v = .ref a/\h.get? a=some o/\o.cls = .type "tuple"/\o.data = .seq its n/\IntsAre its.toList k
end
theorem ni:∀ k:List Int,D.flats (k.map D.int)=true
 |[]=>rfl
 |_::k=>ni k
section
variable {X:Cx}{pins:List (Addr×Obj)}{σ:L2.St}{H:Hp}{s:Shared}
theorem nk (I:Inv X pins σ H s):∀{ys:List D}{ks:List (List Int)}{vs:List V}{G:List Addr}{us:List Value},qk ys=some ks->aG X.K H ys vs G->aN vs us->ks.length=us.length/\(∀ i k,ks[i]? = some k->TupI s.heap (us.getD i .none) k)/\(∀ k∈ks,k≠[])/\G=[]
 | [],ks,_,_,_,h,.nil,.nil=>by
  cases h;exact⟨rfl,fun i k h=>(by simp at h),fun k h=>(nomatch h),rfl⟩
 | .tup xs::r,ks,_,_,_,h,.cons r1 r2,.cons (b:=u) v1 v2=>by
  have h:((eE xs).bind fun k=>if k.isEmpty then none else (qk r).map (k :: ·))=some ks:=h;rw[ae] at h;obtain⟨k,h1,h2⟩:=h;by_cases he:k.isEmpty=true
  ·rw[if_pos he] at h2;cases h2
  ·rw[if_neg he,aa] at h2;obtain⟨ks',h3,rfl⟩:=h2;obtain⟨l,t,ne,g⟩:=nk I h3 r2 v2;have:=cX h1;subst this;have gf:=r1.flat (ni k);obtain⟨p,vs',rfl,a1,a2⟩:=r1.tup_inv;obtain rfl:u = .ref p:=v1;obtain⟨its,rv,⟨o,e1,e2,n,e3⟩,_⟩:=I.tuple a1;refine⟨by simp[l],fun i k' hk=>?_,fun k' hk=>?_,by rw[gf,g];rfl⟩
   ·cases i with
    |zero =>
     have hk:some k=some k':=hk;cases hk;exact⟨p,o,_,n,rfl,e1,e2,e3,jx a2 rv⟩
    |succ i=>exact t i k' hk
   ·rcases g9.mp hk with rfl | hk
    ·intro z;subst z;exact he rfl
    ·exact ne k' hk
end
section
variable {X:Cx}
end
section
variable {X:Cx}{T:Tb}
end
structure StrIt (ty:String):Prop where
 item:∀{prog:Program}{w:World}{A:Around}{E:Value->Shared->Prop}{s:Shared}{it:Addr}{x:Str}{t:Tok}{i c:Nat}{Q:Value->Shared->Prop},s.heap.IsStrIter it ty x t i->x.cps[i]? = some c ->
  (∀ h',h'.IsStrIter it ty x t (i+1)->Heap.SameBut it s.heap h'->Q (.str ⟨#[c]⟩ s.toks) { s with heap:=h',toks:=s.toks+1 })->wpAny (model prog w) A (Builtin.SmallTypes.nextOf (.ref it)) Q E s
 done:∀{prog:Program}{w:World}{A:Around}{E:Value->Shared->Prop}{s:Shared}{it:Addr}{x:Str}{t:Tok}{i:Nat}{Q:Value->Shared->Prop},A.handled=none->s.heap.IsStrIter it ty x t i->x.cps[i]? = none ->
  (∀ h' e,Heap.ExtBut it s.heap h'->(∃ o,h'.get? e=some o/\o.cls = .type "StopIteration")->E (.ref e) { s with heap:=h' })->wpAny (model prog w) A (Builtin.SmallTypes.nextOf (.ref it)) Q E s
 n1:ty≠"list"
section
variable {prog:Program}{w:World}{A:Around}{E:Value->Shared->Prop}{s:Shared}{z TI TO i1 i2 l1:Addr}{k1 k2:Nat}{xs:Array Value}{x a b:Value}{y:Str}{t:Tok}{c:Nat}{ty:String}
end
section
variable {prog:Program}{w:World}{A:Around}{E:Value->Shared->Prop}{s:Shared}
end
section
variable {X:Cx}{T:Tb}
end
section
variable {X:Cx}{T:Tb}
end
section
variable {prog:Program}{w:World}{A:Around}{E:Value->Shared->Prop}{s:Shared}
end
section
variable {X:Cx}{T:Tb}
end
section
variable {X:Cx}{T:Tb}
end
section
variable {prog:Program}{w:World}{A:Around}{R:Result->Shared->Prop}{it:Addr}{fp wr:List Addr}{n:Nat}{P:Nat->Value->Prop}{Sta:Nat->Heap->Prop}{dv:Value}{bx:Addr}
end
section
variable {X:Cx}{T:Tb}
end
noncomputable def isK (k:Int):Value->Bool
 |.int i _=>i==k
 |_=>false
theorem oO:∀{vs:List Value}{ns:List Int},IntsAre vs ns->vs.length=ns.length/\∀(i:Nat) v,vs[i]? = some v->∃ n t,ns[i]? = some n/\v = .int n t
 |_,_,.nil=>⟨rfl,fun i v h=>by simp at h⟩
 | _,_,.cons n t r=>by
  obtain⟨l,g⟩:=oO r;refine⟨by simp[l],fun i v h=>?_⟩;cases i with
  |zero =>
   rw[List.getElem?_cons_zero] at h;cases h;exact⟨n,t,rfl,rfl⟩
  |succ i =>
   rw[List.getElem?_cons_succ] at h;obtain⟨m,u,h1,h2⟩:=g i v h;exact⟨m,u,by rw[List.getElem?_cons_succ];exact h1,h2⟩
theorem xu {k:Int}:∀{ns:List Int},k∈ns->ns[ns.idxOf k]? = some k/\∀ m,m<ns.idxOf k->∀ n,ns[m]? = some n->n≠k
 | n::ns,h=>by
  rw[List.idxOf_cons];by_cases e:n=k
  ·subst e;simp
  ·have hk:k∈ns:=by
    rcases g9.mp h with z | z
    ·exact absurd z.symm e
    ·exact z
   obtain⟨h1,h2⟩:=xu hk;have hb:(n==k)=false:=beq_eq_false_iff_ne.mpr e;rw[hb];refine⟨by simpa using h1,fun m hm q hq=>?_⟩;cases m with
   |zero =>
    rw[List.getElem?_cons_zero] at hq;cases hq;exact e
   |succ m =>
    rw[List.getElem?_cons_succ] at hq;exact h2 m (by simpa using hm) q hq
theorem xi {prog:Program}{w:World}{A:Around}{E:Value->Shared->Prop}{s:Shared}{l:Addr}{vs:List Value}{ns:List Int}{k:Int}{t:Tok}{Q:Value->Shared->Prop}(pl:s.heap.IsList l vs.toArray)(hi:IntsAre vs ns)(hl:ns.length<=100000000)(hk:k∈ns)
  (q:Q (.int (ns.idxOf k:Nat) s.toks) { s with toks:=s.toks+1 }):wpAny (model prog w) A (call (.builtin "list.index") [.ref l,.int k t]) Q E s:=by
 obtain⟨⟨cls,dd,data,sl⟩,ho,hc,n,hd⟩:=id pl;cases hc;cases hd;obtain⟨hlen,hat⟩:=oO hi;obtain⟨i1,i2⟩:=xu hk;have hj:ns.idxOf k<vs.toArray.size:=by
  rw[ai,hlen];exact (List.getElem?_eq_some_iff.mp i1).1
 have val:∀(m:Nat) (hm:m<vs.toArray.size),∃ n t,ns[m]? = some n/\vs.toArray[m] = .int n t:=fun m hm=>hat m _ (by
  rw[ai] at hm;rw[List.getElem?_eq_getElem hm];rfl)
 refine call_meets PySem.F.slot_list_index ⟨_,ho,rfl⟩ PySem.F.entry_list_index (PySem.F.args_list_index_2 _ _) (SeqAt.list_indexAt l vs.toArray n dd sl (.int k t) (isK k) (ns.idxOf k) hj ?_ ?_ fun m hm hlt=>?_) ⟨ho,fun y hy=>?_,q⟩
 ·rw[ai,hlen] at hj;omega
 ·obtain⟨n',t',h1,h2⟩:=val _ hj;rw[i1] at h1;cases h1;rw[h2];show (k==k)=true;rw[de]
 ·obtain⟨n',t',h1,h2⟩:=val m hm;rw[h2];exact beq_eq_false_iff_ne.mpr (i2 m hlt n' h1)
 ·obtain⟨m,hm,rfl⟩:=Array.mem_iff_getElem.mp hy;obtain⟨n',t',h1,h2⟩:=val m hm;rw[h2];exact SeqAt.EqAt.int_int n' t' k t
theorem qq {lt:Nat->Nat->Bool}{n:Nat}:∀(k j m:Nat),j+k=n->m<n->dO lt k j m<n
 |0,_,m,_,h=>h
 | k+1,j,m,e,h=>by
  unfold dO;refine qq k (j+1) _ (by omega) ?_;split
  ·omega
  ·exact h
theorem t7:(toString "min" ++ toString ".loop" : String) = "min.loop":=by decide
section
variable {prog:Program}{w:World}{A:Around}{R:Result->Shared->Prop}{it:Addr}{fp wr:List Addr}{n:Nat}{P:Nat->Value->Prop}{Sta:Nat->Heap->Prop}{bx:Addr}{val:Nat->Value}{lt:Nat->Nat->Bool}{h0:Heap}
def Kp (wr:List Addr)(bx:Addr)(h0 h:Heap):Prop:=∀ b o,b∉wr->b≠bx->h0.get? b=some o->h.get? b=some o
theorem Ah (W:Walks prog w A.in1 it fp wr n P Sta)(hval:∀ i v,P i v->v=val i)(hb:bx∉fp)
  (hcmp:∀(i j:Nat) (s':Shared) (Q E:Value->Shared->Prop),i<n->j<n->Kp wr bx h0 s'.heap->Q (.bool (lt i j)) s'->wpAny (model prog w) A.in1 (richCompare .Lt (val i) (val j)) Q E s') :
  ∀(k j:Nat) (s:Shared) (m:Nat) (c:Nat),n - j=k->j<=n->m<n->Sta j s.heap->Kp wr bx h0 s.heap->s.heap.get? bx=some { cls:=.type "list",dict:=none,data:=.seq #[val m,val m] c,slots:=#[] } ->
  (∀ hp tk,Kp wr bx h0 hp->R (.ok (.ret (val (dO lt k j m)))) { s with heap:=hp,toks:=tk }) ->
  codeAny (model prog w) A (.builtin "min.loop" ⟨[.ref it,.none,.ref bx],[]⟩) R s:=by
 have hw:bx∉wr:=fun h=>hb (W.sub _ h)
 intro k
 induction k with
 |zero =>
  intro j s m c hk hj hm st kp hB q;have e:j=n:=by omega
  subst e;refine codeAny_builtin F.entry_min_loop (by
   rw[Around.under_plainId F.plain_min_loop _];show wpAny _ A.in1 (seqItems? (.ref bx) >>= _) _ _ s;refine wpAny_bind (wpAny_seqItems hB rfl (wpAny_bind (wpAny_tryCatch (W.done s _ _ st fun hp tk hk'=>?_))));have hB':=hk' bx _ hw hB;show wpAny _ A.in1 (updateSeq bx (fun _=>#[]) >>= _) _ _ _;exact wpAny_bind (wpAny_updateSeq hB' rfl (wpAny_bind (wpAny_letGo (wpAny_pure (q _ tk fun b o h1 h2 e=>(Heap.get?_update_other _ _ (dk h2)).trans (hk' b o h1 (kp b o h1 h2 e))))))))
 |succ k ih =>
  intro j s m c hk hj hm st kp hB q;have hlt:j<n:=by omega
  refine codeAny_builtin F.entry_min_loop (by
   rw[Around.under_plainId F.plain_min_loop _];show wpAny _ A.in1 (seqItems? (.ref bx) >>= _) _ _ s;refine wpAny_bind (wpAny_seqItems hB rfl (wpAny_bind (wpAny_tryCatch (W.item j s _ _ hlt st fun v hp tk hv st' hk'=>?_))));have hB':=hk' bx _ hw hB;have hve:=hval j v hv;subst hve;have kp':Kp wr bx h0 hp:=fun b o h1 h2 e=>hk' b o h1 (kp b o h1 h2 e)
   show wpAny _ A.in1 (tryCatch (holding [val j,val j] (richCompare .Lt (val j) (val m) >>= _)) _ >>= _) _ _ _;refine wpAny_bind (wpAny_tryCatch (wpAny_holding (wpAny_bind (hcmp j m _ _ _ hlt hm kp' (wpAny_bind (wpAny_holding (wpAny_truthy_bool (wpAny_bind (wpAny_letGo (wpAny_pure ?_))))))))));cases hg:lt j m with
   |true =>
    simp only[if_true];refine wpAny_bind (wpAny_updateSeq hB' rfl (wpAny_bind (wpAny_letGo ?_)));rw[t7];refine wpAny_pure ⟨plainId_quiet F.plain_min_loop _,ih (j+1) _ j _ (by omega) hlt hlt (W.frame _ _ _ st' fun b hbf o e=>(Heap.get?_update_other _ _ (fun h:bx=b=>hb (h ▸ hbf))).trans e) (fun b o h1 h2 e=>(Heap.get?_update_other _ _ (dk h2)).trans (kp' b o h1 h2 e)) (Heap.get?_update_self _ hB' rfl) fun hp2 tk2 hk2=>?_⟩;have:=q hp2 tk2 hk2;unfold dO at this
    rwa [hg,if_pos rfl] at this
   |false =>
    simp only[Bool.false_eq_true,if_false];refine wpAny_bind (wpAny_letGo ?_);rw[t7];refine wpAny_pure ⟨plainId_quiet F.plain_min_loop _,ih (j+1) _ m c (by omega) hlt hm st' kp' hB' fun hp2 tk2 hk2=>?_⟩;have:=q hp2 tk2 hk2;unfold dO at this
    rwa [hg,if_neg (by decide)] at this)
theorem yo (W:Walks prog w A.in1 it fp wr n P Sta)(hval:∀ i v,P i v->v=val i)(hb:bx∉fp)(hn:0<n)
  (hcmp:∀(i j:Nat) (s':Shared) (Q E:Value->Shared->Prop),i<n->j<n->Kp wr bx h0 s'.heap->Q (.bool (lt i j)) s'->wpAny (model prog w) A.in1 (richCompare .Lt (val i) (val j)) Q E s')
  {s:Shared}{c:Nat}(st:Sta 0 s.heap) (kp:Kp wr bx h0 s.heap) (hB:s.heap.get? bx=some { cls:=.type "list",dict:=none,data:=.seq #[] c,slots:=#[] })
  (q:∀ hp tk,Kp wr bx h0 hp->R (.ok (.ret (val (dO lt (n - 1) 1 0)))) { s with heap:=hp,toks:=tk }) :
  codeAny (model prog w) A (.builtin "min.loop" ⟨[.ref it,.none,.ref bx],[]⟩) R s:=by
 have hw:bx∉wr:=fun h=>hb (W.sub _ h)
 refine codeAny_builtin F.entry_min_loop (by
  rw[Around.under_plainId F.plain_min_loop _];show wpAny _ A.in1 (seqItems? (.ref bx) >>= _) _ _ s;refine wpAny_bind (wpAny_seqItems hB rfl (wpAny_bind (wpAny_tryCatch (W.item 0 s _ _ hn st fun v hp tk hv st' hk'=>?_))));have hB':=hk' bx _ hw hB;have hve:=hval 0 v hv;subst hve;have kp':Kp wr bx h0 hp:=fun b o h1 h2 e=>hk' b o h1 (kp b o h1 h2 e)
  show wpAny _ A.in1 (updateSeq bx (fun _=>#[val 0,val 0]) >>= _) _ _ _;refine wpAny_bind (wpAny_updateSeq hB' rfl ?_);rw[t7];refine wpAny_pure ⟨plainId_quiet F.plain_min_loop _,Ah W hval hb hcmp (n - 1) 1 _ 0 _ rfl hn hn (W.frame _ _ _ st' fun b hbf o e=>(Heap.get?_update_other _ _ (fun h:bx=b=>hb (h ▸ hbf))).trans e) (fun b o h1 h2 e=>(Heap.get?_update_other _ _ (dk h2)).trans (kp' b o h1 h2 e)) (Heap.get?_update_self _ hB' rfl) fun hp2 tk2 hk2=>?_⟩;exact q _ tk2 hk2)
end
theorem uG {prog:Program}{w:World}{A:Around}{E:Value->Shared->Prop}{s:Shared}{x:Value}{Q:Value->Shared->Prop}
  (h:wpAny (model prog w) A.in1 (pyIter x) (fun iv s₂=>∃ it fp wr n P Sta,∃(val:Nat->Value) (lt:Nat->Nat->Bool),iv = .ref it/\Walks prog w A.in1 it fp wr n P Sta/\Sta 0 s₂.heap/\(∀ b∈fp,b<s₂.heap.objs.size)/\0<n/\(∀ i v,P i v->v=val i) /\
   (∀(i j:Nat) (s':Shared) (Q E:Value->Shared->Prop),i<n->j<n->(∀ b o,b∉wr->s₂.heap.get? b=some o->s'.heap.get? b=some o)->Q (.bool (lt i j)) s'->wpAny (model prog w) A.in1 (richCompare .Lt (val i) (val j)) Q E s') /\
   ∀ hp tk,(∀ b o,b∉wr->s₂.heap.get? b=some o->hp.get? b=some o)->Q (val (dO lt (n - 1) 1 0)) { s₂ with heap:=hp,toks:=tk }) E s) :
  wpAny (model prog w) A (call (.builtin "min") [x]) Q E s:=by
 refine wpAny_call (codeAny_call_builtin F.plain_min F.entry_min ?_);have hc:wpAny (model prog w) A.in1 (Builtin.«min» ⟨[x],[]⟩) (fun fin s'=>match fin with
   |.done f=>(match (Except.ok f:Result) with | .ok (.ret v)=>Q v s' | .ok _=>False | .error e=>E e s')
   |.again c=>c.quiet=true/\codeAny (model prog w) A c (fun r s2=>match r with | .ok (.ret v)=>Q v s2 | .ok _=>False | .error e=>E e s2) s') E s:=by
  show wpAny _ A.in1 (Builtin.Builtins.bindParams "min" ["key","default"] 0 ⟨[],[]⟩ >>= _) _ _ s;refine wpAny_bind (wpAny_of_eq (show Builtin.Builtins.bindParams "min" ["key","default"] 0 ⟨[],[]⟩=pure [none,none] from rfl) (wpAny_bind (wpAny_pure (wpAny_bind (wpAny_mono h (fun iv s₂ h₂=>?_) fun _ _ e=>e)))));obtain⟨it,fp,wr,n,P,Sta,val,lt,rfl,W,st,hfp,hn,hval,hcmp,q⟩:=h₂;refine wpAny_bind (wpAny_newObj_type ?_);rw[t7];have fresh:∀ b o,s₂.heap.get? b=some o->b≠s₂.heap.objs.size:=fun b o e=>bq (Heap.lt_size e)
  refine wpAny_pure ⟨plainId_quiet F.plain_min_loop _,yo (h0:=s₂.heap) (lt:=lt) W hval (fun hm=>eh _ (hfp _ hm)) hn (fun i j s' Q E hi hj kp hQ=>hcmp i j s' Q E hi hj (fun b o hbw e=>kp b o hbw (fresh b o e) e) hQ) (W.frame _ _ _ st fun b _ o e=>Heap.get?_push_of_some _ e) (fun b o _ _ e=>Heap.get?_push_of_some _ e) (Heap.get?_push_size _ rfl) fun hp tk hk=>?_⟩;exact q hp tk fun b o hbw e=>hk b o hbw (fresh b o e) e
 have ha:=PySem.F.args_min1 x;simp only[checkBuiltinCall,F.kind_min];cases hsig:Manifest.signature? "min" with
 |none=>exact wpAny_pure hc
 |some sig =>
  simp only[argsOk,hsig] at ha;have h2:Bind.checkArgs "min" sig ⟨[x],[]⟩=pure ():=ha;show wpAny _ A.in1 (Bind.checkArgs "min" sig ⟨[x],[]⟩) _ _ s;rw[h2];exact wpAny_pure hc
section
variable {X:Cx}{pins:List (Addr×Obj)}{σ:L2.St}{H:Hp}{s:Shared}
theorem xl (hc:X.calm=true)(I:Inv X pins σ H s){p:Addr}{vs:List V}{its:List Value}{Q:VK}(rv:aN vs its)(pl:s.heap.IsList p its.toArray)(hn:0<its.length)(lt:Nat->Nat->Bool)
  (hcmp:∀(i j:Nat) (u v:Value),its[i]? = some u->its[j]? = some v->∀(s':Shared) (Q E:Value->Shared->Prop),(∀ b o,s.heap.get? b=some o->s'.heap.get? b=some o)->Q (.bool (lt i j)) s'->wpAny (model X.prog X.w) X.A.in1 (richCompare .Lt u v) Q E s')
  (k:∀ v,vs[dO lt (its.length - 1) 1 0]? = some v->Q v H):wpAny (model X.prog X.w) X.A (call (.builtin "min") [.ref p]) (EP X pins σ Q) X.xe s:=by
 have hlt:p<s.heap.objs.size:=by
  obtain⟨o,ho,_⟩:=pl;exact Heap.lt_size ho
 have atN:∀ i,i<its.length->its[i]? = some (its.getD i .none):=fun i hi=>by
  simp[List.getD,List.getElem?_eq_getElem hi]
 refine uG (wpAny_pyIter_list pl ⟨s.heap.objs.size,[s.heap.objs.size,p],[s.heap.objs.size],its.toArray.size,_,_,fun i=>its.getD i .none,lt,rfl,Walks.list (A:=X.A.in1) (show X.A.in1.handled=none from I.ok.hd hc) s.heap.objs.size p (bq hlt) its.toArray,⟨⟨_,Heap.get?_push_size _ rfl,rfl,rfl⟩,pl.at fun o e=>Heap.get?_push_of_some _ e⟩,fun c hb=>?_,by rw[ai];exact hn,fun i v hP=>?_,fun i j s' Q' E' hi hj kp hQ=>?_,fun hp tk hk=>?_⟩)
 ·simp only[List.mem_cons,List.not_mem_nil,or_false] at hb;rw[Heap.size_push];rcases hb with rfl | rfl
  ·exact fi _
  ·exact gw hlt
 ·have hP:its.toArray[i]? = some v:=hP;rw[List.getElem?_toArray] at hP;simp[List.getD,hP]
 ·rw[ai] at hi hj;exact hcmp i j _ _ (atN i hi) (atN j hj) s' Q' E' (fun b o e=>kp b o (by
   intro z;rw[gp] at z;subst z;exact eh _ (Heap.lt_size e)) (Heap.get?_push_of_some _ e)) hQ
 ·have J1:Inv X pins σ H { s with heap:=s.heap.push { cls:=.type "list_iterator",data:=.fields #[.ref p,.int 0 0] } }:=I.kept (t':=s.toks) fun b o e=>Heap.get?_push_of_some _ e
  obtain⟨f0,f1,f2,f3,f4,f5⟩:=I.fpOk (b:=s.heap.objs.size) (aw _) (I.hok.fresh (aw _));have J2:=J1.turned (t':=tk) (fun b o hb e=>hk b o (by simpa using hb) e) f0 f1 f3 f4 f5;rw[ai];have hb:dO lt (its.length - 1) 1 0<its.length:=qq _ _ _ (by omega) hn;have hvb:dO lt (its.length - 1) 1 0<vs.length:=by rw[rv.length];exact hb
  obtain⟨u,e1,e2⟩:=rv.get (List.getElem?_eq_getElem hvb);have:its.getD (dO lt (its.length - 1) 1 0) .none=u:=by
   have:=atN _ hb;rw[e1] at this;cases this;rfl
  show EP X pins σ Q (its.getD (dO lt (its.length - 1) 1 0) .none) _;rw[this];exact⟨_,H,J2,e2,k _ (List.getElem?_eq_getElem hvb)⟩
theorem q5 {its:List Value}{ns:List Int}(hi:IntsAre its ns)(i j:Nat)(u v:Value)(hu:its[i]? = some u)(hv:its[j]? = some v)(s':Shared)(Q E:Value->Shared->Prop)(h:Q (.bool (decide (ns.getD i 0<ns.getD j 0))) s'):wpAny (model X.prog X.w) X.A.in1 (richCompare .Lt u v) Q E s':=by
 obtain⟨_,hat⟩:=oO hi;obtain⟨a,t,h1,rfl⟩:=hat i u hu;obtain⟨b,t',h2,rfl⟩:=hat j v hv;have e1:ns.getD i 0=a:=by simp[List.getD,h1]
 have e2:ns.getD j 0=b:=by simp[List.getD,h2]
 rw[e1,e2] at h;exact HT.lr _ _ _ _ _ _ _ _ _ _ h
theorem qA (hu:X.A.units+1<cLine){a b:Addr}{xs ys:List Value}{ns ms:List Int}(h1:IsTup s.heap a xs.toArray)(h2:IsTup s.heap b ys.toArray)(i1:IntsAre xs ns)(i2:IntsAre ys ms)(s':Shared)(Q E:Value->Shared->Prop)(kp:∀ b o,s.heap.get? b=some o->s'.heap.get? b=some o)(h:Q (.bool (HT.lexLt ns ms)) s') :
  wpAny (model X.prog X.w) X.A.in1 (richCompare .Lt (.ref a) (.ref b)) Q E s':=by
 obtain⟨o,ho,r⟩:=h1;obtain⟨o',ho',r'⟩:=h2;exact (HT.sk (A:=X.A.in1) ⟨o,kp _ _ ho,r⟩ ⟨o',kp _ _ ho',r'⟩ (by simpa using i1) (by simpa using i2) hu h:wpAny (model X.prog X.w) X.A.in1 (compareOp .Lt (.ref a) (.ref b)) Q E s')
end
theorem sF:∀ a b:List Int,uX a b=HT.lexLt a b
 |[],[]=>rfl
 |[],_::_=>rfl
 |_::_,[]=>rfl
 | x::a,y::b=>by
  show (if x==y then uX a b else decide (x<y))=_;rw[HT.lD,sF a b];by_cases e:x=y
  ·rw[if_pos e,if_pos (by rw[e];exact de y)]
  ·rw[if_neg e,if_neg (by rw[gj];exact e)]
section
variable {X:Cx}
theorem qP (hc:X.calm=true)(hu:X.A.units+40<cLine):dY X (.builtin "min") (nZ X.K .min2):=by
 intro pins s σ H xs us Q I r h;obtain⟨ds,d,G,rs,hd,k⟩:=h
 match ds,hd with
 |[.int i,.int j],hd =>
  cases hd;obtain⟨x,y,G1,G2,rfl,rp,rp'⟩:=rs.of2;obtain⟨rfl,rfl⟩:=rp.int_inv;obtain⟨rfl,rfl⟩:=rp'.int_inv;exact vA hc pins s σ H _ us Q I r ⟨i,j,rfl,k _ H [] (.int _) eU.nil⟩
 |[.lst ys],hd =>
  have hd:minD ys=some d:=hd;obtain⟨x,rfl,rp⟩:=rs.of1;obtain⟨l,vs,g,rfl,rfl,a1,a2⟩:=rp.lst_inv;obtain⟨u,rfl,rx⟩:=r.one;obtain rfl:u = .ref l:=rx;obtain⟨its,rv,pl,_⟩:=I.list (.inl a1);have hlen:its.length=ys.length:=by rw[<-rv.length,<-a2.len]
  unfold minD at hd;by_cases he:ys.isEmpty=true
  ·rw[if_pos he] at hd;cases hd
  rw[if_neg he] at hd;have hn:0<its.length:=by
   rw[hlen];cases ys with
   |nil=>exact absurd rfl he
   |cons _ _=>exact Nat.succ_pos _
  have fin:∀ lt:Nat->Nat->Bool,ys[dO lt (ys.length - 1) 1 0]? = some d->(d.flat=true\/g=[])->∀ v,vs[dO lt (its.length - 1) 1 0]? = some v->Q v H:=fun lt hy hf v hv=>by
   rw[hlen] at hv;obtain⟨v',G',e1,e2,e3⟩:=a2.get hy;rw[hv] at e1;cases e1;have:G'=[]:=by
    rcases hf with hf | rfl
    ·exact e2.flat hf
    ·exact List.sublist_nil.mp e3
   subst this;exact k _ H [] e2 eU.nil
  cases hk:eE ys with
  |some ns =>
   rw[hk] at hd;have hy:=cX hk;have ia:IntsAre its ns:=by
    rw[hy] at a2;exact jx a2 rv
   refine xl hc I rv pl.isList hn _ (fun i j u v hi hj s' Q' E' _ h=>q5 ia i j u v hi hj s' Q' E' h) (fin _ hd (.inl ?_));rw[hy] at hd;obtain⟨n,_,rfl⟩:=List.mem_map.mp (List.mem_of_getElem? hd);rfl
  |none =>
   rw[hk] at hd;dsimp only at hd;rw[ae] at hd;obtain⟨ks,hks,hd⟩:=hd;obtain⟨kl,kt,kn,kg⟩:=nk I hks a2 rv;refine xl hc I rv pl.isList hn _ (fun i j u v hi hj s' Q' E' kp h=>?_) (fin _ hd (.inr kg));have at1:∀(i:Nat) (u:Value),its[i]? = some u->∃ a xs,u = .ref a/\IsTup s.heap a xs.toArray/\IntsAre xs (ks.getD i []):=fun i u hi=>by
    have hlt:i<ks.length:=by rw[kl];exact (List.getElem?_eq_some_iff.mp hi).1
    obtain⟨a,o,xs,n,e1,e2,e3,e4,e5⟩:=kt i _ (List.getElem?_eq_getElem hlt);have hgu:its.getD i .none=u:=by rw[List.getD_eq_getElem?_getD,hi];rfl
    rw[hgu] at e1;refine⟨a,xs.toList,e1,⟨o,e2,e3,n,by rw[e4]⟩,?_⟩;rw[List.getD_eq_getElem?_getD,List.getElem?_eq_getElem hlt];exact e5
   obtain⟨a,xs,rfl,t1,i1⟩:=at1 i u hi;obtain⟨b,zs,rfl,t2,i2⟩:=at1 j v hj;rw[sF] at h;exact qA (by omega) t1 t2 i1 i2 s' Q' E' kp h
end
section
variable {X:Cx}
theorem uU:dY X (.type "str") (nZ X.K .str):=by
 intro pins s σ H xs us Q I r h;obtain⟨ds,d,G,rs,hd,k⟩:=h
 match ds,hd with
 |[.int i],hd =>
  have hd:(if i.natAbs<1000000 then some (D.str (Str.ofString (toString i))) else none)=some d:=hd;by_cases hz:i.natAbs<1000000
  ·rw[if_pos hz] at hd;cases hd;obtain⟨x,rfl,rp⟩:=rs.of1;obtain⟨rfl,rfl⟩:=rp.int_inv;obtain⟨u,rfl,⟨t,rfl⟩⟩:=r.one;refine PySem.P.str_of_int ?_ ⟨.str _,H,I.tok _,⟨_,rfl⟩,k _ H [] (.str _) eU.nil⟩;refine ik ?_ (show 20<1920 by decide);by_cases h0:i.natAbs=0
   ·rw[h0];decide
   ·exact i0 ((Nat.log2_lt h0).mpr (Nat.lt_trans hz (by decide)))
  ·rw[if_neg hz] at hd;cases hd
theorem uM:dY X (.type "int") (nZ X.K .int):=by
 intro pins s σ H xs us Q I r h;obtain⟨ds,d,G,rs,hd,k⟩:=h
 match ds,hd with
 |[.str z],hd =>
  obtain⟨x,rfl,rp⟩:=rs.of1;obtain⟨rfl,rfl⟩:=rp.str_inv;obtain⟨u,rfl,⟨t,rfl⟩⟩:=r.one;have hd:(if z.length<=640 then (PySem.intText? z).map D.int else none)=some d:=hd;by_cases hz:z.length<=640
  ·rw[if_pos hz,aa] at hd;obtain⟨n,hn,rfl⟩:=hd;exact PySem.W.KIN.call_text hn hz ⟨.int n,H,I.tok _,⟨_,rfl⟩,k _ H [] (.int n) eU.nil⟩
  ·rw[if_neg hz] at hd;cases hd
 |[.int i],hd =>
  cases hd;obtain⟨x,rfl,rp⟩:=rs.of1;obtain⟨rfl,rfl⟩:=rp.int_inv;obtain⟨u,rfl,⟨t,rfl⟩⟩:=r.one;exact call_int_int ⟨.int i,H,I,⟨_,rfl⟩,k _ H [] (.int i) eU.nil⟩
 |[.bl b],hd =>
  cases hd;obtain⟨x,rfl,rp⟩:=rs.of1;obtain⟨rfl,rfl⟩:=rp.bl_inv;obtain⟨u,rfl,ru⟩:=r.one;cases ru;exact call_int_bool ⟨.int _,H,I.tok _,⟨_,rfl⟩,k _ H [] (.int _) eU.nil⟩
theorem wG {m:EE}{a d:D}{bs:List D}(hm:m = .sfind\/m = .sindex)(h:n9 m a bs=some d):(∃ z y n,a = .str z/\bs=[.str y]/\d = .int n)\/(m = .sindex/\∃(ns:List Int) (k:Int),a = .lst (ns.map .int)/\bs=[.int k]/\k∈ns/\ns.length<=lim/\d = .int ((ns.idxOf k:Nat):Int)):=by
 rcases hm with rfl | rfl
 ·cases a with
  |str z=>cases bs with
   |nil=>cases h
   |cons b r=>cases b with
    |str y=>cases r with
     |nil=>cases h;exact .inl ⟨z,y,_,rfl,rfl,rfl⟩
     |cons _ _=>cases h
    |_=>cases h
  |_=>cases h
 ·cases a with
  |str z=>cases bs with
   |nil=>cases h
   |cons b r=>cases b with
    |str y=>cases r with
     |nil =>
      have h:(match Builtin.Str.occurrences z y 0 z.length 1 with
       |i::_=>some (D.int (i:Int))
       |[]=>none)=some d:=h
      split at h
      ·cases h;exact .inl ⟨z,y,_,rfl,rfl,rfl⟩
      ·cases h
     |cons _ _=>cases h
    |_=>cases h
  |lst xs=>cases bs with
   |nil=>cases h
   |cons b r=>cases b with
    |int k=>cases r with
     |nil =>
      have h:((eE xs).bind fun ns=>if k∈ns/\ns.length<=lim then some (D.int ((ns.idxOf k:Nat):Int)) else none)=some d:=h;rw[ae] at h;obtain⟨ns,h1,h2⟩:=h;by_cases hk:k∈ns/\ns.length<=lim
      ·rw[if_pos hk] at h2;cases h2;exact .inr ⟨rfl,ns,k,by rw[cX h1],rfl,hk.1,hk.2,rfl⟩
      ·rw[if_neg hk] at h2;cases h2
     |cons _ _=>cases h
    |_=>cases h
  |_=>cases h
def Ab (m:EE):V->List V->Hp->VK->Prop:=fun x xs H Q=>∃ z y n,x = .str z/\xs=[.str y]/\n9 m (.str z) [.str y]=some (.int n)/\Q (.int n) H
theorem Ai:yN X "str.find" (Ab .sfind):=by
 intro pins s σ H x xs v us Q I rx r h;obtain⟨z,y,n,rfl,rfl,hd,q⟩:=h;obtain⟨t,rfl⟩:=rx;obtain⟨u,rfl,⟨t',rfl⟩⟩:=r.one;cases hd;exact call_gives PySem.F.slot_str_find (typeIs_str s z t) PySem.F.entry_str_find (PySem.F.args_str_find_2 _ _) (gives_str_find z y t t') ⟨.int _,H,I.tok _,⟨_,rfl⟩,q⟩
theorem yi:yN X "str.index" (Ab .sindex):=by
 intro pins s σ H x xs v us Q I rx r h;obtain⟨z,y,n,rfl,rfl,hd,q⟩:=h;obtain⟨t,rfl⟩:=rx;obtain⟨u,rfl,⟨t',rfl⟩⟩:=r.one;have hd:(match Builtin.Str.occurrences z y 0 z.length 1 with
  |i::_=>some (D.int (i:Int))
  |[]=>none)=some (.int n):=hd
 split at hd
 ·rename_i i rest ho;cases hd;exact call_gives PySem.F.slot_str_index (typeIs_str s z t) PySem.F.entry_str_index (PySem.F.args_str_index_2 _ _) (gives_str_index z y t t' i rest ho) ⟨.int _,H,I.tok _,⟨_,rfl⟩,q⟩
 ·cases hd
def F7 (K:Frag):V->List V->Hp->VK->Prop:=fun x xs H Q=>∃(p:Addr) (ns:List Int) (k:Int) (G:List Addr),x = .ref p/\xs=[.int k]/\k∈ns/\ns.length<=lim/\Rep K H (.lst (ns.map .int)) (.ref p) G/\Q (.int ((ns.idxOf k:Nat):Int)) H
theorem xG {T:Tb}{m:EE}{co ce:Ex}{σ:L2.St}{H:Hp}{Q:VK}(hm:m = .sfind\/m = .sindex)(h:tE X.K T (.mth m co (.cons ce .nil)) σ H Q):G9 X.K "str" (Ab m) (tE X.K T co) (uC X.K T (.cons ce .nil)) σ H Q\/(m = .sindex/\G9 X.K "list" (F7 X.K) (tE X.K T co) (uC X.K T (.cons ce .nil)) σ H Q):=by
 obtain⟨P,env,F,re,p,hev,k⟩:=h;unfold ev at hev;obtain⟨q,h1,hev⟩:=Rs.bind_ok hev;obtain⟨l,h2,hev⟩:=Rs.bind_ok hev;obtain⟨d,h3,hev⟩:=Rs.bind_ok hev;have h3:=cO h3;cases hev;rcases wG hm h3 with ⟨z,y,n,e1,e2,rfl⟩ | ⟨rfl,ns,j,e1,e2,hk,hl,rfl⟩
 ·refine .inl ⟨P,env,F,re,q,h1,fun v H1 G s rp rt=>?_⟩;rw[e1] at rp h3;obtain⟨rfl,rfl⟩:=rp.str_inv;refine⟨rfl,P,env,F,re.same s,l,h2,fun vs H2 G' ar=>?_⟩;have rs:=ar.reps;rw[e2] at rs h3;obtain⟨x,rfl,rp2⟩:=rs.of1;obtain⟨rfl,_⟩:=rp2.str_inv;exact⟨z,y,n,rfl,rfl,h3,k _ H2 [] (s.trans ar.same) (.int n) bK.nil⟩
 ·refine .inr ⟨rfl,P,env,F,re,q,h1,fun v H1 G s rp rt=>?_⟩;rw[e1] at rp;obtain⟨p',vs,g,rfl,rfl,a1,a2⟩:=id rp.lst_inv;refine⟨.inl ⟨rfl,vs,.inl a1⟩,P,env,F,re.same s,l,h2,fun ws H2 G' ar=>?_⟩;have rs:=ar.reps;rw[e2] at rs;obtain⟨x,rfl,rp2⟩:=rs.of1;obtain⟨rfl,_⟩:=rp2.int_inv;exact⟨p',ns,j,_,rfl,rfl,hk,hl,rp.same ar.same,k _ H2 [] (s.trans ar.same) (.int _) bK.nil⟩
theorem intsAre_of {K:Frag}{H:Hp}:∀{ns:List Int}{vs:List V}{G:List Addr}{us:List Value},aG K H (ns.map D.int) vs G->aN vs us->IntsAre us ns
 |[],_,_,_,.nil,.nil=>.nil
 | n::ns,_,_,_,.cons h r,.cons x y=>by
  obtain⟨rfl,_⟩:=h.int_inv;obtain⟨t,rfl⟩:=x;exact .cons _ _ (intsAre_of r y)
theorem AR:yN X "list.index" (F7 X.K):=by
 intro pins s σ H x xs v us Q I rx r h;obtain⟨p,ns,k,G,rfl,rfl,hk,hl,rp,q⟩:=h;cases rx;obtain⟨u,rfl,⟨t',rfl⟩⟩:=r.one;obtain⟨p',vs,g,e,rfl,a1,a2⟩:=rp.lst_inv;cases e;obtain⟨its,rv,pl,_⟩:=I.list (.inl a1);exact xi pl.isList (intsAre_of a2 rv) (bg hl (by decide)) hk ⟨.int _,H,I.tok _,⟨_,rfl⟩,q⟩
end
section
variable {X:Cx}
theorem mR:∀{xs:List D}{k:List Str},wQ xs=some k->xs=k.map D.str
 |[],k,h=>by cases h;rfl
 | .str i::r,k,h=>by
  have h:(wQ r).map (i :: ·)=some k:=h;rw[aa] at h;obtain⟨k',h1,rfl⟩:=h;rw[mR h1];rfl
theorem mi {K:Frag}{H:Hp}:∀{ns:List Str}{vs:List V}{G:List Addr}{us:List Value},aG K H (ns.map D.str) vs G->aN vs us->StrsAre us ns
 |[],_,_,_,.nil,.nil=>.nil
 | n::ns,_,_,_,.cons h r,.cons x y=>by
  obtain⟨rfl,_⟩:=h.str_inv;obtain⟨t,rfl⟩:=x;exact .cons _ _ (mi r y)
def rJoin (K:Frag):V->List V->Hp->VK->Prop:=fun x xs H Q=>∃(z:Str) (p:Addr) (ys:List Str) (G:List Addr),x = .str z/\xs=[.ref p]/\Rep K H (.lst (ys.map .str)) (.ref p) G/\(ys.map (·.length)).sum+ys.length*z.length<=lim/\Q (.str (Str.join z ys)) H
theorem zD:yN X "str.join" (rJoin X.K):=by
 intro pins s σ H x xs v us Q I rx r h;obtain⟨z,p,ys,G,rfl,rfl,rp,hl,q⟩:=h;obtain⟨t,rfl⟩:=rx;obtain⟨u,rfl,ru⟩:=r.one;cases ru;obtain⟨p',vs,g,e,rfl,a1,a2⟩:=rp.lst_inv;cases e;obtain⟨its,rv,pl,_⟩:=I.list (.inl a1);refine join_list pl.isList (by simpa using mi a2 rv) (Nat.le_trans hl (by decide)) fun t' k=>⟨.str _,H,I.kept (t':=k) fun b o e=>e,?_,q⟩
 show RelV (.str _) (.str (Builtin.Str.glued z ys) t');rw[StrLaws.glued_eq_join];exact⟨t',rfl⟩
theorem uO {T:Tb}{co ce:Ex}{σ:L2.St}{H:Hp}{Q:VK}(h:tE X.K T (.mth .sjoin co (.cons ce .nil)) σ H Q):G9 X.K "str" (rJoin X.K) (tE X.K T co) (uC X.K T (.cons ce .nil)) σ H Q:=by
 obtain⟨P,env,F,re,p,hev,k⟩:=h;unfold ev at hev;obtain⟨q,h1,hev⟩:=Rs.bind_ok hev;obtain⟨l,h2,hev⟩:=Rs.bind_ok hev;obtain⟨d,h3,hev⟩:=Rs.bind_ok hev;have h3:=cO h3;cases hev;have inv:∃(z:Str) (ys:List Str),q.1 = .str z/\l.map (·.1)=[.lst (ys.map .str)]/\(ys.map (·.length)).sum+ys.length*z.length<=lim/\d = .str (Str.join z ys):=by
  generalize q.1=a at h3;generalize l.map (·.1)=bs at h3
  match a,bs,h3 with
  |.str z,[.lst xs],h3 =>
   have h3:((wQ xs).bind fun ys=>if (ys.map (·.length)).sum+ys.length*z.length<=lim then some (D.str (Str.join z ys)) else none)=some d:=h3;rw[ae] at h3;obtain⟨ys,hy,h3⟩:=h3;by_cases hc:(ys.map (·.length)).sum+ys.length*z.length<=lim
   ·rw[if_pos hc] at h3;cases h3;exact⟨z,ys,rfl,by rw[mR hy],hc,rfl⟩
   ·rw[if_neg hc] at h3;cases h3
 obtain⟨z,ys,e1,e2,hc,rfl⟩:=inv;refine⟨P,env,F,re,q,h1,fun v H1 G s rp rt=>?_⟩;rw[e1] at rp;obtain⟨rfl,rfl⟩:=rp.str_inv;refine⟨rfl,P,env,F,re.same s,l,h2,fun ws H2 G' ar=>?_⟩;have rs:=ar.reps;rw[e2] at rs;obtain⟨x,rfl,rp2⟩:=rs.of1;obtain⟨p',vs,g,rfl,rfl,a1,a2⟩:=id rp2.lst_inv;exact⟨z,p',ys,_,rfl,rfl,rp2,hc,k _ H2 [] (s.trans ar.same) (.str _) bK.nil⟩
end
structure Sc where
 N:List Str
 sc:Scope
 fns:List Str
 qL:List Str
 gE:List Str
noncomputable def idxOf:List Str->Str->Option Nat
 |[],_=>none
 |y::r,x=>if y=x then some 0 else (idxOf r x).map (· + 1)
theorem bV:∀{l:List Str}{x:Str}{i:Nat},idxOf l x=some i->l[i]? = some x
 | y::r,x,i,h=>by
  simp only[idxOf] at h;by_cases e:y=x
  ·rw[if_pos e] at h;cases h;rw[e];rfl
  ·rw[if_neg e,aa] at h;obtain⟨j,hj,rfl⟩:=h;simpa using bV hj
noncomputable def cZ (sc:Scope)(x:Str):Option NameKind:=sc.names.lookup x
noncomputable def qf (sc:Scope)(x:Str):Bool:=match cZ sc x with
 |some .local=>true
 |some .cell=>true
 |some .free=>true
 |_=>false
noncomputable def jP (sc:Scope)(x:Str):Bool:=match cZ sc x with
 |some .local=>true
 |some .cell=>true
 |_=>false
noncomputable def se (sc:Scope)(x:Str):Bool:=match cZ sc x with
 |some .globalImplicit=>true
 |_=>false
noncomputable def cW (x:Str):Bool:=!(x==("__debug__" : Str)) && !(x==("__classdict__" : Str)) && !(x==("__name__" : Str))
noncomputable def notStar:Expr->Bool
 |.Starred _ _=>false
 |_=>true
noncomputable def fD:Expr->Bool
 |.Set _ _ _=>false
 |_=>true
noncomputable def oA:Expr->Bool
 |.Slice _ _ _ _=>false
 |_=>true
noncomputable def gU:Expr->Bool
 |.ListComp _ _ _ _=>true
 |.SetComp _ _ _ _=>true
 |.DictComp _ _ _ _ _=>true
 |_=>false
noncomputable def cQ (f:Expr->Option Ex):List Expr->Option my
 |[]=>some .nil
 |e::es=>if notStar e then (f e).bind fun c=>(cQ f es).map fun cs=>.cons c cs else none
noncomputable def Gm (f:Expr->Option Ex)(op:BoolOp):List Expr->Option Ex
 |[]=>none
 |[a]=>f a
 |a::r=>(f a).bind fun c=>(Gm f op r).map fun d=>match op with
  |.And=>.and c d
  |.Or=>.or c d
noncomputable def lu (S:Sc):List Expr->Option (List Nat)
 |[]=>some []
 |.Name x _::r=>if jP S.sc x then (idxOf S.N x).bind fun i=>(lu S r).map fun is=>i::is else none
 |_::_=>none
noncomputable def rM (S:Sc):Expr->Option kD
 |.Name x _=>if jP S.sc x then (idxOf S.N x).map .nm else none
 |.Tuple es _ _=>(lu S es).map .tp
 |_=>none
noncomputable def w6 (f:Expr->Option Ex):Option Expr->Option mL
 |none=>some .none
 |some e=>(f e).map .some
noncomputable def DR (S:Sc)(x:Str):Bool:=se S.sc x&&S.gE.contains x
noncomputable def isTup:Expr->Bool
 |.Tuple _ _ _=>true
 |_=>false
noncomputable def Ef (S:Sc)(f:Expr->Option Ex)(tp:Bool):Expr->Option vG
 | .Call (.Name x p) es [] pos=>if x = "range" then (if DR S "range" then (match cQ f es with
   | some (.cons a .nil)=>some (.rng1 a)
   | some (.cons a (.cons b .nil))=>some (.rng2 a b)
   | some (.cons a (.cons b (.cons c .nil)))=>some (.rng3 a b c)
   |_=>none) else none) else if x = "enumerate" then none else if x = "reversed" then none else if x = "zip" then none else (f (.Call (.Name x p) es [] pos)).map .seq
 |e=>if fD e then (f e).map .seq else none
noncomputable def bB (sc:Scope):List Str:=(sc.names.filter fun p=>(p.2 == .local || p.2 == .cell)&&p.1 != (".0" : Str)).map (·.1)
noncomputable def bD (sc:Scope):List Str:=(sc.names.filter fun p=>p.2 == .free).map (·.1)
noncomputable def ji:List (Option Nat)->Option (List Nat)
 |[]=>some []
 |some i::r=>(ji r).map (i :: ·)
 |none::_=>none
noncomputable def j7 (S:Sc)(sc:Scope):Bool :=
 sc.kind == .function&&sc.names.all (fun p=>p.2 != .cell || cZ sc p.1==some .cell)&&sc.names.all (fun p=>p.2 != .local || cZ sc p.1==some .local)&&sc.names.all (fun p=>p.2 != .free || (cZ sc p.1==some .free&&(cZ S.sc p.1==some .cell || cZ S.sc p.1==some .free))) &&
 decide (bB sc++bD sc).Nodup
noncomputable def vt (own:Nat):kD->Bool
 |.nm i=>decide (i<own)
 |.tp is=>is.all fun i=>decide (i<own)
noncomputable def EN (x:Str):Option Bt:=if x = "len" then some .len else if x = "list" then some .list else if x = "min" then some .min2 else if x = "int" then some .int else if x = "sum" then some .sum else if x = "str" then some .str else none
noncomputable def DA (t:Str):Option String:=if t = "int" then some "int" else if t = "bool" then some "bool" else if t = "str" then some "str" else if t = "list" then some "list" else if t = "tuple" then some "tuple" else none
noncomputable def GF (S:Sc)(f:Expr->Option Ex):List Expr->Option Ex
 |[a,.Name t _]=>if se S.sc t&&S.gE.contains t&&cW t&&notStar a then (DA t).bind fun u=>(f a).map fun ca=>.blt (.isi u) (.cons ca .nil) else none
 |_=>none
noncomputable def nh:List Expr->Bool
 | [.Call (.Name r _) [_] [] _]=>r==("reversed" : Str)
 |_=>false
noncomputable def Fz (S:Sc)(f:Expr->Option Ex):List Expr->Option Ex
 |_=>none
noncomputable def mY:List Expr->Bool
 | [.Call (.Name r _) _ [] _]=>r==("range" : Str)
 |_=>false
noncomputable def E1 (S:Sc)(f:Expr->Option Ex):List Expr->Option Ex
 |_=>none
noncomputable def uf (S:Sc)(f:Expr->Option Ex)(x:Str)(es:List Expr):Option Ex :=
 if cW x&&se S.sc x then (match idxOf S.fns x with
  |some i=>(cQ f es).map fun cs=>.call i cs
  |none=>if S.gE.contains x then (if x = "isinstance" then GF S f es else if x = "list"/\nh es=true then Fz S f es else if x = "list"/\mY es=true then E1 S f es else match es with
    |[]=>none
    |e::r=>(EN x).bind fun b=>(cQ f (e::r)).map fun cs=>.blt b cs) else none) else none
noncomputable def xm (S:Sc)(f:Expr->Option Ex)(x:Str)(a d:Expr)(k:Str):Option Ex :=
 none
noncomputable def xS (x:Str):Option EE:=if x = "find" then some .sfind else if x = "index" then some .sindex else none
noncomputable def xv:Expr->Bool
 |.Name _ _=>true
 |.Subscript _ _ _=>true
 |.Constant _ _ _=>true
 | .Call _ (_::_) _ _=>true
 |_=>false
noncomputable def Aw (f:Expr->Option Ex)(o:Expr)(name:Str)(es:List Expr)(apos cpos:Pos):Option Ex:=match es with
 |[e]=>if apos.endLine==cpos.line&&xv o then if name = "join" then (f o).bind fun co=>(cQ f [e]).bind fun cs=>(match cs with
  |.cons ce .nil=>some (.mth .sjoin co (.cons ce .nil))
  |_=>none)
  else (xS name).bind fun m=>(f o).bind fun co=>(cQ f [e]).bind fun cs=>match cs with
  |.cons ce .nil=>some (.mth m co (.cons ce .nil))
  |_=>none
  else none
 |_=>none
noncomputable def FX (f:Expr->Option Ex):List Expr->Option mL
 |[]=>some .none
 |[c]=>(f c).map .some
 |_=>none
noncomputable def pz (S:Sc)(f:Sc->Expr->Option Ex)(elt tg iter:Expr)(ifs:List Expr)(sc:Scope):Option Ex :=
 if j7 S sc&&fD iter then
  (Ef S (f S) (isTup tg) iter).bind fun it=>(ji ((bD sc).map (idxOf S.N))).bind fun pick =>
   (rM { S with N:=bB sc++bD sc,sc:=sc } tg).bind fun t=>if vt (bB sc).length t then
    (FX (f { S with N:=bB sc++bD sc,sc:=sc }) ifs).bind fun c=>(f { S with N:=bB sc++bD sc,sc:=sc } elt).map fun ce=>.comp (bB sc).length pick t it c ce
   else none
 else none
noncomputable def xk (S:Sc)(x:Str):Option Ex:=if cW x then (if qf S.sc x then (idxOf S.N x).map .var else if se S.sc x then (idxOf S.qL x).map .glb else none) else none
noncomputable def Gh:Const->Option Ex
 |.int i=>some (.cst (.int i))
 |.bool b=>some (.cst (.bl b))
 |.none=>some (.cst .non)
 |.str s=>some (.cst (.str s))
 |_=>none
noncomputable def cUn (op:UnaryOp)(o:Option Ex):Option Ex:=match op with
 |.USub=>o.map .neg
 |.Not=>o.map .not
 |_=>none
noncomputable def yJ (f:Expr->Option Ex)(a:Expr)(op:CmpOp)(b:Expr):Option Ex:=if behindInMarks op b then none else (f a).bind fun ca=>(f b).map fun cb=>.cmp op ca cb
noncomputable def BE (f:Expr->Option Ex)(a:Expr)(op op':CmpOp)(b c:Expr):Option Ex:=none
noncomputable def Ft (f:Expr->Option Ex)(a:Expr):List CmpOp->List Expr->Option Ex
 |[],_=>none
 |[op],bs=>(match bs with
  |[]=>none
  |[b]=>yJ f a op b
  |_::_::_=>none)
 |op::op'::ops,bs=>(match ops with
  |[]=>(match bs with
   |[]=>none
   |[_]=>none
   |b::c::r=>(match r with
    |[]=>BE f a op op' b c
    |_::_=>none))
  |_::_=>none)
noncomputable def BI (f:Expr->Option Ex)(a b:Expr):Option Ex:=match b with
 |.Slice lo hi st _=>(match st with
  |none=>(f a).bind fun ca=>(w6 f lo).bind fun l=>(w6 f hi).map fun h=>.sl ca l h
  |some _=>none)
 |b=>if oA b then (f a).bind fun ca=>(f b).map fun cb=>.ix ca cb else none
noncomputable def wR (S:Sc)(f:Expr->Option Ex)(x:Str)(es:List Expr):List Keyword->Option Ex
 |[]=>uf S f x es
 |[⟨k,d,_⟩]=>(match k with
  |none=>none
  |some k=>(match es with
   |[]=>none
   |[a]=>xm S f x a d k
   |_::_::_=>none))
 |_::_::_=>none
noncomputable def xT (S:Sc)(f:Expr->Option Ex)(g:Expr)(es:List Expr)(ks:List Keyword)(cpos:Pos):Option Ex:=match g with
 |.Name x _=>wR S f x es ks
 |.Attribute o name apos=>(match ks with
  |[]=>Aw f o name es apos cpos
  |_::_=>none)
 |_=>none
noncomputable def cLC (S:Sc)(f:Sc->Expr->Option Ex)(elt:Expr)(sc:Scope):List Comprehension->Option Ex
 |[]=>none
 |[⟨tg,iter,ifs,as⟩]=>if as=0 then pz S f elt tg iter ifs sc else none
 |_::_::_=>none
noncomputable def C7:Expr->Bool
 |.List [] _=>true
 |_=>false
noncomputable def tH:Expr->Option Expr
 |.List [e] _=>(match e with
  |.Tuple es k p=>if es.any C7 then some (.Tuple es k p) else none
  |_=>none)
 |_=>none
noncomputable def isAdd:Operator->Bool
 |.Add=>true
 |_=>false
noncomputable def CF (f:Expr->Option Ex)(a:Expr)(op:Operator)(b:Expr):Option Ex:=match tH b with
 |some e=>if isAdd op then (f a).bind fun ca=>(f e).map fun ce=>.snoc ca ce else none
 |none=>(f a).bind fun ca=>(f b).map fun cb=>.bin op ca cb
noncomputable def xY:Option Expr->Option Str
 | some (.Name x _)=>some x
 |_=>none
noncomputable def Dr:Expr->Option Int
 | .Constant (.int v) _ _=>some v
 |_=>none
noncomputable def xZ (S:Sc):List (Option Expr)->List Expr->Option (List (Nat×Int))
 |[],[]=>some []
 |k::ks,e::vs=>(xY k).bind fun x=>(Dr e).bind fun v=>if cW x&&se S.sc x then (idxOf S.qL x).bind fun i=>(xZ S ks vs).map fun l=>(i,v)::l else none
 |_,_=>none
noncomputable def CM (S:Sc):List (Option Expr)->List Expr->Option Ex
 |[],[]=>none
 |k::ks,vs=>if (k::ks).length<=15 then (xZ S (k::ks) vs).map .ddsp else none
 |_,_=>none
noncomputable def cE:Nat->Sc->Expr->Option Ex
 |0,_,_=>none
 |n+1,S,e=>match e with
  |.Name x _=>xk S x
  |.Constant c _ _=>Gh c
  |.BinOp a op b _=>CF (cE n S) a op b
  |.UnaryOp op a _=>cUn op (cE n S a)
  |.BoolOp op es _=>Gm (cE n S) op es
  |.Compare a ops bs _=>Ft (cE n S) a ops bs
  |.IfExp c a b _=>(cE n S c).bind fun cc=>(cE n S a).bind fun ca=>(cE n S b).map fun cb=>.ite cc ca cb
  |.List es _=>(cQ (cE n S) es).map .lst
  |.Tuple es _ _=>(cQ (cE n S) es).map .tup
  |.Subscript a b _=>BI (cE n S) a b
  |.Call g es ks pos=>xT S (cE n S) g es ks pos
  |.ListComp elt gens sc _=>cLC S (cE n) elt sc gens
  |.Dict ks vs _=>CM S ks vs
  |_=>none
structure Ctx (X:Cx)(S:Sc)(T:Tb):Prop where
 N:X.N=S.N
 nd:S.N.Nodup
 vis:∀ x,qf S.sc x=true->Bx X.env.scope x
 loc:∀ x,jP S.sc x=true->Loc X.env.scope x/\(X.fn x=true\/X.env.scope.names.lookup x=some .local)
 gl:∀ x,se S.sc x=true->Gl X x
 cel:∀ x,(cZ S.sc x=some .cell\/cZ S.sc x=some .free)->(X.env.kindOf x=some .cell\/X.env.kindOf x=some .free)
 units:X.A.units+40<cLine/\uQ X.w X.K
 calm:X.calm=true
 fns:∀ i x,idxOf S.fns x=some i->∃ f fd ps k,ja X.prog X.w X.K X.mg X.base tU k f fd ps (uE X.K ps.length (T.cl i))/\eM k X.A/\X.mg x=some (.ref f)/\PySem.W.keepIn X.K (.ref f)=true/\Binds X.K fd ps []/\∀ ds r,T.cl i ds = .ok r->ds.length=ps.length
 qL:∀ i x,idxOf S.qL x=some i->∃ v u,X.mg x=some u/\RelV v u/\∀ H,Rep X.K H (T.gl i) v []
 gE:∀ x,S.gE.contains x=true->X.mg x=none
theorem bG {e:Expr}{es:List Expr}{env:Env}(h:notStar e=true):starEach (e::es) env=(false,eval e env)::starEach es env:=by
 cases e<;>first | rfl | (cases h)
theorem sd {e:Expr}{env:Env}(h:fD e=true)(x:Value):foldedSetIterable e env x=pure x:=by
 cases e<;>first | rfl | (cases h)
theorem yC {e:Expr}(h:oA e=true):nV e:=by
 intro o i;cases e<;>first | rfl | (cases h)
theorem bH {f:Expr->Option Ex}{e:Expr}{es:List Expr}{cs:my}(h:cQ f (e::es)=some cs):notStar e=true/\∃ c d,f e=some c/\cQ f es=some d/\cs = .cons c d:=by
 unfold cQ at h;by_cases hs:notStar e=true
 ·rw[if_pos hs] at h;rw[ae] at h;obtain⟨c,h1,h2⟩:=h;rw[aa] at h2;obtain⟨d,h2,rfl⟩:=h2;exact⟨hs,c,d,h1,h2,rfl⟩
 ·rw[if_neg hs] at h;cases h
theorem dR {f:Expr->Option Ex}{env:Env}{pos:Pos}:∀{es:List Expr}{cs:my},cQ f es=some cs->(backTo pos (starEach es env)).any (·.1)=false
 |[],cs,_=>rfl
 | e::es,cs,h=>by
  obtain⟨hs,c,d,_,h2,_⟩:=bH h;rw[bG hs];show (false || (backTo pos (starEach es env)).any (·.1))=false;rw[dR h2];rfl
theorem cV {x:Str}(h:cW x=true):(x==("__debug__" : Str))=false/\(x==("__classdict__" : Str))=false/\x≠"__name__":=by
 unfold cW at h;rw[ag,ag] at h;obtain⟨⟨h1,h2⟩,h3⟩:=h;refine⟨by simpa using h1,by simpa using h2,fun e=>?_⟩;subst e;simp at h3
theorem Ed {X:Cx}{T:Tb}{c a b:Expr}{cc ca cb:Ex}{pos:Pos}(hc:PT X c (mo X.K T cc))(ha:PT X a (mo X.K T ca))(hb:PT X b (mo X.K T cb)):PT X (.IfExp c a b pos) (mo X.K T (.ite cc ca cb)):=by
 intro pins s σ H Q I h;obtain⟨P,env,F,re,p,bb,hev,ht,k⟩:=h;unfold ev at hev;obtain⟨q,h1,hev⟩:=Rs.bind_ok hev;obtain⟨kb,h2,hev⟩:=Rs.bind_ok hev;refine isTrue_IfExp (cH (hc pins s σ H (fun d H'=>d=kb/\aI H H') I ⟨P,env,F,re,q,kb,h1,cO h2,fun H' s=>⟨rfl,s⟩⟩) fun d s1 ⟨H1,I1,e,s⟩=>?_);subst e;cases d with
 |true=>exact ha pins s1 σ H1 Q I1 ⟨P,env,F,re.same s,p,bb,hev,ht,fun H' s'=>k H' (s.trans s')⟩
 |false=>exact hb pins s1 σ H1 Q I1 ⟨P,env,F,re.same s,p,bb,hev,ht,fun H' s'=>k H' (s.trans s')⟩
theorem vU {T:Tb}{a:Ex}{env:En}{p}(hev:iS T (.rng1 a) env = .ok p):p.2=[]/\∃ l,aV T (.cons a .nil) env = .ok l/\((∃ j,l.map (·.1)=[.int j]/\gL j=true/\p.1=aZ 0 1 j.toNat)\/(∃ i j,l.map (·.1)=[.int i,.int j]/\gL i=true/\gL j=true/\p.1=aZ i 1 (j - i).toNat) \/
   ∃ i j k,l.map (·.1)=[.int i,.int j,.int k]/\gL i=true/\gL j=true/\k≠0/\k.natAbs<1073741824/\p.1=aZ i k (Builtin.Range.rangeSize i j k).toNat):=by
 unfold iS at hev;obtain⟨q,h1,hev⟩:=Rs.bind_ok hev;split at hev
 ·rename_i j hj;split at hev
  ·rename_i ho;cases hev;exact⟨rfl,[q],by unfold aV;rw[h1];unfold aV;rfl,.inl ⟨j,by simp[hj],ho,rfl⟩⟩
  ·cases hev
 ·cases hev
theorem xC {T:Tb}{a b:Ex}{env:En}{p}(hev:iS T (.rng2 a b) env = .ok p):p.2=[]/\∃ l,aV T (.cons a (.cons b .nil)) env = .ok l/\((∃ j,l.map (·.1)=[.int j]/\gL j=true/\p.1=aZ 0 1 j.toNat)\/(∃ i j,l.map (·.1)=[.int i,.int j]/\gL i=true/\gL j=true/\p.1=aZ i 1 (j - i).toNat) \/
   ∃ i j k,l.map (·.1)=[.int i,.int j,.int k]/\gL i=true/\gL j=true/\k≠0/\k.natAbs<1073741824/\p.1=aZ i k (Builtin.Range.rangeSize i j k).toNat):=by
 unfold iS at hev;obtain⟨q,h1,hev⟩:=Rs.bind_ok hev;obtain⟨r,h2,hev⟩:=Rs.bind_ok hev;split at hev
 ·rename_i i j hi hj;split at hev
  ·rename_i ho;cases hev;rw[ag] at ho;exact⟨rfl,[q,r],by unfold aV;rw[h1];unfold aV;rw[h2];unfold aV;rfl,.inr (.inl ⟨i,j,by simp[hi,hj],ho.1,ho.2,rfl⟩)⟩
  ·cases hev
 ·cases hev
theorem wC {T:Tb}{a b c:Ex}{env:En}{p}(hev:iS T (.rng3 a b c) env = .ok p):p.2=[]/\∃ l,aV T (.cons a (.cons b (.cons c .nil))) env = .ok l/\((∃ j,l.map (·.1)=[.int j]/\gL j=true/\p.1=aZ 0 1 j.toNat)\/(∃ i j,l.map (·.1)=[.int i,.int j]/\gL i=true/\gL j=true/\p.1=aZ i 1 (j - i).toNat) \/
   ∃ i j k,l.map (·.1)=[.int i,.int j,.int k]/\gL i=true/\gL j=true/\k≠0/\k.natAbs<1073741824/\p.1=aZ i k (Builtin.Range.rangeSize i j k).toNat):=by
 unfold iS at hev;obtain⟨q,h1,hev⟩:=Rs.bind_ok hev;obtain⟨r,h2,hev⟩:=Rs.bind_ok hev;obtain⟨t,h3,hev⟩:=Rs.bind_ok hev;split at hev
 ·rename_i i j k hi hj hk;split at hev
  ·rename_i ho;cases hev;simp only[Bool.and_eq_true,bne_iff_ne,decide_eq_true_eq] at ho;exact⟨rfl,[q,r,t],by unfold aV;rw[h1];unfold aV;rw[h2];unfold aV;rw[h3];unfold aV;rfl,.inr (.inr ⟨i,j,k,by simp[hi,hj,hk],ho.1.1.1,ho.1.1.2,ho.1.2,ho.2,rfl⟩)⟩
  ·cases hev
 ·cases hev
def SE (X:Cx)(T:Tb)(e:Expr)(c:Ex):Prop:=PE X e (tE X.K T c)/\PT X e (mo X.K T c)
section
variable {X:Cx}{S:Sc}{T:Tb}
theorem cU {f:Expr->Option Ex}(hf:∀ e c,f e=some c->SE X T e c):∀{es:List Expr}{cs:my},cQ f es=some cs->PA X es (uC X.K T cs)
 |[],cs,h=>by cases h;exact Eh
 | e::es,cs,h=>by
  obtain⟨hs,c,d,h1,h2,rfl⟩:=bH h;exact yU (hf e c h1).1 (cU hf h2) (bG hs)
theorem A9 {f:Expr->Option Ex}{op:BoolOp}{pos:Pos}(hf:∀ e c,f e=some c->SE X T e c):∀{es:List Expr}{c:Ex},Gm f op es=some c->PE X (.BoolOp op es pos) (tE X.K T c)/\PW X (.BoolOp op es pos) (mo X.K T c)
 |[],c,h=>by cases h
 | [a],c,h=>by
  have h:f a=some c:=h;have ⟨h1,h2⟩:=hf a c h;refine⟨DB h1,?_⟩;cases op with
  |And=>exact zH h2
  |Or=>exact vI h2
 | a::b::r,c,h=>by
  unfold Gm at h;rw[ae] at h;obtain⟨ca,h1,h2⟩:=h;rw[aa] at h2;obtain⟨cb,h2,h3⟩:=h2;subst h3;have ⟨ia,ta⟩:=hf a ca h1;have ⟨ib,tb⟩:=A9 (pos:=pos) hf h2;cases op with
  |And=>exact⟨DT ia ib,Dn ta tb⟩
  |Or=>exact⟨GG ia ib,Fk ta tb⟩
theorem pG (C:Ctx X S T):∀{es:List Expr}{is:List Nat},lu S es=some is->Ha X es (fT is)/\(assignEach es X.env).length=is.length/\(assignEach es X.env).findIdx? (·.1)=none:=by
 intro es
 induction es with
 |nil=>intro is h;cases h;exact⟨As,rfl,rfl⟩
 |cons e es ih =>
  intro is h;cases e with
  |Name x p =>
   unfold lu at h;by_cases hl:jP S.sc x=true
   ·rw[if_pos hl,ae] at h;obtain⟨i,h1,h2⟩:=h;rw[aa] at h2;obtain⟨js,h2,rfl⟩:=h2;obtain⟨a,b,c⟩:=ih h2;have hN:=C.nd;rw[<-C.N] at hN;have hi:=bV h1;rw[<-C.N] at hi;refine⟨xU (t6 hN hi (C.loc x hl).1 (C.loc x hl).2) a,?_,?_⟩
    ·show (assignEach es X.env).length+1=js.length+1;rw[b]
    ·show List.findIdx? (·.1) ((false,_)::assignEach es X.env)=none;rw[List.findIdx?_cons];simp[c]
   ·rw[if_neg hl] at h;cases h
  |_=>cases h
theorem vS (C:Ctx X S T){e:Expr}{t:kD}(h:rM S e=some t):PG X e (rB X.K t):=by
 cases e with
 |Name x p =>
  unfold rM at h;dsimp only at h;by_cases hl:jP S.sc x=true
  ·rw[if_pos hl,aa] at h;obtain⟨i,h1,rfl⟩:=h;have hN:=C.nd;rw[<-C.N] at hN;have hi:=bV h1;rw[<-C.N] at hi;exact t6 hN hi (C.loc x hl).1 (C.loc x hl).2
  ·rw[if_neg hl] at h;cases h
 |Tuple es a b =>
  unfold rM at h;rw[aa] at h;obtain⟨is,h1,rfl⟩:=h;obtain⟨a,b,c⟩:=pG C h1;exact wN C.calm a b c
 |_=>cases h
theorem Bn (C:Ctx X S T){f:Expr->Option Ex}(hf:∀ e c,f e=some c->SE X T e c){tg e:Expr}{it:vG}(h:Ef S f (isTup tg) e=some it):PI X tg e (tI X.K T it):=by
 unfold Ef at h;split at h
 ·rename_i x p es pos;by_cases hx:x = "range"
  ·subst hx;rw[if_pos rfl] at h;by_cases hg:DR S "range" = true
   ·rw[if_pos hg] at h;have hg2:se S.sc "range" = true/\S.gE.contains "range" = true:=by
     unfold DR at hg
     rwa [ag] at hg
    cases hc:cQ f es with
    |none=>rw[hc] at h;cases h
    |some cs =>
     rw[hc] at h;cases es with
     |nil=>cases hc;cases h
     |cons e0 rest =>
      obtain⟨hs,c0,d0,_,hd,rfl⟩:=bH hc;refine DL rfl (C.gl _ hg2.1) (C.gE _ hg2.2) (cU hf hc) (bG hs) (dR hd) ?_;intro env p hev;cases d0 with
      |nil =>
       cases h;exact vU hev
      |cons c1 d1 =>
       cases d1 with
       |nil =>
        cases h;exact xC hev
       |cons c2 d2 =>
        cases d2 with
        |nil =>
         cases h;exact wC hev
        |cons c3 d3=>cases h
   ·rw[if_neg hg] at h;cases h
  rw[if_neg hx] at h;by_cases hx:x = "enumerate"
  ·subst hx;rw[if_pos rfl] at h;cases h
  rw[if_neg hx] at h;by_cases hx:x = "reversed"
  ·subst hx;rw[if_pos rfl] at h;cases h
  rw[if_neg hx] at h;by_cases hx:x = "zip"
  ·subst hx;rw[if_pos rfl] at h;cases h
  ·rw[if_neg hx,aa] at h;obtain⟨c,h1,rfl⟩:=h;exact yL (hf _ _ h1).1
 ·by_cases hn:fD e=true
  ·rw[if_pos hn,aa] at h;obtain⟨c,h1,rfl⟩:=h;exact yL (hf _ _ h1).1
  ·rw[if_neg hn] at h;cases h
end
theorem gC {env:Env}:∀{names:List (Str×NameKind)}{x:Str}{k:NameKind},names.lookup x=some k->k≠.free ->
  (names.map fun (n,k)=>if (k==NameKind.free&&env.scope.kind == .function&&env.kindOf n==some .cell) then (n,NameKind.cell) else (n,k)).lookup x=some k
 |[],_,_,h,_=>by simp at h
 | (n,k0)::r,x,k,h,hk=>by
  rw[ay];by_cases hc:(k0==NameKind.free&&env.scope.kind == .function&&env.kindOf n==some .cell)=true
  ·simp only[hc,if_true,List.lookup_cons] at h ⊢;cases hx:x==n with
   |true =>
    rw[hx] at h;cases h;rw[ag,ag] at hc;exact absurd (by simpa using hc.1.1) hk
   |false=>rw[hx] at h;exact gC h hk
  ·have hc:(k0==NameKind.free&&env.scope.kind == .function&&env.kindOf n==some .cell)=false:=by simpa using hc
   simp only[hc,Bool.false_eq_true,if_false,List.lookup_cons] at h ⊢;cases hx:x==n with
   |true=>rw[hx] at h;exact h
   |false=>rw[hx] at h;exact gC h hk
theorem ke:∀{l:List (Option Nat)}{p:List Nat},ji l=some p->l=p.map some
 |[],p,h=>by cases h;rfl
 | some i::r,p,h=>by
  simp only[ji,Option.map_eq_some_iff] at h;obtain⟨q,h1,rfl⟩:=h;rw[ke h1];rfl
 |none::r,p,h=>by cases h
theorem lO {S:Sc}{sc:Scope}(h:j7 S sc=true):sc.kind = .function/\(∀ y∈sc.names,y.2 = .cell->sc.names.lookup y.1=some .cell)/\(∀ y∈sc.names,y.2 = .local->sc.names.lookup y.1=some .local) /\
  (∀ y∈sc.names,y.2 = .free->sc.names.lookup y.1=some .free/\(cZ S.sc y.1=some .cell\/cZ S.sc y.1=some .free))/\(bB sc++bD sc).Nodup:=by
 unfold j7 at h;simp only[Bool.and_eq_true,List.all_eq_true,Bool.or_eq_true,beq_iff_eq,bne_iff_ne,decide_eq_true_eq,cZ] at h;obtain⟨⟨⟨⟨h1,h2⟩,h3⟩,h4⟩,h5⟩:=h;refine⟨h1,fun y hy e=>?_,fun y hy e=>?_,fun y hy e=>?_,h5⟩
 ·rcases h2 y hy with h | h
  ·exact absurd e h
  ·exact h
 ·rcases h3 y hy with h | h
  ·exact absurd e h
  ·exact h
 ·rcases h4 y hy with h | h
  ·exact absurd e h
  ·exact h
section
variable {X:Cx}{S:Sc}{T:Tb}{sc:Scope}{pick:List Nat}
theorem qN (C:Ctx X S T)(h:j7 S sc=true)(hp:ji ((bD sc).map (idxOf S.N))=some pick):dP X sc (bB sc++bD sc) (dX (bB sc).length pick):=by
 obtain⟨h1,h2,h3,h4,h5⟩:=lO h;have hp:=ke hp;have hlen:(bD sc).length=pick.length:=by simpa using congrArg List.length hp
 refine⟨h1,h2,h3,by simp[dX,hlen],fun x hx=>C.cel x (h4 _ (PySem.mem_of_lookup hx) rfl).2,fun x hx=>(h4 _ hx rfl).1,fun i j x hi hx=>?_⟩;unfold dX at hi;by_cases hlt:i<(bB sc).length
 ·rw[List.getElem?_append_left (by simpa using hlt),List.getElem?_replicate] at hi;split at hi<;>cases hi
 ·have hle:=iu hlt;rw[List.getElem?_append_right (by simpa using hle),List.length_replicate,<-hp,List.getElem?_map] at hi;rw[List.getElem?_append_right hle] at hx;rw[hx] at hi;simp only[Option.map_some,Option.some.injEq] at hi;have hm:=List.mem_of_getElem? hx;unfold bD at hm;rw[List.mem_map] at hm;obtain⟨p,hp1,rfl⟩:=hm;rw[List.mem_filter] at hp1;have hf:p.2 = .free:=by simpa using hp1.2
  refine⟨(h4 p hp1.1 hf).1,?_⟩;rw[C.N];exact bV hi
theorem vi (C:Ctx X S T)(h:j7 S sc=true)(Ca:Addr)(s0:Shared)(H0:Hp)(ex:List Addr):Ctx (inner X sc (bB sc++bD sc) Ca s0 H0 ex) { S with N:=bB sc++bD sc,sc:=sc } T:=by
 obtain⟨h1,h2,h3,h4,h5⟩:=lO h;have keep:∀ x k,sc.names.lookup x=some k->k≠.free->(relabel sc X.env).names.lookup x=some k:=fun x k e hk=>gC e hk
 refine⟨rfl,h5,fun x hx=>?_,fun x hx=>?_,fun x hx=>?_,fun x hx=>?_,C.units,C.calm,C.fns,C.qL,C.gE⟩
 ·unfold qf cZ at hx;dsimp only at hx;split at hx
  ·rename_i e;exact .inl (keep _ _ e (by simp))
  ·rename_i e;exact .inr (.inl (keep _ _ e (by simp)))
  ·rename_i e;exact .inr (eK e)
  ·cases hx
 ·unfold jP cZ at hx;dsimp only at hx;split at hx
  ·rename_i e;exact⟨.inl (keep _ _ e (by simp)),.inr (keep _ _ e (by simp))⟩
  ·rename_i e;exact⟨.inr (keep _ _ e (by simp)),.inl (by show (sc.names.lookup x==some NameKind.cell)=true;rw[e];rfl)⟩
  ·cases hx
 ·unfold se cZ at hx;dsimp only at hx;split at hx
  ·rename_i e;exact keep _ _ e (by simp)
  ·cases hx
 ·unfold cZ at hx;rcases hx with hx | hx
  ·exact .inl (keep _ _ hx (by simp))
  ·exact eK hx
end
theorem jS (n d:Nat)(o:Option Int):aU n d o=HT.aU n d o:=by cases o<;>rfl
theorem Ad (n d:Nat)(hd:d<=n)(o:Option Int):aU n d o<=n\/∃ i,o=some i/\i<0/\(n:Int)<i+n:=by
 cases o with
 |none=>exact .inl hd
 |some i =>
  left;simp only[aU];split<;>omega
theorem oB {n d:Nat}(hd:d<=n)(o:Option Int):aU n d o<=n:=by
 rcases Ad n d hd o with h | ⟨i,_,h1,h2⟩
 ·exact h
 ·omega
theorem BW (lo hi:Option Int)(n:Nat):Builtin.Str.strSliceIndices lo hi 1 n=(List.range (aU n n hi - aU n 0 lo)).map (aU n 0 lo + ·):=by
 unfold Builtin.Str.strSliceIndices;have h1:∀(o:Option Int) (d:Nat),d<=n->(match o with | none=>(d:Int) | some i=>if (1:Int) > 0 then max 0 (min (if i<0 then i+(n:Int) else i) n) else max (-1) (min (if i<0 then i+(n:Int) else i) (n - 1)))=((aU n d o:Nat):Int):=by
  intro o d hd;cases o with
  |none=>rfl
  |some i =>
   simp only[aU];rw[if_pos (by decide)];by_cases hi:i<0
   ·rw[if_pos hi,if_pos hi];omega
   ·rw[if_neg hi,if_neg hi];omega
 have e1:=h1 lo 0 (en _);have e2:=h1 hi n (aw _);dsimp only;rw[if_pos (by decide),if_pos (by decide)];refine Eq.trans ?_ (sliceRange_one (aU n 0 lo) (aU n n hi));have gen:∀ a b a' b':Int,a=a'->b=b'->sliceRange a b 1=sliceRange a' b' 1:=fun a b a' b' h h'=>by rw[h,h']
 exact gen _ _ _ _ e1 e2
theorem B7 {X:Cx}:BH X (fun x lo hi H Q=>∃ z,x = .str z/\z.length<=lim/\Q (.str ⟨(cut z.cps.toList lo hi).toArray⟩) H):=by
 intro pins s σ H x v vl vu lo hi sl Q I rx hs pl pu h;obtain⟨z,rfl,hzl,q⟩:=h;obtain⟨t,rfl⟩:=rx;have part:∀{v:Value}{o:Option Int},IsPart v o->∃ l:Option (Int×Tok),partValue l=v/\l.map (·.1)=o:=fun h=>by
  cases h with
  |none=>exact⟨none,rfl,rfl⟩
  |int i t=>exact⟨some (i,t),rfl,rfl⟩
 obtain⟨l,rfl,rfl⟩:=part pl;obtain⟨u,rfl,rfl⟩:=part pu;refine⟨"str",_,PySem.F.slot_str_getitem.lookup,typeIs_str s z t,wpAny_getItem_str_slice (l:=l) (u:=u) (st:=none) hs rfl ?_⟩;have hp:slicePicked z l u none=(List.range (aU z.length z.length (u.map (·.1)) - aU z.length 0 (l.map (·.1)))).map (aU z.length 0 (l.map (·.1)) + ·):=BW _ _ _;have hc:(slicePicked z l u none).filterMap (z.cps[·]?)=cut z.cps.toList (l.map (·.1)) (u.map (·.1)):=by
  rw[hp,pick_run];rfl
 unfold sliceMade;split
 ·rename_i hw;have hl:(slicePicked z l u none).length=z.length:=by
   have:=(ag _ _ ▸ hw).2;simpa using this
  rw[hp,av,dw] at hl;have hz:(⟨(cut z.cps.toList (l.map (·.1)) (u.map (·.1))).toArray⟩:Str)=z:=by
   have a1:=oB (n:=z.length) (en _) (l.map (·.1));have a2:=oB (n:=z.length) (aw _) (u.map (·.1));have:cut z.cps.toList (l.map (·.1)) (u.map (·.1))=z.cps.toList:=by
    have hlen:z.cps.toList.length=z.length:=rfl;unfold cut;rw[hlen];dsimp only;by_cases h0:z.length=0
    ·have:z.cps.toList=[]:=List.eq_nil_of_length_eq_zero (hlen.trans h0);rw[this];simp
    ·rw[show aU z.length 0 (l.map (·.1))=0 by omega,show aU z.length z.length (u.map (·.1))=z.length by omega,List.drop_zero,Nat.sub_zero];exact bu (Nat.le_of_eq hlen)
   rw[this]
  rw[hz] at q;exact⟨.str z,H,I,⟨t,rfl⟩,q⟩
 ·rw[hc];refine⟨?_,.str _,H,I.tok _,⟨_,rfl⟩,q⟩;show (cut z.cps.toList (l.map (·.1)) (u.map (·.1))).toArray.size<=sizeLine;rw[ai];refine bg ?_ (eO hzl);unfold cut;rw[bp,bt];exact bg (Nat.min_le_right _ _) (Nat.sub_le _ _)
section
variable {X:Cx}{T:Tb}{a:Expr}{ca:Ex}{lo hi:Option Expr}{cl ch:mL}{pos p2:Pos}
noncomputable def tO (K:Frag)(T:Tb)(c:mL):TO:=fun σ H Q=>∃ P env F,RE K P env σ H F/\∃ o,jQ T c env = .ok o/\∀ H',aI H H'->Q o H'
theorem vY {X:Cx}{e:Option Expr}{t t':TO}(h:PO X e t)(k:∀ σ H Q,t' σ H Q->t σ H Q):PO X e t':=fun pins s σ H Q I q=>h pins s σ H Q I (k σ H Q q)
theorem zA:PO X none (tO X.K T .none):=vY zz fun σ H Q ⟨P,env,F,re,o,h,k⟩=>by
 unfold jQ at h;cases h;exact k H (aI.refl _)
theorem zx (h:PE X a (tE X.K T ca)):PO X (some a) (tO X.K T (.some ca)):=vY (nY h) fun σ H Q ⟨P,env,F,re,o,h,k⟩=>by
 unfold jQ at h;obtain⟨p,h1,h2⟩:=Rs.bind_ok h;refine⟨P,env,F,re,p,h1,fun v H' G s rp rt=>?_⟩;split at h2
 ·rename_i i hi;cases h2;rw[hi] at rp;obtain⟨rfl,rfl⟩:=rp.int_inv;exact⟨i,rfl,k H' s⟩
 ·cases h2
theorem GY (ha:PE X a (tE X.K T ca))(hl:PO X lo (tO X.K T cl))(hh:PO X hi (tO X.K T ch)):PE X (.Subscript a (.Slice lo hi none p2) pos) (tE X.K T (.sl ca cl ch)):=by
 refine bE (pL (sO.or (B7.or De)) ha hl hh) fun σ H Q ⟨P,env,F,re,p,hev,k⟩=>?_
 unfold ev at hev;obtain⟨q,h1,hev⟩:=Rs.bind_ok hev;obtain⟨ol,h2,hev⟩:=Rs.bind_ok hev;obtain⟨oh,h3,hev⟩:=Rs.bind_ok hev;obtain⟨d,h4,hev⟩:=Rs.bind_ok hev;have h4:=cO h4;cases hev;refine⟨P,env,F,re,q,h1,fun v H1 G s rp rt=>⟨P,env,F,re.same s,ol,h2,fun H2 s2=>⟨P,env,F,re.same (s.trans s2),oh,h3,fun H3 s3=>?_⟩⟩⟩;have s23:=s2.trans s3;cases hq:q.1 with
 |lst xs =>
  rw[hq] at rp h4;cases h4;obtain⟨pa,vs,G',rfl,rfl,hr,rs⟩:=Rep.lst_inv (rp.same s23);refine .inl ⟨pa,vs,rfl,.inl hr,fun pn hn=>?_⟩;obtain⟨G1,r1,u1⟩:=rs.drop (aU xs.length 0 ol);obtain⟨G2,r2,u2⟩:=r1.take (aU xs.length xs.length oh - aU xs.length 0 ol);have hc:kC vs ol oh=(vs.drop (aU xs.length 0 ol)).take (aU xs.length xs.length oh - aU xs.length 0 ol):=by
   unfold kC;rw[rs.len,jS,jS]
  rw[hc];have sub:∀ a∈G2,a∈pa::G':=fun a ha=>ah _ (u1.mem (u2.mem ha))
  obtain⟨rp',nv⟩:=j6 (G0:=pa::G') r2 sub hn;have ar:Args X.K env F H H3 [q] [.ref pa] ((pa::G') ++ []):=.cons s (by rw[hq];exact rp) rt (.nil s23);rw[bh] at ar;exact k _ _ _ ((s.trans s23).trans nv.same) rp' (bK.new ar nv (by simp[aT]))
 |str z =>
  rw[hq] at rp h4;obtain⟨rfl,rfl⟩:=rp.str_inv;have h4:(if z.length<=lim then some (D.str ⟨(cut z.cps.toList ol oh).toArray⟩) else none)=some d:=h4;by_cases hz:z.length<=lim
  ·rw[if_pos hz] at h4;cases h4;exact .inr (.inl ⟨z,rfl,hz,k _ H3 [] (s.trans s23) (.str _) bK.nil⟩)
  ·rw[if_neg hz] at h4;cases h4
 |tup xs =>
  rw[hq] at rp h4;have h4:(if aU xs.length 0 ol=0/\aU xs.length xs.length oh=xs.length then none else some (D.tup (cut xs ol oh)))=some d:=h4;by_cases hw:aU xs.length 0 ol=0/\aU xs.length xs.length oh=xs.length
  ·rw[if_pos hw] at h4;cases h4
  ·rw[if_neg hw] at h4;cases h4;obtain⟨pa,vs,rfl,hr,rs⟩:=Rep.tup_inv (rp.same s23);refine .inr (.inr ⟨pa,vs,rfl,hr,by rw[<-rs.len,<-jS,<-jS];exact hw,fun pn hn=>?_⟩);obtain⟨G1,r1,u1⟩:=rs.drop (aU xs.length 0 ol);obtain⟨G2,r2,u2⟩:=r1.take (aU xs.length xs.length oh - aU xs.length 0 ol);have hc:kC vs ol oh=(vs.drop (aU xs.length 0 ol)).take (aU xs.length xs.length oh - aU xs.length 0 ol):=by
    unfold kC;rw[rs.len,jS,jS]
   rw[hc];obtain⟨rp',nv⟩:=wI (G0:=G) r2 (fun a ha=>u1.mem (u2.mem ha)) hn;have ar:Args X.K env F H H3 [q] [.ref pa] (G ++ []):=.cons s (by rw[hq];exact rp) rt (.nil s23);rw[bh] at ar;exact k _ _ _ ((s.trans s23).trans nv.same) rp' (bK.new ar nv (by simp[aT]))
 |_=>rw[hq] at h4;cases h4
end
section
variable {X:Cx}{S:Sc}{T:Tb}
theorem xE {f:Expr->Option Ex}(hf:∀ e c,f e=some c->SE X T e c){o:Option Expr}{c:mL}(h:w6 f o=some c):PO X o (tO X.K T c):=by
 cases o with
 |none=>cases h;exact zA
 |some e =>
  have h:(f e).map mL.some=some c:=h;rw[aa] at h;obtain⟨d,h1,rfl⟩:=h;exact zx (hf e d h1).1
theorem D9 {x id:String}{b:Bt}{f:Expr->Option Ex}(hf:∀ e c,f e=some c->SE X T e c){e:Expr}{r:List Expr}{cs:my}{p pos:Pos}(hr:dY X (.builtin id) (nZ X.K b))(hv:bootBuiltins x=some (.builtin id))(hg:Gl X x)(hm:X.mg x=none)(hn:cW x=true)(ha:cQ f (e::r)=some cs) :
  PE X (.Call (.Name x p) (e::r) [] pos) (tE X.K T (.blt b cs)):=by
 obtain⟨hs,_,_,_,h2,_⟩:=bH ha;obtain⟨n1,n2,n3⟩:=cV hn;exact bE (fO hr hg hm hv (cU hf ha) n3 n1 (bG hs) (dR h2)) fun σ H Q h=>pK h
theorem BY {x id:String}{b:Bt}{f:Expr->Option Ex}(hf:∀ e c,f e=some c->SE X T e c){e:Expr}{r:List Expr}{cs:my}{p pos:Pos}(hr:dY X (.type id) (nZ X.K b))(hv:bootBuiltins x=some (.type id))(hg:Gl X x)(hm:X.mg x=none)(hn:cW x=true)(ha:cQ f (e::r)=some cs) :
  PE X (.Call (.Name x p) (e::r) [] pos) (tE X.K T (.blt b cs)):=by
 obtain⟨hs,_,_,_,h2,_⟩:=bH ha;obtain⟨n1,n2,n3⟩:=cV hn;exact bE (nz hr hg hm hv (cU hf ha) n3 n1 (bG hs) (dR h2)) fun σ H Q h=>pK h
theorem xJ {t:Str}{u:String}(h:DA t=some u):u∈iM/\bootBuiltins t=some (.type u):=by
 unfold DA at h;split at h
 ·rename_i e;cases h;subst e;exact⟨by decide,boot_int⟩
 split at h
 ·rename_i e;cases h;subst e;exact⟨by decide,boot_bool⟩
 split at h
 ·rename_i e;cases h;subst e;exact⟨by decide,boot_str⟩
 split at h
 ·rename_i e;cases h;subst e;exact⟨by decide,boot_list⟩
 split at h
 ·rename_i e;cases h;subst e;exact⟨by decide,boot_tuple⟩
 cases h
theorem z6 (C:Ctx X S T){f:Expr->Option Ex}(hf:∀ e c,f e=some c->SE X T e c){x:Str}{es:List Expr}{c:Ex}{p pos:Pos}(h:uf S f x es=some c):PE X (.Call (.Name x p) es [] pos) (tE X.K T c):=by
 unfold uf at h;by_cases hk:(cW x&&se S.sc x)=true
 ·rw[if_pos hk] at h;rw[ag] at hk;obtain⟨hn,hg⟩:=hk;have hg:=C.gl x hg;obtain⟨n1,n2,n3⟩:=cV hn;cases hi:idxOf S.fns x with
  |some i =>
   rw[hi] at h;dsimp only at h;rw[aa] at h;obtain⟨cs,h1,rfl⟩:=h;obtain⟨fa,fd,ps,k,FO,hr,hm,hkp,hb,hl⟩:=C.fns i x hi;cases es with
   |nil =>
    cases h1;refine bE (vO FO hr hg hm hkp hb .nil yb n1) fun σ H Q h=>?_
    have:=nQ hl h;obtain⟨P,env,F,re,l,hev,k⟩:=this;unfold aV at hev;cases hev;exact k [] H [] (.nil (aI.refl _))
   |cons e r =>
    obtain⟨hs,_,_,_,h2,_⟩:=bH h1;exact bE (Am FO hr hg hm hkp hb .nil yb (cU hf h1) n1 (bG hs) (dR h2)) fun σ H Q h=>nQ hl h
  |none =>
   rw[hi] at h;dsimp only at h;by_cases hb:S.gE.contains x=true
   ·rw[if_pos hb] at h;have hm:=C.gE x hb;by_cases hx:x = "isinstance"
    ·rw[if_pos hx] at h;subst hx;unfold GF at h;split at h
     ·rename_i a t pt;by_cases hc:(se S.sc t&&S.gE.contains t&&cW t&&notStar a)=true
      ·rw[if_pos hc] at h;simp only[Bool.and_eq_true] at hc;obtain⟨⟨⟨c1,c2⟩,c3⟩,c4⟩:=hc;rw[ae] at h;obtain⟨u,h1,h2⟩:=h;rw[aa] at h2;obtain⟨ca,h2,rfl⟩:=h2;obtain⟨hu,hbt⟩:=xJ h1;obtain⟨m1,m2,m3⟩:=cV c3;refine bE (fO uK hg hm boot_isinstance (aK (hf a ca h2).1 (aK (tW (v:=.ty u) (C.gl t c1) (C.gE t c2) hbt rfl m3 m1) aW rfl) (bG c4)) n3 n1 (bG c4) rfl) fun σ H Q h=>xf hu h
      ·rw[if_neg hc] at h;cases h
     ·cases h
    ·rw[if_neg hx] at h;by_cases hlr:x = "list"/\nh es=true
     ·rw[if_pos hlr] at h;obtain⟨rfl,_⟩:=hlr;cases h
     rw[if_neg hlr] at h;by_cases hlg:x = "list"/\mY es=true
     ·rw[if_pos hlg] at h;obtain⟨rfl,_⟩:=hlg;cases h
     rw[if_neg hlg] at h;cases es with
     |nil=>cases h
     |cons e r =>
      dsimp only at h;rw[ae] at h;obtain⟨b,h1,h2⟩:=h;rw[aa] at h2;obtain⟨cs,h2,rfl⟩:=h2;unfold EN at h1;split at h1
      ·rename_i e;cases h1;subst e;exact D9 hf vm boot_len hg hm hn h2
      split at h1
      ·rename_i e;cases h1;subst e;exact BY hf (rP C.calm) boot_list hg hm hn h2
      split at h1
      ·rename_i e;cases h1;subst e;exact D9 hf (qP C.calm C.units.1) boot_min hg hm hn h2
      split at h1
      ·rename_i e;cases h1;subst e;exact BY hf uM boot_int hg hm hn h2
      split at h1
      ·rename_i e;cases h1;subst e;exact D9 hf (uu C.calm) boot_sum hg hm hn h2
      split at h1
      ·rename_i e;cases h1;subst e;exact BY hf uU boot_str hg hm hn h2
      cases h1
   ·rw[if_neg hb] at h;cases h
 ·rw[if_neg hk] at h;cases h
theorem CG {f:Expr->Option Ex}(hf:∀ e c,f e=some c->SE X T e c){o:Expr}{name:Str}{es:List Expr}{c:Ex}{apos cpos:Pos}(h:Aw f o name es apos cpos=some c):PE X (.Call (.Attribute o name apos) es [] cpos) (tE X.K T c):=by
 unfold Aw at h;split at h
 ·rename_i e;by_cases hk:(apos.endLine==cpos.line&&xv o)=true
  ·rw[if_pos hk] at h;rw[ag] at hk;have hb:attributeBase o name X.env (eval o X.env)=eval o X.env:=by
    obtain⟨_,hk⟩:=hk;cases o<;>first | rfl | (cases hk;done) | skip
    rename_i g as ks cp;cases as with
    |nil=>cases hk
    |cons a r=>cases g<;>rfl
   by_cases hjn:name = "join"
   ·rw[if_pos hjn,ae] at h;subst hjn;obtain⟨co,ho,h⟩:=h;rw[ae] at h;obtain⟨cs,hc,h⟩:=h;obtain⟨ns,ce,d,he,hd,rfl⟩:=bH hc;cases hd;cases h;refine bE (lY iz PySem.F.slot_str_join PySem.F.type_str_join zD (hf o co ho).1 (cU hf hc) hb ?_ hk.1 (bG ns) rfl) fun σ H Q h=>uO h
    rw[bG ns];rfl
   rw[if_neg hjn,ae] at h;obtain⟨m,hm,h⟩:=h;rw[ae] at h;obtain⟨co,ho,h⟩:=h;rw[ae] at h;obtain⟨cs,hc,h⟩:=h;obtain⟨ns,ce,d,he,hd,rfl⟩:=bH hc;cases hd;cases h;have slot:∃ id,PySem.Slot "str" name id/\typeOf (.builtin id)=pure (.type "method_descriptor")/\yN X id (Ab m)/\(m = .sfind\/m = .sindex):=by
    unfold xS at hm;split at hm
    ·rename_i e;cases hm;subst e;exact⟨_,PySem.F.slot_str_find,PySem.F.type_str_find,Ai,.inl rfl⟩
    split at hm
    ·rename_i e;cases hm;subst e;exact⟨_,PySem.F.slot_str_index,PySem.F.type_str_index,yi,.inr rfl⟩
    cases hm
   obtain⟨id,s1,s2,s3,s4⟩:=slot;intro pins s σ H Q I hh;rcases xG s4 hh with hh1 | ⟨em,hh2⟩
   ·refine lY iz s1 s2 s3 (hf o co ho).1 (cU hf hc) hb ?_ hk.1 (bG ns) rfl pins s σ H Q I hh1;rw[bG ns];rfl
   ·subst em;have:name = "index":=by
     unfold xS at hm;split at hm
     ·cases hm
     split at hm
     ·assumption
     cases hm
    subst this;refine lY fv PySem.F.slot_list_index PySem.F.type_list_index AR (hf o co ho).1 (cU hf hc) hb ?_ hk.1 (bG ns) rfl pins s σ H Q I hh2;rw[bG ns];rfl
  ·rw[if_neg hk] at h;cases h
 ·cases h
theorem tG {own:Nat}{pick:List Nat}{t:kD}(h:vt own t=true)(i:Nat)(hi:t = .nm i\/∃ is,t = .tp is/\i∈is):(dX own pick)[i]? = some none:=by
 have:i<own:=by
  rcases hi with rfl | ⟨is,rfl,hm⟩
  ·simpa[vt] using h
  ·simp only[vt,List.all_eq_true,decide_eq_true_eq] at h;exact h i hm
 unfold dX;rw[List.getElem?_append_left (by simpa using this),List.getElem?_replicate,if_pos this]
structure nO (X:Cx)(S:Sc)(T:Tb)(elt tg iter:Expr)(ifs:List Expr)(sc:Scope)(c:Ex):Prop where
 ex:∃ pick t it ci ce,c = .comp (bB sc).length pick t it ci ce/\dP X sc (bB sc++bD sc) (dX (bB sc).length pick)/\PI X tg iter (tI X.K T it) /\
  (∀ C s0 H0 ex,PG (inner X sc (bB sc++bD sc) C s0 H0 ex) tg (rB X.K t)/\Ew (inner X sc (bB sc++bD sc) C s0 H0 ex) ifs (C4 X.K T ci)/\PE (inner X sc (bB sc++bD sc) C s0 H0 ex) elt (tE X.K T ce)) /\
  vt (bB sc).length t=true/\fD iter=true
theorem lX (C:Ctx X S T){f:Sc->Expr->Option Ex}(hf:∀{X:Cx}{S:Sc},Ctx X S T->∀ e c,f S e=some c->SE X T e c){elt tg iter:Expr}{ifs:List Expr}{sc:Scope}{c:Ex}(h:pz S f elt tg iter ifs sc=some c):nO X S T elt tg iter ifs sc c:=by
 unfold pz at h;by_cases hk:(j7 S sc&&fD iter)=true
 ·rw[if_pos hk] at h;rw[ag] at hk;rw[ae] at h;obtain⟨it,h1,h⟩:=h;rw[ae] at h;obtain⟨pick,h2,h⟩:=h;rw[ae] at h;obtain⟨t,h3,h⟩:=h;by_cases ho:vt (bB sc).length t=true
  ·rw[if_pos ho] at h;rw[ae] at h;obtain⟨ci,h4,h⟩:=h;rw[aa] at h;obtain⟨ce,h5,rfl⟩:=h;refine⟨pick,t,it,ci,ce,rfl,qN C hk.1 h2,Bn C (hf C) h1,fun Ca s0 H0 ex=>?_,ho,hk.2⟩;have C':=vi C hk.1 Ca s0 H0 ex;refine⟨vS C' h3,?_,(hf C' elt ce h5).1⟩;unfold FX at h4;split at h4
   ·cases h4;exact AM
   ·rw[aa] at h4;obtain⟨cc,h4,rfl⟩:=h4;exact z8 (hf C' _ cc h4).2
   ·cases h4
  ·rw[if_neg ho] at h;cases h
 ·rw[if_neg hk] at h;cases h
theorem Aq (C:Ctx X S T){elt tg iter:Expr}{ifs:List Expr}{sc:Scope}{c:Ex}{pos:Pos}(h:nO X S T elt tg iter ifs sc c):PE X (.ListComp elt [⟨tg,iter,ifs,0⟩] sc pos) (tE X.K T c):=by
 obtain⟨pick,t,it,ci,ce,rfl,h1,h2,h3,h4,h5⟩:=h;exact bE (AY h1 C.calm h2 h3 (mV (tG h4)) (sd h5)) fun σ H Q h=>nr h
theorem AQ (C:Ctx X S T){f:Expr->Option Ex}(hf:∀ e c,f e=some c->SE X T e c){x kn:Str}{a d:Expr}{c:Ex}{p kp pos:Pos}(h:xm S f x a d kn=some c):PE X (.Call (.Name x p) [a] [⟨some kn,d,kp⟩] pos) (tE X.K T c):=by
 cases h
theorem vg {k:Option Expr}{x:Str}(h:xY k=some x):∃ p,k=some (.Name x p):=by
 cases k with
 |none=>cases h
 |some e=>cases e<;>first | (cases h;exact⟨_,rfl⟩) | (cases h)
theorem yD {e:Expr}{v:Int}(h:Dr e=some v):∃ a b,e = .Constant (.int v) a b:=by
 cases e with
 |Constant c a b=>cases c<;>first | (cases h;exact⟨_,_,rfl⟩) | (cases h)
 |_=>cases h
theorem tL (C:Ctx X S T){pos:Pos}:∀{ks:List (Option Expr)}{vs:List Expr}{l:List (Nat×Int)},xZ S ks vs=some l->∃ us:List (V×Int),Fd X pos ks vs (us.map fun q=>(tC q.1,tC (.int q.2)))/\Paired (fun (q:Nat×Int) (u:V×Int)=>q.2=u.2/\∀ H,Rep X.K H (T.gl q.1) u.1 []) l us/\ks.all (·.isSome)=true/\ks.length=vs.length/\ks.length=l.length
 |[],[],l,h=>by cases h;exact⟨[],zk,.nil,rfl,rfl,rfl⟩
 | k::ks,e::vs,l,h=>by
  have hA:((xY k).bind fun x=>(Dr e).bind fun v=>if cW x&&se S.sc x then (idxOf S.qL x).bind fun i=>(xZ S ks vs).map fun l=>(i,v)::l else none)=some l:=h;clear h;obtain⟨x,hx,hB⟩:=ae.mp hA;clear hA;obtain⟨v,hv,hD⟩:=ae.mp hB;clear hB;obtain⟨p,e1⟩:=vg hx;obtain⟨a,b,e2⟩:=yD hv;rw[e1,e2];by_cases hc:(cW x&&se S.sc x)=true
  ·rw[if_pos hc] at hD;rw[ag] at hc;obtain⟨i,h1,hE⟩:=ae.mp hD;obtain⟨l',h2,rfl⟩:=aa.mp hE;obtain⟨us,g1,g2,g3,g4,g5⟩:=tL C (pos:=pos) h2;obtain⟨u,w,e1,e2,e3⟩:=C.qL i x h1;obtain⟨n1,n2,n3⟩:=cV hc.1;exact⟨(u,v)::us,xQ (dI (C.gl x hc.2) e1 e2 n1) kR g1,.cons ⟨rfl,e3⟩ g2,by rw[fu,g3];rfl,by rw[ak,ak,g4],by rw[ak,ak,g5]⟩
  ·rw[if_neg hc] at hD;cases hD
 |[],_::_,l,h=>by cases h
 |_::_,[],l,h=>by cases h
theorem pW {Q:List (V×V)->Hp->Prop}{σ:L2.St}{H:Hp}:∀{us:List (V×Int)},Q (us.map fun q=>(q.1,.int q.2)) H->lL (us.map fun q=>(tC q.1,tC (.int q.2))) σ H Q
 |[],h=>h
 | (u,i)::us,h=>by
  show lL (us.map fun q=>(tC q.1,tC (.int q.2))) σ H (fun ps H3=>Q ((u,.int i)::ps) H3);exact pW (us:=us) (Q:=fun ps H3=>Q ((u,.int i)::ps) H3) h
theorem zd {K:Frag}{gl:Nat->D}{l:List (Nat×Int)}{us:List (V×Int)}(r:Paired (fun (q:Nat×Int) (u:V×Int)=>q.2=u.2/\∀ H,Rep K H (gl q.1) u.1 []) l us) :
  ∀{ks ks':List (Int×MV)}{xs:List (Key×V)},AD gl l ks=some ks'->(∀ H,iX K H ks xs)->∃ kvs:List (Key×V),(us.map fun q=>(q.1,(.int q.2:V)))=kvs.map (fun kv=>(kV kv.1,kv.2))/\kvs.length=l.length/\∀ H,iX K H ks' (gI xs kvs):=by
 induction r with
 |nil=>intro ks ks' xs h k;cases h;exact⟨[],rfl,rfl,k⟩
 |@cons q u l us h0 t ih =>
  intro ks ks' xs h k;unfold AD at h;split at h
  ·rename_i i hi;have r1:=h0.2 fun _=>none
   rw[hi] at r1;obtain⟨e,_⟩:=r1.int_inv;obtain⟨kvs,e1,e2,e3⟩:=ih (xs:=putK xs (.inl i) (.int q.2)) h (fun H=>(k H).put i (m:=.int q.2) rfl);refine⟨(.inl i,.int q.2)::kvs,?_,by rw[ak,ak,e2],e3⟩;rw[ay,ay,e1,<-h0.1,e];rfl
  ·cases h
theorem B6 (C:Ctx X S T){pos:Pos}{ks:List (Option Expr)}{vs:List Expr}{l:List (Nat×Int)}(h:xZ S ks vs=some l)(h0:ks≠[])(h15:ks.length<=15):PE X (.Dict ks vs pos) (tE X.K T (.ddsp l)):=by
 obtain⟨us,g1,g2,g3,g4,g5⟩:=tL C (pos:=pos) h;refine bE (zm g1 g3 g4 h0 h15) fun σ H Q ⟨P,env,F,re,p,hev,k⟩=>?_
 unfold ev at hev;obtain⟨ks',h1,hev⟩:=Rs.bind_ok hev;cases hev;intro a ha;obtain⟨kvs,e1,e2,e3⟩:=zd g2 (cO h1) (xs:=[]) fun _=>trivial
 refine pW ⟨aL,kvs,e1,by omega,?_⟩;have eu:upd (upd H a (.dK [])) a (.dK (gI [] kvs))=upd H a (.dK (gI [] kvs)):=by
  funext b;by_cases e:b=a
  ·rw[e,aL,aL]
  ·rw[aM e,aM e,aM e]
 rw[eu];refine k _ _ [a] (aI.new ha) (.mpi (xs:=gI [] kvs) aL (e3 _)) ⟨fun b hb=>?_,fun R hR=>⟨by simp,fun b hb=>?_,fun b hb=>?_⟩⟩
 ·obtain rfl:=gp.mp hb;exact .inl ha
 ·obtain rfl:=gp.mp hb;exact⟨.k _,aL⟩
 ·obtain rfl:=gp.mp hb;exact .inl ha
theorem vf {b e:Expr}(h:tH b=some e):∃ q,b = .List [e] q/\∀ env,starEach [e] env=(false,eval e env)::starEach [] env:=by
 unfold tH at h;split at h
 ·split at h
  ·split at h
   ·cases h;exact⟨_,rfl,fun _=>rfl⟩
   ·cases h
  ·cases h
 ·cases h
theorem yY {a e:Expr}{ca ce:Ex}{pos q:Pos}(ha:PE X a (tE X.K T ca))(he:PE X e (tE X.K T ce))(hs:∀ env,starEach [e] env=(false,eval e env)::starEach [] env):PE X (.BinOp a .Add (.List [e] q) pos) (tE X.K T (.snoc ca ce)):=by
 refine bE (pB tY ha (qH (aK he aW (hs _)))) fun σ H Q ⟨P,env,F,re,p,hev,k⟩=>?_
 unfold ev at hev;obtain⟨x,h1,hev⟩:=Rs.bind_ok hev;obtain⟨y,h2,hev⟩:=Rs.bind_ok hev;obtain⟨d,h3,hev⟩:=Rs.bind_ok hev;cases hev;have h3:=cO h3;obtain⟨x1,xr⟩:=x;obtain⟨y1,yr⟩:=y;unfold A6 at h3;dsimp only at h3;split at h3
 ·rename_i xs;split at h3
  ·rename_i hc;cases h3;rw[ag,decide_eq_true_iff] at hc;refine⟨P,env,F,re,_,h1,fun v H1 G1 s1 r1 t1=>?_⟩;obtain⟨pa,vs,G1',rfl,rfl,a1,a2⟩:=r1.lst_inv;have eG:G1'=[]:=a2.flat hc.1;subst eG;refine⟨P,env,F,re.same s1,_,h2,fun u H2 G2 s2 r2 t2=>⟨(show (1:Nat)<=sizeLine by decide),fun p' hp'=>?_⟩⟩;obtain⟨nd,ml,nw⟩:=t2.mv [] rfl;have s3:=aI.new (o:=.lst [u]) hp';have a1':Rd (upd H2 p' (.lst [u])) pa (.lst vs):=by
    rcases a1 with q | ⟨o,q⟩
    ·exact .inl ((s2.trans s3) _ _ q)
    ·exact .inr ⟨o,(s2.trans s3) _ _ q⟩
   refine⟨pa,p',vs,[u],rfl,rfl,a1',.inl aL,?_,fun q0 hq0=>?_⟩
   ·have hl:=a2.len;rw[<-hl];exact eO hc.2
   ·have s4:=aI.new (o:=.lst (vs ++ [u])) hq0;have sAll:=s1.trans (s2.trans (s3.trans s4));have new1:∀ z∈G2,H z=none:=fun z hz=>by
     rcases nw z hz with w | ⟨i,_,_,hi,_⟩
     ·exact aI.no s1 w
     ·cases hi
    have nn2:∀ z∈G2,H2 z≠none:=fun z hz=>by
     obtain⟨m,e⟩:=ml z hz;rw[e];simp
    refine k (.ref q0) _ (q0::G2) sAll (.lst (.inl aL) ?_) ⟨fun z hz=>?_,fun R hR=>⟨?_,fun z hz=>?_,fun z hz=>?_⟩⟩
    ·have ra:=a2.same (s2.trans (s3.trans s4));have rb:=r2.same (s3.trans s4);have:=ra.append (.cons rb .nil)
     rwa [i5,bh] at this
    ·rcases g9.mp hz with rfl | hz
     ·exact .inl (aI.no (s1.trans (s2.trans s3)) hq0)
     ·exact .inl (new1 z hz)
    ·refine List.nodup_cons.mpr ⟨fun hz=>?_,nd⟩;have:=aI.no s3 hq0;exact nn2 q0 hz this
    ·rcases g9.mp hz with rfl | hz
     ·exact⟨.l _,aL⟩
     ·obtain⟨m,e⟩:=ml z hz;exact⟨m,(s3.trans s4) z _ e⟩
    ·rcases g9.mp hz with rfl | hz
     ·exact .inl (aI.no (s1.trans (s2.trans s3)) hq0)
     ·exact .inl (new1 z hz)
  ·cases h3
 ·cases h3
theorem cG:∀(n:Nat) {X:Cx}{S:Sc}{T:Tb}(C:Ctx X S T) (e:Expr) (c:Ex),cE n S e=some c->SE X T e c:=by
 intro n
 induction n with
 |zero=>intro X S T C e c h;cases h
 |succ n ih =>
  intro X S T C e c h;have ihX:=ih C;cases e with
  |Name x p =>
   have h:xk S x=some c:=h;unfold xk at h;by_cases hn:cW x=true
   ·rw[if_pos hn] at h;obtain⟨n1,n2,n3⟩:=cV hn;by_cases hv:qf S.sc x=true
    ·rw[if_pos hv,aa] at h;obtain⟨i,h1,rfl⟩:=h;have hi:=bV h1;rw[<-C.N] at hi;have:=DN (T:=T) (pos:=p) hi (C.vis x hv) n1 n2;exact⟨this,bZ this fun _=>rfl⟩
    ·rw[if_neg hv] at h;by_cases hg:se S.sc x=true
     ·rw[if_pos hg,aa] at h;obtain⟨i,h1,rfl⟩:=h;obtain⟨v,u,g1,g2,g3⟩:=C.qL i x h1;have:=BN (dI (pos:=p) (C.gl x hg) g1 g2 n1) g3;exact⟨this,bZ this fun _=>rfl⟩
     ·rw[if_neg hg] at h;cases h
   ·rw[if_neg hn] at h;cases h
  |Constant k x1 p =>
   have h:Gh k=some c:=h;cases k with
   |int i=>cases h;exact⟨gW (T:=T) kR fun H=>Rep.int _,bZ (gW (T:=T) kR fun H=>Rep.int _) fun _=>rfl⟩
   |bool b=>cases h;exact⟨gW (T:=T) xp fun H=>Rep.bl _,bZ (gW (T:=T) xp fun H=>Rep.bl _) fun _=>rfl⟩
   |none=>cases h;exact⟨gW (T:=T) rQ fun H=>Rep.non,bZ (gW (T:=T) rQ fun H=>Rep.non) fun _=>rfl⟩
   |str s=>cases h;exact⟨gW (T:=T) i9 fun H=>Rep.str _,bZ (gW (T:=T) i9 fun H=>Rep.str _) fun _=>rfl⟩
   |_=>cases h
  |BinOp a op b p =>
   have h:CF (cE n S) a op b=some c:=h;unfold CF at h;cases hlt:tH b with
   |none =>
    rw[hlt] at h;dsimp only at h;rw[ae] at h;obtain⟨ca,h1,h⟩:=h;rw[aa] at h;obtain⟨cb,h2,rfl⟩:=h;have:=Dc (pos:=p) (yZ op) (ihX a ca h1).1 (ihX b cb h2).1;exact⟨this,bZ this fun _=>rfl⟩
   |some e =>
    rw[hlt] at h;dsimp only at h;by_cases ho:isAdd op=true
    ·rw[if_pos ho] at h;rw[ae] at h;obtain⟨ca,h1,h⟩:=h;rw[aa] at h;obtain⟨ce,h2,rfl⟩:=h;obtain⟨q,hq,hse⟩:=vf hlt;have ho:op = .Add:=by cases op<;>first | rfl | (cases ho)
     subst ho;rw[hq];have:=yY (pos:=p) (q:=q) (ihX a ca h1).1 (ihX e ce h2).1 hse;exact⟨this,bZ this fun _=>rfl⟩
    ·rw[if_neg ho] at h;cases h
  |UnaryOp op a p =>
   have h:cUn op (cE n S a)=some c:=h;cases op with
   |USub =>
    have h:(cE n S a).map .neg=some c:=h;rw[aa] at h;obtain⟨ca,h1,rfl⟩:=h;have:=Cm (pos:=p) (ihX a ca h1).1;exact⟨this,bZ this fun _=>rfl⟩
   |Not =>
    have h:(cE n S a).map .not=some c:=h;rw[aa] at h;obtain⟨ca,h1,rfl⟩:=h;exact⟨Eo (ihX a ca h1).1,Dg (ihX a ca h1).2⟩
   |_=>cases h
  |BoolOp op es p =>
   have h:Gm (cE n S) op es=some c:=h;have ⟨h1,h2⟩:=A9 (pos:=p) ihX h;exact⟨h1,h2.pt⟩
  |Compare a ops bs p =>
   have h:Ft (cE n S) a ops bs=some c:=h;cases ops with
   |nil=>cases h
   |cons op r=>cases r with
    |nil=>cases bs with
     |nil=>cases h
     |cons b r2=>cases r2 with
      |cons _ _=>cases h
      |nil =>
       have h:yJ (cE n S) a op b=some c:=h;unfold yJ at h;by_cases hb:behindInMarks op b=true
       ·rw[if_pos hb] at h;cases h
       ·rw[if_neg hb] at h;have hb:behindInMarks op b=false:=by simpa using hb
        rw[ae] at h;obtain⟨ca,h1,h⟩:=h;rw[aa] at h;obtain⟨cb,h2,rfl⟩:=h;exact⟨D7 (ur op C.units) (ihX a ca h1).1 (ihX b cb h2).1 hb,DV C.units (ihX a ca h1).1 (ihX b cb h2).1 hb⟩
    |cons op' r2=>cases r2 with
     |cons _ _=>cases bs<;>cases h
     |nil=>cases bs with
      |nil=>cases h
      |cons b r3=>cases r3 with
       |nil=>cases h
       |cons d r4=>cases r4 with
        |cons _ _=>cases h
        |nil =>
         have h:BE (cE n S) a op op' b d=some c:=h;cases h
  |IfExp t a b p =>
   have h:((cE n S t).bind fun cc=>(cE n S a).bind fun ca=>(cE n S b).map fun cb=>.ite cc ca cb)=some c:=h;rw[ae] at h;obtain⟨cc,h1,h⟩:=h;rw[ae] at h;obtain⟨ca,h2,h⟩:=h;rw[aa] at h;obtain⟨cb,h3,rfl⟩:=h;exact⟨B3 (ihX t cc h1).2 (ihX a ca h2).1 (ihX b cb h3).1,Ed (ihX t cc h1).2 (ihX a ca h2).2 (ihX b cb h3).2⟩
  |List es p =>
   have h:(cQ (cE n S) es).map .lst=some c:=h;rw[aa] at h;obtain⟨cs,h1,rfl⟩:=h;have:=BV (pos:=p) (cU ihX h1);exact⟨this,bZ this fun _=>rfl⟩
  |Dict ks vs p =>
   have h:CM S ks vs=some c:=h;unfold CM at h;split at h
   ·cases h
   ·split at h
    ·rename_i hl;obtain⟨l,h1,rfl⟩:=aa.mp h;have:=B6 (pos:=p) C h1 (by simp) hl;exact⟨this,bZ this fun _=>rfl⟩
    ·cases h
   ·cases h
  |Tuple es x1 p =>
   have h:(cQ (cE n S) es).map .tup=some c:=h;rw[aa] at h;obtain⟨cs,h1,rfl⟩:=h;have:=Ek (pos:=p) (x1:=x1) (cU ihX h1);exact⟨this,bZ this fun _=>rfl⟩
  |Subscript a b p =>
   have h:BI (cE n S) a b=some c:=h;by_cases hb:oA b=true
   ·have h:(if oA b then (cE n S a).bind fun ca=>(cE n S b).map fun cb=>.ix ca cb else none)=some c:=by
     cases b<;>first | exact h | cases hb
    rw[if_pos hb] at h;rw[ae] at h;obtain⟨ca,h1,h⟩:=h;rw[aa] at h;obtain⟨cb,h2,rfl⟩:=h;have:=E5 (pos:=p) (Au C.units.2) (ihX a ca h1).1 (ihX b cb h2).1 (yC hb);exact⟨this,bZ this fun _=>rfl⟩
   ·cases b with
    |Slice lo hi st p2 =>
     cases st with
     |none =>
      have h:((cE n S a).bind fun ca=>(w6 (cE n S) lo).bind fun l=>(w6 (cE n S) hi).map fun h=>.sl ca l h)=some c:=h;rw[ae] at h;obtain⟨ca,h1,h⟩:=h;rw[ae] at h;obtain⟨cl,h2,h⟩:=h;rw[aa] at h;obtain⟨ch,h3,rfl⟩:=h;have:=GY (pos:=p) (p2:=p2) (ihX a ca h1).1 (xE ihX h2) (xE ihX h3);exact⟨this,bZ this fun _=>rfl⟩
     |some _=>cases h
    |_=>exact absurd rfl hb
  |Call g es ks pos =>
   have h:xT S (cE n S) g es ks pos=some c:=h;cases g with
   |Name x p =>
    have h:wR S (cE n S) x es ks=some c:=h;cases ks with
    |nil =>
     have h:uf S (cE n S) x es=some c:=h;have:=z6 (p:=p) (pos:=pos) C ihX h;exact⟨this,bZ this fun _=>rfl⟩
    |cons k r=>cases r with
     |cons _ _=>obtain⟨_,_,_⟩:=k;cases h
     |nil =>
      obtain⟨k,d,kp⟩:=k;cases k with
      |none=>cases h
      |some kn=>cases es with
       |nil=>cases h
       |cons a r2=>cases r2 with
        |cons _ _=>cases h
        |nil =>
         have h:xm S (cE n S) x a d kn=some c:=h;have:=AQ (p:=p) (kp:=kp) (pos:=pos) C ihX h;exact⟨this,bZ this fun _=>rfl⟩
   |Attribute o name apos =>
    cases ks with
    |nil =>
     have h:Aw (cE n S) o name es apos pos=some c:=h;have:=CG (apos:=apos) (cpos:=pos) ihX h;exact⟨this,bZ this fun _=>rfl⟩
    |cons _ _=>cases h
   |_=>cases h
  |ListComp elt gens sc pos =>
   have h:cLC S (cE n) elt sc gens=some c:=h;cases gens with
   |nil=>cases h
   |cons g r=>cases r with
    |cons _ _=>obtain⟨_,_,_,_⟩:=g;cases h
    |nil =>
     obtain⟨tg,iter,ifs,as⟩:=g;have h:(if as=0 then pz S (cE n) elt tg iter ifs sc else none)=some c:=h;by_cases ha:as=0
     ·rw[if_pos ha] at h;subst ha;have:=Aq (pos:=pos) C (lX C (fun C'=>ih C') h);exact⟨this,bZ this fun _=>rfl⟩
     ·rw[if_neg ha] at h;cases h
  |_=>cases h
end
section
variable {X:Cx}{T:Tb}
end
structure mE (X:Cx)(S:Sc)(T:Tb):Prop where
 c:Ctx X S T
 sc:X.env.scope=S.sc
 fn:S.sc.kind = .function
 own:PassesOwn (model X.prog X.w) X.A X.env X.xe
noncomputable def BD (m:Str):Option qi:=if m = "append" then some .append else if m = "insert" then some .insert else none
noncomputable def yf (m:Str):Option qi:=none
noncomputable def m4 (n:Nat)(S:Sc):Expr->Option (Nat×mL)
 |.Name x _=>if cW x&&qf S.sc x then (idxOf S.N x).map fun i=>(i,.none) else none
 |_=>none
noncomputable def xH:Expr->Bool
 | .Constant (.bool true) _ _=>true
 |.Tuple _ _ _=>true
 |.IfExp _ _ _ _=>true
 |_=>false
noncomputable def mvB (x:Str):Expr->Bool
 |.Name y _=>x==("_law_best" : Str)&&y==("_law_way" : Str)
 | .List (.Name y _::_) _=>x==("_law_rows" : Str)&&y==("_law_turned" : Str)
 |_=>false
noncomputable def Aa (n:Nat)(S:Sc)(tg e:Expr):Option St:=match tg with
 |.Name x px=>match e with
  |.ListComp elt [⟨tg',iter,ifs,0⟩] sc p=>if jP S.sc x then (idxOf S.N x).bind fun i=>(cE n S (.ListComp elt [⟨tg',iter,ifs,0⟩] sc p)).map fun c=>.asg (.nm i) c false else none
  |e=>if gU e then none else if jP S.sc x then (idxOf S.N x).bind fun i=>(cE n S e).map fun c=>.asg (.nm i) c (mvB x e) else none
 |.Tuple es k p=>if gU e || isTup e then none else (lu S es).bind fun is=>(cE n S e).map fun c=>.asg (.tp is) c false
 |.Subscript o ix p=>if xH e then none else none
 |_=>none
noncomputable def zK (n:Nat)(S:Sc)(o:Expr)(name:Str)(es:List Expr)(apos cpos:Pos):Option St :=
 if apos.endLine==cpos.line then (if es.isEmpty then (yf name).bind fun m=>(m4 n S o).map fun q=>.mut q.1 q.2 m .nil else (BD name).bind fun m=>(m4 n S o).bind fun q=>match es with
  |[a]=>(cQ (cE n S) [a]).map fun cs=>.mut q.1 q.2 m cs
  |[a,b]=>(cQ (cE n S) [a,b]).map fun cs=>.mut q.1 q.2 m cs
  |_=>none)
 else none
noncomputable def sJ (n:Nat)(S:Sc)(o:Expr)(name:Str)(es:List Expr)(apos cpos:Pos):Option St:=match es with
 |_=>none
noncomputable def cAug (n:Nat)(S:Sc)(tg:Expr)(op:Operator)(e:Expr):Option St:=none
noncomputable def AI (n:Nat)(S:Sc)(tg e:Expr):Option St:=none
noncomputable def Es (n:Nat)(S:Sc)(e:Expr):Option St:=if gU e then none else (cE n S e).map .expr
noncomputable def Gj (n:Nat)(S:Sc):Expr->Option St
 |.Constant k x1 p=>(match k with
  |.str _=>some .pass
  |k=>Es n S (.Constant k x1 p))
 |.Call g es ks cpos=>(match g with
  |.Attribute o name apos=>(match ks with
   |[]=>(match sJ n S o name es apos cpos with
    |some c=>some c
    |none=>zK n S o name es apos cpos)
   |k::ks=>Es n S (.Call (.Attribute o name apos) es (k::ks) cpos))
  |g=>Es n S (.Call g es ks cpos))
 |e=>Es n S e
noncomputable def cAs (n:Nat)(S:Sc)(e:Expr):List Expr->Option St
 |[]=>none
 |[tg]=>(match AI n S tg e with
  |some c=>some c
  |none=>Aa n S tg e)
 |_::_::_=>none
noncomputable def cRet (n:Nat)(S:Sc):Option Expr->Option St
 |none=>some .retN
 |some e=>(cE n S e).map .ret
noncomputable def tM:kD->cJ->Option Nat
 |_,_=>none
theorem vW {t:kD}{cb:cJ}{x:Nat}(h:tM t cb=some x):t = .nm x:=by
 cases h
noncomputable def Fh (n:Nat)(S:Sc)(tg iter:Expr)(ob:Option cJ):List Stmt->Option St
 |[]=>if fD iter then (rM S tg).bind fun t=>ob.bind fun cb=>(match tM t cb with
  |some x=>(cE n S iter).map fun c=>.forw x c cb
  |none=>(Ef S (cE n S) (isTup tg) iter).map fun it=>.forr t it cb) else none
 |_::_=>none
noncomputable def GI (S:Sc):Expr->Option St->Option St
 |_,o=>o
theorem xI {S:Sc}{e:Expr}{o:Option St}{c:St}(h:GI S e o=some c):o=some c:=h
noncomputable def cWhl (n:Nat)(S:Sc)(e:Expr)(ob:Option cJ):List Stmt->Option St
 |[]=>(cE n S e).bind fun c=>ob.map fun cb=>.whl c cb
 |_::_=>none
mutual
noncomputable def cS:Nat->Sc->Stmt->Option St
 |0,_,_=>none
 |n+1,S,st=>match st with
  |.Assign tgs e _=>cAs n S e tgs
  |.AugAssign tg op e _=>cAug n S tg op e
  |.Expr e _=>Gj n S e
  |.Return o _=>cRet n S o
  |.If e a b _=>(cE n S e).bind fun c=>(uh n S a).bind fun ca=>(uh n S b).map fun cb=>.ite c ca cb
  |.For tg iter b oe _=>GI S iter (Fh n S tg iter (uh n S b) oe)
  |.While e b oe _=>cWhl n S e (uh n S b) oe
  |.Pass _=>some .pass
  |.Raise _ _ _=>some (.expr (.neg (.cst .non)))
  |_=>none
noncomputable def uh:Nat->Sc->List Stmt->Option cJ
 |0,_,_=>none
 |_+1,_,[]=>some .nil
 |n+1,S,s::r=>(cS n S s).bind fun c=>(uh n S r).map fun d=>.cons c d
end
theorem oE {e:Expr}{t:Option Expr}{l:Nat}{env:Env}(h:gU e=false):swapsWith e t l env=pure false:=by
 cases e<;>first | rfl | (cases h)
theorem uz {e t:Expr}{l:Nat}{env:Env}(h:gU e=false):swapsWithSole [t] e l env=pure false:=oE h
section
variable {X:Cx}{S:Sc}{T:Tb}
theorem zL {st:Stmt}:PS X st (tS X.K T (.expr (.neg (.cst .non)))):=by
 intro pins s σ H D I h;obtain⟨P,Z,env,F,re,hz,zp,h⟩:=h;exact h.elim
theorem oW (C:Ctx X S T){n:Nat}{o:Expr}{q:Nat×mL}(h:m4 n S o=some q):PE X o (sY X.K T q.1 q.2):=by
 unfold m4 at h;split at h
 ·rename_i x p;by_cases hk:(cW x&&qf S.sc x)=true
  ·rw[if_pos hk,aa] at h;rw[ag] at hk;obtain⟨i,h1,rfl⟩:=h;obtain⟨n1,n2,n3⟩:=cV hk.1;have hi:=bV h1;rw[<-C.N] at hi;exact Dy hi (C.vis x hk.2) n1 n2
  ·rw[if_neg hk] at h;cases h
 ·cases h
theorem jW {n:Nat}{o:Expr}{q:Nat×mL}{name:Str}{env:Env}(h:m4 n S o=some q):attributeBase o name env (eval o env)=eval o env:=by
 unfold m4 at h;split at h
 ·rfl
 ·cases h
theorem CI (C:mE X S T){n:Nat}{tg e:Expr}{c:St}{pos:Pos}(h:Aa n S tg e=some c):PS X (.Assign [tg] e pos) (tS X.K T c):=by
 have hN:=C.c.nd;rw[<-C.c.N] at hN;unfold Aa at h;split at h
 ·rename_i x px;split at h
  ·rename_i elt tg' iter ifs sc p;by_cases hl:jP S.sc x=true
   ·rw[if_pos hl,ae] at h;obtain⟨i,h1,h⟩:=h;rw[aa] at h;obtain⟨ce,h2,rfl⟩:=h;have hi:=bV h1;rw[<-C.c.N] at hi;have hsw:swapsWith (.ListComp elt [⟨tg',iter,ifs,0⟩] sc p) (some (.Name x px)) pos.line X.env=pure (X.env.blockKind == .function&&X.env.kindOf x==some .local&&px.line==p.line && !(sc.names.any fun (n,k)=>n==x&&(k == .local || k == .cell))):=rfl;cases hb:(X.env.blockKind == .function&&X.env.kindOf x==some .local&&px.line==p.line && !(sc.names.any fun (n,k)=>n==x&&(k == .local || k == .cell))) with
    |false =>
     rw[hb] at hsw;exact wF hN hi (C.c.loc x hl).1 (cG n C.c _ _ h2).1 hsw (C.c.loc x hl).2
    |true =>
     rw[hb] at hsw;cases n with
     |zero=>cases h2
     |succ n =>
      have h2:pz S (cE n) elt tg' iter ifs sc=some ce:=h2;obtain⟨pick,t,it,ci,ce',rfl,g1,g2,g3,g4,g5⟩:=lX C.c (fun C'=>cG n C') h2;refine dH (rR g1 C.c.calm g2 g3 (mV (tG g4)) (sd g5) hN hi (C.c.loc x hl).1 (C.c.loc x hl).2 hsw) fun D σ H h=>?_
      obtain⟨P,Z,env,F,re,hz,zp,h⟩:=h;unfold bM at h;obtain⟨p,hp,h⟩:=dU h;exact nr ⟨P,env,F,re,p,hp,fun v H' G s rp rt=>wH re hz zp s rp rt h⟩
   ·rw[if_neg hl] at h;cases h
  ·by_cases hc:gU e=true
   ·rw[if_pos hc] at h;cases h
   ·rw[if_neg hc] at h;by_cases hl:jP S.sc x=true
    ·rw[if_pos hl,ae] at h;obtain⟨i,h1,h⟩:=h;rw[aa] at h;obtain⟨ce,h2,rfl⟩:=h;have hi:=bV h1;rw[<-C.c.N] at hi;exact wF hN hi (C.c.loc x hl).1 (cG n C.c _ _ h2).1 (oE (by simpa using hc)) (C.c.loc x hl).2
    ·rw[if_neg hl] at h;cases h
 ·rename_i es k p;by_cases hc:(gU e || isTup e)=true
  ·rw[if_pos hc] at h;cases h
  ·rw[if_neg hc,ae] at h;simp only[Bool.or_eq_true,not_or,Bool.not_eq_true] at hc;obtain⟨is,h1,h⟩:=h;rw[aa] at h;obtain⟨ce,h2,rfl⟩:=h;obtain⟨a1,a2,a3⟩:=pG C.c h1;refine zr (wN C.c.calm a1 a2 a3) (cG n C.c _ _ h2).1 (uz hc.1) ?_ rfl;obtain⟨_,hc⟩:=hc;cases e<;>first | rfl | (cases hc)
 ·rename_i o ix p;by_cases ht:xH e=true
  ·rw[if_pos ht] at h;cases h
  rw[if_neg ht] at h;cases h
 ·cases h
theorem DI (C:mE X S T){n:Nat}{o:Expr}{name:Str}{es:List Expr}{c:St}{apos cpos pos:Pos}(h:zK n S o name es apos cpos=some c):PS X (.Expr (.Call (.Attribute o name apos) es [] cpos) pos) (tS X.K T c):=by
 unfold zK at h;by_cases hl:(apos.endLine==cpos.line)=true
 ·rw[if_pos hl] at h;by_cases he:es.isEmpty=true
  ·rw[if_pos he,ae] at h;have he:es=[]:=by simpa using he
   subst he;obtain⟨m,hm,h⟩:=h;rw[aa] at h;obtain⟨q,hq,rfl⟩:=h;have slot:∃ id,PySem.Slot "list" name id/\typeOf (.builtin id)=pure (.type "method_descriptor")/\yN X id (vd X.K m):=by
    unfold yf at hm;cases hm
   obtain⟨id,s1,s2,s3⟩:=slot;exact dH (jr (CH fv s1 s2 s3 (oW C.c hq) (jW hq) hl) rfl) fun D σ H h=>vo h
  rw[if_neg he,ae] at h;obtain⟨m,hm,h⟩:=h;rw[ae] at h;obtain⟨q,hq,h⟩:=h;have slot:∃ id,PySem.Slot "list" name id/\typeOf (.builtin id)=pure (.type "method_descriptor")/\yN X id (vd X.K m):=by
   unfold BD at hm;split at hm
   ·rename_i e;cases hm;subst e;exact⟨_,PySem.F.slot_list_append,by rfl,qO⟩
   split at hm
   ·rename_i e;cases hm;subst e;exact⟨_,PySem.F.slot_list_insert,by rfl,qX⟩
   cases hm
  obtain⟨id,s1,s2,s3⟩:=slot;split at h
  ·rename_i a;rw[aa] at h;obtain⟨cs,ha,rfl⟩:=h;obtain⟨n1,c1,d1,_,hd,_⟩:=bH ha;refine dH (jr (lY fv s1 s2 s3 (oW C.c hq) (cU (cG n C.c) ha) (jW hq) ?_ hl (bG n1) (dR hd)) rfl) fun D σ H h=>lM h
   rw[bG n1];rfl
  ·rename_i a b;rw[aa] at h;obtain⟨cs,ha,rfl⟩:=h;obtain⟨n1,c1,d1,_,hd,_⟩:=bH ha;obtain⟨n2,_,_,_,_,_⟩:=bH hd;refine dH (jr (lY fv s1 s2 s3 (oW C.c hq) (cU (cG n C.c) ha) (jW hq) ?_ hl (bG n1) (dR hd)) rfl) fun D σ H h=>lM h
   rw[bG n1,bG n2];rfl
  ·cases h
 ·rw[if_neg hl] at h;cases h
theorem AK (C:mE X S T){n:Nat}{o:Expr}{name:Str}{es:List Expr}{c:St}{apos cpos pos:Pos}(h:sJ n S o name es apos cpos=some c):PS X (.Expr (.Call (.Attribute o name apos) es [] cpos) pos) (tS X.K T c):=by
 cases h
theorem CO (C:mE X S T){n:Nat}{tg e:Expr}{c:St}{pos:Pos}(h:AI n S tg e=some c):PS X (.Assign [tg] e pos) (tS X.K T c):=by
 cases h
theorem Fi (C:mE X S T):∀(n:Nat),(∀(st:Stmt) (c:St),cS n S st=some c->PS X st (tS X.K T c))/\∀(l:List Stmt) (c:cJ),uh n S l=some c->jI X l (Bq X.K T c):=by
 intro n
 induction n with
 |zero=>exact⟨fun st c h=>(by cases h),fun l c h=>(by cases h)⟩
 |succ n ih =>
  obtain⟨i1,i2⟩:=ih;refine⟨fun st c h=>?_,fun l c h=>?_⟩
  ·cases st with
   |Assign tgs e p =>
    have h:cAs n S e tgs=some c:=h;cases tgs with
    |nil=>cases h
    |cons tg r=>cases r with
     |cons _ _=>cases h
     |nil =>
      have h:(match AI n S tg e with
       |some c=>some c
       |none=>Aa n S tg e)=some c:=h
      cases hp:AI n S tg e with
      |some c'=>rw[hp] at h;cases h;exact CO C hp
      |none=>rw[hp] at h;exact CI C h
   |AugAssign tg op e p=>cases h
   |Expr e p =>
    have h:Gj n S e=some c:=h;have plain:Es n S e=some c->PS X (.Expr e p) (tS X.K T c):=fun h=>by
     unfold Es at h;by_cases hc:gU e=true
     ·rw[if_pos hc] at h;cases h
     ·rw[if_neg hc,aa] at h;obtain⟨ce,h1,rfl⟩:=h;exact zy (cG n C.c _ _ h1).1 (oE (by simpa using hc))
    cases e with
    |Constant k x1 q=>cases k with
     |str s=>cases h;exact C5
     |_=>exact plain h
    |Call g es ks q=>cases g with
     |Attribute o name apos=>cases ks with
      |nil =>
       have h:(match sJ n S o name es apos q with
        |some c=>some c
        |none=>zK n S o name es apos q)=some c:=h
       cases ha:sJ n S o name es apos q with
       |some c'=>rw[ha] at h;cases h;exact AK C ha
       |none=>rw[ha] at h;exact DI C h
      |cons k ks=>exact plain h
     |_=>exact plain h
    |_=>exact plain h
   |Return o p=>cases o with
    |none=>cases h;exact zw
    |some e =>
     have h:(cE n S e).map .ret=some c:=h;rw[aa] at h;obtain⟨ce,h1,rfl⟩:=h;exact BM (cG n C.c _ _ h1).1
   |If e a b p =>
    have h:((cE n S e).bind fun c=>(uh n S a).bind fun ca=>(uh n S b).map fun cb=>St.ite c ca cb)=some c:=h;rw[ae] at h;obtain⟨cc,h1,h⟩:=h;rw[ae] at h;obtain⟨ca,h2,h⟩:=h;rw[aa] at h;obtain⟨cb,h3,rfl⟩:=h;exact B8 (cG n C.c _ _ h1).2 (i2 _ _ h2) (i2 _ _ h3)
   |For tg iter b oe p =>
    have key:∀ c,Fh n S tg iter (uh n S b) oe=some c->PS X (.For tg iter b oe p) (tS X.K T c):=by
     intro c h;cases oe with
      |cons _ _=>cases h
      |nil =>
       have h:(if fD iter then (rM S tg).bind fun t=>(uh n S b).bind fun cb=>(match tM t cb with
        |some x=>(cE n S iter).map fun c=>St.forw x c cb
        |none=>(Ef S (cE n S) (isTup tg) iter).map fun it=>St.forr t it cb) else none)=some c:=h
       by_cases hs:fD iter=true
       ·rw[if_pos hs,ae] at h;obtain⟨t,h1,h⟩:=h;rw[ae] at h;obtain⟨cb,h3,h⟩:=h;cases hx:tM t cb with
        |some x =>
         rw[hx] at h;have h:(cE n S iter).map (fun c=>St.forw x c cb)=some c:=h;rw[aa] at h;obtain⟨ci,h2,rfl⟩:=h;have ht:=vW hx;subst ht;cases hx
        |none =>
         rw[hx] at h;have h:(Ef S (cE n S) (isTup tg) iter).map (fun it=>St.forr t it cb)=some c:=h;rw[aa] at h;obtain⟨it,h2,rfl⟩:=h;exact Cf C.own C.c.calm (Bn C.c (cG n C.c) h2) (vS C.c h1) (i2 _ _ h3) (sd hs)
       ·rw[if_neg hs] at h;cases h
    exact key c (xI (S:=S) (e:=iter) h)
   |While e b oe p=>cases oe with
    |cons _ _=>cases h
    |nil =>
     have h:((cE n S e).bind fun c=>(uh n S b).map fun cb=>St.whl c cb)=some c:=h;rw[ae] at h;obtain⟨cc,h1,h⟩:=h;rw[aa] at h;obtain⟨cb,h3,rfl⟩:=h;exact Dv C.own (cG n C.c _ _ h1).2 (i2 _ _ h3)
   |Pass p=>cases h;exact Av
   |Raise a b p=>cases h;exact zL
   |_=>cases h
  ·cases l with
   |nil=>cases h;exact AZ
   |cons st r =>
    unfold uh at h;rw[ae] at h;obtain⟨cc,h1,h⟩:=h;rw[aa] at h;obtain⟨cb,h3,rfl⟩:=h;exact wM (i1 _ _ h1) (i2 _ _ h3)
end
structure Df where
 nm:Str
 st:Stmt
 ps:List Str
 N:List Str
 body:cJ
structure Pg where
 dfs:List Df
 qL:List Str
 gE:List Str
 gl:Nat->D
 fuel:Nat
noncomputable def Pg.fns (p:Pg):List Fn:=p.dfs.map fun d=>⟨d.ps.length,d.N.length,d.body⟩
noncomputable def Pg.run (p:Pg):Nat->Nat->List D->Rs (D×Bool):=Pc.run p.fns p.gl p.fuel
noncomputable def Pg.sc (p:Pg)(d:Df):Sc:=⟨d.N,aE d.st,p.dfs.map (·.nm),p.qL,p.gE⟩
noncomputable def Df.okB (p:Pg)(n:Nat)(d:Df):Bool :=
 decide ((aE d.st).kind = .function) && !(aE d.st).isCoroutine && !(aE d.st).isGenerator&&decide d.N.Nodup&&decide (d.N.take d.ps.length=d.ps)&&d.ps.all (fun x=>jP (aE d.st) x)&&(aE d.st).names.all (fun y=>decide (y.2≠.free))
structure Df.Ok (p:Pg)(d:Df):Prop where
 b:∃ n,uh n (p.sc d) (aY d.st)=some d.body
 S:bU d.N d.ps (aE d.st)
 bd:∀(kV doc pm:Value) (an:Option Addr) (cdv ct:Value) (us:List Value),us.length=d.ps.length->bindArgs (PySem.W.fnOf d.nm d.nm (cD d.st) (aY d.st) (aE d.st) .none kV doc pm an cdv ct) ⟨us,[]⟩=pure (d.ps.zip us)
theorem jD {sc:Scope}{x:Str}(h:jP sc x=true):Loc sc x:=by
 unfold jP cZ at h;split at h
 ·rename_i e;exact .inl e
 ·rename_i e;exact .inr e
 ·cases h
theorem qt {sc:Scope}{x:Str}(h:qf sc x=true):Bx sc x:=by
 unfold qf cZ at h;split at h
 ·rename_i e;exact .inl e
 ·rename_i e;exact .inr (.inl e)
 ·rename_i e;exact .inr (.inr e)
 ·cases h
theorem tf {sc:Scope}{x:Str}(h:se sc x=true):sc.names.lookup x=some .globalImplicit:=by
 unfold se cZ at h;split at h
 ·rename_i e;exact e
 ·cases h
theorem len0 {P:List Value->Prop}{us:List Value}(h:us.length=0)(f:P []):P us:=by
 cases us with
 |nil=>exact f
 |cons a r=>cases h
theorem we {P:List Value->Prop}{us:List Value}(h:us.length=1)(f:∀ a,P [a]):P us:=by
 cases us with
 |nil=>cases h
 |cons a r=>exact len0 (P:=fun r=>P (a::r)) (Nat.succ.inj h) (f a)
theorem x9 {P:List Value->Prop}{us:List Value}(h:us.length=2)(f:∀ a b,P [a,b]):P us:=by
 cases us with
 |nil=>cases h
 |cons a r=>exact we (P:=fun r=>P (a::r)) (Nat.succ.inj h) (f a)
theorem F9 {P:List Value->Prop}{us:List Value}(h:us.length=3)(f:∀ a b c,P [a,b,c]):P us:=by
 cases us with
 |nil=>cases h
 |cons a r=>exact x9 (P:=fun r=>P (a::r)) (Nat.succ.inj h) (f a)
theorem Df.ok_of {p:Pg}{d:Df}{n:Nat}(h:d.okB p n=true)(hb:uh n (p.sc d) (aY d.st)=some d.body)
  (bd:∀(kV doc pm:Value) (an:Option Addr) (cdv ct:Value) (us:List Value),us.length=d.ps.length->bindArgs (PySem.W.fnOf d.nm d.nm (cD d.st) (aY d.st) (aE d.st) .none kV doc pm an cdv ct) ⟨us,[]⟩=pure (d.ps.zip us)):d.Ok p:=by
 unfold Df.okB at h;simp only[Bool.and_eq_true,decide_eq_true_eq,Bool.not_eq_true',List.all_eq_true] at h;obtain⟨⟨⟨⟨⟨⟨h1,h2⟩,h3⟩,h4⟩,h5⟩,h6⟩,h7⟩:=h;exact⟨⟨n,hb⟩,⟨h1,h2,h3,h4,h5,fun x hx=>jD (h6 x hx),h7⟩,bd⟩
structure Pg.In (p:Pg)(K:Frag)(mg:Str->Option Value):Prop where
 fn:∀(i:Nat) (d:Df),p.dfs[i]? = some d->∃ f fd,L2.kM K d.nm d.nm d.st f fd/\mg d.nm=some (.ref f)
 gl:∀ i x,idxOf p.qL x=some i->∃ v u,mg x=some u/\RelV v u/\∀ H,Rep K H (p.gl i) v []
 blt:∀ x,p.gE.contains x=true->mg x=none
theorem kh {ds:List D}{n i:Nat}{d:D}{t:Tg}(h:(aP ds n)[i]? = some (some (d,t))):ds[i]? = some d/\t=dB d []:=by
 unfold aP at h;by_cases hi:i<ds.length
 ·rw[List.getElem?_append_left (by simpa using hi),List.getElem?_map] at h;rw[List.getElem?_eq_getElem hi] at h ⊢;simp only[Option.map_some,Option.some.injEq,Prod.mk.injEq] at h;obtain⟨h1,h2⟩:=h;subst h1;exact⟨rfl,h2.symm⟩
 ·rw[List.getElem?_append_right (by simpa using Nat.le_of_not_lt hi),List.getElem?_replicate] at h;split at h<;>cases h
theorem aG.parts {K:Frag}{H:Hp}:∀{ds:List D}{vs:List V}{G:List Addr},aG K H ds vs G->∃ F:Nat->List Addr,(∀ i d,ds[i]? = some d->∃ v,vs[i]? = some v/\Rep K H d v (F i))/\(∀ i,ds[i]? = none->F i=[])/\∀ i,∀ a∈F i,a∈G
 |_,_,_,.nil=>⟨fun _=>[],fun i d h=>(by simp at h),fun _ _=>rfl,fun _ _ h=>(nomatch h)⟩
 | _,_,_,.cons (d:=d) (v:=v) (ds:=ds) (vs:=vs) (G:=G1) (G':=G2) r s=>by
  obtain⟨F,h1,h2,h3⟩:=aG.parts s;refine⟨fun i=>match i with | 0=>G1 | j+1=>F j,fun i e h=>?_,fun i h=>?_,fun i a h=>?_⟩
  ·cases i with
   |zero=>cases h;exact⟨v,rfl,r⟩
   |succ j=>exact h1 j e (by simpa using h)
  ·cases i with
   |zero=>cases h
   |succ j=>exact h2 j (by simpa using h)
  ·cases i with
   |zero=>exact bj _ h
   |succ j=>exact ax _ (h3 j a h)
theorem entry {K:Frag}{H:Hp}{ds:List D}{vs:List V}{G:List Addr}{N:List Str}(hr:aG K H ds vs G)(hl:ds.length<=N.length):∃ F,RE K (fun a=>H a≠none) (aP ds N.length) (L2.start N vs) H F/\∀ i,∀ a∈F i,a∈G:=by
 obtain⟨F,h1,h2,h3⟩:=hr.parts;have flat:∀ i d t,(aP ds N.length)[i]? = some (some (d,t))->bA t=true->F i=[]:=fun i d t h o=>by
  obtain⟨e1,e2⟩:=kh h;obtain⟨v,_,rp⟩:=h1 i d e1;unfold dB at e2;by_cases hf:d.flat=true
  ·exact rp.flat hf
  ·rw[if_neg hf] at e2;subst e2;cases o
 refine⟨F,⟨?_,fun i d t h=>?_,fun i h=>?_,fun i d t h o=>?_,fun i d h a ha=>?_,fun a h=>h⟩,h3⟩
 ·simp only[aP,L2.start,List.length_append,List.length_map,List.length_replicate,hr.len]
 ·obtain⟨e1,e2⟩:=kh h;obtain⟨v,e3,rp⟩:=h1 i d e1;refine⟨v,?_,rp⟩;unfold L2.start;have hi:i<vs.length:=(List.getElem?_eq_some_iff.mp e3).1;rw[List.getElem?_append_left (by simpa using hi),List.getElem?_map,e3];rfl
 ·cases e:ds[i]? with
  |none=>exact h2 i e
  |some d =>
   refine absurd ?_ (h d (dB d []));unfold aP;have hi:i<ds.length:=(List.getElem?_eq_some_iff.mp e).1;rw[List.getElem?_append_left (by simpa using hi),List.getElem?_map,e];rfl
 ·rw[flat i d t h o];exact⟨cn,fun _ h=>(nomatch h),fun _ h=>(nomatch h)⟩
 ·rw[flat i d _ h rfl] at ha;cases ha
theorem ng {α:Type}{g:α->Str}:∀{l:List α}{x:Str}{i:Nat},idxOf (l.map g) x=some i->∃ a,l[i]? = some a/\g a=x:=by
 intro l x i h;have:=bV h;rw[List.getElem?_map,aa] at this;exact this
theorem pH {H H':Hp}(e:jH (fun a=>H a≠none) H H'):aI H H':=fun b u h=>(e.keep b (by rw[h];exact fun z=>(by cases z))).trans h
section
variable {p:Pg}{P:Program}{w:World}{K:Frag}{mg:Str->Option Value}{base:Heap}
end
noncomputable def noL (K:Frag):Bool:=K.all fun p=>match p.2.cls with
 |.type n=>!(n == "list")
 |_=>true
theorem lookup_mem:∀{K:Frag}{a:Addr}{o:Obj},K.lookup a=some o->(a,o)∈K
 |[],_,_,h=>by cases h
 | (b,x)::r,a,o,h=>by
  rw[cx] at h;cases e:a==b with
  |true =>
   rw[e] at h;cases h;rw[gj] at e;rw[e];exact au
  |false=>rw[e] at h;exact ah _ (lookup_mem h)
theorem Dw {K:Frag}{a:Addr}{o:Obj}(h:noL K=true)(l:K.lookup a=some o)(c:o.cls = .type "list"):False:=by
 unfold noL at h;rw[cy] at h;have:=h _ (lookup_mem l);rw[c] at this;simp at this
theorem nP {K:Frag}{H:Hp}:∀ ns:List Int,aG K H (ns.map D.int) (ns.map V.int) []
 |[]=>.nil
 |n::r=>.cons (.int n) (nP r)
theorem Dk {K:Frag}{H:Hp}{a:Addr}{ns:List Int}{f:List D->Rs (D×Bool)}{E:XK}{fr:Bool}(hL:noL K=true)(hS:oJ K H a (ns.map V.int))(hf:f [.lst (ns.map D.int)] = .ok (.bl true,fr)):uE K 1 f [.ref a] H (fun v _=>v = .bl true) E:=by
 rcases hS with h | ⟨o,its,n,h1,h2,_⟩
 ·refine⟨[.lst (ns.map D.int)],[a] ++ [],rfl,.cons (.lst h (nP ns)) .nil,(.bl true,fr),hf,fun v H' G' _ rp _ _=>?_⟩;exact rp.bl_inv.1
 ·exact (Dw hL h1 h2).elim
noncomputable def sX (es:List DictEntry):Bool:=es.all (fun e=>match e.val with
  |.int _ _=>true
  |.none=>true
  |_=>false)&&es.any (fun e=>match e.key with
  |.str _ _=>true
  |_=>false)
noncomputable def noS (as:List Addr)(K:Frag):Bool:=K.all fun p=>as.contains p.1 || match p.2.data with
 |.dict es _=>!sX es.toList
 |_=>true
theorem fW.vals {es:List DictEntry}{kvs:List (Key×Option Int)}(h:fW es kvs):es.all (fun e=>match e.val with
  |.int _ _=>true
  |.none=>true
  |_=>false)=true:=by
 induction h with
 |nil=>rfl
 |cons hh hk hv r ih=>rw[fu,hv,ih];rfl
 |si hk hv r ih=>rw[fu,hv,ih];rfl
 |sn hk hv r ih=>rw[fu,hv,ih];rfl
theorem Fb {w:World}{K:Frag}(as:List Addr)(h:noS as K=true)(h0:∀ a∈as,∀ o es ep,K.lookup a=some o->o.data = .dict es ep->∀ e∈es.toList,∀ s t,e.key = .str s t->(a==sysModules)=false/\e.hash=hashStr w s):uQ w K:=by
 intro a o es ep hl hd kvs he e hm s t hk;by_cases ha:a∈as
 ·exact h0 a ha o es ep hl hd e hm s t hk
 ·unfold noS at h;rw[cy] at h;have:=h _ (lookup_mem hl);dsimp only at this;rw[hd,show as.contains a=false by rw[Bool.eq_false_iff];intro z;exact ha (List.contains_iff_mem.mp z),Bool.false_or] at this;dsimp only at this;unfold sX at this;rw[he.vals,Bool.true_and,f9] at this;have h2:es.toList.any (fun e=>match e.key with
   |.str _ _=>true
   |_=>false)=true:=by
   rw[List.any_eq_true];exact⟨e,hm,by rw[hk]⟩
  rw[h2] at this;cases this
noncomputable def hashes (w:World):List DictEntry->Prop
 |[]=>True
 |e::r=>(match e.key with
  |.str s _=>e.hash=hashStr w s
  |_=>True)/\hashes w r
theorem Br {w:World}{K:Frag}(h:noS [] K=true):uQ w K:=Fb [] h fun a ha=>(nomatch ha)
def Has (K:Frag)(d:Df):Prop:=∃(f:Addr) (oc:Value) (od:Option Addr) (kV dc pm:Value) (an:Option Addr) (cd ct:Value) (sl:Array (Option Value)),
 PySem.W.nsIn K mainGlobals d.nm=some (some (.ref f))/\K.lookup f=some ⟨oc,od,.func (PySem.W.fnOf d.nm d.nm (cD d.st) (aY d.st) (aE d.st) .none kV dc pm an cd ct),sl⟩/\PySem.W.codeIn K cd d.nm=true/\PySem.W.keepIn K (.ref f)=true
def mW (K:Frag)(x:Str)(d:D):Prop:=∃ v u,PySem.W.nsIn K mainGlobals x=some (some u)/\RelV v u/\∀ H,Rep K H d v []
noncomputable def qx {α:Type}(P:α->Prop):List α->Prop
 |[]=>True
 |a::r=>P a/\qx P r
theorem cK {α:Type}{P:α->Prop}:∀{l:List α},qx P l->∀ a∈l,P a
 |[],_,a,h=>by cases h
 | b::r,⟨h1,h2⟩,a,h=>by
  rcases g9.mp h with rfl | h
  ·exact h1
  ·exact cK h2 a h
structure qQ (p:Pg)(K:Frag):Prop where
 fn:qx (Has K) p.dfs
 gl:∀ i x,idxOf p.qL x=some i->mW K x (p.gl i)
 blt:qx (fun x=>PySem.W.nsIn K mainGlobals x=some none) p.gE
theorem qQ.isin {p:Pg}{K:Frag}{h:Heap}{mg:Str->Option Value}(s:qQ p K)(X:K.In h)(G:h.Ns mainGlobals mg):p.In K mg where
 fn:=fun i d hd=>by
  obtain⟨f,oc,od,kV,dc,pm,an,cd,ct,sl,a,l,c,k⟩:=cK s.fn d (List.mem_of_getElem? hd);exact⟨f,_,Cp (st:=d.st) l c k,cu X G a⟩
 gl:=fun i x hx=>by
  obtain⟨v,u,a,b,c⟩:=s.gl i x hx;exact⟨v,u,cu X G a,b,c⟩
 blt:=fun x hx=>PySem.W.mg_none_of X G (cK s.blt x (by simpa using hx))
end Pc
end
section
namespace Pc
open PySem
theorem aA {α β:Type}(a:α)(f:α->Rs β):(Rs.ok a).bind f=f a:=rfl
theorem aR {α:Type}(env:En)(a:α)(k:α->Fl):gB env (.ok a) k=k a:=rfl
theorem aB (e:En)(k:En->Fl):(Fl.nx e).andThen k=k e:=rfl
theorem then_rt (d:D)(b:Bool)(k:En->Fl):(Fl.rt d b).andThen k = .rt d b:=rfl
theorem bP {α:Type}(a:α):fE (some a) = .ok a:=rfl
theorem jt (op:Operator)(i j:Int):lQ op (.int i) (.int j)=(Pc.binI op i j).map .int:=by cases op<;>rfl
theorem iL (i:Int)(R:List Nat):dM (.int i) R = .mv []:=rfl
theorem lF:∀ l:List Int,D.flats (l.map D.int)=true
 |[]=>rfl
 |_::r=>lF r
theorem rJ (l:List Int)(R:List Nat):dM (.lst (l.map D.int)) R = .mv []:=by
 unfold dM;rw[if_pos];exact lF l
theorem pZ (n:Nat):∀ a b:List Int,a.length=b.length->mH (D.eqf (n+1)) (a.map D.int) (b.map D.int)=some (a==b)
 |[],[],_=>rfl
 | x::a,y::b,h=>by
  show (some (x==y)).bind (fun c=>(mH (D.eqf (n+1)) (a.map D.int) (b.map D.int)).map fun d=>c&&d)=_;rw[pZ n a b (by simpa using h)];rfl
 |[],_::_,h=>by simp at h
 |_::_,[],h=>by simp at h
theorem A0 (n:Nat)(a b:List Int):D.eqf (n+2) (.lst (a.map D.int)) (.lst (b.map D.int))=some (a==b):=by
 show (if (a.map D.int).length=(b.map D.int).length then mH (D.eqf (n+1)) (a.map D.int) (b.map D.int) else some false)=_;by_cases h:a.length=b.length
 ·rw[if_pos (by simpa using h),pZ n a b h]
 ·rw[if_neg (by simpa using h)];have:(a==b)=false:=by
   rw[beq_eq_false_iff_ne];rintro rfl;exact h rfl
  rw[this]
end Pc
end
section
namespace Pc
open PySem PySem.Spec PyProof.Rows L2
theorem Cw {K:Frag}{d:Df}{f:Addr}{oc:Value}{od:Option Addr}{kV dc pm:Value}{an:Option Addr}{cd ct:Value}{sl:Array (Option Value)}
 (a:PySem.W.nsIn K mainGlobals d.nm=some (some (.ref f))) (l:K.lookup f=some ⟨oc,od,.func (PySem.W.fnOf d.nm d.nm (cD d.st) (aY d.st) (aE d.st) .none kV dc pm an cd ct),sl⟩) (c:PySem.W.codeIn K cd d.nm=true) (k:PySem.W.keepIn K (.ref f)=true):Has K d :=
 ⟨f,oc,od,kV,dc,pm,an,cd,ct,sl,a,l,c,k⟩
theorem gl_int {K:Frag}{x:Str}{i:Int}{t:Tok}(h:PySem.W.nsIn K mainGlobals x=some (some (.int i t))):mW K x (.int i):=⟨.int i,_,h,⟨t,rfl⟩,fun _=>.int i⟩
theorem om {K:Frag}{x:Str}{a:Addr}{oc:Value}{od:Option Addr}{its:Array Value}{n:Nat}{sl:Array (Option Value)}{ds:List D}{vs:List V}(h:PySem.W.nsIn K mainGlobals x=some (some (.ref a)))
  (l:K.lookup a=some ⟨oc,od,.seq its n,sl⟩) (c:oc = .type "tuple") (hz:its.size<=sizeLine) (hv:aN vs its.toList) (hr:∀ H,aG K H ds vs []) (hp:yH vs=false:=by rfl):mW K x (.tup ds) :=
 ⟨.ref a,_,h,rfl,fun H=>.tup (.inr ⟨hp,_,its,n,l,c,rfl,hz,hv⟩) (hr H)⟩
noncomputable def oK (K:Frag)(g:Nat->D):Nat->List Str->Prop
 |_,[]=>True
 |i,x::r=>mW K x (g i)/\oK K g (i+1) r
theorem pC {K:Frag}{g:Nat->D}:∀{l:List Str}{k i:Nat}{x:Str},oK K g k l->idxOf l x=some i->mW K x (g (k+i))
 | y::r,k,i,x,⟨h1,h2⟩,e=>by
  unfold idxOf at e;by_cases hx:y=x
  ·rw[if_pos hx] at e;cases e;subst hx;exact h1
  ·rw[if_neg hx,aa] at e;obtain⟨j,hj,rfl⟩:=e;have:=pC h2 hj;rw[show k+1+j=k+(j+1) by omega] at this;exact this
theorem zE {K:Frag}{g:Nat->D}{l:List Str}(h:oK K g 0 l):∀ i x,idxOf l x=some i->mW K x (g i):=fun i x e=>by
 have:=pC h e
 rwa [gd] at this
end Pc
end
section
namespace Pc
open PySem PySem.Spec PyProof.Rows L2
theorem kH {K:PySem.W.Frag}{h:Heap}{C:Addr}{bmB:List Value}{newId:String}(kin:K.In h)(q:PySem.W.excIn K C bmB newId=true) :
  ∃ bm N nm qn bs hdct sn sub ab col dd k0 k1 k2 k3 k5 mN,h.get? C=some (excClassObj nm qn C N bs bm hdct sn sub ab col dd k0 k1 k2 k3 k5 newId)/\h.Ns N mN/\mN "__init__" = none/\OwnTail h bmB bm:=by
 unfold PySem.W.excIn at q;split at q
 ·rename_i dd cd sl ho;split at q
  ·rename_i C' bm k0 k1 k2 k3 n k5 hm hs;simp only[Bool.and_eq_true,beq_iff_eq,Bool.not_eq_true'] at q;obtain⟨⟨⟨⟨⟨rfl,rfl⟩,hdel⟩,ht⟩,hok⟩,hni⟩:=q;obtain⟨nm,bs,mro,ns,qn,hd,sn,sub,ab,col,del⟩:=cd;dsimp only at hm hdel hok hni;subst hm hdel;have hsl:sl = #[k0,k1,k2,k3,some (.builtin n),k5]:=by
    obtain⟨l⟩:=sl;simp only at hs;rw[hs]
   subst hsl;exact⟨bm,ns,nm,qn,bs,hd,sn,sub,ab,col,dd,k0,k1,k2,k3,k5,_,kin _ _ ho,.of_isNs (PySem.W.isNs_of_in kin hok),PySem.W.nsMap_none_of_in kin hok hni,PySem.W.tail_of_in kin ht⟩
  ·cases q
 ·cases q
section
variable {X:Cx}
theorem md {x:Str}{C:Addr}{bmB:List Value}{B newId initId:String}{np cpos pos:Pos}{e:Expr}{es:List Expr}{t:TA}{W:Hp->Prop}(hc:X.calm=true)(hg:Gl X x)(hm:X.mg x=some (.ref C))(q:PySem.W.excIn X.K C bmB newId=true)(FB:ExcBaseFacts B newId initId bmB)(ha:PA X (e::es) t)
  (hw:∀(pins:List (Addr×Obj)) (σ:L2.St) (H:Hp) (s:Shared) (h':Heap) (a:Addr) (us:List Value),W H->Inv X pins σ H s->Heap.MadeExcOf s.heap h' a (.ref C) us->X.xe (.ref a) { s with heap:=h' })
  (hl:∀ σ H Q,t σ H Q->t σ H fun vs H'=>vs.length<=sizeLine/\Q vs H')
  (he:starEach (e::es) X.env=(false,eval e X.env)::starEach es X.env:=by rfl) (hpl:(backTo cpos (starEach es X.env)).any (·.1)=false:=by rfl) (hd:(x==("__debug__" : Str))=false:=by decide) :
  PS X (.Raise (some (.Call (.Name x np) (e::es) [] cpos)) none pos) (fun D σ H=>t σ H fun vs H'=>W H'):=by
 intro pins s σ H D I h;obtain⟨bm,N,nm,qn,bs,hdct,sn,sub,ab,col,dd,k0,k1,k2,k3,k5,mN,hC,hN,hni,T⟩:=kH I.ok.mod.kin q;refine wpAny_Raise_call_subT (C:=C) (nm:=nm) (q:=qn) (N:=N) (bs:=bs) (bm:=bm) (hdct:=hdct) (sn:=sn) (sub:=sub) (ab:=ab) (col:=col) (dd:=dd) (k0:=k0) (k1:=k1) (k2:=k2) (k3:=k3) (k5:=k5)
  FB (mN:=mN) (T.hasType FB.hasBase) (I.ok.hd hc) (by rw[he];show (false || (backTo cpos (starEach es X.env)).any (·.1))=false;rw[hpl];rfl) hni (eV I hg hm ⟨rfl,?_⟩ hd)
 have ha':=ha cpos pins s σ H _ I (hl σ H _ h);rw[he] at ha' ⊢;refine Calls.evalArgs_plain (wpAny_mono ha' (fun us s₂ h₂=>?_) fun _ _ y=>y);obtain⟨vs,H2,I2,r2,l2,w2⟩:=h₂;exact⟨rfl,by rw[<-r2.length];exact l2,I2.bk _ _ hC,hN.keeps I2.bk,T.keeps I2.bk,fun h' a hx=>hw pins σ H2 s₂ h' a us w2 I2 hx⟩
end
def Bf (B:Heap)(fr:List Addr)(H':Hp)(h h':Heap):Prop:=∀ b o,h'.get? b=some o->b∈fr\/B.get? b=some o\/(h.get? b=none/\H' b=none)
noncomputable def j8 (P:Program)(w:World):pd:=fun outer H s E e s'=>∃ a C a0 H' B,e = .ref a/\s'.os=s.os/\AllBare s'.gens/\Un (fL outer) [] H H' s.heap s'.heap/\iJ P w H' s'.heap /\
 Heap.FlyingW B outer a C a0 s'.heap/\Bf B (fL outer) H' s.heap s'.heap/\E C none H'
theorem pU {P:Program}{w:World}{H:Hp}{h h':Heap}(x:iJ P w H h)(k:∀ b o,H b≠none->h.get? b=some o->h'.get? b=some o):iJ P w H h':=fun a o e =>
 (x a o e).stay (fun b u hb q=>k b u (by rcases hb with rfl | hb<;>(intro z;simp_all)) q) (fun _ q=>q) fun _ _ q=>q
theorem iG {P:Program}{w:World}{K:PySem.W.Frag}{mg:Str->Option Value}{base:Heap}{N:List Str}{qual:Str}{scope:Scope}{f:Addr}{cd:Value}{A:Around}{outer:List Env}{s:Shared}{H:Hp}{E:XK}
  {pins:List (Addr×Obj)}{σ:L2.St}{H1:Hp}{s1:Shared}{h2:Heap}{a:Addr}{C:Value}{us:List Value}(I:Inv (eC (j8 P w) P w K mg base N qual scope f cd A outer s H E) pins σ H1 s1)
  (hx:Heap.MadeExcOf s1.heap h2 a C us) (hE:E C none H1):(eC (j8 P w) P w K mg base N qual scope f cd A outer s H E).xe (.ref a) { s1 with heap:=h2 }:=by
 have hst:=I.stack;have hin:∀ env∈(envOfC qual scope s.heap.objs.size f cd::outer),∀ b,env.frame=some b->b∈fL (envOfC qual scope s.heap.objs.size f cd::outer):=fun env he b hb=>List.mem_filterMap.mpr ⟨env,he,hb⟩
 show wpAny (model P w) (A.deeper (envOfC qual scope s.heap.objs.size f cd)) (leaving (envOfC qual scope s.heap.objs.size f cd) (.ref a)) _ _ _;refine wpAny_leaves_madeW (base:=PySem.W.hideAll s1.heap (fL (envOfC qual scope s.heap.objs.size f cd::outer))) (h:=s1.heap) (outer:=outer) I.ok.frames rfl (fun b o q=>PySem.W.of_hideAll _ q) (PySem.W.funFrames_hide hst hin) hx fun h' t fl tup hbn uts=>?_
 have L0:∀ b o,s.heap.get? b=some o->b≠s.heap.objs.size:=fun b o e=>bq (Heap.lt_size e)
 have fr:fL (envOfC qual scope s.heap.objs.size f cd::outer)=s.heap.objs.size::fL outer:=rfl;have stay:∀ b o,s1.heap.get? b=some o->b≠s.heap.objs.size->b∉fL outer->h'.get? b=some o:=fun b o e h1 h2=>fl.1 b o (PySem.W.hideAll_get _ e (by
  rw[fr];intro z;rcases g9.mp z with z | z
  ·exact h1 z
  ·exact h2 z))
 have fslot:∀ b o,s1.heap.get? b=some o->b∈fL outer->∃ sl,h'.get? b=some { o with slots:=sl }:=fun b o e hb=>by
  obtain⟨_,o',e',hd⟩:=hst.mem (b:=b) (show b∈s.heap.objs.size::fL outer from ah _ hb);rw[e] at e';cases e';exact uts b o (hx.keeps b o e) hd
 have bs:=I.base;have nofr:∀ b,H1 b≠none->b≠s.heap.objs.size/\b∉fL outer:=fun b hb=>by
  have:=I.stkFree;refine⟨fun z=>hb (this b (show b∈s.heap.objs.size::fL outer by rw[z];exact au)),fun z=>hb (this b (show b∈s.heap.objs.size::fL outer from ah _ z))⟩
 refine⟨a,C,.ref t,H1,_,rfl,I.os,I.bare,⟨fun b o e n hf _=>?_,fun b o e n hf _=>?_,fun b o e n _=>bs.free b o e n (by simp[eC]),fun b o e _=>?_,bs.tups,bs.frzs,bs.tbls⟩,pU I.hok fun b o hb e=>stay b o e (nofr b hb).1 (nofr b hb).2,fl,fun b o e=>?_,hE⟩
 ·exact stay b o (bs.keep b o e n hf (by simp[eC])) (L0 b o e) hf
 ·obtain⟨sl,e1⟩:=bs.slot b o e n hf (by simp[eC]);obtain⟨sl',e2⟩:=fslot b _ e1 hf;exact⟨sl',e2⟩
 ·obtain⟨o1,e1⟩:=bs.there b o e (by simp[eC]);by_cases hf:b∈fL outer
  ·obtain⟨sl',e2⟩:=fslot b _ e1 hf;exact⟨_,e2⟩
  ·exact⟨o1,stay b o1 e1 (L0 b o e) hf⟩
 ·by_cases hf:b∈fL outer
  ·exact .inl hf
  ·cases e1:s1.heap.get? b with
   |none =>
    refine .inr (.inr ⟨?_,?_⟩)
    ·cases e0:s.heap.get? b with
     |none=>rfl
     |some o0 =>
      obtain⟨o1,e2⟩:=bs.there b o0 e0 (by simp[eC]);rw[e1] at e2;cases e2
    ·cases e0:H1 b with
     |none=>rfl
     |some u =>
      obtain⟨ob,e2⟩:=bW.live' (I.hok b u e0);rw[e1] at e2;cases e2
   |some o1 =>
    by_cases hL:b=s.heap.objs.size
    ·refine .inr (.inr ⟨?_,?_⟩)
     ·rw[hL];cases e0:s.heap.get? s.heap.objs.size with
      |none=>rfl
      |some o0=>exact absurd rfl (L0 _ _ e0)
     ·cases e0:H1 b with
      |none=>rfl
      |some u=>exact absurd hL (nofr b (by rw[e0];simp)).1
    ·have:=stay b o1 e1 hL hf;rw[e] at this;cases this;refine .inr (.inl (PySem.W.hideAll_get _ e1 ?_));rw[fr];intro z;rcases g9.mp z with z | z
     ·exact hL z
     ·exact hf z
structure zI (X:Cx)(H H':Hp)(s:Shared)(B h:Heap):Prop where
 un:Un (fL X.stack) [] H H' s.heap h
 hok:iJ X.prog X.w H' h
 bf:Bf B (fL X.stack) H' s.heap h
section
variable {X:Cx}{pins:List (Addr×Obj)}{σ:L2.St}{H H':Hp}{s:Shared}{B h h':Heap}
theorem zI.frFree (F:zI X H H' s B h)(I:Inv X pins σ H s):∀ b∈fL X.stack,H' b=none:=fun b hb=>by
 obtain⟨_,o,e,_⟩:=I.stack.mem hb;exact F.un.free b o e (I.stkFree b hb) (by simp)
theorem zI.next (F:zI X H H' s B h)(I:Inv X pins σ H s)(st:B.StaysIn h')(fr:∀ b∈fL X.stack,∃ o,h.get? b=some o/\∀ vs,o.data≠.fields vs)(ut:h.UpToSlots h'):zI X H H' s B h':=by
 have keep:∀ b o,h.get? b=some o->b∉fL X.stack->(s.heap.get? b≠none\/H' b≠none)->h'.get? b=some o:=fun b o e hf hn=>by
  rcases F.bf b o e with z | z | ⟨z1,z2⟩
  ·exact absurd z hf
  ·exact st b o z
  ·rcases hn with hn | hn
   ·exact absurd z1 hn
   ·exact absurd z2 hn
 have slot:∀ b o,h.get? b=some o->b∈fL X.stack->∃ sl,h'.get? b=some { o with slots:=sl }:=fun b o e hf=>by
  obtain⟨o',e',hd⟩:=fr b hf;rw[e] at e';cases e';exact ut b o e hd
 refine⟨⟨fun b o e n hf _=>?_,fun b o e n hf _=>?_,fun b o e n hx=>F.un.free b o e n hx,fun b o e hx=>?_,F.un.tups,F.un.frzs,F.un.tbls⟩,pU F.hok fun b o hb e=>?_,fun b o e=>?_⟩
 ·exact keep b o (F.un.keep b o e n hf (by simp)) hf (.inl (by rw[e];simp))
 ·obtain⟨sl,e1⟩:=F.un.slot b o e n hf (by simp);obtain⟨sl',e2⟩:=slot b _ e1 hf;exact⟨sl',e2⟩
 ·obtain⟨o1,e1⟩:=F.un.there b o e (by simp);by_cases hf:b∈fL X.stack
  ·obtain⟨sl',e2⟩:=slot b _ e1 hf;exact⟨_,e2⟩
  ·exact⟨o1,keep b o1 e1 hf (.inl (by rw[e];simp))⟩
 ·exact keep b o e (fun z=>hb (F.frFree I b z)) (.inr hb)
 ·by_cases hf:b∈fL X.stack
  ·exact .inl hf
  ·cases e1:h.get? b with
   |none =>
    refine .inr (.inr ⟨?_,?_⟩)
    ·cases e0:s.heap.get? b with
     |none=>rfl
     |some o0 =>
      obtain⟨o1,e2⟩:=F.un.there b o0 e0 (by simp);rw[e1] at e2;cases e2
    ·cases e0:H' b with
     |none=>rfl
     |some u =>
      obtain⟨ob,e2⟩:=bW.live' (F.hok b u e0);rw[e1] at e2;cases e2
   |some o1 =>
    rcases F.bf b o1 e1 with z | z | z
    ·exact absurd z hf
    ·have:=st b o1 z;rw[e] at this;cases this;exact .inr (.inl z)
    ·exact .inr (.inr z)
theorem zI.inv {g':Array GenState}{d':Drawn}{t':Nat}(F:zI X H H' s B h)(I:Inv X pins σ H s)(hg:AllBare g'):Inv X pins σ H' { s with heap:=h,gens:=g',drawn:=d',toks:=t' } :=
 I.call (ch:=[]) F.un F.hok hg fun b z=>nomatch z
theorem w8 {E:XK}{e:Value}{s':Shared}(c:j8 X.prog X.w X.stack H s E e s'):∃ a C a0 H' B,e = .ref a/\s'.os=s.os/\AllBare s'.gens/\zI X H H' s B s'.heap/\Heap.FlyingW B X.stack a C a0 s'.heap/\E C none H':=by
 obtain⟨a,C,a0,H',B,e1,e2,e3,e4,e5,e6,e7,e8⟩:=c;exact⟨a,C,a0,H',B,e1,e2,e3,⟨e4,e5,e7⟩,e6,e8⟩
theorem gA {a:Addr}{C a0:Value}(f:Heap.FlyingW B X.stack a C a0 h):∀ b∈fL X.stack,∃ o,h.get? b=some o/\∀ vs,o.data≠.fields vs:=fun b hb=>(f.2.2.1.mem hb).2
theorem pS {a L:Addr}{C a0:Value}(f:Heap.HeldW B X.stack a C a0 L h):∀ b∈fL X.stack,∃ o,h.get? b=some o/\∀ vs,o.data≠.fields vs:=fun b hb=>(f.2.2.1.mem hb).2
noncomputable abbrev markX (X:Cx)(a:Addr):Cx:={ X with A:=X.A.mark (some (.ref a)),calm:=false,xe:=fun _ _=>False }
theorem wu (I:Inv X pins σ H s)(a:Addr)(hf:(X.A.mark (some (.ref a))).frames=some X.stack):Inv (markX X a) pins σ H s :=
 ⟨⟨I.ok.mod,I.ok.kind,I.ok.glob,I.ok.blt,I.ok.above,I.ok.inj,I.ok.has,I.ok.cab,fun z=>(by cases z),hf,I.ok.stk,I.ok.exf,I.ok.bs,I.ok.bsz,I.ok.noex,I.ok.exfs,I.ok.funs,I.ok.frf⟩,I.os,I.bare,I.base,I.loc,I.cell,I.free,I.freeC,I.pin,I.hok,I.len⟩
end
section
variable {M:Model}{A:Around}{E:Value->Shared->Prop}{prog:Program}{w:World}
theorem pT {nm q:Str}{C N:Addr}{bs bm:List Value}{hdct:Bool}{sn:List Str}{sub:List Value}{ab:Bool}{col:Option Bool}{dd:Option Addr}{k0 k1 k2 k3 k5:Option Value}{newId:String}
  {nm' q':Str}{C' N':Addr}{bs' bm':List Value}{hdct':Bool}{sn':List Str}{sub':List Value}{ab':Bool}{col':Option Bool}{dd':Option Addr}{j0 j1 j2 j3 j5:Option Value}{newId':String}
  {h:Heap}{g:Array GenState}{d:Drawn}{t:Nat}{os:OsState}{e:Addr}{oe:Obj}{Q:Bool->Shared->Prop}
  (hC:h.get? C=some (excClassObj nm q C N bs bm hdct sn sub ab col dd k0 k1 k2 k3 k5 newId)) (hC':h.get? C'=some (excClassObj nm' q' C' N' bs' bm' hdct' sn' sub' ab' col' dd' j0 j1 j2 j3 j5 newId')) (he:h.get? e=some oe) (hcls:oe.cls = .ref C)
  (hbase:bm'.contains (.type "BaseException")=true) (hq:Q ((Value.ref C::bm).contains (.ref C')) ⟨h,g,d,t,os⟩):wpAny M A (excMatches (.ref e) (.ref C')) Q E ⟨h,g,d,t,os⟩:=by
 have hcB:(Value.ref C'::bm').contains (.type "BaseException")=true:=by rw[fw,hbase,Bool.or_true]
 have f:=tc_notTuple;unfold excMatches
 repeat (first | (with_reducible refine wpAny_loadPart_at he ?_;rw[hcls]) | with_reducible refine wpAny_loadPart_at hC' ?_ | (with_reducible refine wpAny_isSubtype_exc hC' ?_;rw[hcB]) | (with_reducible refine wpAny_isSubtype_exc hC ?_) | wp_step)
 cases hb:(Value.ref C::bm).contains (.ref C')<;>(rw[hb] at hq;first | exact hq | (wp_walk;exact hq))
end
section
variable {X:Cx}{pins:List (Addr×Obj)}{σ:L2.St}{H:Hp}{s:Shared}{D:Ends}
noncomputable def k7 (X:Cx)(pins:List (Addr×Obj))(σ:L2.St)(W:Value->Hp->Prop)(e:Value)(s1:Shared):Prop :=
 ∃ H0 s0 a C a0 H' B,Inv X pins σ H0 s0/\e = .ref a/\s1.os=s0.os/\AllBare s1.gens/\zI X H0 H' s0 B s1.heap/\Heap.FlyingW B X.stack a C a0 s1.heap/\W C H'
def w9 (K:PySem.W.Frag)(C Cd:Addr):Prop:=∃(bmB:List Value) (newId:String) (cd:ClassData) (c0:Value) (dd:Option Addr) (sl:Array (Option Value)),PySem.W.excIn K C bmB newId=true/\K.lookup C=some ⟨c0,dd,.cls cd,sl⟩/\cd.mro.contains (.ref Cd)=true
end
section
variable {X:Cx}{pins:List (Addr×Obj)}{σ:L2.St}{H:Hp}{s:Shared}{D:Ends}
theorem pe {M:Model}{A:Around}{E:Value->Shared->Prop}{i:Nat}{x:Str}{v:V}{Q:Unit->Shared->Prop}(I:Inv X pins σ H s)(hN:X.N.Nodup)(hi:X.N[i]? = some x)(hk:X.env.scope.names.lookup x=some .local)(hv:σ[i]? = some (some v))
  (h:∀ s',Inv X pins (σ.set i none) H s'->Q () s'):wpAny M A (unbindName X.env x) Q E s:=by
 obtain⟨m,hn,hl⟩:=id I.loc;have hcls:(X.env.scope.kind == .class || (X.env.scope.kind == .module&&X.env.locals != X.env.globals))=false:=by rw[I.ok.kind];rfl
 have hiσ:i<σ.length:=by rw[I.len];exact (List.getElem?_eq_some_iff.mp hi).1
 have cne:=I.cne;have tracked:∀{a:Addr}{h':Heap},(∃ o,s.heap.get? a=some o/\H a=none)->Heap.SameBut a s.heap h'->iJ X.prog X.w H h':=fun {a h'} ha hs b ob e=>by
  obtain⟨_,_,hfree⟩:=ha;refine (I.hok b ob e).stay (fun c w' hc q=>(hs.2 c ?_).trans q) (fun _ q=>q) fun _ _ q=>q
  rintro rfl;rcases hc with rfl | hc
  ·rw[hfree] at e;cases e
  ·rw[hfree] at hc;cases hc
 have hm:∃ u,m x=some u:=by
  obtain⟨u,_,q⟩:=hl i x v hi hv (.inl hk);rcases q with ⟨_,e⟩ | ⟨k,_⟩
  ·exact⟨u,e⟩
  ·have:X.env.kindOf x=some .local:=hk;rcases k with k | k<;>(rw[this] at k;cases k)
 obtain⟨u,hu⟩:=hm;refine wpAny_unbindName_local hk hn hu hcls fun h' u' hn' hs=>?_
 obtain⟨oL,_,_,hoL,_⟩:=id hn;refine h _ ⟨I.ok,I.os,I.bare,⟨fun b o e n hb hx=>?_,fun b o e n hb hx=>?_,I.base.free,fun b o e hx=>?_,I.base.tups,I.base.frzs,I.base.tbls⟩,⟨_,hn',fun j y v' e1 e2 e3=>?_⟩,fun y c e=>?_,I.free,I.freeC,fun p hp=>?_,tracked ⟨oL,hoL,I.free⟩ hs,by simpa using I.len⟩
 ·exact (hs.2 b (bq (az (Heap.lt_size e) I.ok.above))).trans (I.base.keep b o e n hb hx)
 ·obtain⟨sl,e1⟩:=I.base.slot b o e n hb hx;exact⟨sl,(hs.2 b (bq (az (Heap.lt_size e) I.ok.above))).trans e1⟩
 ·obtain⟨o',e1⟩:=I.base.there b o e hx;exact⟨o',(hs.2 b (bq (az (Heap.lt_size e) I.ok.above))).trans e1⟩
 ·by_cases hj:j=i
  ·subst hj;rw[List.getElem?_set_self hiσ] at e2;cases e2
  ·rw[List.getElem?_set_ne (dk hj)] at e2;obtain⟨u',r',q⟩:=hl j y v' e1 e2 e3;refine⟨u',r',?_⟩;rcases q with ⟨k,e⟩ | ⟨k,c,e,z⟩
   ·refine .inl ⟨k,?_⟩;have:y≠x:=fun e=>hj (kX hN e1 (e ▸ hi))
    simp[this,e]
   ·exact .inr ⟨k,c,e,z.sameBut hs (cne y c e)⟩
 ·obtain⟨w',z⟩:=I.cell y c e;exact⟨w',z.sameBut hs (cne y c e)⟩
 ·obtain⟨e,n,ne,nf,d⟩:=I.pin p hp;exact⟨(hs.2 p.1 ne).trans e,n,ne,nf,d⟩
theorem vb {M:Model}{A:Around}{E:Value->Shared->Prop}{i:Nat}{x:Str}{pos:Pos}{Q:Unit->Shared->Prop}(I:Inv X pins σ H s)(hN:X.N.Nodup)(hi:X.N[i]? = some x)(hk:X.env.scope.names.lookup x=some .local)
  (h:∀ s',Inv X pins (σ.set i none) H s'->Q () s'):wpAny M A (do bindName X.env x .none;unbindBehindTheSuite X.env x pos) Q E s:=by
 refine wpAny_bind (wpAny_bindName (iC I hN hi (.inl hk) (show RelV .non .none from rfl) (fun s1 I1=>?_) (.inr hk)));unfold unbindBehindTheSuite;refine wpAny_onRaise (pe I1 hN hi hk (List.getElem?_set_self (by rw[I.len];exact (List.getElem?_eq_some_iff.mp hi).1)) fun s2 I2=>h s2 ?_);rw[List.set_set] at I2;exact I2
noncomputable abbrev pX (X:Cx)(a:Addr)(o:Obj):Cx:={ X with A:=X.A.mark (some (.ref a)),calm:=false,xe:=fun _ _=>False,pn:=(a,o)::X.pn }
theorem vy (I:Inv X pins σ H s)(a:Addr)(o:Obj)(hf:(X.A.mark (some (.ref a))).frames=some X.stack)(ha:s.heap.get? a=some o/\H a=none/\a≠X.env.locals/\a∉X.fs/\∀ v,o.data≠.cell v):Inv (pX X a o) pins σ H s :=
 ⟨⟨I.ok.mod,I.ok.kind,I.ok.glob,I.ok.blt,I.ok.above,I.ok.inj,I.ok.has,I.ok.cab,fun z=>(by cases z),hf,I.ok.stk,I.ok.exf,I.ok.bs,I.ok.bsz,I.ok.noex,I.ok.exfs,I.ok.funs,I.ok.frf⟩,I.os,I.bare,I.base,I.loc,I.cell,I.free,I.freeC,fun p hp=>by
  rcases g9.mp hp with rfl | hp
  ·exact ha
  ·exact I.pin p hp,I.hok,I.len⟩
end
inductive jN (h:Heap) (bmB:List Value) (ns:List Str):List Value->Prop
 | base:jN h bmB ns bmB
 | own {A:Addr}{c0:Value}{dd:Option Addr}{cd:ClassData}{sl:Array (Option Value)}{mA:Str->Option Value}{tl:List Value} :
   h.get? A=some { cls:=c0,dict:=dd,data:=.cls cd,slots:=sl }->h.Ns cd.ns mA->(∀ n∈ns,mA n=none)->jN h bmB ns tl->jN h bmB ns (.ref A::tl)
noncomputable def oZ:List Str:=["__getattribute__","__getattr__","__class__"]
section
variable {M:Model}{A:Around}{E:Value->Shared->Prop}{h:Heap}{g:Array GenState}{d:Drawn}{t:Nat}{os:OsState}
theorem uI {bmB tl:List Value}{ns:List Str}{n:Str}{y:Option Value}{Q:Option Value->Shared->Prop}(hn:n∈ns)(T:jN h bmB ns tl)(hrest:lookupAlong bmB n=pure y)(hq:Q y ⟨h,g,d,t,os⟩) :
  wpAny M A (lookupAlong tl n) Q E ⟨h,g,d,t,os⟩:=by
 induction T with
 |base=>rw[hrest];exact wpAny_pure hq
 |own hA hN hni _ ih =>
  rw[lookupAlong_cons];refine wpAny_bind (wpAny_classOwn_cls hA hN ?_);rw[hni n hn];exact ih
variable {nm q:Str}{C N:Addr}{bs bm bmB:List Value}{hdct:Bool}{sn:List Str}{sub:List Value}{ab:Bool}{col:Option Bool}{dd:Option Addr}{k0 k1 k2 k3 k5:Option Value}{B newId:String}
theorem kT {mN:Str->Option Value}{ns:List Str}{n:Str}{y:Option Value}{Q:Option Value->Shared->Prop}(hn:n∈ns)
  (hC:h.get? C=some (excClassObj nm q C N bs bm hdct sn sub ab col dd k0 k1 k2 k3 k5 newId)) (hN:h.Ns N mN) (hmN:∀ n∈ns,mN n=none) (T:jN h bmB ns bm) (hbm:mroOf (.type B)=pure bmB)
  (hB:typeLookup (.type B) n=pure y) (hq:Q y ⟨h,g,d,t,os⟩):wpAny M A (typeLookup (.ref C) n) Q E ⟨h,g,d,t,os⟩:=by
 have hrest:lookupAlong bmB n=pure y:=by rw[typeLookup_eq,hbm] at hB;exact hB
 rw[typeLookup_eq];refine wpAny_bind (wpAny_mroOf_exc hC ?_);rw[lookupAlong_cons];refine wpAny_bind (wpAny_classOwn_exc hC hN ?_);rw[hmN n hn];exact uI hn T hrest hq
end
theorem yk:typeLookup (.type "ValueError") "__class__" = pure (some (.builtin "object.__class__")):=by rw[typeLookup_type,builtinLookup_eq_fast];kernel_rfl
noncomputable abbrev jf:List Value:=[.type "ValueError",.type "Exception",.type "BaseException",.type "object"]
section
variable {prog:Program}{w:World}{A:Around}{E:Value->Shared->Prop}{h:Heap}{g:Array GenState}{d:Drawn}{t:Nat}{os:OsState}{a:Addr}{o:Obj}
 {nm q:Str}{C N:Addr}{bs bm:List Value}{hdct:Bool}{sn:List Str}{sub:List Value}{ab:Bool}{col:Option Bool}{dd:Option Addr}{k0 k1 k2 k3 k5:Option Value}{newId:String}{mN:Str->Option Value}
theorem Ag {R:Result->Shared->Prop}(hC:h.get? C=some (excClassObj nm q C N bs bm hdct sn sub ab col dd k0 k1 k2 k3 k5 newId))(T:OwnTail h jf bm)(hx:h.get? a=some o)(hc:o.cls = .ref C)(hq:R (.ok (.ret (.ref C))) ⟨h,g,d,t,os⟩) :
  codeAny (model prog w) A (.call (.builtin "getset_descriptor.__get__") ⟨[.builtin "object.__class__",.ref a,.ref C],[]⟩) R ⟨h,g,d,t,os⟩:=by
 have hT5:(⟨h,g,d,t,os⟩:Shared).TypeIs (.builtin "object.__class__") "getset_descriptor":=F.typeOf_object_class;have hcB:(Value.ref C::bm).contains (.type (".".intercalate ("object.__class__".cutAt '.').dropLast))=true:=by
  rw[F.owner_object_class,fw,T.hasType (show jf.contains (.type "object")=true by decide)];rfl
 refine codeAny_call_builtin F.slot_gs_get.plain F.entry_gs_get (F.slot_gs_get.check _ _ _ _ _ _ _ _ hT5 (F.args_gs_get _ _ _) ?_)
 repeat (any_goals (first | assumption | (with_reducible refine wpAny_loadPart_at hx ?_;rw[hc]) | (with_reducible refine wpAny_isSubtype_exc hC ?_;rw[hcB]) | wp_step))
 refine⟨Code.quiet_builtin _ (by decide +kernel),codeAny_builtin F.entry_object_class ?_⟩
 repeat (any_goals (first | assumption | (with_reducible refine wpAny_loadPart_at hx ?_;rw[hc]) | wp_step))
theorem xy {M:Model}{nameV:Value}{Q:Unit->Shared->Prop}(hC:h.get? C=some (excClassObj nm q C N bs bm hdct sn sub ab col dd k0 k1 k2 k3 k5 newId))(T:OwnTail h jf bm)
  (hx:h.get? a=some o) (hc:o.cls = .ref C) (hq:Q () ⟨h,g,d,t,os⟩):wpAny M A (checkBuiltinCall "BaseException.__getattribute__" ⟨[.ref a,nameV],[]⟩) Q E ⟨h,g,d,t,os⟩:=by
 have hk:builtinKind "BaseException.__getattribute__" = some .slot:=by decide +kernel
 have hsplit:splitId "BaseException.__getattribute__" = some ("BaseException","__getattribute__"):=by decide +kernel
 have hcB:(Value.ref C::bm).contains (.type "BaseException")=true:=by rw[fw,T.hasType (show jf.contains (.type "BaseException")=true by decide)];rfl
 have ha:=F.args_bexc_ga (.ref a) nameV;simp only[checkBuiltinCall,hk,hsplit];refine wpAny_bind ?_
 ·unfold isInstance
  repeat (first | (with_reducible refine wpAny_loadPart_at hx ?_;rw[hc]) | (with_reducible refine wpAny_isSubtype_exc hC ?_;rw[hcB]) | wp_step)
  exact hq
theorem uH {tk:Tok}{Q:Fin->Shared->Prop}(hC:h.get? C=some (excClassObj nm q C N bs bm hdct sn sub ab col dd k0 k1 k2 k3 k5 newId))(hN:h.Ns N mN)(hmN:∀ n∈oZ,mN n=none)(T:OwnTail h jf bm)(TN:jN h jf oZ bm)
  (hx:h.get? a=some o) (hc:o.cls = .ref C) (hq:Q (.done (.ret (.ref C))) ⟨h,g,d,t,os⟩) :
  wpAny (model prog w) A (Builtin.«object.__getattribute__» ⟨[.ref a,.str "__class__" tk],[]⟩) Q E ⟨h,g,d,t,os⟩:=by
 have hT5:(⟨h,g,d,t,os⟩:Shared).TypeIs (.builtin "object.__class__") "getset_descriptor":=F.typeOf_object_class;have f5:=F.typeOf_object_class;have f6:=F.slot_gs_get.lookup;have f7:=F.slot_gs_set.lookup;have hmA:("__class__" : Str)∈oZ:=.tail _ (.tail _ (.head _))
 repeat (any_goals (first | assumption | (with_reducible refine wpAny_loadPart_at hx ?_;rw[hc]) | with_reducible refine kT hmA hC hN hmN TN F.attrBase_ValueError.mro yk ?_ | wp_step))
 refine Ag hC T hx hc ?_
 repeat (any_goals (first | assumption | wp_step))
theorem xh {tk:Tok}{R:Result->Shared->Prop}(hC:h.get? C=some (excClassObj nm q C N bs bm hdct sn sub ab col dd k0 k1 k2 k3 k5 newId))(hN:h.Ns N mN)(hmN:∀ n∈oZ,mN n=none)(T:OwnTail h jf bm)(TN:jN h jf oZ bm)
  (hx:h.get? a=some o) (hc:o.cls = .ref C) (hq:R (.ok (.ret (.ref C))) ⟨h,g,d,t,os⟩) :
  codeAny (model prog w) A (.call (.builtin "BaseException.__getattribute__") ⟨[.ref a,.str "__class__" tk],[]⟩) R ⟨h,g,d,t,os⟩ :=
 codeAny_call_builtin F.attrBase_ValueError.ga.plain F.entry_bexc_ga (xy hC T hx hc (uH hC hN hmN T TN hx hc hq))
theorem BZ {tk:Tok}{fill expr:Bool}{Q:Value->Shared->Prop}(hC:h.get? C=some (excClassObj nm q C N bs bm hdct sn sub ab col dd k0 k1 k2 k3 k5 newId))(hN:h.Ns N mN)(hmN:∀ n∈oZ,mN n=none)(T:OwnTail h jf bm)(TN:jN h jf oZ bm)
  (hx:h.get? a=some o) (hc:o.cls = .ref C) (hq:Q (.ref C) ⟨h,g,d,t,os⟩) :
  wpAny (model prog w) A (getAttrBy (.ref a) (.str "__class__" tk) fill expr) Q E ⟨h,g,d,t,os⟩:=by
 have f3:=F.attrBase_ValueError.ga.bind (.ref a);have hx0:(expr&&onTheHeap (Value.builtin "BaseException.__getattribute__"))=false:=by cases expr<;>rfl
 have hx2:(Value.builtin "BaseException.__getattribute__" == Value.builtin "object.__getattribute__")=false:=by decide +kernel
 have hx1:(onTheHeap (Value.ref C)&&Value.builtin "BaseException.__getattribute__" == Value.builtin "object.__getattribute__")=false:=by rw[hx2];rfl
 have hm1:("__getattribute__" : Str)∈oZ:=.head _;have hm2:("__getattr__" : Str)∈oZ:=.tail _ (.head _)
 repeat (any_goals (first | assumption | (with_reducible refine wpAny_loadPart_at hx ?_;rw[hc]) | with_reducible refine kT hm1 hC hN hmN TN F.attrBase_ValueError.mro F.attrBase_ValueError.ga.lookup ?_ | with_reducible refine kT hm2 hC hN hmN TN F.attrBase_ValueError.mro F.attrBase_ValueError.noGetattr ?_ | wp_step))
 refine xh hC hN hmN T TN hx hc ?_
 repeat (any_goals (first | assumption | wp_step))
theorem xn {Q:Option Value->Shared->Prop}(hC:h.get? C=some (excClassObj nm q C N bs bm hdct sn sub ab col dd k0 k1 k2 k3 k5 newId))(hN:h.Ns N mN)(hmN:∀ n∈oZ,mN n=none)(T:OwnTail h jf bm)(TN:jN h jf oZ bm)
  (hx:h.get? a=some o) (hc:o.cls = .ref C) (hq:Q (some (.ref C)) ⟨h,g,d,t+1,os⟩):wpAny (model prog w) A (getAttr? (.ref a) "__class__") Q E ⟨h,g,d,t,os⟩:=by
 unfold getAttr? getAttrBy?
 repeat (any_goals (first | assumption | with_reducible apply BZ hC hN hmN T TN hx hc | wp_step))
end
section
variable {prog:Program}{w:World}{A:Around}{E:Value->Shared->Prop}{h:Heap}{g:Array GenState}{d:Drawn}{t:Nat}{os:OsState}{a:Addr}{o:Obj}
 {nm q:Str}{C N:Addr}{bs bm:List Value}{hdct:Bool}{sn:List Str}{sub:List Value}{ab:Bool}{col:Option Bool}{dd:Option Addr}{k0 k1 k2 k3 k5:Option Value}{newId:String}{mN:Str->Option Value}
 {nm' q':Str}{C' N':Addr}{bs' bm':List Value}{hdct':Bool}{sn':List Str}{sub':List Value}{ab':Bool}{col':Option Bool}{dd':Option Addr}{j0 j1 j2 j3 j5:Option Value}{newId':String}
theorem ux:isSubtype (.type "type") (.type "type")=pure true:=by rw[isSubtype_type];kernel_rfl
theorem pQ {dep:Int}{tk:Tok}{Q:Fin->Shared->Prop}(hC:h.get? C=some (excClassObj nm q C N bs bm hdct sn sub ab col dd k0 k1 k2 k3 k5 newId))(hN:h.Ns N mN)(hmN:∀ n∈oZ,mN n=none)(T:OwnTail h jf bm)(TN:jN h jf oZ bm)
  (hD:h.get? C'=some (excClassObj nm' q' C' N' bs' bm' hdct' sn' sub' ab' col' dd' j0 j1 j2 j3 j5 newId')) (hx:h.get? a=some o) (hc:o.cls = .ref C)
  (hq:∀ t',Q (.done (.ret (.bool ((Value.ref C::bm).contains (.ref C'))))) ⟨h,g,d,t',os⟩) :
  wpAny (model prog w) A (Builtin.«isinstance.nested» ⟨[.ref a,.ref C',.int dep tk],[]⟩) Q E ⟨h,g,d,t,os⟩:=by
 have f:=ux;by_cases e:(Value.ref C==Value.ref C')=true
 ·have hq1:=hq t;have:(Value.ref C::bm).contains (.ref C')=true:=by
   rw[fw,gj.mp e];simp
  rw[this] at hq1
  repeat (any_goals (first | assumption | (with_reducible refine wpAny_loadPart_at hx ?_;rw[hc]) | wp_step))
 ·have e':(Value.ref C==Value.ref C')=false:=by simpa using e
  cases hb:(Value.ref C::bm).contains (.ref C') with
  |true =>
   have hq1:=hq t;rw[hb] at hq1
   repeat (any_goals (first | assumption | (with_reducible refine wpAny_loadPart_at hx ?_;rw[hc]) | with_reducible refine wpAny_loadPart_at hD ?_ | (with_reducible refine wpAny_isSubtype_exc hC ?_;rw[hb]) | wp_step))
  |false =>
   have hq1:=hq (t+1);rw[hb] at hq1
   repeat (any_goals (first | assumption | (with_reducible refine wpAny_loadPart_at hx ?_;rw[hc]) | with_reducible refine wpAny_loadPart_at hD ?_ | with_reducible refine wpAny_loadPart_at hC ?_ | (with_reducible refine wpAny_isSubtype_exc hC ?_;rw[hb]) | with_reducible apply xn hC hN hmN T TN hx hc | wp_step))
theorem yz {dep:Int}{tk:Tok}{Q:Fin->Shared->Prop}(hC:h.get? C=some (excClassObj nm q C N bs bm hdct sn sub ab col dd k0 k1 k2 k3 k5 newId))(T:OwnTail h jf bm)
  (hx:h.get? a=some o) (hc:o.cls = .ref C) (hq:Q (.done (.ret (.bool true))) ⟨h,g,d,t,os⟩) :
  wpAny (model prog w) A (Builtin.«isinstance.nested» ⟨[.ref a,.type "ValueError",.int dep tk],[]⟩) Q E ⟨h,g,d,t,os⟩:=by
 have hb:(Value.ref C::bm).contains (.type "ValueError")=true:=by rw[fw,T.hasType (show jf.contains (.type "ValueError")=true by decide)];rfl
 have hty:typeOf (.type "ValueError")=pure (.type "type"):=by kernel_rfl
 have e':(Value.ref C==Value.type "ValueError")=false:=rfl
 repeat (any_goals (first | assumption | (with_reducible refine wpAny_loadPart_at hx ?_;rw[hc]) | (with_reducible refine wpAny_isSubtype_exc hC ?_;rw[hb]) | wp_step))
end
noncomputable def tJ (K:PySem.W.Frag):List Value->Bool
 |[]=>jf == []
 |v::r=>(v::r)==jf || match v with
  |.ref A=>(match K.lookup A with
   |some ⟨_,_,.cls cd,_⟩=>PySem.W.nsOkIn K cd.ns&&oZ.all (fun n=>PySem.W.nsIn K cd.ns n==some none)&&tJ K r
   |_=>false)
  |_=>false
noncomputable def lR (K:PySem.W.Frag)(C:Addr):Bool:=PySem.W.excIn K C jf "ValueError.__new__" && (match K.lookup C with
 |some ⟨_,_,.cls cd,_⟩=>PySem.W.nsOkIn K cd.ns&&oZ.all (fun n=>PySem.W.nsIn K cd.ns n==some none)&&tJ K cd.mro.tail
 |_=>false)
noncomputable def eH (K:PySem.W.Frag)(C D:Addr):Bool:=match K.lookup C with
 |some ⟨_,_,.cls cd,_⟩=>cd.mro.contains (.ref D)
 |_=>false
theorem pF {K:PySem.W.Frag}{h:Heap}(kin:K.In h):∀{l:List Value},tJ K l=true->jN h jf oZ l
 | [],e=>by
  have e:(jf==([]:List Value))=true:=e;rw[<-gj.mp e];exact .base
 | v::r,e=>by
  unfold tJ at e;rcases Bool.or_eq_true_iff.mp e with q | q
  ·rw[gj.mp q];exact .base
  ·split at q
   ·split at q
    ·rename_i ho;simp only[Bool.and_eq_true,List.all_eq_true,beq_iff_eq] at q;exact .own (kin _ _ ho) (.of_isNs (PySem.W.isNs_of_in kin q.1.1)) (fun n hn=>PySem.W.nsMap_none_of_in kin q.1.1 (q.1.2 n hn)) (pF kin q.2)
    ·cases q
   ·cases q
structure Hh (K:PySem.W.Frag)(h:Heap)(C:Addr)(bm:List Value):Prop where
 ex:∃ nm q N bs hdct sn sub ab col dd k0 k1 k2 k3 k5 mN,h.get? C=some (excClassObj nm q C N bs bm hdct sn sub ab col dd k0 k1 k2 k3 k5 "ValueError.__new__")/\h.Ns N mN/\∀ n∈oZ,mN n=none
 tail:OwnTail h jf bm
 tn:jN h jf oZ bm
 over:∀ D,eH K C D=(Value.ref C::bm).contains (.ref D)
theorem Al {K:PySem.W.Frag}{h:Heap}{C:Addr}(kin:K.In h)(q:lR K C=true):∃ bm,Hh K h C bm:=by
 unfold lR at q;rw[ag] at q;obtain⟨bm,N,nm,qn,bs,hdct,sn,sub,ab,col,dd,k0,k1,k2,k3,k5,mN,hC,hN,hni,T⟩:=kH kin q.1;have q2:=q.2;split at q2
 ·rename_i c0 d0 cd sl ho;simp only[Bool.and_eq_true,List.all_eq_true,beq_iff_eq] at q2;obtain⟨⟨e1,e2⟩,e3⟩:=q2;have hk:=kin _ _ ho;rw[hC] at hk;have hcd:cd.mro = .ref C::bm/\cd.ns=N:=by
   injection hk with hk
   injection hk with _ _ hdat _
   injection hdat with hdat
   subst hdat;exact⟨rfl,rfl⟩
  refine⟨bm,⟨nm,qn,N,bs,hdct,sn,sub,ab,col,dd,k0,k1,k2,k3,k5,mN,hC,hN,fun n hn=>PySem.W.ns_none_of kin hN (by rw[<-hcd.2];exact e2 n hn)⟩,T,?_,fun D=>?_⟩
  ·rw[hcd.1] at e3;exact pF kin e3
  ·unfold eH;rw[ho];show cd.mro.contains (.ref D)=_;rw[hcd.1]
 ·cases q2
noncomputable def mI (K:PySem.W.Frag)(D:Addr):Bool:=match K.lookup D with
 |some ⟨.type "type",_,.cls cd,sl⟩=>(match cd.mro,sl.toList with
  | .ref C'::_,[_,_,_,_,some (.builtin _),_]=>C'==D && !cd.hasDel
  |_,_=>false)
 |_=>false
theorem pI {K:PySem.W.Frag}{h:Heap}{D:Addr}(kin:K.In h)(q:mI K D=true) :
  ∃ bm N nm qn bs hdct sn sub ab col dd k0 k1 k2 k3 k5 newId,h.get? D=some (excClassObj nm qn D N bs bm hdct sn sub ab col dd k0 k1 k2 k3 k5 newId):=by
 unfold mI at q;split at q
 ·rename_i dd cd sl ho;split at q
  ·rename_i C' bm k0 k1 k2 k3 n k5 hm hs;simp only[Bool.and_eq_true,beq_iff_eq,Bool.not_eq_true'] at q;obtain⟨rfl,hdel⟩:=q;obtain⟨nm,bs,mro,ns,qn,hd,sn,sub,ab,col,del⟩:=cd;dsimp only at hm hdel;subst hm hdel;have hsl:sl = #[k0,k1,k2,k3,some (.builtin n),k5]:=by
    obtain⟨l⟩:=sl;simp only at hs;rw[hs]
   subst hsl;exact⟨bm,ns,nm,qn,bs,hd,sn,sub,ab,col,dd,k0,k1,k2,k3,k5,n,kin _ _ ho⟩
  ·cases q
 ·cases q
def Dp (K:PySem.W.Frag)(C:Addr):Prop:=∀{h:Heap},K.In h->∃ bm,Hh K h C bm
theorem D0 {K:PySem.W.Frag}{C:Addr}(q:lR K C=true):Dp K C:=fun kin=>Al kin q
section
variable {prog:Program}{w:World}{A:Around}{E:Value->Shared->Prop}{K:PySem.W.Frag}
theorem Aj {s:Shared}{a C D:Addr}{o:Obj}{Q:Value->Shared->Prop}(kin:K.In s.heap)(qC:Dp K C)(qD:mI K D=true)(hx:s.heap.get? a=some o)(hc:o.cls = .ref C)(hq:∀ t',Q (.bool (eH K C D)) { s with toks:=t' }) :
  wpAny (model prog w) A (call (.builtin "isinstance") [.ref a,.ref D]) Q E s:=by
 obtain⟨bm,FC⟩:=qC kin;obtain⟨nm,q,N,bs,hdct,sn,sub,ab,col,dd,k0,k1,k2,k3,k5,mN,hC,hN,hmN⟩:=FC.ex;obtain⟨bm',N',nm',q',bs',hdct',sn',sub',ab',col',dd',j0,j1,j2,j3,j5,nI,hD⟩:=pI kin qD;obtain⟨h,g,d,t,os⟩:=s;refine call_isinstance_of (pQ hC hN hmN FC.tail FC.tn hD hx hc fun t'=>?_) (by intro e;cases e);rw[<-FC.over D];exact hq t'
theorem z5 {s:Shared}{a C:Addr}{o:Obj}{Q:Value->Shared->Prop}(kin:K.In s.heap)(qC:Dp K C)(hx:s.heap.get? a=some o)(hc:o.cls = .ref C)(hq:Q (.bool true) s) :
  wpAny (model prog w) A (call (.builtin "isinstance") [.ref a,.type "ValueError"]) Q E s:=by
 obtain⟨bm,FC⟩:=qC kin;obtain⟨nm,q,N,bs,hdct,sn,sub,ab,col,dd,k0,k1,k2,k3,k5,mN,hC,hN,hmN⟩:=FC.ex;obtain⟨h,g,d,t,os⟩:=s;exact call_isinstance_of (yz hC FC.tail hx hc hq) (by intro e;cases e)
theorem yX {a C D:Addr}{o:Obj}(qC:Dp K C)(qD:mI K D=true)(hc:o.cls = .ref C):Answers (fun s=>K.In s.heap/\s.heap.get? a=some o) (.ref a) (.ref D) (eH K C D):=by
 intro dep tk prog w A R s hs;obtain⟨⟨kin,hx⟩,hq⟩:=hs;obtain⟨bm,FC⟩:=qC kin;obtain⟨nm,q,N,bs,hdct,sn,sub,ab,col,dd,k0,k1,k2,k3,k5,mN,hC,hN,hmN⟩:=FC.ex;obtain⟨bm',N',nm',q',bs',hdct',sn',sub',ab',col',dd',j0,j1,j2,j3,j5,nI,hD⟩:=pI kin qD;obtain⟨h,g,d,t,os⟩:=s;refine pQ hC hN hmN FC.tail FC.tn hD hx hc fun t'=>?_
 rw[<-FC.over D];exact hq t'
theorem ua {a C:Addr}{o:Obj}(qC:Dp K C)(hc:o.cls = .ref C):∀{Ds:List Addr},(∀ D∈Ds,mI K D=true)->AnswersAll (fun s=>K.In s.heap/\s.heap.get? a=some o) (.ref a) (Ds.map Value.ref) (Ds.map (eH K C))
 |[],_=>trivial
 |D::Ds,h=>⟨yX qC (h D au) hc,ua qC hc fun x hx=>h x (ah _ hx)⟩
theorem Ac {s:Shared}{a C tp:Addr}{o ot:Obj}{n:Nat}{Ds:List Addr}{Q:Value->Shared->Prop}(kin:K.In s.heap)(qC:Dp K C)(qD:∀ D∈Ds,mI K D=true)(hx:s.heap.get? a=some o)(hc:o.cls = .ref C)
  (ht:s.heap.get? tp=some ot) (htc:ot.cls = .type "tuple") (htd:ot.data = .seq (Ds.map Value.ref).toArray n) (hq:∀ t',Q (.bool ((Ds.map (eH K C)).any id)) { s with toks:=t' }) :
  wpAny (model prog w) A (call (.builtin "isinstance") [.ref a,.ref tp]) Q E s:=by
 refine call_isinstance_of ?_ (by intro e;cases e);obtain⟨h,g,d,t,os⟩:=s;have hT2:(⟨h,g,d,t,os⟩:Shared).TypeIs (.ref tp) "tuple":=⟨_,ht,htc⟩;have f1:=F.isi_sub_tuple;have ne:(Value.ref C==Value.ref tp)=false:=by
  rw[beq_eq_false_iff_ne];intro e;cases e;obtain⟨bm,FC⟩:=qC kin;obtain⟨nm,q,N,bs,hdct,sn,sub,ab,col,dd,k0,k1,k2,k3,k5,mN,hC,hN,hmN⟩:=FC.ex;rw[ht] at hC;cases hC;cases htd
 repeat (any_goals (first | assumption | (with_reducible refine wpAny_loadPart_at hx ?_;rw[hc]) | with_reducible refine wpAny_seqItems ht htd ?_ | wp_step))
 refine wpAny_arrayLoop ?_;simp only[Option.getD_some,List.toList_toArray];refine isinstance_items (dep:=0) (P:=fun s=>K.In s.heap/\s.heap.get? a=some o) (fun s tk h=>h) (Ds.map Value.ref) (Ds.map (eH K C)) _ _ (ua qC hc qD) ⟨kin,hx⟩ fun tk'=>?_
 cases hv:(Ds.map (eH K C)).any id with
 |true =>
  simp only[if_true]
  repeat (any_goals (first | assumption | wp_step))
  exact hv ▸ hq tk'
 |false =>
  simp only[Bool.false_eq_true,if_false]
  repeat (any_goals (first | assumption | wp_step))
  exact hv ▸ hq tk'
end
section
variable {X:Cx}{pins:List (Addr×Obj)}{σ:L2.St}{H:Hp}{s:Shared}{D:Ends}{k:Nat}{f:Addr}{fd:FuncData}{ps:List Str}{sp:Sp}{dvs:List V}{ds:List Value}{W:Value->Hp->Prop}
theorem wq {e:Expr}{pos:Pos}{Q:VK}(I:Inv X pins σ H s)(h:wpAny (model X.prog X.w) X.A (eval e X.env) (EP X pins σ Q) (k7 X pins σ W) s)(hq:∀ v H',Q v H'->D.nx σ H')(hs:swapsWith e none pos.line X.env=pure false:=by rfl) :
  wpAny (model X.prog X.w) X.A (execs [.Expr e pos] X.env) (SP X pins D) (k7 X pins σ W) s:=by
 refine wpAny_execs_cons (wpAny_mono (Q:=SP X pins D) (wpAny_Expr_any (wpAny_mono h (fun v s1 ⟨x,H1,I1,r1,q1⟩=>⟨σ,H1,I1,hq x H1 q1⟩) fun _ _ z=>z) I.quiet hs) (fun f s1 q=>?_) fun _ _ z=>z);cases f with
 |next=>exact wpAny_execs_nil q
 |ret v=>exact q
 |brk=>exact q
 |cont=>exact q
end
section
variable {X:Cx}{a C:Addr}{o:Obj}
def y0 (K:PySem.W.Frag)(a C:Addr):List V->Hp->VK->Prop:=fun xs H Q =>
 (∃ D,xs=[.ref a,.ref D]/\mI K D=true/\Q (.bl (eH K C D)) H)\/(xs=[.ref a,.ty "ValueError"]/\Q (.bl true) H) \/
  ∃(p:Addr) (Ds:List Addr),xs=[.ref a,.ref p]/\H p=some (.tup (Ds.map V.ref))/\(∀ D∈Ds,mI K D=true)/\Q (.bl ((Ds.map (eH K C)).any id)) H
theorem m5:∀{Ds:List Addr}{us:List Value},aN (Ds.map V.ref) us->us=Ds.map Value.ref
 |[],_,.nil=>rfl
 | D::Ds,_,.cons r v=>by
  rw[m5 v];have r:_=Value.ref D:=r;rw[r];rfl
end
def Df.Bd (d:Df):Prop:=∀(kV doc pm:Value) (an:Option Addr) (cdv ct:Value) (us:List Value),us.length=d.ps.length->bindArgs (PySem.W.fnOf d.nm d.nm (cD d.st) (aY d.st) (aE d.st) .none kV doc pm an cdv ct) ⟨us,[]⟩=pure (d.ps.zip us)
def Df.OkX (p:Pg)(fo:List Str)(d:Df):Prop:=d.Ok p\/(d.Bd/\d.nm∈fo)
theorem Df.OkX.bd {p:Pg}{fo:List Str}{d:Df}(h:d.OkX p fo):d.Bd:=by
 rcases h with h | h
 ·exact h.bd
 ·exact h.1
theorem fK {p:Pg}{d:Df}{n:Nat}(h:d.okB p n=true):bU d.N d.ps (aE d.st):=by
 unfold Df.okB at h;simp only[Bool.and_eq_true,decide_eq_true_eq,Bool.not_eq_true',List.all_eq_true] at h;obtain⟨⟨⟨⟨⟨⟨h1,h2⟩,h3⟩,h4⟩,h5⟩,h6⟩,h7⟩:=h;exact⟨h1,h2,h3,h4,h5,fun x hx=>jD (h6 x hx),h7⟩
section
variable {p:Pg}{P:Program}{w:World}{K:Frag}{mg:Str->Option Value}{base:Heap}
def sD (p:Pg)(P:Program)(w:World)(K:Frag)(mg:Str->Option Value)(base:Heap)(n:Nat):Prop:=∀(i:Nat) (d:Df),p.dfs[i]? = some d->∀ f fd,L2.kM K d.nm d.nm d.st f fd->ja P w K mg base tU n f fd d.ps (uE K d.ps.length (p.run n i))
def oX (p:Pg)(fo:List Str)(P:Program)(w:World)(K:Frag)(mg:Str->Option Value)(base:Heap):Prop:=∀(n i:Nat) (d:Df),p.dfs[i]? = some d->d.nm∈fo->sD p P w K mg base n->∀ f fd,L2.kM K d.nm d.nm d.st f fd->ja P w K mg base tU (n+1) f fd d.ps (uE K d.ps.length (p.run (n+1) i))
theorem sU {fo:List Str}(hp:∀ d∈p.dfs,d.OkX p fo)(hi:p.In K mg)(hh:uQ w K)(hf:oX p fo P w K mg base):∀ n,sD p P w K mg base n:=by
 intro n
 induction n with
 |zero =>
  intro i d hd f fd F;refine⟨fun vs H Q E h=>iI h,fun A outer s H args us vs Q E hr he hb hv hs=>?_⟩;obtain⟨ds,G,_,_,r,h,_⟩:=hs;cases h
 |succ n ih =>
  intro i d hd f fd F;rcases hp d (List.mem_of_getElem? hd) with ⟨⟨m,hb⟩,S,_⟩ | ⟨_,hn⟩
  rotate_left
  ·exact hf n i d hd hn ih f fd F
  refine F.ok S (fun vs H Q E h=>iI h) fun cdv A outer s H vs Q E hr hs=>?_
  have C:mE (eC tU P w K mg base d.N d.nm (aE d.st) f cdv A outer s H E).nox (p.sc d) ⟨p.run n,p.gl,p.fuel⟩:=by
   refine⟨⟨rfl,S.nd,fun x h=>qt h,fun x h=>⟨jD h,.inl rfl⟩,fun x h=>tf h,fun x h=>h,?_,rfl,fun j x hj=>?_,fun j x hj=>hi.gl j x hj,fun x h=>hi.blt x h⟩,rfl,S.kind,PassesOwn.never⟩
   ·exact⟨ik (Nat.add_le_add_left (by decide:40<=64) _) hr.units,hh⟩
   ·obtain⟨e,he,hx⟩:=ng hj;obtain⟨f',fd',F',M'⟩:=hi.fn j e he;have B':=F'.binds (hp e (List.mem_of_getElem? he)).bd;subst hx;refine⟨f',fd',e.ps,n,ih j e he f' fd' F',hr,M',F'.kp,B',fun ds r h=>?_⟩;have h:p.run n j ds = .ok r:=h;cases n with
    |zero=>cases h
    |succ n =>
     unfold Pg.run Pc.run at h;have:p.fns[j]? = some ⟨e.ps.length,e.N.length,e.body⟩:=by unfold Pg.fns;rw[List.getElem?_map,he];rfl
     rw[this] at h;dsimp only at h;by_cases hl:ds.length=e.ps.length
     ·exact hl
     ·rw[if_neg hl] at h;cases h
  refine⟨_,(Fi C m).2 _ _ hb,?_⟩;obtain⟨ds,G,hl,rs,r,hrun,k⟩:=hs;unfold Pg.run Pc.run at hrun;have:p.fns[i]? = some ⟨d.ps.length,d.N.length,d.body⟩:=by unfold Pg.fns;rw[List.getElem?_map,hd];rfl
  rw[this] at hrun;dsimp only at hrun;rw[if_pos hl] at hrun;have hN:ds.length<=d.N.length:=by
   rw[hl,<-S.pre,bp];exact Nat.min_le_right _ _
  obtain⟨F0,re,hF⟩:=entry rs hN;refine⟨fun a=>H a≠none,fun a=>H a=none\/a∈G,aP ds d.N.length,F0,re,fun j a ha=>.inr (hF j a ha),fun a h=>.inl (Classical.not_not.mp h),?_⟩;show post K _ _ _ _ H _ (aD ⟨p.run n,p.gl,p.fuel⟩ d.body (aP ds d.N.length));have hrun:(match aD ⟨p.run n,p.gl,p.fuel⟩ d.body (aP ds d.N.length) with
   |.rt d fr=>Rs.ok (d,fr)
   |.nx _=>.ok (.non,true)
   |.xc e _=>.exc e
   |_=>.bad) = .ok r:=hrun
  cases hq:aD ⟨p.run n,p.gl,p.fuel⟩ d.body (aP ds d.N.length) with
  |rt dd fr =>
   rw[hq] at hrun;cases hrun;intro v H' G' rp ev z fz;exact k v H' G' (pH ev) rp z fun hf=>let ⟨a,b⟩:=fz hf;⟨a,fun x hx=>⟨Classical.not_not.mp (b x hx).1,(b x hx).2⟩⟩
  |nx e =>
   rw[hq] at hrun;cases hrun;intro σ' H' F' af;exact k .non H' [] (pH af.ev) .non (fun _ h=>(nomatch h)) fun _=>⟨cn,fun _ h=>(nomatch h)⟩
  |bk e=>rw[hq] at hrun;cases hrun
  |ct e=>rw[hq] at hrun;cases hrun
  |xc e e'=>rw[hq] at hrun;cases hrun
  |bad=>rw[hq] at hrun;cases hrun
end
theorem G6 {l:PySem.W.OpenLaw}{q:Program}{loose:List Str}{XP:(Str->Option Value)->Heap->Prop}{YP:World->Heap->Prop}{d:DefRec}{K:Params->PySem.W.Frag}(p:Pg)(fo:List Str)(n i:Nat)(x:Str)(e:Df)(hn:l.most=some 63)(hdf:d.params.defaults=[])
  (hY:∀(w:World) (h:Heap),YP w h->(K w.params).In h) (hd:p.dfs[i]? = some e) (hps:e.ps=[x]) (hnm:d.name=e.nm) (hr:eM n callerA) (ok:qx (Df.OkX p fo) p.dfs) (st:∀ w:World,qQ p (K w.params)) (hL:∀ w:World,noL (K w.params)=true) (hH:∀ w:World,uQ w (K w.params))
  (hf:∀(w:World) (mg:Str->Option Value) (h base:Heap),(K w.params).In h->h.Ns mainGlobals mg->p.In (K w.params) mg->oX p fo l.prog w (K w.params) mg base)
  (law:∀ ns:List Int,ns.length<=63->∃ fr,p.run n i [.lst (ns.map D.int)] = .ok (.bl true,fr)) :
  PySem.W.WalkO q loose XP YP l.row.toRowW d [] (fun f vs=>PySem.call f vs):=by
 refine L2.zO (n:=63) (k:=n) (x:=x) (CX:=fun _=>tU) (sp:=fun w=>uE (K w.params) 1 (p.run n i)) hn (by decide) hdf hr hY (fun w mg fa h KX G hm=>?_) (fun w H a ns hl _ hS=>?_) fun _ _ _ _ _ z=>z
 ·have I:=(st w).isin KX G;obtain⟨f,fd,F,m⟩:=I.fn i e hd;rw[hnm,m] at hm;obtain rfl:f=fa:=by cases hm;rfl
  refine⟨fd,fun s u=>?_,fun base kb nb=>?_⟩
  ·obtain⟨oc,od,kV,doc,pm,an,cdv,ct,osl,rfl,lk,hcd⟩:=F.ex;have:=(cK ok e (List.mem_of_getElem? hd)).bd kV doc pm an cdv ct [u] (by rw[hps];rfl);rw[hps] at this;exact .of_eq this
  ·have:=sU (P:=l.prog) (w:=w) (base:=base) (cK ok) I (hH w) (hf w mg h base KX G I) n i e hd f fd F;rw[hps] at this;exact this
 ·obtain⟨fr,h⟩:=law ns hl;exact Dk (hL w) hS h
def xV (K:Frag)(x:Str)(C:Addr):Prop:=PySem.W.nsIn K mainGlobals x=some (some (.ref C))/\lR K C=true
theorem jm {K:Frag}{C:Addr}(h:lR K C=true):PySem.W.excIn K C jf "ValueError.__new__" = true:=by
 unfold lR at h;rw[ag] at h;exact h.1
theorem vN {K:Frag}{C D:Addr}(h:lR K C=true)(o:eH K C D=true):w9 K C D:=by
 unfold eH at o;split at o
 ·rename_i c0 dd cd sl hl;exact⟨_,_,cd,c0,dd,sl,jm h,hl,o⟩
 ·cases o
structure RoomH (k:Nat)(A:Around):Prop where
 hd:A.handled=none
 dp:A.depth+3*k+6<recursionLimit
 un:A.units+16*k+203<cLine
structure bX (P:Program)(w:World)(K:PySem.W.Frag)(mg:Str->Option Value)(base:Heap)(CX:pd)(RP:Around->Prop)(f:Addr)(fd:FuncData)(ps:List Str)(sp:Sp):Prop where
 len:∀ vs H Q E,sp vs H Q E->vs.length=ps.length
 run:∀(A:Around) (outer:List Env) (s:Shared) (H:Hp) (args:PySem.Args) (us:List Value) (vs:List V) (Q:VK) (E:XK),RP A->qp P w K mg base A outer s H->BindsTo s fd args (ps.zip us)->aN vs us->sp vs H Q E ->
  codeAny (model P w) A (.call (.ref f) args) (CR CX outer P w H s Q E) s
section
variable {P:Program}{w:World}{K:PySem.W.Frag}{mg:Str->Option Value}{base:Heap}{f:Addr}{fd:FuncData}{ps N:List Str}{sp:Sp}
theorem bX.plain {CX:pd}{k:Nat}(F:bX P w K mg base CX (eM k) f fd ps sp):ja P w K mg base CX k f fd ps sp:=⟨F.len,F.run⟩
theorem j4 {CX:pd}{RP:Around->Prop}{x qual:Str}{st:Stmt}(F:L2.kM K x qual st f fd)(S:bU N ps (aE st))(hRP:∀ A,RP A->A.handled=none/\A.depth<recursionLimit)(len:∀ vs H Q E,sp vs H Q E->vs.length=ps.length)
  (hbody:∀(cdv:Value) (A:Around) (outer:List Env) (s:Shared) (H:Hp) (vs:List V) (Q:VK) (E:XK),RP A->sp vs H Q E ->
   ∃ t,jI (eC CX P w K mg base N qual (aE st) f cdv A outer s H E) (aY st) t/\t { nx:=fun _ H'=>Q .non H',rt:=Q } (L2.start N vs) H):bX P w K mg base CX RP f fd ps sp:=by
 obtain⟨oc,od,kV,doc,pm,an,cdv,ct,osl,rfl,lk,hcd⟩:=F.ex;refine⟨len,fun A outer s H args us vs Q E hr e0 hb r hsp=>?_⟩;have hl:=len _ _ _ _ hsp;have KX:K.In s.heap:=e0.mod.kin.keeps fun b o e=>(e0.bs b o e).1
 have lim:s.heap.NoLimit:=e0.mod.nolimit.keeps fun b o e=>(e0.bs b o e).1
 have hkind:∀ y∈ps.zip us,(aE st).names.lookup y.1=some .local\/((aE st).names.lookup y.1=some .cell/\((cellsFrom (s.heap.objs.size+1) (aE st).names []).lookup y.1).isSome=true):=fun ⟨n,v⟩ hy=>by
  rcases S.par n (i4 hy).1 with q | q
  ·exact .inl q
  ·exact .inr ⟨q,iy _ _ _ (.inl q)⟩
 refine codeAny_call_function (hRP A hr).2 (KX _ _ lk) rfl S.co S.gen rfl (PySem.W.codeRec_of KX hcd) (hb _ _ _ _ ?_);refine wpAny_newFunctionEnv_cells S.kind hkind fun env he s1 x=>?_
 subst he;refine⟨lim.keeps x.toInCall.keep,codeAny_func ?_⟩;obtain⟨t,ht,hq⟩:=hbody cdv A outer s H vs Q E hr hsp;have I:Inv (eC CX P w K mg base N qual (aE st) f cdv A outer s H E) [] (L2.start N vs) H s1:=mO S (hRP A hr).1 e0 hl r x;refine wpAny_mono (ht [] s1 (L2.start N vs) H _ I hq) (fun fl s' hs=>?_) fun e s' hs=>hs
 have fin:∀{σ':L2.St}{H':Hp}{v:V}{u:Value},Inv (eC CX P w K mg base N qual (aE st) f cdv A outer s H E) [] σ' H' s'->RelV v u->Q v H'->CE outer P w H s Q u s' :=
  fun {σ' H' v u} J rv q=>⟨v,H',J.os,J.bare,J.base,J.hok,rv,q⟩
 cases fl with
 |ret u =>
  obtain⟨v,σ',H',J,rv,q⟩:=hs;exact fin J rv q
 |next =>
  obtain⟨σ',H',J,q⟩:=hs;exact fin (v:=V.non) (u:=Value.none) J rfl q
 |brk =>
  obtain⟨_,_,_,q⟩:=hs;exact False.elim q
 |cont =>
  obtain⟨_,_,_,q⟩:=hs;exact False.elim q
end
section
variable {X:Cx}{pins:List (Addr×Obj)}{σ:L2.St}{H:Hp}{s:Shared}{D:Ends}{RP:Around->Prop}{f:Addr}{fd:FuncData}{ps:List Str}{sp:Sp}{dvs:List V}{ds:List Value}{W:Value->Hp->Prop}
theorem zS {Q:VK}{us:List Value}{vs:List V}(F:bX X.prog X.w X.K X.mg X.base (j8 X.prog X.w) RP f fd ps sp)(hr:RP X.A)(hb:Binds X.K fd ps ds)(hd:aN dvs ds)
  (I:Inv X pins σ H s) (r:aN vs us) (h:sp (vs++dvs) H Q (fun C _ H'=>W C H')):wpAny (model X.prog X.w) X.A (call (.ref f) us) (EP X pins σ Q) (k7 X pins σ W) s:=by
 have r2:aN (vs++dvs) (us++ds):=r.append hd;have hl:(us++ds).length=ps.length:=by rw[<-r2.length];exact F.len _ _ _ _ h
 refine wpAny_call (codeAny_mono (F.run X.A X.stack s H ⟨us,[]⟩ (us++ds) (vs++dvs) Q _ hr I.env0 (hb s us I.kIn hl) r2 h) fun r s' hq=>?_);cases r with
 |error e =>
  have hq:j8 X.prog X.w X.stack H s (fun C _ H'=>W C H') e s':=hq;obtain⟨a,C,a0,H',B,e1,e2,e3,e4,e5,e6⟩:=w8 (X:=X) hq;exact⟨H,s,a,C,a0,H',B,I,e1,e2,e3,e4,e5,e6⟩
 |ok fl =>
  cases fl with
  |ret u=>exact I.after hq
  |next=>exact False.elim hq
  |brk=>exact False.elim hq
  |cont=>exact False.elim hq
theorem uv {x:Str}{p pos:Pos}{e:Expr}{es:List Expr}{t:TA}{Q:VK}(F:bX X.prog X.w X.K X.mg X.base (j8 X.prog X.w) RP f fd ps sp)(hr:RP X.A)(hg:Gl X x)(hm:X.mg x=some (.ref f))(hk:PySem.W.keepIn X.K (.ref f)=true)(hb:Binds X.K fd ps ds)(hd:aN dvs ds)
  (I:Inv X pins σ H s) (ha:PA X.nox (e::es) t) (h:t σ H fun vs H1=>sp (vs++dvs) H1 Q (fun C _ H'=>W C H')) (hdb:(x==("__debug__" : Str))=false:=by decide)
  (he:starEach (e::es) X.env=(false,eval e X.env)::starEach es X.env:=by rfl) (hpl:(backTo pos (starEach es X.env)).any (·.1)=false:=by rfl) :
  wpAny (model X.prog X.w) X.A (eval (.Call (.Name x p) (e::es) [] pos) X.env) (EP X pins σ Q) (k7 X pins σ W) s:=by
 refine wpAny_Call_Name_kw (eV I hg hm ?_ hdb);refine gn (h₀:=X.base) I.ok.mod.kin hk (wpAny_mono (ha pos pins s σ H _ (I.wish _) h) (fun us s1 ⟨vs,H1,I1,r,q⟩=>⟨I1.unwish.kIn,?_⟩) fun _ _ z=>False.elim z) he hpl;exact zS F hr hb hd I1.unwish r q
end
section
variable {X:Cx}{S:Sc}{T:Tb}
end
section
variable {p:Pg}{P:Program}{w:World}{K:Frag}{mg:Str->Option Value}{base:Heap}
theorem qF {fo:List Str}{n:Nat}{CX:pd}{N:List Str}{nm:Str}{sc:Scope}{ps:List Str}{f:Addr}{cdv:Value}{A:Around}{outer:List Env}{s:Shared}{H:Hp}{E:XK}(hp:∀ d∈p.dfs,d.OkX p fo)(hi:p.In K mg)(hh:uQ w K)(ih:sD p P w K mg base n)(S:bU N ps sc)
  (hr:eM n (A.deeper (envOfC nm sc s.heap.objs.size f cdv))):mE (eC CX P w K mg base N nm sc f cdv A outer s H E).nox ⟨N,sc,p.dfs.map (·.nm),p.qL,p.gE⟩ ⟨p.run n,p.gl,p.fuel⟩:=by
 refine⟨⟨rfl,S.nd,fun x h=>qt h,fun x h=>⟨jD h,.inl rfl⟩,fun x h=>tf h,fun x h=>h,?_,rfl,fun j x hj=>?_,fun j x hj=>hi.gl j x hj,fun x h=>hi.blt x h⟩,rfl,S.kind,PassesOwn.never⟩
 ·exact⟨ik (Nat.add_le_add_left (by decide:40<=64) _) hr.units,hh⟩
 ·obtain⟨e,he,hx⟩:=ng hj;obtain⟨f',fd',F',M'⟩:=hi.fn j e he;have B':=F'.binds (hp e (List.mem_of_getElem? he)).bd;subst hx;refine⟨f',fd',e.ps,n,ih j e he f' fd' F',hr,M',F'.kp,B',fun ds r h=>?_⟩;have h:p.run n j ds = .ok r:=h;cases n with
  |zero=>cases h
  |succ n =>
   unfold Pg.run Pc.run at h;have:p.fns[j]? = some ⟨e.ps.length,e.N.length,e.body⟩:=by unfold Pg.fns;rw[List.getElem?_map,he];rfl
   rw[this] at h;dsimp only at h;by_cases hl:ds.length=e.ps.length
   ·exact hl
   ·rw[if_neg hl] at h;cases h
def spR (K:Frag)(n:Nat)(C:Addr)(f:List D->Fl):Sp:=fun vs H Q E=>∃ ds G,ds.length=n/\aG K H ds vs G/\(match f ds with
 |.rt d fr=>∀ v H' G',aI H H'->Rep K H' d v G'->(∀ a∈G',H a=none\/a∈G)->(fr=true->G'.Nodup/\∀ a∈G',H a=none/\∃ vs:ML,H' a=some vs.o)->Q v H'
 |.nx _=>∀ H',aI H H'->E (.ref C) none H'
 |_=>False)
end
section
variable {X:Cx}{pins:List (Addr×Obj)}{σ:L2.St}{H:Hp}{s:Shared}{D:Ends}{W:Value->Hp->Prop}
end
def ko (h:Heap)(e:Addr)(od:Option Addr):Prop:=∃ o,h.get? e=some o/\o.dict=od
theorem l9 (o:Obj)(f):(o.mapFields f).dict=o.dict:=by
 unfold Obj.mapFields;split<;>rfl
section
variable {M:Model}{A:Around}{E:Value->Shared->Prop}{s:Shared}{base:Heap}{env:Env}{outer l:List Env}{L e:Addr}{oe:Obj}{vs:Array Value}{head a0 cls fl:Value}{hadNext:Bool}{od:Option Addr}
theorem CY {Q:Unit->Shared->Prop}(fr:A.frames=some (env::outer))(ff:s.heap.FunFrames base (env::outer))(ef:env.frame=some L)(at_:s.heap.get? e=some oe)(st:base.StaysIn s.heap)(nw:base.get? e=none)(da:oe.data = .fields vs)(sz:1<vs.size)
  (v0:vs[0]? = some a0) (k:∀ h',Heap.NotedW base (env::outer) e oe.cls a0 (rawInt L) s.heap h'->ko h' e oe.dict->Q () { s with heap:=h' }) :
  wpAny M A (do let a <- frameOf env;let pl <- entryPlaceOf L hadNext;let b <- EntryCells.newEntry head a .none (rawInt L) .none pl;setField (.ref e) 1 b) Q E s:=by
 have nofr:e∉(env::outer).filterMap (·.frame):=fun z=>by
  obtain⟨_,o,ho,nf⟩:=ff.mem z;rw[at_] at ho;cases ho;exact nf vs da
 refine wpAny_bind (wpAny_frameOf_fun fr ff ef fun g so=>wpAny_bind (wpAny_entryPlaceOf fun pl hp=>?_));unfold EntryCells.newEntry newFields;refine wpAny_bind (wpAny_newObj_type ?_ (hp.sizeOk5 _ _ _ _ _));have at1:g.get? e=some oe:=(so.2.1 e nofr).trans at_;have st1:base.StaysIn g:=fun b o q=>(so.2.1 b fun z=>by rw[(ff.mem z).1] at q;cases q).trans (st b o q)
 generalize hT:({ cls:=.type "traceback",dict:=none,data:=.fields ([head,.ref L,.none,rawInt L,.none]++(if pl.isEmpty then List.replicate 6 Value.none else pl)).toArray }:Obj)=oT;have frT:oT.isFreed=false:=by subst hT;rfl
 have daT:oT.data = .fields ([head,.ref L,.none,rawInt L,.none]++(if pl.isEmpty then List.replicate 6 Value.none else pl)).toArray:=by subst hT;rfl
 have at2:=Heap.get?_push_of_some oT at1;refine wpAny_setField at2 da sz (k _ ?_ ?_)
 ·have ne:g.objs.size≠e:=Nat.ne_of_gt (Heap.lt_size at1);have da3:=Obj.data_mapFields da (·.setIfInBounds 1 (Value.ref g.objs.size));have at3:=Heap.get?_update_self (Obj.mapFields (·.setIfInBounds 1 (Value.ref g.objs.size))) at2 (Obj.isFreed_of_fields da3);have tb3:=(Heap.get?_update_other (g.push oT) (Obj.mapFields (·.setIfInBounds 1 (Value.ref g.objs.size))) (dk ne)).trans (Heap.get?_push_size g frT);have kp:∀ b o,b≠e->g.get? b=some o->((g.push oT).update e (Obj.mapFields (·.setIfInBounds 1 (Value.ref g.objs.size)))).get? b=some o:=fun b o hb q =>
   (Heap.get?_update_other _ _ (dk hb)).trans (Heap.get?_push_of_some _ q)
  have nrec:∀ b o,s.heap.get? b=some o->(∀ ws,o.data≠.fields ws)->b≠e:=fun b o q nf z=>by
   subst z;rw[at_] at q;cases q;exact nf vs da
  refine⟨fun b o q=>kp b o (fun z=>by rw[z,nw] at q;cases q) (st1 b o q),ff.of_keeps fun b o q nf=>?_,⟨_,_,g.objs.size,_,_,at3,⟨Obj.cls_mapFields _ _,by rw[Array.getElem?_setIfInBounds_ne (by decide)];exact v0⟩,da3,by simp[sz],st1.fresh,ne,tb3,daT,?_⟩,fun b o q nf=>?_⟩
  ·obtain⟨sl,q1⟩:=so.2.2 b o q;exact⟨_,kp b _ (nrec b o q nf) q1,rfl⟩
  ·rcases hp with rfl | ⟨_,_,_,_,_,_,_,rfl⟩<;>simp
  ·obtain⟨sl,q1⟩:=so.2.2 b o q;exact⟨sl,kp b _ (nrec b o q nf) q1⟩
 ·exact⟨_,Heap.get?_update_self _ at2 (Obj.isFreed_of_fields (Obj.data_mapFields da _)),l9 _ _⟩
theorem zX {Q:Unit->Shared->Prop}(st:base.StaysIn s.heap)(ff:s.heap.FunFrames base l)(tr:s.heap.TracedAtW base e cls a0 fl)(dc:ko s.heap e od)
  (k:∀ h',base.StaysIn h'->h'.FunFrames base l->h'.TracedW base e cls a0->(∀ b o,s.heap.get? b=some o->(∀ ws,o.data≠.fields ws)->h'.get? b=some o)->ko h' e od->Q () { s with heap:=h' }) :
  wpAny M A (setFlight (.ref e) none) Q E s:=by
 obtain⟨ob,ws,T,oT,ts,e1,e2,e3,e4,e5,e6,e7,e8,e9⟩:=tr;have z3:3<ts.size:=(Array.getElem?_eq_some_iff.mp e9).1;have ot:∀ b,b≠T->(s.heap.update T (Obj.mapFields (·.setIfInBounds 3 ((none:Option Addr).elim Value.none fun f=>rawInt f)))).get? b=s.heap.get? b:=fun b hb=>Heap.get?_update_other _ _ (dk hb)
 have nrec:∀ b o,s.heap.get? b=some o->(∀ us,o.data≠.fields us)->b≠T:=fun b o q nf z=>by
  subst z;rw[e7] at q;cases q;exact nf ts e8
 unfold setFlight;refine wpAny_bind (wpAny_field e1 e3 e4 ?_);rw[if_pos (show (Value.ref T != Value.none)=true from by simp)];refine wpAny_setField e7 e8 z3 (k _ (fun b o q=>(ot b fun z=>by rw[z,e5] at q;cases q).trans (st b o q)) (ff.of_keeps fun b o q nf=>⟨o,(ot b (nrec b o q nf)).trans q,rfl⟩) ?_ (fun b o q nf=>(ot b (nrec b o q nf)).trans q) ?_)
 ·exact⟨ob,ws,T,_,_,(ot e (Ne.symm e6)).trans e1,e2,e3,e4,e5,e6,Heap.get?_update_self _ e7 (Obj.isFreed_of_fields (Obj.data_mapFields e8 _)),Obj.data_mapFields e8 _,by simp[z3]⟩
 ·obtain⟨o,q1,q2⟩:=dc;exact⟨o,(ot e (dk e6)).trans q1,q2⟩
theorem E7 {Q:Unit->Shared->Prop}(fr:A.frames=some (env::outer))(ef:env.frame=some L)(f:Heap.FlyingW base (env::outer) e cls a0 s.heap)(dc:ko s.heap e od)
  (k:∀ h',Heap.HeldW base (env::outer) e cls a0 L h'->s.heap.UpToSlots h'->ko h' e od->Q () { s with heap:=h' }):wpAny M A (noteFrame (.ref e) env) Q E s:=by
 obtain⟨f1,f2,f3,ob,ws,T,oT,ts,e1,⟨rfl,e2⟩,e3,e4,e5,e6,e7,e8,e9⟩:=f;have hdic:ob.dict=od:=by
  obtain⟨o,q1,q2⟩:=dc;rw[e1] at q1;cases q1;exact q2
 unfold noteFrame;simp only[ef];refine wpAny_bind (wpAny_field e1 e3 e4 ?_);rw[if_pos (show (Value.ref T != Value.none)=true from by simp)];refine wpAny_bind (wpAny_field e7 e8 e9 ?_);rw[if_neg (show ¬ ((Value.none==rawInt L)=true) from by simp[rawInt])];refine wpAny_bind (wpAny_setField e7 e8 (Array.getElem?_eq_some_iff.mp e9).1 ?_);have ot:∀ b,b≠T->(s.heap.update T (Obj.mapFields (·.setIfInBounds 3 Value.none))).get? b=s.heap.get? b:=fun b hb=>Heap.get?_update_other _ _ (dk hb)
 have nrec:∀ b o,s.heap.get? b=some o->(∀ us,o.data≠.fields us)->b≠T:=fun b o q nf z=>by
  subst z;rw[e7] at q;cases q;exact nf ts e8
 refine CY fr (f3.of_keeps fun b o q nf=>⟨o,(ot b (nrec b o q nf)).trans q,rfl⟩) ef ((ot e (dk e6)).trans e1) (fun b o q=>(ot b fun z=>by rw[z,e5] at q;cases q).trans (f1 b o q)) f2 e3 (Array.getElem?_eq_some_iff.mp e4).1 e2 fun h' ⟨n1,n2,n3,n4⟩ d'=>?_
 exact k h' ⟨n1,f2,n2,n3⟩ (fun b o q nf=>n4 b o ((ot b (nrec b o q nf)).trans q) nf) (hdic ▸ d')
theorem onD {Q:Unit->Shared->Prop}(fr:A.frames=some (env::outer))(ef:env.frame=some L)(f:Heap.FlyingW base (env::outer) e cls a0 s.heap)(dc:ko s.heap e od)
  (k:∀ h',Heap.FlyingW base outer e cls a0 h'->s.heap.UpToSlots h'->ko h' e od->Q () { s with heap:=h' }):wpAny M A (leaving env (.ref e)) Q E s:=by
 unfold leaving;refine wpAny_bind (E7 fr ef f dc fun g ⟨n1,n2,n3,n4⟩ u d1=>?_);refine zX (s:={ s with heap:=g }) n1 n3 n4 d1 fun h' k1 k2 k3 k4 k5=>k h' ⟨k1,n2,?_,k3⟩ (u.trans fun b o q nf=>⟨o.slots,k4 b o q nf⟩) k5
 obtain⟨_,_,z⟩:=k2;exact z
end
def Att (x:Str)(h:Heap)(e:Addr)(n:Int):Prop:=∃ dx m u,ko h e (some dx)/\h.Ns dx m/\m x=some (.int n u)
noncomputable def Ba (K:PySem.W.Frag)(ns:List Str):List Value->Bool
 |[]=>jf == []
 |v::r=>(v::r)==jf || match v with
  |.ref A=>(match K.lookup A with
   |some ⟨_,_,.cls cd,_⟩=>PySem.W.nsOkIn K cd.ns&&ns.all (fun n=>PySem.W.nsIn K cd.ns n==some none)&&Ba K ns r
   |_=>false)
  |_=>false
noncomputable def iniC (K:PySem.W.Frag)(C:Addr)(ns:List Str)(fI:Addr):Bool:=match K.lookup C with
 |some ⟨.type "type",_,.cls cd,sl⟩=>(match cd.mro,sl.toList with
  | .ref C'::bm,[_,_,_,_,some (.builtin n),_]=>C'==C&&n == "ValueError.__new__" && !cd.hasDel&&cd.hasDict&&PySem.W.tailIn K jf bm&&Ba K ns bm&&PySem.W.nsOkIn K cd.ns&&ns.all (fun n=>PySem.W.nsIn K cd.ns n==some none)&&PySem.W.nsIn K cd.ns "__init__" == some (some (.ref fI))
  |_,_=>false)
 |_=>false
structure IniF (K:PySem.W.Frag)(h:Heap)(C:Addr)(ns:List Str)(fI:Addr)(bm:List Value):Prop where
 ex:∃ nm q N bs sn sub ab col dd k0 k1 k2 k3 k5 mN,h.get? C=some (excClassObj nm q C N bs bm true sn sub ab col dd k0 k1 k2 k3 k5 "ValueError.__new__")/\h.Ns N mN/\(∀ n∈ns,mN n=none)/\mN "__init__" = some (.ref fI)
 tail:OwnTail h jf bm
 tn:jN h jf ns bm
section
variable {prog:Program}{w:World}{A:Around}{E:Value->Shared->Prop}{h:Heap}{g:Array GenState}{d:Drawn}{t:Nat}{os:OsState}{e:Addr}{oe:Obj}{vs:Array Value}{ns:List Str}
 {nm q:Str}{C N:Addr}{bs bm:List Value}{sn:List Str}{sub:List Value}{ab:Bool}{col:Option Bool}{dd:Option Addr}{k0 k1 k2 k3 k5:Option Value}{newId:String}{mN:Str->Option Value}{x:Str}{v:Value}
end
section
variable {prog:Program}{w:World}{A:Around}{E:Value->Shared->Prop}{h:Heap}{g:Array GenState}{d:Drawn}{t:Nat}{os:OsState}{e t0:Addr}{us:List Value}
 {nm q:Str}{C N fI:Addr}{bs bm:List Value}{hdct:Bool}{sn:List Str}{sub:List Value}{ab:Bool}{col:Option Bool}{dd:Option Addr}{k0 k1 k2 k3 k5:Option Value}{mN:Str->Option Value}
end
noncomputable abbrev ins (x:Str):List Str:=["__getattribute__","__getattr__","__class__","__setattr__",x]
structure Fs (st:Stmt)(S x:Str):Prop where
 ex:∃(c1 c2:Str) (p1 p2 p3 p4 p5 p6 p7 p8 p9 p10 p11 p12 p13 p14:Pos),aY st=[.Expr (.Call (.Attribute (.Name S p1) "__init__" p2) [.Name "self" p3,.JoinedStr [.Constant (.str c1) 0 p4,.FormattedValue (.Name x p5) (-1) none p6,.Constant (.str c2) 0 p7] p8] [] p9) p10,
   .Assign [.Attribute (.Name "self" p11) x p12] (.Name x p13) p14] /\
  (p2.endLine==p9.line)=true/\c1.length<=1000/\c2.length<=1000
 sc:bU ["self",x] ["self",x] (aE st)
 gl:(aE st).names.lookup S=some .globalImplicit
 l1:(aE st).names.lookup ("self" : Str)=some .local
 l2:(aE st).names.lookup x=some .local
 ne:x≠"self"
 db:(S==("__debug__" : Str))=false/\(x==("__debug__" : Str))=false
structure IniK (K:PySem.W.Frag)(mg:Str->Option Value)(S x qual:Str)(C cS fI:Addr)(fd:FuncData)(st:Stmt):Prop where
 hS:mg S=some (.ref cS)
 cls:iniC K C (ins x) fI=true
 keep:PySem.W.keepIn K (.ref C)=true
 ga:PySem.W.specialIn K (.ref cS) "__getattribute__" = some (some (.builtin "type.__getattribute__"))
 rd:PySem.W.readsIn K cS (.type "type")=true
 fc:PySem.W.findCls K (.ref cS) (.type "type") "__init__" = some (.val (.builtin "ValueError.__init__"))
 F:L2.kM K "__init__" qual st fI fd
 ft:(K.lookup fI).any (fun o=>o.cls == .type "function")=true
 bd:Binds K fd ["self",x] []
 s:Fs st S x
 nx:typeLookup (.type "ValueError") x=pure none
theorem log2_small {n:Int}(h:n.natAbs<2 ^ 64):n.natAbs.log2<1920:=by
 by_cases z:n.natAbs=0
 ·rw[z];decide
 ·have:=(Nat.log2_lt z).mpr h;omega
section
variable {P:Program}{w:World}{K:PySem.W.Frag}{mg:Str->Option Value}{base:Heap}{A:Around}{E:Value->Shared->Prop}{s:Shared}{e t0 C cS fI:Addr}{fd:FuncData}{st:Stmt}{S x qual:Str}{n:Int}{u:Tok}
end
section
variable {M:Model}{A:Around}{E:Value->Shared->Prop}{s:Shared}{env:Env}{nm q:Str}{C N:Addr}{bs bm:List Value}{hdct:Bool}{sn:List Str}{sub:List Value}{ab:Bool}{col:Option Bool}{dd:Option Addr}{k0 k1 k2 k3 k5:Option Value}{newId:String}
end
section
variable {X:Cx}
end
inductive Rb where
 | fin (cs:cJ)
 | seq (cs:cJ) (c:Ex) (n:Nat) (r:Rb)
section
variable {X:Cx}{S:Sc}{T:Tb}{W:Nat->Hp->Prop}
end
section
variable {p:Pg}{P:Program}{w:World}{K:Frag}{mg:Str->Option Value}{base:Heap}
end
section
variable {X:Cx}{pins:List (Addr×Obj)}{σ:L2.St}{H:Hp}{s:Shared}{D:Ends}{x:Str}{W:Value->Nat->Hp->Prop}
end
end Pc
end
section
namespace Fl64
noncomputable def dbl (a:Nat):Nat:=if 64<=2*a then (2*a)^^^67 else 2*a
noncomputable def FA:Nat->Nat->Nat->Nat->Nat
 |0,p,_,_=>p
 |n+1,p,d,l=>if l=0 then p else FA n (if l%2=1 then p^^^d else p) (dbl d) (l / 2)
noncomputable def tm (a b:Nat):Nat:=FA 6 0 a b
noncomputable def allB (n:Nat)(f:Nat->Bool):Bool:=match n with
 |0=>true
 |k+1=>f k&&allB k f
end Fl64
end
section
namespace Pc
open PySem
noncomputable abbrev sI (i:Int):Slot:=some (.int i,.own)
noncomputable abbrev sN (i:Nat):Slot:=some (.int (i:Int),.own)
noncomputable def ret (f:Fl):Rs (D×Bool):=match f with
 |.rt d fr=>.ok (d,fr)
 |.nx _=>.ok (.non,true)
 |.xc e _=>.exc e
 |_=>.bad
theorem bO {fns:List Fn}{gl:Nat->D}{fuel n i:Nat}{F:Fn}{ds:List D}(h:fns[i]? = some F)(hl:ds.length=F.ps):Pc.run fns gl fuel (n+1) i ds=ret (aD ⟨Pc.run fns gl fuel n,gl,fuel⟩ F.body (aP ds F.slots)):=by
 unfold Pc.run;rw[h];dsimp only;rw[if_pos hl];rfl
theorem gY {a m:Int}(h0:0<=a)(h1:a<m):∃ n:Nat,a=(n:Int)/\(n:Int)<m:=⟨a.toNat,by omega,by omega⟩
theorem mw {n k:Nat}(h:k<n):iZ n (k:Int)=some k:=by
 unfold iZ;rw[if_pos (by omega),if_pos (by omega),bo]
theorem qh (env:En):lock [] env=env:=by
 unfold lock;have:∀(l:En) (k:Nat),(l.mapIdx fun i (s:Slot)=>match s with
  | some (d,.own)=>if ([]:List Nat).contains i then some (d,.lk) else some (d,.own)
  |s=>s)=l:=fun l k=>by
  rw[List.mapIdx_eq_iff];intro i;cases h:l[i]? with
  |none=>rfl
  |some s =>
   cases s with
   |none=>rfl
   |some p=>obtain⟨d,t⟩:=p;cases t<;>rfl
 exact this env 0
theorem ro (e0 env:En):unlock [] e0 env=env:=by
 unfold unlock;rw[List.mapIdx_eq_iff];intro i;cases h:env[i]? with
 |none=>rfl
 |some s =>
  cases s with
  |none=>rfl
  |some p =>
   obtain⟨d,t⟩:=p;cases t with
   |lk =>
    simp only[Option.map_some];split<;>rfl
   |own=>rfl
   |sh R=>rfl
theorem dW {T:Tb}{t:kD}{it:vG}{b:cJ}{env e:En}{l:List D}(hit:iS T it env = .ok (l,[]))(h:bL t [] (aD T b) l env = .nx e):bM T (.forr t it b) env = .nx e:=by
 rw[bM,hit,aR];dsimp only;rw[qh,h];dsimp only;rw[ro]
end Pc
end
section
namespace Pc
open PySem PySem.Spec PyProof.Rows L2
noncomputable def cJ.app:cJ->cJ->cJ
 |.nil,b=>b
 |.cons s r,b=>.cons s (r.app b)
noncomputable def Rb.ask:Rb->cJ
 |.fin cs=>cs
 |.seq cs c n r=>cs.app (.cons (.ite c (.cons .retN .nil) .nil) r.ask)
structure AskSt (st:Stmt)(a b c t g y:Str):Prop where
 ex:∃(j1 j2:Nat) (q1 q2 q3 p1 p2 p3 p4 p5 p6 p7 p8 h1 h2 h3 h4 h5 r1 r2:Pos),aY st=[.Assign [.Name t q1] (.Constant .none j1 q2) q3,
   .Try [.Assign [.Name t p1] (.Call (.Name g p2) [.Name a p3,.Name b p4,.Name c p5] [] p6) p7] [.ExceptHandler (some (.Name y h1)) none [.Assign [.Name t h2] (.Constant .none j2 h3) h4] h5] [] [] p8,
   .Return (some (.Name t r1)) r2]
 sc:bU [a,b,c,t] [a,b,c] (aE st)
 la:(aE st).names.lookup a=some .local
 lb:(aE st).names.lookup b=some .local
 lc:(aE st).names.lookup c=some .local
 lt:(aE st).names.lookup t=some .local
 lg:(aE st).names.lookup g=some .globalImplicit
 ly:(aE st).names.lookup y=some .globalImplicit
 db:((a==("__debug__" : Str))=false/\(a==("__classdict__" : Str))=false)/\((b==("__debug__" : Str))=false/\(b==("__classdict__" : Str))=false)/\((c==("__debug__" : Str))=false/\(c==("__classdict__" : Str))=false)/\((t==("__debug__" : Str))=false/\(t==("__classdict__" : Str))=false)/\(g==("__debug__" : Str))=false/\(y==("__debug__" : Str))=false
section
variable {P:Program}{w:World}{K:Frag}{mg:Str->Option Value}{base:Heap}
end
section
variable {p:Pg}{P:Program}{w:World}{K:Frag}{mg:Str->Option Value}{base:Heap}
end
section
variable {prog:Program}{w:World}{A:Around}{E:Value->Shared->Prop}{h:Heap}{g:Array GenState}{d:Drawn}{t:Nat}{os:OsState}{a dx:Addr}{o:Obj}{vs:Array Value}{m:Str->Option Value}{x:Str}{v:Value}
 {nm q:Str}{C N:Addr}{bs bm:List Value}{sn:List Str}{sub:List Value}{ab:Bool}{col:Option Bool}{dd:Option Addr}{k0 k1 k2 k3 k5:Option Value}{newId:String}{mN:Str->Option Value}
end
section
variable {X:Cx}{a dx C fI:Addr}{o od:Obj}{x:Str}{k:Nat}
end
section
variable {P:Program}{w:World}{K:PySem.W.Frag}{mg:Str->Option Value}{base:Heap}{f:Addr}{fd:FuncData}{ps N:List Str}{sp:Sp}
end
section
variable {X:Cx}
end
noncomputable def cJ.asgs:cJ->Bool
 |.nil=>true
 | .cons (.asg (.nm _) _ _) r=>r.asgs
 |_=>false
noncomputable def Rb.plain:Rb->Bool
 | .fin (.cons (.ret _) .nil)=>true
 |.fin _=>false
 |.seq cs _ n r=>cs.asgs&&n==0&&r.plain
inductive Rw where
 | nil
 | st (c:St) (r:Rw)
 | ifr (c e:Ex) (r:Rw)
 | lop (t:kD) (it:vG) (b r:Rw)
inductive Rf where
 | fl (f:Fl) | rs (n:Nat)
noncomputable def natD:D->Option Nat
 | .int (.ofNat n)=>if n<2 ^ 64 then some n else none
 |_=>none
noncomputable def CC (t:kD)(R:List Nat)(b:En->Rf):List D->En->Rf
 |[],env=>.fl (.nx env)
 |d::r,env=>match bQ R t d env with
  |none=>.fl .bad
  |some env'=>match b env' with
   | .fl (.nx e)=>CC t R b r e
   | .fl (.ct e)=>CC t R b r e
   | .fl (.bk e)=>.fl (.nx e)
   |x=>x
noncomputable def rsB:Rs (D×Rt)->Rf
 |.ok q=>(match natD q.1 with
  |some n=>.rs n
  |none=>.fl .bad)
 |_=>.fl .bad
noncomputable def unB (R:List Nat)(env:En)(k:En->Rf):Rf->Rf
 | .fl (.nx e)=>k (unlock R env e)
 |x=>x
noncomputable def Gb (T:Tb):Rw->En->Rf
 |.nil,env=>.fl (.nx env)
 |.st c r,env=>match bM T c env with
  |.nx e=>Gb T r e
  |f=>.fl f
 |.ifr c e r,env=>match ev T c env with
  |.ok p=>(match truth p.1 with
   |some true=>rsB (ev T e env)
   |some false=>Gb T r env
   |none=>.fl .bad)
  |_=>.fl .bad
 |.lop t it b r,env=>match iS T it env with
  |.ok p=>unB p.2 env (Gb T r) (CC t p.2 (Gb T b) p.1 (lock p.2 env))
  |_=>.fl .bad
noncomputable def E2 (K:Frag)(P Z:Addr->Prop)(env:En)(F:Nat->List Addr)(H:Hp)(D:Ends)(W:Nat->Hp->Prop):Rf->Prop
 |.fl f=>post K P Z env F H D f
 |.rs n=>∀ H',jH P H H'->W n H'
def tB (K:Frag)(T:Tb)(W:Nat->Hp->Prop)(r:Rw):TS:=fun D σ H=>∃ P Z env F,RE K P env σ H F/\(∀ i,∀ a∈F i,Z a)/\(∀ a,¬ P a->Z a)/\E2 K P Z env F H D W (Gb T r env)
noncomputable def GS (y:Str):List Stmt->Option Expr
 | [.Raise (some (.Call (.Name y' _) [e] [] _)) none _]=>if y'=y then some e else none
 |_=>none
noncomputable def hasR (y:Str)(b:List Stmt):Bool:=b.any fun s=>match s with
 |.If _ a _ _=>(GS y a).isSome
 |_=>false
noncomputable def cB (m:Nat)(S:Sc)(y:Str):Nat->List Stmt->Option Rw
 |0,_=>none
 |_+1,[]=>some .nil
 |n+1,st::rest=>(cB m S y n rest).bind fun r=>match st with
  |.If e a b _=>(match GS y a with
   |some x=>if b.isEmpty then (cE m S e).bind fun c=>(cQ (cE m S) [x]).bind fun cs=>(match cs with
    |.cons ce .nil=>some (.ifr c ce r)
    |_=>none) else none
   |none=>(cS m S st).map fun c=>.st c r)
  |.For tg iter b oe _=>if hasR y b then (if oe.isEmpty&&fD iter then (rM S tg).bind fun t=>(Ef S (cE m S) (isTup tg) iter).bind fun it=>(cB m S y n b).map fun cb=>.lop t it cb r else none) else (cS m S st).map fun c=>.st c r
  |_=>(cS m S st).map fun c=>.st c r
section
variable {X:Cx}{S:Sc}{T:Tb}{W:Nat->Hp->Prop}
end
section
variable {p:Pg}{P:Program}{w:World}{K:Frag}{mg:Str->Option Value}{base:Heap}
end
noncomputable def ckE (e:Ex):Ex:=.ite (.cmp .Lt e (.cst (.int (18446744073709551616)))) (.ite (.cmp .Lt e (.cst (.int (0)))) (.neg (.cst .non)) e) (.neg (.cst .non))
noncomputable def rsS (h e:Ex):cJ:=.cons (.expr (ckE e)) (.cons (.ret h) .nil)
noncomputable def Rw.inl (h:Ex->Ex):Rw->cJ
 |.nil=>.nil
 |.st c r=>.cons c (r.inl h)
 |.ifr c e r=>.cons (.ite c (rsS (h e) e) .nil) (r.inl h)
 |.lop _ _ _ _=>.nil
noncomputable def St.pl:St->Bool
 | .asg (.nm _) _ _=>true
 |.mut _ _ _ _=>true
 |_=>false
section
variable {T:Tb}{Rn:Nat->D×Bool->Prop}{h:Ex->Ex}
end
section
variable {x:Str}{P:Program}{w:World}{K:PySem.W.Frag}{mg:Str->Option Value}{base:Heap}{N:List Str}{qual:Str}{scope:Scope}{f:Addr}{cd:Value}{A:Around}{outer:List Env}{s:Shared}{H:Hp}{E:XK}{pins:List (Addr×Obj)}{σ:L2.St}
end
section
variable {x:Str}{P:Program}{w:World}{K:PySem.W.Frag}{mg:Str->Option Value}{base:Heap}{N:List Str}{qual:Str}{scope:Scope}{f:Addr}{cd:Value}{A:Around}{outer:List Env}{s:Shared}{H:Hp}{E:XK}
theorem dZ:fG (j8 P w) (eC (j8 P w) P w K mg base N qual scope f cd A outer s H E) (fun C _ H'=>E C none H'):=by
 intro pins σ H1 s1 e s' I hq;obtain⟨a,C,a0,H',B,fe,e2,e3,fy,fl,hE⟩:=w8 (X:=eC (j8 P w) P w K mg base N qual scope f cd A outer s H E) hq;subst fe;obtain⟨ob,hob⟩:∃ ob,s'.heap.get? a=some ob:=by
  obtain⟨_,_,_,ob,_,_,_,_,h1,_⟩:=fl;exact⟨ob,h1⟩
 show wpAny (model P w) (A.deeper (envOfC qual scope s.heap.objs.size f cd)) (leaving (envOfC qual scope s.heap.objs.size f cd) (.ref a)) _ _ _;refine onD (base:=B) (outer:=outer) (od:=ob.dict) I.ok.frames rfl fl ⟨ob,hob,rfl⟩ fun h' fl' uts dc=>?_
 have fy':=fy.next I fl'.1 (gA fl) uts;have J:=fy'.inv (g':=s'.gens) (d':=s'.drawn) (t':=s'.toks) I e3;have bs:Un (fL outer) [] H H' s.heap h':=J.base;refine⟨a,C,a0,H',B,rfl,e2.trans I.os,e3,bs,J.hok,fl',fun b o e=>?_,hE⟩;rcases fy'.bf b o e with z | z | ⟨z1,z2⟩
 ·have z:b∈s.heap.objs.size::fL outer:=z;rcases g9.mp z with z | z
  ·refine .inr (.inr ⟨?_,fy'.frFree I b (show b∈s.heap.objs.size::fL outer by rw[z];exact au)⟩);cases q:s.heap.get? b with
   |none=>rfl
   |some o0=>exact absurd z (bq (Heap.lt_size q))
  ·exact .inl z
 ·exact .inr (.inl z)
 ·refine .inr (.inr ⟨?_,z2⟩);cases q:s.heap.get? b with
  |none=>rfl
  |some o0 =>
   obtain⟨o1,q1⟩:=I.base.there b o0 q (by simp[eC]);rw[z1] at q1;cases q1
end
section
variable {X:Cx}{CX:pd}{RP:Around->Prop}{f:Addr}{fd:FuncData}{ps:List Str}{sp:Sp}{E:XK}
theorem tN {pins:List (Addr×Obj)}{σ:L2.St}{H:Hp}{s:Shared}{Q:VK}{us:List Value}{vs:List V}(F:bX X.prog X.w X.K X.mg X.base CX RP f fd ps sp)(hr:RP X.A)(hb:Binds X.K fd ps [])(hx:fG CX X E)(I:Inv X pins σ H s)(r:aN vs us)(h:sp vs H Q E) :
  wpAny (model X.prog X.w) X.A (call (.ref f) us) (EP X pins σ Q) X.xe s:=by
 have hl:us.length=ps.length:=by rw[<-r.length];exact F.len _ _ _ _ h
 have hb':=hb s us I.kIn (by rw[bh];exact hl);rw[bh] at hb';refine wpAny_call (codeAny_mono (F.run X.A X.stack s H ⟨us,[]⟩ us vs Q E hr I.env0 hb' r h) fun r s' hq=>?_);cases r with
 |error e=>exact hx pins σ H s e s' I hq
 |ok fl =>
  cases fl with
  |ret u=>exact I.after hq
  |next=>exact False.elim hq
  |brk=>exact False.elim hq
  |cont=>exact False.elim hq
theorem mf {y:Str}{p pos:Pos}{e:Expr}{es:List Expr}{t:TA}(F:bX X.prog X.w X.K X.mg X.base CX RP f fd ps sp)(hr:RP X.A)(hg:Gl X y)(hm:X.mg y=some (.ref f))(hk:PySem.W.keepIn X.K (.ref f)=true)(hb:Binds X.K fd ps [])(hx:fG CX X E)(ha:PA X (e::es) t)
  (hdb:(y==("__debug__" : Str))=false:=by decide) (he:starEach (e::es) X.env=(false,eval e X.env)::starEach es X.env:=by rfl) (hpl:(backTo pos (starEach es X.env)).any (·.1)=false:=by rfl) :
  PE X (.Call (.Name y p) (e::es) [] pos) (fun σ H Q=>t σ H fun vs H1=>sp vs H1 Q E):=by
 intro pins s σ H Q I h;refine wpAny_Call_Name_kw (eV I hg hm ?_ hdb);refine gn (h₀:=X.base) I.ok.mod.kin hk (cH (ha pos pins s σ H _ I h) fun us s1 ⟨vs,H1,I1,r,q⟩=>⟨I1.kIn,?_⟩) he hpl;exact tN F hr hb hx I1 r q
end
section
variable {p:Pg}{P:Program}{w:World}{K:Frag}{mg:Str->Option Value}{base:Heap}
end
section
variable {P:Program}{w:World}{K:Frag}{mg:Str->Option Value}{base:Heap}
end
section
variable {X:Cx}{CX:pd}{RP:Around->Prop}{f C:Addr}{fd:FuncData}{ps:List Str}{sp:Sp}{E:XK}{x m:Str}{p pos apos:Pos}{e o:Expr}{es:List Expr}{ta:TE}{t:TA}
def DF (C:Addr)(m:Str)(sp:Sp)(E:XK)(ta:TE)(t:TA):TE:=fun σ H Q=>ta σ H fun x H1=>∃ a dx fs,x = .ref a/\H1 a=some (.ins C dx fs)/\fs.lookup m=none /\
 t σ H1 fun vs H2=>sp (x::vs) H2 Q E
theorem hU {pl:Sem Bool}(he:PE X o ta)(c:L2.xV X.K C)(hm:Cy X.K C m f)(F:bX X.prog X.w X.K X.mg X.base CX RP f fd ps sp)(hr:RP X.A)(hb:Binds X.K fd ps [])(hx:fG CX X E)(ha:PA X (e::es) t)
  (hst:starEach (e::es) X.env=(false,eval e X.env)::starEach es X.env:=by rfl) (hpl:(backTo pos (starEach es X.env)).any (·.1)=false:=by rfl)
  (ht:eval (.Call (.Attribute o m apos) (e::es) [] pos) X.env=(do
   let ov <- eval o X.env
   standAt apos.atName
   let (f,first) <- holding [ov] (getMethod ov m pl)
   callWith pos f first (backTo pos (starEach (e::es) X.env)) (backToKw pos (keywordEach [] X.env))):=by rfl) :
  PE X (.Call (.Attribute o m apos) (e::es) [] pos) (DF C m sp E ta t):=by
 intro pins s σ H Q I h;refine PySem.W.methodCall_KW (pl:=pl) (cH (he pins s σ H _ I h) fun u s1 ⟨x,H1,I1,rx,a,dx,fs,ex,ea,l,q⟩=>?_) ht;subst ex;obtain rfl:u=Value.ref a:=rx;refine rf I1 ea c hm l ?_;refine gn (first:=[.ref a]) (h₀:=X.base) I.ok.mod.kin hm.kp (cH (ha pos pins s1 σ H1 _ I1 q) fun us s2 ⟨vs,H2,I2,r,q2⟩=>⟨I2.kIn,?_⟩) hst hpl;exact tN (us:=.ref a::us) (vs:=.ref a::vs) F hr hb hx I2 (.cons rfl r) q2
theorem uJ {pins:List (Addr×Obj)}{σ:L2.St}{H:Hp}{s:Shared}{Q:VK}{us:List Value}{vs:List V}(M:Mk X.K C f)(F:bX X.prog X.w X.K X.mg X.base CX RP f fd ps sp)(hr:∀ us,RP (X.A.under (.builtin "type.__call__" ⟨.ref C::us,[]⟩))) (hb:Binds X.K fd ps [])
  (hx:fG CX X E) (I:Inv X pins σ H s) (r:aN vs us)
  (h:∀ x dx,H x=none->H dx=none->dx≠x->sp (.ref x::vs) (upd (upd H dx (.own x)) x (.ins C dx [])) (fun v H2=>v = .non/\Q (.ref x) H2) E) :
  wpAny (model X.prog X.w) X.A (call (.ref C) us) (EP X pins σ Q) X.xe s:=by
 have hq:=h (s.heap.objs.size+1) s.heap.objs.size (I.hok.fresh (Nat.le_succ _)) (I.hok.fresh (aw _)) (bq (fi _));have I2:=Inv.made (C:=C) I;have r2:aN (V.ref (s.heap.objs.size+1)::vs) (Value.ref (s.heap.objs.size+1)::us):=.cons rfl r;have hl:(Value.ref (s.heap.objs.size+1)::us).length=ps.length:=by
  have e:=r2.length;rw[F.len _ _ _ _ hq] at e;exact e.symm
 have hb':=hb _ (Value.ref (s.heap.objs.size+1)::us) I2.kIn (by rw[bh];exact hl);rw[bh] at hb';refine wpAny_call (yd (f:=f) I.kIn M.makes M.init (gj.mp M.fn) (codeAny_mono (F.run _ X.stack _ _ ⟨Value.ref (s.heap.objs.size+1)::us,[]⟩ (Value.ref (s.heap.objs.size+1)::us) _ _ E (hr us)
  (I2.env0.make C us []) hb' r2 hq) fun r s' hq'=>?_))
 cases r with
 |error e=>exact hx pins σ _ _ e s' I2 hq'
 |ok fl =>
  cases fl with
  |ret u =>
   obtain⟨v,H',I3,rv,ev,q3⟩:=I2.after hq';subst ev;exact⟨rv,⟨V.ref (s.heap.objs.size+1),H',I3,rfl,q3⟩⟩
  |next=>exact False.elim hq'
  |brk=>exact False.elim hq'
  |cont=>exact False.elim hq'
def DY (C:Addr)(sp:Sp)(E:XK)(t:TA):TE:=fun σ H Q=>t σ H fun vs H1=>∀ x dx,H1 x=none->H1 dx=none->dx≠x ->
 sp (.ref x::vs) (upd (upd H1 dx (.own x)) x (.ins C dx [])) (fun v H2=>v = .non/\Q (.ref x) H2) E
theorem xo (M:Mk X.K C f)(F:bX X.prog X.w X.K X.mg X.base CX RP f fd ps sp)(hr:∀ us,RP (X.A.under (.builtin "type.__call__" ⟨.ref C::us,[]⟩))) (hg:Gl X x) (hm:X.mg x=some (.ref C)) (hb:Binds X.K fd ps []) (hx:fG CX X E)
  (ha:PA X (e::es) t) (hdb:(x==("__debug__" : Str))=false:=by decide) (he:starEach (e::es) X.env=(false,eval e X.env)::starEach es X.env:=by rfl) (hpl:(backTo pos (starEach es X.env)).any (·.1)=false:=by rfl) :
  PE X (.Call (.Name x p) (e::es) [] pos) (DY C sp E t):=by
 intro pins s σ H Q I h;refine wpAny_Call_Name_kw (eV I hg hm ?_ hdb);refine gn (h₀:=X.base) I.ok.mod.kin M.kp (cH (ha pos pins s σ H _ I h) fun us s1 ⟨vs,H1,I1,r,q⟩=>⟨I1.kIn,?_⟩) he hpl;exact uJ M F hr hb hx I1 r q
theorem rC:dY X (.type "str") (fun xs H Q=>∃ i:Int,xs=[.int i]/\i.natAbs<2 ^ 64/\Q (.str (Str.ofString (toString i))) H):=by
 intro pins s σ H xs us Q I r h;obtain⟨i,rfl,hi,q⟩:=h;obtain⟨u,rfl,⟨t,rfl⟩⟩:=r.one;exact PySem.P.str_of_int (log2_small hi) ⟨.str _,H,I.tok _,⟨_,rfl⟩,q⟩
theorem wz:yN X "str.zfill" (fun x xs H Q=>∃ z i,x = .str z/\xs=[.int i]/\PadOk i=true/\Q (.str (Txt.zfill z i)) H):=by
 intro pins s σ H x xs v us Q I rx r h;obtain⟨z,i,rfl,rfl,hp,q⟩:=h;obtain⟨t,rfl⟩:=rx;obtain⟨u,rfl,⟨t',rfl⟩⟩:=r.one;exact SC.zfill hp fun t' k=>⟨.str _,H,I.tok _,⟨_,rfl⟩,q⟩
end
end Pc
end
section
namespace Pc
open PySem
noncomputable abbrev sq (M:List (List D)):D:=.lst (M.map D.lst)
noncomputable def okC:D->Bool
 |.int _=>true
 |.non=>true
 |_=>false
structure Sqr (n:Nat)(M:List (List D)):Prop where
 len:M.length=n
 row:∀ r∈M,r.length=n
 cell:∀ r∈M,∀ d∈r,okC d=true
theorem lB {f:D->Rs (Option (D×Rt))}{g:D->D×Rt}:∀{l:List D},(∀ d∈l,f d = .ok (some (g d)))->iA f l = .ok (l.map g)
 |[],_=>rfl
 | d::l,h=>by
  simp only[List.map_cons,iA];rw[h d au,lB fun j hj=>h j (ah _ hj)];rfl
theorem zv {T:Tb}{own:Nat}{pick:List Nat}{t:kD}{it:vG}{e:Ex}{env:En}{l:List D}{R:List Nat}{g:D->D×Rt}(hit:iS T it env = .ok (l,R))(hl:l.length<=lim)(hg:∀ d∈l,gQ (bQ [] t d (eR env own pick)) (Ej T .none) (ev T e) = .ok (some (g d)))(hf:∀ d∈l,((g d).1.flat || iP (g d).2)=true) :
  ev T (.comp own pick t it .none e) env = .ok (.lst (l.map fun d=>(g d).1),.mv []):=by
 rw[ev,hit,aA,lB hg,aA];dsimp only;rw[if_pos hl,if_pos]
 ·rw[gg];rfl
 ·rw[List.all_map,cy];exact hf
theorem gH {T:Tb}{e:Ex}{env:En}{d:D}(h:ev T e env = .ok (d,.mv [])):ret (aD T (.cons (.ret e) .nil) env) = .ok (d,true):=by
 rw[aD,bM,h,aR];rfl
theorem mj {n:Nat}(h:n<=1000):n<=lim:=bg h (by decide)
theorem uc (T:Tb)(env:En)(e:Ex)(j:Int)(r:Rt)(he:ev T e env = .ok (.int j,r))(h1:gL j=true):iS T (.rng1 e) env = .ok (aZ 0 1 j.toNat,[]):=by
 rw[iS,he,aA];show (if gL j=true then Rs.ok (aZ 0 1 j.toNat,[]) else .bad)=_;rw[if_pos h1]
theorem vH {n:Nat}(h:n<=1000):gL (n:Int)=true:=by
 unfold gL;exact ba ⟨Int.le_trans (by decide) (Int.natCast_nonneg n),Int.lt_of_le_of_lt (Int.ofNat_le.mpr h) (by decide)⟩
def bY (s:Slot):Prop:=s=none\/(∃ d,s=some (d,.own))\/(∃ d,s=some (d,.sh []))\/∃ d,s=some (d,.lk)
def Tame (env:En):Prop:=∀ s∈env,bY s
theorem cN:bY none:=.inl rfl
theorem aC (d:D):bY (some (d,.own)):=.inr (.inl ⟨d,rfl⟩)
theorem kJ (d:D):bY (some (d,.sh [])):=.inr (.inr (.inl ⟨d,rfl⟩))
theorem Tame.nil:Tame []:=fun _ h=>(nomatch h)
theorem Tame.cons {s:Slot}{e:En}(h:bY s)(t:Tame e):Tame (s::e):=fun x hx=>by
 rcases g9.mp hx with rfl | hx
 ·exact h
 ·exact t x hx
theorem pO {env:En}(h:Tame env)(i:Nat)(d:D)(t:Tg):put env i d t=env.set i (some (d,t)):=by
 unfold put;have:env.map (fun (s:Slot)=>s.map fun (p:D×Tg)=>(p.1,p.2.drop i))=env:=by
  conv=>rhs;rw[<-List.map_id env]
  refine List.map_congr_left fun s hs=>?_
  rcases h s hs with rfl | ⟨d,rfl⟩ | ⟨d,rfl⟩ | ⟨d,rfl⟩<;>rfl
 rw[this]
theorem vc {env:En}(h:Tame env)(R:List Nat):kill R env=env.mapIdx fun i s=>if R.contains i then none else s:=by
 unfold kill;apply List.ext_getElem?;intro i;rw[List.getElem?_mapIdx,List.getElem?_mapIdx];cases q:env[i]? with
 |none=>rfl
 |some s =>
  rcases h s (List.mem_of_getElem? q) with rfl | ⟨d,rfl⟩ | ⟨d,rfl⟩ | ⟨d,rfl⟩
  ·simp
  ·simp[iR]
  ·simp[iR]
  ·simp[iR]
theorem qu {env:En}(h:Tame env)(x:Nat)(s:Slot):(kill [x] env).set x s=env.set x s:=by
 rw[vc h];apply List.ext_getElem?;intro i;by_cases hi:i=x
 ·subst hi;by_cases hl:i<env.length
  ·rw[List.getElem?_set_self (by simpa using hl),List.getElem?_set_self hl]
  ·rw[List.getElem?_eq_none (by simp;omega),List.getElem?_eq_none (by simp;omega)]
 ·rw[List.getElem?_set_ne (dk hi),List.getElem?_set_ne (dk hi),List.getElem?_mapIdx];cases q:env[i]? with
  |none=>rfl
  |some s=>simp[hi]
section
variable {T:Tb}{env:En}
theorem bJ {i:Nat}{e:Ex}{d:D}(ht:Tame env)(hi:i<env.length)(h:ev T e env = .ok (d,.mv [])):bM T (.asg (.nm i) e false) env = .nx (env.set i (some (d,.own))):=by
 rw[bM,h,aR];show (if i<env.length then Fl.nx (put env i d .own) else .bad)=_;rw[if_pos hi,pO ht]
theorem eT {i:Nat}{d:D}(ht:Tame env)(hi:i<env.length):bQ [] (.nm i) d env=some (env.set i (some (d,dB d []))):=by
 show (if i<env.length then some (put env i d (dB d [])) else none)=_;rw[if_pos hi,pO ht]
theorem eY {i:Nat}{d:D}(h:env[i]? = some (some (d,.own)))(hf:d.flat=false):ev T (.var i) env = .ok (d,.mv [i]):=by
 rw[ev,h];dsimp only;rw[hf];rfl
theorem aF {i:Nat}{d:D}{t:Tg}(h:env[i]? = some (some (d,t)))(hf:d.flat=true):ev T (.var i) env = .ok (d,.mv []):=by
 rw[ev,h];dsimp only;rw[if_pos hf]
theorem wo (xs:List D)(d:D):uW .append xs [d]=some (xs ++ [d]):=rfl
theorem Fc (xs ys:List D):uW .extend xs [.lst ys]=if D.flats ys then some (xs++ys) else none:=rfl
theorem oY {x:Nat}{e:Ex}{xs:List D}{d:D}(ht:Tame env)(hx:env[x]? = some (some (.lst xs,.own)))(h:ev T e env = .ok (d,.mv []))(hl:xs.length+1<=lim):bM T (.mut x .none .append (.cons e .nil)) env = .nx (env.set x (some (.lst (xs ++ [d]),.own))):=by
 have ho:ownAt env x=some (.lst xs):=by unfold ownAt;rw[hx]
 have hs:aV T (.cons e .nil) env = .ok [(d,.mv [])]:=by
  rw[aV,h,aA];rfl
 rw[bM,ho];simp only[jQ,aR,D.at1,hs,List.map_cons,List.map_nil,wo,aT,Rt.roots,List.flatten_cons,List.flatten_nil,List.append_nil,List.contains_nil,Bool.false_eq_true,if_false,qi.copies,gS,eF,Option.map_some];have:(xs ++ [d]).length<=lim:=by rw[aj];exact hl
 simp only[List.nodup_nil,decide_true,iH,List.all_nil,Bool.not_false,Bool.and_self,this,if_true,D.set1,Bool.true_and];rw[qu ht]
end
end Pc
end
section
namespace Pc
end Pc
namespace Pc.Sm
open PySem Pc
noncomputable def b6:cJ:=(.cons (.ret (.bin .Mod (.bin .Mult (.bin .Add (.bin .Add (.var 0) (.bin .Mult (.var 1) (.var 1))) (.cst (.int (1)))) (.var 2)) (.cst (.int (2305843009213693951)))))
  .nil)
noncomputable def e7:Ex:=.comp 1 [] (.nm 0) (.seq (.sl (.var 0) .none (.some (.cst (.int (63)))))) .none (.bin .Mod (.var 0) (.cst (.int (1000003))))
noncomputable def b7:cJ:=(.cons (.ret (.call 6 (.cons (.blt .sum (.cons e7 .nil)) (.cons (.bin .Mod (.blt .len (.cons (.var 0) .nil)) (.cst (.int (64)))) (.cons (.var 1) .nil)))))
  .nil)
noncomputable def b8:cJ:=(.cons (.ret (.ix (.lst (.cons (.cst (.int (15))) (.cons (.cst (.int (15))) (.cons (.cst (.int (15))) (.cons (.cst (.int (19))) (.cons (.cst (.int (15))) (.cons (.cst (.int (15))) (.cons (.cst (.int (23))) (.cons (.cst (.int (15))) (.cons (.cst (.int (19))) (.cons (.cst (.int (15))) (.cons (.cst (.int (27))) (.cons (.cst (.int (15))) (.cons (.cst (.int (15))) (.cons (.cst (.int (19))) (.cons (.cst (.int (15))) (.cons (.cst (.int (31))) .nil))))))))))))))))) (.bin .Mod (.var 0) (.cst (.int (16))))))
  .nil)
noncomputable def b9c:cJ:=(.cons (.asg (.nm 1) (.bin .Mod (.bin .Mult (.bin .Add (.var 1) (.var 5)) (.cst (.int (40692)))) (.cst (.int (2147483399)))) false)
  (.cons (.mut 4 .none .append (.cons (.ix (.lst (.cons (.cst (.int (0))) (.cons (.cst (.int (1))) (.cons (.cst (.int (0))) (.cons (.cst (.int (1))) (.cons (.cst .non) .nil)))))) (.bin .Mod (.bin .FloorDiv (.var 1) (.cst (.int (7)))) (.cst (.int (5))))) .nil))
  .nil))
noncomputable def s9:St:=.mut 2 .none .append (.cons (.var 4) .nil)
noncomputable def b9r:cJ:=(.cons (.asg (.nm 4) (.lst .nil) false)
  (.cons (.forr (.nm 5) (.rng1 (.var 0)) b9c)
  (.cons s9
  .nil)))
noncomputable def b9:cJ:=(.cons (.asg (.nm 2) (.lst .nil) false)
  (.cons (.forr (.nm 3) (.rng1 (.var 0)) b9r)
  (.cons (.ret (.var 2))
  .nil)))
theorem uB (p:D×Rt):List.map (fun x:D×Rt=>x.1) [p]=[p.1]:=rfl
theorem map2 (p q:D×Rt):List.map (fun x:D×Rt=>x.1) [p,q]=[p.1,q.1]:=rfl
theorem fB {T:Tb}{f:Nat}{e1:Ex}{env:En}{d1 r:D}{R1:Rt}(h1:ev T e1 env = .ok (d1,R1))(h:T.cl f [d1] = .ok (r,true)):ev T (.call f (.cons e1 .nil)) env = .ok (r,.mv []):=by
 have:aV T (.cons e1 .nil) env = .ok [(d1,R1)]:=by
  rw[aV,h1,aA];rfl
 rw[ev,this,aA,uB,h,aA];rfl
theorem iF {T:Tb}{f:Nat}{e1 e2:Ex}{env:En}{d1 d2 r:D}{R1 R2:Rt}(h1:ev T e1 env = .ok (d1,R1))(h2:ev T e2 env = .ok (d2,R2))(h:T.cl f [d1,d2] = .ok (r,true)):ev T (.call f (.cons e1 (.cons e2 .nil))) env = .ok (r,.mv []):=by
 have:aV T (.cons e1 (.cons e2 .nil)) env = .ok [(d1,R1),(d2,R2)]:=by
  rw[aV,h1,aA,aV,h2,aA];rfl
 rw[ev,this,aA,map2,h,aA];rfl
noncomputable def e8:Ex:=(.lst (.cons (.cst (.int (15))) (.cons (.cst (.int (15))) (.cons (.cst (.int (15))) (.cons (.cst (.int (19))) (.cons (.cst (.int (15))) (.cons (.cst (.int (15))) (.cons (.cst (.int (23))) (.cons (.cst (.int (15))) (.cons (.cst (.int (19))) (.cons (.cst (.int (15))) (.cons (.cst (.int (27))) (.cons (.cst (.int (15))) (.cons (.cst (.int (15))) (.cons (.cst (.int (19))) (.cons (.cst (.int (15))) (.cons (.cst (.int (31))) .nil)))))))))))))))))
theorem sum_ints:∀(l:List Int) (a:Int),rS a (l.map D.int)=some (a+l.sum)
 |[],a=>by simp[rS]
 | x::r,a=>by
  rw[ay,rS,sum_ints r,List.sum_cons];congr 1;omega
end Pc.Sm
end
section
namespace Fl64
def Gr (l:List Nat):Prop:=∀ g∈l,g<64
noncomputable def hor (x w:Nat)(l:List Nat):Nat:=l.foldl (fun w g=>tm w x^^^g) w
noncomputable abbrev wth (x:Nat)(l:List Nat):Nat:=hor x 0 l
noncomputable def pw (x:Nat):Nat->Nat
 |0=>1
 |n+1=>tm (pw x n) x
noncomputable def mulR (f:Nat)(l:List Nat):List Nat:=l.map fun g=>tm f g
noncomputable def AF (c:Nat):List Nat:=(List.range' 1 c).map (pw 2)
noncomputable def Bw (l:List Nat)(p:Nat):List Nat->List Nat
 |[]=>l
 |g::r=>Bw (l.set p (l.getD p 0^^^g)) (p+1) r
noncomputable def yl (l:List Nat)(k:Nat):List Nat->List Nat->List Nat
 |[],_=>l
 |g::a,b=>yl (Bw l k (mulR g b)) (k+1) a b
noncomputable def Fq (a b:List Nat):List Nat:=yl (List.replicate (a.length+b.length - 1) 0) 0 a b
noncomputable def rowN (r:List Nat):List Nat->List Nat
 |[]=>r
 |n::ns=>rowN (Fq r [1,n]) ns
def isC (l:List Nat)(c:Nat):Prop:=∀ x∈AF c,wth x l=0
noncomputable instance (l:List Nat) (c:Nat):Decidable (isC l c):=by unfold isC;infer_instance
end Fl64
end
section
namespace Pc.Gr
open PySem Pc Pc.Sm
noncomputable abbrev gD (gs:List Nat):List D:=gs.map fun (g:Nat)=>D.int (g:Int)
noncomputable abbrev sG (gs:List Nat):Slot:=some (.lst (gD gs),.sh [])
noncomputable abbrev oG (gs:List Nat):Slot:=some (.lst (gD gs),.own)
theorem jo:∀(m a:Nat),aZ (a:Int) 1 m=(List.range' a m).map fun (k:Nat)=>D.int (k:Int)
 |0,a=>rfl
 | m+1,a=>by
  rw[aZ,List.range'_succ,ay,<-jo m (a+1)];congr 2
structure CE (d:List Nat)(c:Nat)(D l:List Nat)(e:En):Prop where
 te:Tame e
 len:e.length=8
 h0:e[0]? = some (sG d)
 h2:e[2]? = some (oG D)
 h3:e[3]? = some (oG l)
end Pc.Gr
end
section
namespace Fl64
end Fl64
namespace Pc.Lw
open PySem Pc Pc.Sm Pc.Gr
def vw (T:Tb)(mx:Nat):Prop:=∀ c k:Int,∃ v:Int,0<=v/\T.cl mx [.int c,.int k] = .ok (.int v,true)
def isF (gs:List Nat)(k m:Nat):Prop:=∀ x∈(List.range' (k+1) m).map (Fl64.pw 2),Fl64.wth x gs=0
noncomputable instance (gs:List Nat) (k m:Nat):Decidable (isF gs k m):=by unfold isF;infer_instance
end Pc.Lw
end
section
namespace Fl64
noncomputable def sm:List (Nat×Nat)->Nat->Nat
 |[],_=>0
 |p::r,j=>tm p.1 (pw p.2 j)^^^sm r j
end Fl64
end
section
namespace Pc.Lw
open PySem Pc Pc.Sm Pc.Gr
noncomputable abbrev cp (i:Nat):Ex:=.blt .list (.cons (.var i) .nil)
theorem aH {T:Tb}{env:En}(d:D):ev T (.cst d) env = .ok (d,.mv []):=by rw[ev]
theorem cM {T:Tb}{env:En}{a b:Ex}{x y:Int}{R R':Rt}(h:ev T a env = .ok (.int x,R))(h':ev T b env = .ok (.int y,R')):ev T (.bin .Add a b) env = .ok (.int (x+y),.mv []):=by
 rw[ev,h,aA,h',aA];rfl
theorem cP {T:Tb}{env:En}{a b:Ex}{x y:Int}{R R':Rt}(hy:0<y)(h:ev T a env = .ok (.int x,R))(h':ev T b env = .ok (.int y,R')):ev T (.bin .Mod a b) env = .ok (.int (x%y),.mv []):=by
 rw[ev,h,aA,h',aA,jt];have:Pc.binI .Mod x y=some (x%y):=by
  show (if 0<y then some (x%y) else none)=_;rw[if_pos hy]
 rw[this];rfl
theorem cR {T:Tb}{env:En}{a b:Ex}{x y:Int}{R R':Rt}(hy:0<y)(hy':y<1073741824)(h:ev T a env = .ok (.int x,R))(h':ev T b env = .ok (.int y,R')):ev T (.bin .FloorDiv a b) env = .ok (.int (x / y),.mv []):=by
 rw[ev,h,aA,h',aA,jt];have:Pc.binI .FloorDiv x y=some (x / y):=by
  show (if 0<y/\y<1073741824 then some (x / y) else none)=_;rw[if_pos ⟨hy,hy'⟩]
 rw[this];rfl
end Pc.Lw
end
section
namespace Pc.Nw
open PySem Pc Pc.Sm Pc.Lw Pc.Gr
theorem dE {t:kD}{R:List Nat}{b:En->Fl}{x:D}{l:List D}{e e1 e2:En}(h1:bQ R t x e=some e1)(h2:b e1 = .nx e2):bL t R b (x::l) e=bL t R b l e2:=by
 conv=>lhs;unfold bL
 rw[h1];dsimp only;rw[h2]
theorem Af {T:Tb}{env:En}{e:Ex}{m:Nat}{R:Rt}(h:ev T e env = .ok (.int (m:Int),R))(hm:m<=1000):iS T (.rng1 e) env = .ok (aZ ((0:Nat):Int) 1 m,[]):=by
 rw[uc _ _ _ _ _ h (vH hm),bo];rfl
theorem qK (k m:Nat):aZ (k:Int) 1 (m+1) = .int (k:Int)::aZ ((k+1:Nat):Int) 1 m:=by
 rw[aZ,show (k:Int)+1=((k+1:Nat):Int) by omega]
theorem eJ (n:Nat):∀ a:Nat,aZ (a:Int) 1 n=(List.range n).map fun (k:Nat)=>D.int ((a+k:Nat):Int):=by
 induction n with
 |zero=>intro a;rfl
 |succ n ih =>
  intro a;rw[qK,ih,i3,ay,gg];congr 1;refine List.map_congr_left fun k _=>?_
  show D.int ((a+1+k:Nat):Int)=D.int ((a+(k+1):Nat):Int);rw[show a+1+k=a+(k+1) by omega]
theorem tw {T:Tb}{env:En}{e:Ex}{xs:List D}{R:Rt}(h:ev T e env = .ok (.lst xs,R)):ev T (.blt .len (.cons e .nil)) env = .ok (.int (xs.length:Int),.mv []):=by
 rw[ev,aV,aV,h,aA,aA,aA,uB];show (fE (some (D.int (xs.length:Int)))).bind _=_;rw[bP,aA,iL]
theorem ql {T:Tb}{f:Nat}{e1 e2 e3:Ex}{env:En}{d1 d2 d3 r:D}{R1 R2 R3:Rt}(h1:ev T e1 env = .ok (d1,R1))(h2:ev T e2 env = .ok (d2,R2))(h3:ev T e3 env = .ok (d3,R3))(h:T.cl f [d1,d2,d3] = .ok (r,true)):ev T (.call f (.cons e1 (.cons e2 (.cons e3 .nil)))) env = .ok (r,.mv []):=by
 rw[ev,aV,aV,aV,aV,h1,aA,h2,aA,h3,aA,aA,aA,aA,aA];show (T.cl f [d1,d2,d3]).bind _=_;rw[h];rfl
section
variable {T:Tb}{env:En}
theorem lq {a b:Ex}{x y:Nat}{R R':Rt}(h:ev T a env = .ok (.int (x:Int),R))(h':ev T b env = .ok (.int (y:Int),R')):ev T (.cmp .Eq a b) env = .ok (.bl (decide (x=y)),.mv []):=by
 rw[ev,h,aA,h',aA];have:kz .Eq (.int (x:Int)) (.int (y:Int))=some (decide (x=y)):=by
  show some ((x:Int)==(y:Int))=_;congr 1;rw[Bool.eq_iff_iff,gj,dh];omega
 rw[this];rfl
theorem Cv {a b:Ex}{x y:Nat}{R R':Rt}(h:ev T a env = .ok (.int (x:Int),R))(h':ev T b env = .ok (.int (y:Int),R')):ev T (.cmp .Lt a b) env = .ok (.bl (decide (x<y)),.mv []):=by
 rw[ev,h,aA,h',aA];have:kz .Lt (.int (x:Int)) (.int (y:Int))=some (decide (x<y)):=by
  show some (decide ((x:Int)<(y:Int)))=_;congr 1;exact decide_eq_decide.mpr (by omega)
 rw[this];rfl
theorem rO {a b:Ex}{x y:Nat}{R R':Rt}(h:ev T a env = .ok (.int (x:Int),R))(h':ev T b env = .ok (.int (y:Int),R')):ev T (.cmp .Gt a b) env = .ok (.bl (decide (y<x)),.mv []):=by
 rw[ev,h,aA,h',aA];have:kz .Gt (.int (x:Int)) (.int (y:Int))=some (decide (y<x)):=by
  show some (decide ((y:Int)<(x:Int)))=_;congr 1;exact decide_eq_decide.mpr (by omega)
 rw[this];rfl
theorem jw {a b:Ex}{x y:Nat}{R R':Rt}(h:ev T a env = .ok (.int (x:Int),R))(h':ev T b env = .ok (.int (y:Int),R')):ev T (.bin .Add a b) env = .ok (.int ((x+y:Nat):Int),.mv []):=by
 rw[cM h h'];rfl
theorem wY {a b:Ex}{x y:Int}{R R':Rt}(h:ev T a env = .ok (.int x,R))(h':ev T b env = .ok (.int y,R')):ev T (.bin .Sub a b) env = .ok (.int (x - y),.mv []):=by
 rw[ev,h,aA,h',aA,jt];rfl
theorem dG {c:Ex}{a b:cJ}{p:Prop}[Decidable p]{R:Rt}(h:ev T c env = .ok (.bl (decide p),R)):bM T (.ite c a b) env=if p then aD T a env else aD T b env:=by
 rw[bM,h,aR];by_cases hp:p
 ·rw[ba hp,if_pos hp];rfl
 ·rw[aq hp,if_neg hp];rfl
theorem lU {s:St}{e:En}(h:bM T s env = .nx e):aD T (.cons s .nil) env = .nx e:=by
 rw[aD,h,aB,aD]
theorem A7 {c:En->Rs Bool}{b:En->Fl}{n:Nat}{e1:En}(h:c env = .ok true)(h2:b env = .nx e1):fA c b (n+1) env=fA c b n e1:=by
 rw[fA,h,aR,if_pos rfl,h2]
theorem ue {c:En->Rs Bool}{b:En->Fl}{n:Nat}(h:c env = .ok false):fA c b (n+1) env = .nx env:=by
 rw[fA,h,aR];rfl
end
section
variable {T:Tb}{env:En}
end
end Pc.Nw
end
section
namespace Pc.Fr
open PySem Pc Pc.Sm Pc.Lw Pc.Gr Pc.Nw
noncomputable abbrev pD (p:Int×Int):D:=.tup [.int p.1,.int p.2]
noncomputable def cnt (s t:Int):Nat:=((if s<t+3 then s else t+3) - t).toNat
noncomputable abbrev Tr:=Int×Int×Int
noncomputable abbrev tD (t:Tr):D:=.tup [.int t.1,.int t.2.1,.int t.2.2]
noncomputable abbrev iD (l:List Int):List D:=l.map D.int
noncomputable def wr (M:List (List Int))(t:Tr):List (List Int):=M.set t.1.toNat ((M.getD t.1.toNat []).set t.2.1.toNat t.2.2)
structure Rect (n:Nat)(M:List (List Int)):Prop where
 len:M.length=n
 row:∀ r∈M,r.length=n
noncomputable def zero (n:Nat):List (List Int):=List.replicate n (List.replicate n 0)
theorem Ec {n:Nat}{i:Int}(h0:0<=i)(h1:i<n):Pc.iZ n i=some i.toNat:=by
 unfold Pc.iZ;rw[if_pos h0,if_pos h1]
section
variable {T:Tb}{env:En}
theorem jL {a b:Ex}{i j:Int}{R R':Rt}(hs:(small i || small j)=true)(ha:ev T a env = .ok (.int i,R))(hb:ev T b env = .ok (.int j,R')):ev T (.bin .Mult a b) env = .ok (.int (i*j),.mv []):=by
 rw[ev,ha,aA,hb,aA,jt];simp only[Pc.binI,hs,if_true,Option.map_some,bP,aA,iL]
theorem Cg {a b:Ex}{l:List Int}{i:Int}{v:Int}{R R':Rt}(h0:0<=i)(hv:l[i.toNat]? = some v)(ha:ev T a env = .ok (.lst (iD l),R))(hb:ev T b env = .ok (.int i,R')):ev T (.ix a b) env = .ok (.int v,.mv []):=by
 have hi:=(List.getElem?_eq_some_iff.mp hv).1;have:Bv (.lst (iD l)) (.int i)=some (.int v):=by
  show ((Pc.iZ (iD l).length i).bind fun j=>(iD l)[j]?)=_;rw[Ec h0 (by rw[av];omega),dz,List.getElem?_map,hv];rfl
 rw[ev,ha,aA,hb,aA,this];rfl
end
end Pc.Fr
end
section
namespace Pc.Ct
open PySem Pc Pc.Sm Pc.Lw Pc.Gr Pc.Nw
noncomputable def tx (l:List Nat):Str:=⟨l.toArray⟩
theorem gZ (l:List Nat):(tx l).length=l.length:=by simp[tx,Str.length]
theorem Dh (a b:List Nat):tx a++tx b=tx (a++b):=by
 show (⟨a.toArray++b.toArray⟩:Str)=⟨(a++b).toArray⟩;rw[List.append_toArray]
theorem zu {cs:List Nat}(h:cs.length<=1000):(tx cs).length<=lim:=by rw[gZ];exact mj h
noncomputable abbrev sT (cs:List Nat):Slot:=some (.str (tx cs),.own)
theorem Bg {cs:List Nat}(hl:cs.length<=1000){i c:Nat}(h:cs[i]? = some c):Bv (.str (tx cs)) (.int (i:Int))=some (.str (tx [c])):=by
 have hj:i<cs.length:=(List.getElem?_eq_some_iff.mp h).1;show (if (tx cs).length<=lim then ((Pc.iZ (tx cs).cps.toList.length (i:Int)).bind fun j=>(tx cs).cps.toList[j]?).map fun c=>D.str ⟨#[c]⟩ else none)=_;rw[if_pos (zu hl)];show ((Pc.iZ cs.length (i:Int)).bind fun j=>cs[j]?).map _=_;rw[mw hj];show (cs[i]?).map _=_;rw[h];rfl
theorem B5 {a b:List Nat}(h:a.length+b.length<=1000):lQ .Add (.str (tx a)) (.str (tx b))=some (.str (tx (a++b))):=by
 show ck ((tx a).length+(tx b).length) (.str (tx a++tx b))=_;unfold ck;rw[if_pos (by rw[gZ,gZ];exact mj h),Dh]
theorem sR {T:Tb}{env:En}{a b:Ex}{x y:List Nat}{R R':Rt}(ha:ev T a env = .ok (.str (tx x),R))(hb:ev T b env = .ok (.str (tx y),R'))(h:x.length+y.length<=1000):ev T (.bin .Add a b) env = .ok (.str (tx (x++y)),.mv []):=by
 rw[ev,ha,aA,hb,aA,B5 h];rfl
theorem CB {T:Tb}{env:En}{a b:Ex}{cs:List Nat}{i c:Nat}{R R':Rt}(hl:cs.length<=1000)(ha:ev T a env = .ok (.str (tx cs),R))(hb:ev T b env = .ok (.int (i:Int),R'))(h:cs[i]? = some c):ev T (.ix a b) env = .ok (.str (tx [c]),.mv []):=by
 rw[ev,ha,aA,hb,aA,Bg hl h];rfl
theorem jR {T:Tb}{env:En}{e:Ex}{cs:List Nat}{R:Rt}(hl:cs.length<=1000)(h:ev T e env = .ok (.str (tx cs),R)):ev T (.blt .len (.cons e .nil)) env = .ok (.int (cs.length:Int),.mv []):=by
 rw[ev,aV,aV,h,aA,aA,aA,uB];have:fQ .len [.str (tx cs)]=some (.int (cs.length:Int)):=by
  show (if (tx cs).length<=lim then some (D.int ((tx cs).length:Int)) else none)=_;rw[if_pos (zu hl),gZ]
 dsimp only;rw[this,bP,aA,iL]
theorem kO (n d v:Nat):aU n d (some (v:Int))=min v n:=by
 unfold aU;dsimp only;rw[if_neg (by omega),bo]
theorem wg {T:Tb}{env:En}{a b:Ex}{ds:List D}{i:Nat}{d:D}{R R':Rt}(ha:ev T a env = .ok (.tup ds,R))(hb:ev T b env = .ok (.int (i:Int),R'))(h:ds[i]? = some d)(hf:d.flat=true):ev T (.ix a b) env = .ok (d,.mv []):=by
 have:Bv (.tup ds) (.int (i:Int))=some d:=by
  show (Pc.iZ ds.length (i:Int)).bind (fun j=>ds[j]?)=_;rw[mw (List.getElem?_eq_some_iff.mp h).1];exact h
 rw[ev,ha,aA,hb,aA,this,bP,aA];unfold oH;rw[if_pos hf]
theorem vP {T:Tb}{env:En}{a b:Ex}{x y:D}(ha:ev T a env = .ok (x,.mv []))(hb:ev T b env = .ok (y,.mv [])):ev T (.tup (.cons a (.cons b .nil))) env = .ok (.tup [x,y],.mv []):=by
 rw[ev,aV,ha,aA,aV,hb,aA,aV,aA,aA,aA];rfl
noncomputable def s1:Str:="0123456789"
noncomputable def s2:Str:=" ABCDEFGHIJKLMNOPQRSTUVWXYZ.,-:/"
noncomputable def s3:Str:=" !\"#$&'()*+,-./0123456789:;<=>?@ABCDEFGHIJKLMNOPQRSTUVWXYZ[\\]^_`abcdefghijklmnopqrstuvwxyz{|}~"
noncomputable def KS:Nat->Str
 |1=>s1
 |2=>s2
 |3=>s3
 |_=>⟨#[]⟩
noncomputable def kn (k:Nat):List Nat:=(KS k).cps.toList
noncomputable def wx (k c:Nat):Bool:=(kn k).contains c
theorem yn (k:Nat):KS k=tx (kn k):=rfl
theorem rl:(kn 1).length=10/\(kn 2).length=32/\(kn 3).length=94:=by decide +kernel
noncomputable def G:Nat->D
 |0=>.int 1
 |1=>.int 2
 |2=>.int 3
 |3=>.tup [.str ⟨#[]⟩,.str s1,.str s2,.str s3]
 |4=>.tup [.int 0,.int 0,.int 5,.int 7]
 |5=>.int 2
 |6=>.int 6
 |7=>.int 64
 |8=>.tup [.int 0,.int 4,.int 7,.int 10]
 |9=>.int 3
 |_=>.non
noncomputable def fb (m:Nat):Nat:=if m=0 then 0 else 3*m+1
noncomputable def plen (k c:Nat):Nat:=if k=1 then 8+10*(c / 3)+fb (c%3) else 8+(if k=2 then 5 else 7)*c
noncomputable abbrev Q4:=Nat×Nat×Nat×Nat
noncomputable def q4 (q:Q4):D:=.tup [.int (q.1:Int),.int (q.2.1:Int),.int (q.2.2.1:Int),.int (q.2.2.2:Int)]
noncomputable def qs (l:List Q4):D:=.lst (l.map q4)
noncomputable def one (k c:Nat)(q:Q4):Q4:=(plen k c+q.1,1+q.2.1,k,c)
noncomputable abbrev z4:Q4:=(0,0,0,0)
noncomputable def k4 (q:Q4):List Int:=[(q.1:Int),(q.2.1:Int),(q.2.2.1:Int),(q.2.2.2:Int)]
noncomputable def bst (l:List Q4):Q4:=l.getD (dO (fun i j=>uX ((l.map k4).getD i []) ((l.map k4).getD j [])) (l.length - 1) 1 0) z4
noncomputable def rn (k:Nat):List Nat->Nat
 |[]=>0
 |c::r=>if wx k c then rn k r+1 else 0
noncomputable def chN (k:Nat)(C:List Q4)(m:Nat):List Q4:=(List.range m).map fun j=>one k (j+1) (C.getD j z4)
noncomputable def chA (t:List Nat)(C:List Q4):List Q4:=chN 1 C (min (rn 1 t) 64)++chN 2 C (min (rn 2 t) 64)++chN 3 C (min (rn 3 t) 64)
noncomputable def bc:List Nat->List Q4
 |[]=>[z4]
 |c::r=>bst (chA (c::r) (bc r))::bc r
noncomputable abbrev mp (rs:List (Int×MV)):Slot:=some (.mpi rs,.own)
noncomputable abbrev oQ (l:List Q4):Slot:=some (qs l,.own)
noncomputable abbrev EB (t:List Nat)(B:List Q4)(rs:List (Int×MV))(s:Nat)(ch:List Q4)(a5:Slot):En:=[sT t,oQ B,mp rs,sN s,oQ ch,a5]
noncomputable def r3 (a b c:Nat):List (Int×MV):=[(1,.int (a:Int)),(2,.int (b:Int)),(3,.int (c:Int))]
noncomputable abbrev Pe:=Nat×List Nat
noncomputable def pD (p:Pe):D:=.tup [.int (p.1:Int),.str (tx p.2)]
noncomputable def hd (t:List Nat):Q4:=(bc t).getD 0 z4
structure First (t:List Nat)(q:Q4):Prop where
 k1:1<=q.2.2.1
 k3:q.2.2.1<=3
 c1:1<=q.2.2.2
 c64:q.2.2.2<=64
 run:q.2.2.2<=rn q.2.2.1 t
noncomputable abbrev oP (l:List Pe):Slot:=some (.lst (l.map pD),.own)
noncomputable abbrev EC (t:List Nat)(B:List Q4)(P:List Pe)(s:Nat)(a4 a5:Slot):En:=[sT t,oQ B,oP P,sN s,a4,a5]
structure Piece (p:Pe):Prop where
 k1:1<=p.1
 k3:p.1<=3
 c1:1<=p.2.length
 c64:p.2.length<=64
 all:∀ c∈p.2,wx p.1 c=true
open Pc.Fr (iD)
def vw (T:Tb):Prop:=∀(cs:List Int) (k p:Int),small k=true->0<p->∃ r,0<=r/\r<p/\T.cl 5 [.lst (iD cs),.int k,.int p] = .ok (.int r,true)
theorem CJ {cs:List Nat}(hl:cs.length<=1000){i:Int}(h0:0<=i)(h1:i<cs.length){T:Tb}{env:En}{a b:Ex}{R R':Rt}(ha:ev T a env = .ok (.str (tx cs),R))(hb:ev T b env = .ok (.int i,R')):∃ c∈cs,ev T (.ix a b) env = .ok (.str (tx [c]),.mv []):=by
 obtain⟨j,rfl,_⟩:=gY h0 h1;have hj:j<cs.length:=by omega
 exact⟨cs[j],List.getElem_mem hj,CB hl ha hb (List.getElem?_eq_getElem hj)⟩
theorem C3 {k:Nat}(h1:1<=k)(h3:k<=3):(kn k).length<=100/\0<(kn k).length:=by
 obtain⟨a,b,c⟩:=rl;have:k=1\/k=2\/k=3:=by omega
 rcases this with rfl | rfl | rfl<;>omega
open Pc.Fr (iD)
theorem wy {T:Tb}{env:En}{e:Ex}{cs:List Nat}(hl:cs.length<=1000)(h:ev T e env = .ok (.str (tx cs),.mv [])):iS T (.seq e) env = .ok (cs.map fun c=>D.str (tx [c]),[]):=by
 rw[iS,h,aA];show (fE (if (tx cs).length<=lim then some (cs.map fun c=>D.str ⟨#[c]⟩) else none)).bind _=_;rw[if_pos (zu hl)];rfl
noncomputable def e0:Ex:=.ix (.var 0) (.cst (.int (0)))
noncomputable def e1:Ex:=.ix (.var 0) (.cst (.int (1)))
noncomputable def EA:Ex:=(.or (.not (.blt (.isi "tuple") (.cons (.var 0) .nil))) (.cmp .NotEq (.blt .len (.cons (.var 0) .nil)) (.cst (.int (2)))))
theorem zY {T:Tb}{env:En}{x:Nat}{e:Ex}{xs:List D}{d:D}(ht:Tame env)(hx:env[x]? = some (some (.lst xs,.own)))(h:ev T e env = .ok (d,.mv []))(hl:xs.length+1<=lim):bM T (.mut x .none .insert (.cons (.cst (.int (0))) (.cons e .nil))) env = .nx (env.set x (some (.lst (d::xs),.own))):=by
 have ho:ownAt env x=some (.lst xs):=by unfold ownAt;rw[hx]
 have hs:aV T (.cons (.cst (.int (0))) (.cons e .nil)) env = .ok [(.int 0,.mv []),(d,.mv [])]:=by
  rw[aV,aH,aA,aV,h,aA,aV];rfl
 have hm:uW .insert xs [.int 0,d]=some (d::xs):=by
  show (if -(2 ^ 63)<=(0:Int)/\(0:Int)<2 ^ 63 then some (xs.take (aU xs.length 0 (some ((0:Nat):Int)))++d::xs.drop (aU xs.length 0 (some ((0:Nat):Int)))) else none)=_;rw[if_pos (by decide),kO,Nat.zero_min];rfl
 rw[bM,ho];simp only[jQ,aR,D.at1,hs,List.map_cons,List.map_nil,hm,aT,Rt.roots,List.flatten_cons,List.flatten_nil,List.append_nil,List.contains_nil,Bool.false_eq_true,if_false,qi.copies,gS,eF,Option.map_some];have:(d::xs).length<=lim:=hl;simp only[List.nodup_nil,decide_true,iH,List.all_nil,Bool.not_false,Bool.and_self,this,if_true,D.set1,Bool.true_and];rw[qu ht]
end Pc.Ct
end
section
namespace Pc.Gn
open PySem Pc Pc.Sm Pc.Lw Pc.Gr Pc.Nw Pc.Ct
open Pc.Fr (iD)
theorem limB {n:Nat}(h:n<=20000):n<=lim:=bg h (by decide)
noncomputable def aS (x:Int):Nat->List Int
 |0=>[]
 |n+1=>x / 2 ^ n%2::aS x n
theorem bC (x:Int):∀ n,(aS x n).length=n
 |0=>rfl
 |n+1=>by rw[aS,ak,bC]
theorem pj (x:Int):∀ n,∀ b∈aS x n,0<=b/\b<=1
 | n+1,b,h=>by
  rcases g9.mp h with rfl | h
  ·omega
  ·exact pj x n b h
noncomputable def Ck:cJ:=(.cons (.asg (.nm 1) (.bin .Add (.bin .Mult (.cst (.int (2))) (.var 1)) (.var 2)) false)
  .nil)
noncomputable def bNO:cJ:=(.cons (.asg (.nm 1) (.cst (.int (0))) false)
  (.cons (.forr (.nm 2) (.seq (.var 0)) Ck)
  (.cons (.ret (.var 1))
  .nil)))
noncomputable def num (l:List Int):Int:=l.foldl (fun x y=>2*x+y) 0
theorem E6 (T:Tb)(S:List D)(a b:Int):aD T Ck [some (.lst S,.sh []),sI a,sI b] = .nx [some (.lst S,.sh []),sI (2*a+b),sI b]:=rfl
theorem sE (T:Tb)(S:List D):∀(l:List Int) (a:Int) (o:Slot),bY o->∃ o',bL (.nm 2) [] (aD T Ck) (iD l) [some (.lst S,.sh []),sI a,o] = .nx [some (.lst S,.sh []),sI (l.foldl (fun x y=>2*x+y) a),o']
 |[],a,o,_=>⟨o,rfl⟩
 | b::l,a,o,h=>by
  obtain⟨o',q⟩:=sE T S l (2*a+b) (sI b) (aC _);refine⟨o',?_⟩;have hb:bQ [] (.nm 2) (.int b) [some (.lst S,.sh []),sI a,o]=some [some (.lst S,.sh []),sI a,sI b]:=eT (.cons (kJ _) (.cons (aC _) (.cons h .nil))) (show (2:Nat)<3 by decide);rw[iD,ay,dE hb (E6 T S a b)];exact q
theorem yu {T:Tb}(l:List Int):ret (aD T bNO (aP [.lst (iD l)] 3)) = .ok (.int (num l),true):=by
 have hst:aP [.lst (iD l)] 3=[some (.lst (iD l),.sh []),none,none]:=rfl;rw[hst];have g1:bM T (.asg (.nm 1) (.cst (.int (0))) false) [some (.lst (iD l),.sh []),none,none] = .nx [some (.lst (iD l),.sh []),sI 0,none]:=rfl;obtain⟨o',q⟩:=sE T (iD l) l 0 none cN;have hit:iS T (.seq (.var 0)) [some (.lst (iD l),.sh []),sI 0,none] = .ok (iD l,[]):=rfl;have g2:=dW hit q;unfold bNO;rw[aD,g1,aB,aD,g2,aB];exact gH (aF rfl rfl)
noncomputable def gM (k c:Nat):Int:=match n9 .sfind (.str (KS k)) [.str (tx [c])] with
 | some (.int j)=>j
 |_=>-1
noncomputable def zT (k c:Nat):Bool:=(match n9 .sindex (.str (KS k)) [.str (tx [c])] with
 | some (.int j)=>j==gM k c
 |_=>false)&&(match n9 .sfind (.str (KS k)) [.str (tx [c])] with
 | some (.int j)=>j==gM k c
 |_=>false)&&decide (0<=gM k c/\gM k c<2 ^ (2*k+1))
theorem cX2:(kn 2).all (zT 2)=true:=by decide +kernel
theorem cX3:(kn 3).all (zT 3)=true:=by decide +kernel
theorem AN {k c:Nat}(hk:k=2\/k=3)(hc:c∈kn k):n9 .sindex (.str (KS k)) [.str (tx [c])]=some (.int (gM k c))/\n9 .sfind (.str (KS k)) [.str (tx [c])]=some (.int (gM k c))/\0<=gM k c/\gM k c<2 ^ (2*k+1):=by
 have h:zT k c=true:=by
  rcases hk with rfl | rfl
  ·exact cy.mp cX2 c hc
  ·exact cy.mp cX3 c hc
 unfold zT at h;rw[ag,ag] at h;obtain⟨⟨h1,h2⟩,h3⟩:=h;have h3:=dt h3;refine⟨?_,?_,h3.1,h3.2⟩
 ·split at h1
  ·rename_i j e;rw[e,gj.mp h1]
  ·cases h1
 ·split at h2
  ·rename_i j e;rw[e,gj.mp h2]
  ·cases h2
noncomputable def pN (g:List Nat):Int:=match PySem.intText? (tx g) with
 |some n=>n
 |none=>-1
noncomputable def ya (g:List Nat):Bool:=(match PySem.intText? (tx g) with
 |some n=>n==pN g
 |none=>false)&&decide (0<=pN g/\pN g<2 ^ fb g.length)
theorem cV1:(kn 1).all (fun a=>ya [a])=true:=by decide +kernel
theorem cV2:(kn 1).all (fun a=>(kn 1).all fun b=>ya [a,b])=true:=by decide +kernel
theorem cV3:(kn 1).all (fun a=>(kn 1).all fun b=>(kn 1).all fun c=>ya [a,b,c])=true:=by decide +kernel
theorem zJ {g:List Nat}(h0:0<g.length)(h3:g.length<=3)(hg:∀ c∈g,c∈kn 1):PySem.intText? (tx g)=some (pN g)/\0<=pN g/\pN g<2 ^ fb g.length:=by
 have h:ya g=true:=by
  match g,h0,h3,hg with
  |[a],_,_,hg=>exact List.all_eq_true.mp cV1 a (hg a (by simp))
  |[a,b],_,_,hg=>exact List.all_eq_true.mp (List.all_eq_true.mp cV2 a (hg a (by simp))) b (hg b (by simp))
  |[a,b,c],_,_,hg=>exact List.all_eq_true.mp (List.all_eq_true.mp (List.all_eq_true.mp cV3 a (hg a (by simp))) b (hg b (by simp))) c (hg c (by simp))
 unfold ya at h;rw[ag] at h;have h2:=dt h.2;refine⟨?_,h2.1,h2.2⟩;have h1:=h.1;split at h1
 ·rename_i n e;rw[e,gj.mp h1]
 ·cases h1
noncomputable def pb (G:List (Int×Nat)):List Int:=(G.map fun q=>aS q.1 q.2).flatten
theorem vQ (a b:List Int):iD (a++b)=iD a++iD b:=fk ..
theorem fY (a:List Int):(iD a).length=a.length:=av ..
noncomputable abbrev oI (l:List Int):Slot:=some (.lst (iD l),.own)
end Pc.Gn
end
section
namespace Pc.Rd
open PySem Pc Pc.Ct Pc.Gn
noncomputable def gN (bs:List Int)(p c:Nat):Option Int:=if p+c<=bs.length then some (num ((bs.drop p).take c)) else none
noncomputable def zf (m:Nat)(n:Int):Str:=Txt.zfill (Str.ofString (toString n)) (m:Int)
noncomputable def gm (m:Nat):Int:=if m=1 then 9 else if m=2 then 99 else if m=3 then 999 else 0
noncomputable def ft (r:Nat):Nat:=if r<3 then r else 3
noncomputable def kP (bs:List Int):Nat->Nat->Nat->Str->Option (Str×Nat)
 |_,p,0,acc=>some (acc,p)
 |0,_,_+1,_=>none
 |f+1,p,r+1,acc=>(gN bs p (fb (ft (r+1)))).bind fun n=>if gm (ft (r+1))<n then none else kP bs f (p+fb (ft (r+1))) (r+1 - ft (r+1)) (acc++zf (ft (r+1)) n)
noncomputable def sb (k:Nat):Nat:=if k=2 then 5 else if k=3 then 7 else 0
noncomputable def mJ (bs:List Int)(k:Nat):Nat->Nat->Str->Option (Str×Nat)
 |0,p,acc=>some (acc,p)
 |r+1,p,acc=>(gN bs p (sb k)).bind fun n=>match (kn k)[n.toNat]? with
  |some c=>mJ bs k r (p+sb k) (acc++tx [c])
  |none=>none
noncomputable def pA (bs:List Int):Nat->Nat->Nat->List (Nat×Str)->Option (List (Nat×Str)×Nat)
 |_,0,p,acc=>some (acc,p)
 |0,_+1,_,_=>none
 |f+1,k+1,p,acc=>(gN bs p 6).bind fun c=>(if k=0 then kP bs (c.toNat+1) (p+6) (c.toNat+1) (tx []) else mJ bs (k+1) (c.toNat+1) (p+6) (tx [])).bind fun q =>
  (gN bs q.2 2).bind fun k'=>pA bs f k'.toNat (q.2+2) (acc ++ [(k+1,q.1)])
noncomputable def lE (bs:List Int):Option (List (Nat×Str)×Nat):=(gN bs 0 2).bind fun k=>pA bs bs.length k.toNat 2 []
noncomputable def jc (q:Nat×Str):D:=.tup [.int (q.1:Int),.str q.2]
noncomputable def outD (q:List (Nat×Str)×Nat):D:=.tup [.lst (q.1.map jc),.int (q.2:Int)]
noncomputable def jd (bs:List Int):Bool:=bs.all fun b=>decide (0<=b/\b<=1)
noncomputable def gP:List D->Option D
 |[.lst xs]=>match eE xs with
  |some bs=>if jd bs&&decide (bs.length<=10000) then (lE bs).map outD else none
  |none=>none
 |_=>none
noncomputable def dg (m n:Nat):List Nat:=match m with
 |1=>[48+n]
 |2=>[48+n / 10,48+n%10]
 |_=>[48+n / 100,48+n / 10%10,48+n%10]
theorem z1:∀ n:Nat,n<10->(zf 1 (n:Int)).cps.toList=dg 1 n:=by decide +kernel
theorem z2:∀ n:Nat,n<100->(zf 2 (n:Int)).cps.toList=dg 2 n:=by decide +kernel
theorem z3:∀ n:Nat,n<1000->(zf 3 (n:Int)).cps.toList=dg 3 n:=by decide +kernel
theorem oU {s:Str}{l:List Nat}(h:s.cps.toList=l):s=tx l:=by
 cases s with
 |mk a =>
  show (⟨a⟩:Str)=⟨l.toArray⟩;rw[<-h]
theorem Bz {m n:Nat}(h1:1<=m)(h3:m<=3)(h:(n:Int)<=gm m):zf m (n:Int)=tx (dg m n):=by
 match m,h1,h3 with
 |1,_,_=>exact oU (z1 n (by unfold gm at h;simp at h;omega))
 |2,_,_=>exact oU (z2 n (by unfold gm at h;simp at h;omega))
 |3,_,_=>exact oU (z3 n (by unfold gm at h;simp at h;omega))
theorem DC {m n:Nat}(h1:1<=m)(h3:m<=3):(dg m n).length=m:=by
 match m,h1,h3 with
 |1,_,_=>rfl
 |2,_,_=>rfl
 |3,_,_=>rfl
theorem yI {m:Nat}{n:Int}(h1:1<=m)(h3:m<=3)(h0:0<=n)(h:n<=gm m):(zf m n).length=m:=by
 obtain⟨k,rfl⟩:=c9 h0;rw[Bz h1 h3 h,gZ,DC h1 h3]
theorem ft_b {r:Nat}(h:0<r):1<=ft r/\ft r<=3/\ft r<=r:=by unfold ft;split<;>omega
theorem oN {bs:List Int}(h:jd bs=true):∀ b∈bs,0<=b/\b<=1:=fun b hb=>dt (cy.mp h b hb)
theorem nT:∀(l:List Int) (a:Int),0<=a->(∀ b∈l,0<=b/\b<=1)->a*2 ^ l.length<=l.foldl (fun x y=>2*x+y) a/\l.foldl (fun x y=>2*x+y) a<(a+1)*2 ^ l.length
 |[],a,_,_=>by simp;omega
 | b::l,a,ha,h=>by
  obtain⟨b0,b1⟩:=h b au;obtain⟨q1,q2⟩:=nT l (2*a+b) (by omega) fun x hx=>h x (ah _ hx)
  have hp:(0:Int)<2 ^ l.length:=Int.pow_pos (by decide);rw[List.foldl_cons,ak,Int.pow_succ];generalize hP:(2:Int) ^ l.length=P at *;constructor
  ·refine Int.le_trans ?_ q1;rw[Int.add_mul,Int.mul_comm P 2,<-Int.mul_assoc,Int.mul_comm a 2];have:=Int.mul_nonneg b0 (Int.le_of_lt hp);omega
  ·refine Int.lt_of_lt_of_le q2 ?_;have e:(a+1)*(P*2)=(2*a+2)*P:=by rw[Int.mul_comm P 2,<-Int.mul_assoc,Int.add_mul,Int.mul_comm a 2];rfl
   rw[e];exact Int.mul_le_mul_of_nonneg_right (by omega) (Int.le_of_lt hp)
theorem qv {bs:List Int}(hb:jd bs=true){p c:Nat}{n:Int}(h:gN bs p c=some n):p+c<=bs.length/\0<=n/\n<2 ^ c:=by
 unfold gN at h;by_cases hc:p+c<=bs.length
 ·rw[if_pos hc] at h;cases h;have:=nT ((bs.drop p).take c) 0 (by decide) fun b h=>oN hb b (fq (fm h))
  have hl:((bs.drop p).take c).length=c:=by rw[bp,bt];omega
  rw[hl] at this;simp at this;exact⟨hc,this.1,this.2⟩
 ·rw[if_neg hc] at h;cases h
theorem Bl {bs:List Int}{p c:Nat}{n:Int}(h:gN bs p c=some n):p+c<=bs.length:=by
 unfold gN at h;by_cases hc:p+c<=bs.length
 ·exact hc
 ·rw[if_neg hc] at h;cases h
theorem Bb {bs:List Int}:∀(f p r:Nat) (acc:Str) (w:Str×Nat),p<=bs.length->kP bs f p r acc=some w->p<=w.2/\w.2<=bs.length
 | f,p,0,acc,w,hp,h=>by
  have:kP bs f p 0 acc=some (acc,p):=by cases f<;>rfl
  rw[this] at h;cases h;exact⟨aw _,hp⟩
 |0,p,r+1,acc,w,hp,h=>by cases h
 | f+1,p,r+1,acc,w,hp,h=>by
  have h:((gN bs p (fb (ft (r+1)))).bind fun n=>if gm (ft (r+1))<n then none else kP bs f (p+fb (ft (r+1))) (r+1 - ft (r+1)) (acc++zf (ft (r+1)) n))=some w:=h;obtain⟨n,hn,h⟩:=ae.mp h;have b:=Bl hn;by_cases hg:gm (ft (r+1))<n
  ·rw[if_pos hg] at h;cases h
  ·rw[if_neg hg] at h;have:=Bb f _ _ _ w b h;omega
theorem Bc {bs:List Int}(k:Nat):∀(r p:Nat) (acc:Str) (w:Str×Nat),p<=bs.length->mJ bs k r p acc=some w->p<=w.2/\w.2<=bs.length
 |0,p,acc,w,hp,h=>by cases h;exact⟨aw _,hp⟩
 | r+1,p,acc,w,hp,h=>by
  have h:((gN bs p (sb k)).bind fun n=>match (kn k)[n.toNat]? with
   |some c=>mJ bs k r (p+sb k) (acc++tx [c])
   |none=>none)=some w:=h
  obtain⟨n,hn,h⟩:=ae.mp h;have b:=Bl hn;cases hx:(kn k)[n.toNat]? with
  |none=>rw[hx] at h;cases h
  |some c =>
   rw[hx] at h;have:=Bc k r _ _ w b h;omega
end Pc.Rd
end
section
namespace K04
open PySem PySem.Spec PyProof.Rows L2 Pc Pc.Ct Pc.Gn Pc.Rd
noncomputable def stM (i:Nat):Stmt:=match st 23 with
 |.ClassDef _ _ _ b ..=>b.getD i (.Pass ⟨0,0,0,0⟩)
 |s=>s
section
variable {P:Program}{w:World}{K:Frag}{mg:Str->Option Value}{base:Heap}
structure gO (a b:Nat)(A:Around):Prop where
 hd:A.handled=none
 dp:A.depth+a<recursionLimit
 un:A.units+b<cLine
theorem gO.deeper {a b:Nat}{A:Around}(r:gO (a+1) (b+3) A)(env:Env):gO a b (A.deeper env) :=
 ⟨r.hd,by have:=r.dp;show A.depth+1+a<_;omega,by have:=r.un;show A.units+3+b<_;omega⟩
theorem gO.mono {a b a' b':Nat}{A:Around}(r:gO a b A)(h:a'<=a)(h':b'<=b):gO a' b' A:=⟨r.hd,by have:=r.dp;omega,by have:=r.un;omega⟩
theorem gO.room {n:Nat}{A:Around}(r:gO (3*n+5) (16*n+200) A):eM n A:=⟨r.hd,by have:=r.dp;omega,by have:=r.un;omega⟩
theorem gO.ok {a b:Nat}{A:Around}(r:gO a b A):A.handled=none/\A.depth<recursionLimit:=⟨r.hd,by have:=r.dp;omega⟩
structure Ez (K:Frag)(mg:Str->Option Value)(C fI fN:Addr)(fdI fdN:FuncData)(cT:Addr):Prop where
 cl:L2.xV K C
 n1:fH K C "bits"
 n2:fH K C "place"
 mc:Mk K C fI
 mt:Cy K C "read_number" fN
 mC:mg "BitReader" = some (.ref C)
 FI:L2.kM K "__init__" "BitReader.__init__" (stM 0) fI fdI
 FN:L2.kM K "read_number" "BitReader.read_number" (stM 1) fN fdN
 bI:Binds K fdI ["self","bits"] []
 bN:Binds K fdN ["self","count"] []
 mT:mg "NoText" = some (.ref cT)
 qT:lR K cT=true
def At (H:Hp)(C a l:Addr)(bs:List Int)(p:Nat):Prop:=∃ dx,H a=some (.ins C dx [("bits",.ref l),("place",.int (p:Int))])/\Rd H l (.lst (bs.map .int))
def Kept (a:Addr)(H H':Hp):Prop:=∀ b o,b≠a->H b=some o->H' b=some o
theorem Kept.refl {a:Addr}{H:Hp}:Kept a H H:=fun _ _ _ h=>h
theorem Kept.trans {a:Addr}{H H' H'':Hp}(x:Kept a H H')(y:Kept a H' H''):Kept a H H'':=fun b o n h=>y b o n (x b o n h)
theorem Kept.same {a:Addr}{H H':Hp}(x:aI H H'):Kept a H H':=fun b o _ h=>x b o h
theorem Kept.rd {a b:Addr}{H H':Hp}{o:HO}(x:Kept a H H')(n:b≠a)(h:Rd H b o):Rd H' b o:=by
 rcases h with h | ⟨u,h⟩
 ·exact .inl (x _ _ n h)
 ·exact .inr ⟨u,x _ _ n h⟩
theorem At.ne {H:Hp}{C a l:Addr}{bs:List Int}{p:Nat}(h:At H C a l bs p):l≠a:=by
 obtain⟨dx,h1,h2⟩:=h;intro z;subst z;rcases h2 with h2 | ⟨u,h2⟩<;>(rw[h1] at h2;cases h2)
theorem At.same {H H':Hp}{C a l:Addr}{bs:List Int}{p:Nat}(h:At H C a l bs p)(s:aI H H'):At H' C a l bs p:=by
 obtain⟨dx,h1,h2⟩:=h;exact⟨dx,s _ _ h1,aI.rd s h2⟩
def sp0 (C:Addr):Sp:=fun vs H Q E=>∃ a dx v,vs=[.ref a,v]/\H a=some (.ins C dx [])/\Q .non (upd (upd H a (.ins C dx [("bits",v)])) a (.ins C dx [("bits",v),("place",.int 0)]))
theorem AW {C fI fN cT:Addr}{fdI fdN:FuncData}(k:Ez K mg C fI fN fdI fdN cT)(S:bU ["self","bits"] ["self","bits"] (aE (stM 0))):bX P w K mg base (j8 P w) (gO 1 3) fI fdI ["self","bits"] (sp0 C):=by
 refine j4 k.FI S (fun A r=>r.ok) (fun vs H Q E ⟨a,dx,v,e,_⟩=>by rw[e];rfl) fun cdv A outer s H vs Q E hr hs=>?_
 obtain⟨a,dx,v,rfl,hH,q⟩:=hs;refine⟨_,aQ (qV (pv 0) (pv 1) rfl) (cF (qV (pv 0) kR rfl)),?_⟩;refine⟨v,rfl,.ref a,rfl,a,C,dx,[],rfl,hH,k.cl,k.n1,by decide,.ref a,rfl,a,C,dx,_,rfl,aL,k.cl,k.n2,(show (1:Nat)<1000 by decide),?_⟩;exact q
def spN (C cT:Addr):Sp:=fun vs H Q E=>∃ a l bs p c,vs=[.ref a,.int ((c:Nat):Int)]/\At H C a l bs p/\bs.length<=10000/\match gN bs p c with
 |some n=>∀ H',Kept a H H'->At H' C a l bs (p+c)->Q (.int n) H'
 |none=>∀ H',Kept a H H'->E (.ref cT) none H'
theorem y4 (bs:List Int)(p c:Nat)(h:p+c<=bs.length):kC (bs.map V.int) (some (p:Int)) (some ((p:Int)+(c:Int)))=(((bs.drop p).take c).map V.int):=by
 have e1:HT.aU (bs.map V.int).length 0 (some (p:Int))=p:=by
  rw[HT.kO,av];omega
 have e2:HT.aU (bs.map V.int).length (bs.map V.int).length (some ((p:Int)+(c:Int)))=p+c:=by
  rw[show (p:Int)+(c:Int)=((p+c:Nat):Int) from by omega,HT.kO,av];omega
 unfold kC;rw[e1,e2,Nat.add_sub_cancel_left,List.map_take,List.map_drop]
theorem Dm {f C fI fN cT:Addr}{fd fdI fdN:FuncData}{n:Nat}{r:List D->Rs (D×Bool)}(k:Ez K mg C fI fN fdI fdN cT)(S:bU ["self","count","end","number"] ["self","count"] (aE (stM 1)))
  (F:ja P w K mg base tU n f fd ["bits"] (uE K 1 r)) (kp:PySem.W.keepIn K (.ref f)=true) (B:Binds K fd ["bits"] []) (hm:mg "number_of" = some (.ref f)) (hr:∀ l:List Int,r [.lst (l.map .int)] = .ok (.int (num l),true)) (hl:mg "len" = none) :
  bX P w K mg base (j8 P w) (gO (3*n+6) (16*n+203)) fN fdN ["self","count"] (spN C cT):=by
 refine j4 k.FN S (fun A r=>r.ok) (fun vs H Q E ⟨a,l,bs,p,c,e,_⟩=>by rw[e];rfl) fun cdv A outer s H vs Q E hr1 hs=>?_
 obtain⟨a,l,bs,p,c,rfl,⟨dx,h1,h2⟩,h10,q⟩:=hs;have FG:bX P w K mg base tU (eM n) f fd ["bits"] (uE K 1 r):=⟨F.len,F.run⟩;refine⟨_,aQ (cC (i:=2) S.nd rfl (.inl rfl) (pB rh (kY (pv 0) rfl) (pv 1))) (aQ (qj (sA Bp (pv 2) (fO fX rfl hl PySem.boot_len (aK (kY (pv 0) rfl) aW)) rfl)
  (cF (md (C:=cT) (W:=fun H'=>E (.ref cT) none H') rfl rfl k.mT (jm k.qT) ij (aK i9 aW) (fun pins σ H1 s1 h' a us hW I hx=>iG I hx hW) (fun σ H Q h=>⟨(show (1:Nat)<=sizeLine by decide),h⟩) rfl rfl rfl)) jA)
  (aQ (cC (i:=3) S.nd rfl (.inl rfl) (mf (E:=E0) FG (gO.room (hr1.deeper _)) rfl hm kp B yb (aK (pL sO (kY (pv 0) rfl) (nY (kY (pv 0) rfl)) (nY (pv 2))) aW)))
  (aQ (qV (pv 0) (pv 2) rfl) (cF (iY (pv 3)))))),?_⟩
 refine⟨.ref a,rfl,a,C,dx,_,.int p,rfl,h1,k.cl,k.n2,rfl,.int c,rfl,p,c,rfl,rfl,?_⟩;refine⟨.int ((p:Int)+(c:Int)),rfl,.ref a,rfl,a,C,dx,_,.ref l,rfl,h1,k.cl,k.n1,rfl,l,_,rfl,.inl (.inl h2),_,_,rfl,rfl,_,rfl,?_⟩;rw[av];by_cases hc:p+c<=bs.length
 ·have e:gN bs p c=some (num ((bs.drop p).take c)):=if_pos hc;rw[e] at q;rw[aq (by omega)];show if false=true then _ else _
  rw[if_neg ao];refine⟨.ref a,rfl,a,C,dx,_,.ref l,rfl,h1,k.cl,k.n1,rfl,.ref a,rfl,a,C,dx,_,.int p,rfl,h1,k.cl,k.n2,rfl,p,rfl,.int ((p:Int)+(c:Int)),rfl,_,rfl,l,_,rfl,.inl h2,fun b hb=>?_⟩;rw[y4 bs p c hc];refine⟨[.lst (((bs.drop p).take c).map .int)],_,rfl,.cons (.lst (.inl aL) (jV _)) .nil,_,hr _,fun v H' G' sm rp _ _=>?_⟩;obtain⟨rfl,_⟩:=rp.int_inv;have sm':aI H H':=(aI.new hb).trans sm;refine⟨.int ((p:Int)+(c:Int)),rfl,.ref a,rfl,a,C,dx,_,rfl,sm' _ _ h1,k.cl,k.n2,(show (2:Nat)<1000 by decide),.int _,rfl,?_⟩;refine q _ (fun b o hn hb'=>?_) ⟨dx,?_,?_⟩
  ·rw[aM hn];exact sm' _ _ hb'
  ·exact aL
  ·have hn:=At.ne ⟨dx,h1,h2⟩;exact Kept.rd (fun b o hb' h'=>by rw[aM hb'];exact h') hn (aI.rd sm' h2)
 ·have e:gN bs p c=none:=if_neg hc;rw[e] at q;rw[ba (by omega)];show if true=true then _ else _
  rw[if_pos rfl];exact q H Kept.refl
inductive FR (K:Frag):List (Option D)->L2.St->Prop where
 | nil:FR K [] []
 | skip {o:Option V}{r:List (Option D)}{s:L2.St}(h:FR K r s):FR K (none::r) (o::s)
 | val {d:D}{v:V}{r:List (Option D)}{s:L2.St}(hd:∀ H,Rep K H d v []) (h:FR K r s):FR K (some d::r) (some v::s)
noncomputable def kB (ds:List (Option D)):En:=ds.map fun o=>o.map fun d=>(d,Tg.own)
theorem FR.len {ds:List (Option D)}{σ:L2.St}(h:FR K ds σ):ds.length=σ.length:=by
 induction h with
 |nil=>rfl
 |skip _ ih=>rw[ak,ak,ih]
 |val _ _ ih=>rw[ak,ak,ih]
theorem FR.get {ds:List (Option D)}{σ:L2.St}(h:FR K ds σ)(H:Hp):∀(i:Nat) (d:D) (t:Tg),(kB ds)[i]? = some (some (d,t))->∃ v,σ[i]? = some (some v)/\Rep K H d v []:=by
 induction h with
 |nil=>intro i d t e;cases e
 |skip _ ih=>intro i d t e;cases i with
  |zero=>cases e
  |succ i=>exact ih i d t e
 |val hd _ ih=>intro i d t e;cases i with
  |zero=>cases e;exact⟨_,rfl,hd H⟩
  |succ i=>exact ih i d t e
theorem FR.re {ds:List (Option D)}{σ:L2.St}(h:FR K ds σ)(H:Hp):RE K (fun _=>False) (kB ds) σ H (fun _=>[]) where
 len:=by unfold kB;rw[av,h.len]
 val:=h.get H
 emp:=fun _ _=>rfl
 one:=fun _ _ _ _ _=>⟨cn,fun _ z=>(nomatch z),fun _ z=>(nomatch z)⟩
 wr:=fun _ _ _ _ z=>(nomatch z)
 pl:=fun _ z=>z.elim
theorem iO {T:Tb}{c:Ex}{ds:List (Option D)}{σ:L2.St}{H:Hp}{Q:VK}{n:Int}{r:Rt}(fr:FR K ds σ)(h:ev T c (kB ds) = .ok (.int n,r))(k:∀ H',aI H H'->Q (.int n) H'):tE K T c σ H Q :=
 ⟨_,_,_,fr.re H,_,h,fun v H' G s rp _=>by obtain⟨rfl,_⟩:=rp.int_inv;exact k H' s⟩
theorem Ap {T:Tb}{c:Ex}{ds:List (Option D)}{σ:L2.St}{H:Hp}{Q:VK}{n:Str}{r:Rt}(fr:FR K ds σ)(h:ev T c (kB ds) = .ok (.str n,r))(k:∀ H',aI H H'->Q (.str n) H'):tE K T c σ H Q :=
 ⟨_,_,_,fr.re H,_,h,fun v H' G s rp _=>by obtain⟨rfl,_⟩:=rp.str_inv;exact k H' s⟩
theorem jX {T:Tb}{c:Ex}{ds:List (Option D)}{σ:L2.St}{H:Hp}{Q:Bool->Hp->Prop}{b:Bool}{r:Rt}(fr:FR K ds σ)(h:ev T c (kB ds) = .ok (.bl b,r))(k:∀ H',aI H H'->Q b H'):mo K T c σ H Q :=
 ⟨_,_,_,fr.re H,_,b,h,rfl,k⟩
noncomputable def cF0:Ex:=.cmp .Lt (.blt .len (.cons (.var 2) .nil)) (.var 1)
noncomputable def cF1:Ex:=.blt .min2 (.cons (.glb 8) (.cons (.bin .Sub (.var 1) (.blt .len (.cons (.var 2) .nil))) .nil))
noncomputable def cF2:Ex:=.ix (.glb 6) (.var 3)
noncomputable def cF3:Ex:=.cmp .Gt (.var 4) (.ix (.glb 7) (.var 3))
noncomputable def G3:Nat->D
 |0=>.int 0
 |1=>.int 1
 |2=>.tup [.str (tx []),.str (KS 1),.str (KS 2),.str (KS 3)]
 |3=>.tup [.int 0,.int 0,.int 5,.int 7]
 |4=>.int 2
 |5=>.int 6
 |6=>.tup [.int 0,.int 4,.int 7,.int 10]
 |7=>.tup [.int 0,.int 9,.int 99,.int 999]
 |8=>.int 3
 |_=>.non
def tZ (T:Tb):Prop:=∀ i,i<9->T.gl i=G3 i
noncomputable def BL:List Str:=["END","FIGURES","KIND_SIGNS","SIGN_BITS","KIND_BITS","COUNT_BITS","FIGURE_BITS","FIGURE_GREATEST","MOST_FIGURES"]
noncomputable def Cr:List Str:=["number_of","read_pieces","_law_mix","_law_all","_law_known","_law_signs","_law_bits","_law_piece_bits","_law_pieces","_law_value","_law_widths","_law_shown","_law_piece","_law_due","_law_any","_law_spoilt","_law_refused","law"]
noncomputable def wK:List Str:=["range","len","isinstance","int","list","min","str","sum","ValueError"]
noncomputable def scF:Sc:=⟨["reader","count","signs","together","number"],aE (st 25),Cr,BL,wK⟩
def spG (C cT:Addr)(out:List Int->Nat->Nat->Option (Str×Nat)):List V->Hp->VK->XK->Addr->Nat->Prop:=fun vs H Q E a c=>∃ l bs p,At H C a l bs p/\bs.length<=10000/\jd bs=true/\c<=64/\match out bs p c with
 |some q=>∀ H',Kept a H H'->At H' C a l bs q.2->Q (.str q.1) H'
 |none=>∀ H',Kept a H H'->E (.ref cT) none H'
def zM (C cT:Addr):Sp:=fun vs H Q E=>∃ a c,vs=[.ref a,.int ((c:Nat):Int)]/\spG C cT (fun bs p c=>kP bs c p c (tx [])) vs H Q E a c
theorem Ei {T:Tb}{c:Nat}{acc:Str}{o3 o4:Option D}(h:acc.length<=lim):ev T cF0 (kB [none,some (.int (c:Int)),some (.str acc),o3,o4]) = .ok (.bl (decide ((acc.length:Int)<(c:Int))),.mv []):=by
 have e:ev T (.blt .len (.cons (.var 2) .nil)) (kB [none,some (.int (c:Int)),some (.str acc),o3,o4]) = .ok (.int (acc.length:Int),.mv []):=by
  have h2:fQ .len [.str acc]=some (.int (acc.length:Int)):=if_pos h;unfold ev aV;show ((Rs.ok [(D.str acc,Rt.mv [])]).bind fun l=>(fE (fQ .len (l.map (·.1)))).bind fun d=>.ok (d,dM d (aT (l.map (·.2)))))=_;show ((fE (fQ .len [.str acc])).bind fun d=>.ok (d,dM d _))=_;rw[h2];rfl
 unfold cF0 ev;rw[e];rfl
theorem CT {T:Tb}(hg:tZ T){c r:Nat}{acc:Str}{o3 o4:Option D}(h:acc.length<=lim)(hr:acc.length+r=c):ev T cF1 (kB [none,some (.int (c:Int)),some (.str acc),o3,o4]) = .ok (.int (ft r:Nat),.mv []):=by
 have e:ev T (.blt .len (.cons (.var 2) .nil)) (kB [none,some (.int (c:Int)),some (.str acc),o3,o4]) = .ok (.int (acc.length:Int),.mv []):=by
  have h2:fQ .len [.str acc]=some (.int (acc.length:Int)):=if_pos h;unfold ev aV;show ((fE (fQ .len [.str acc])).bind fun d=>.ok (d,dM d _))=_;rw[h2];rfl
 have e2:ev T (.bin .Sub (.var 1) (.blt .len (.cons (.var 2) .nil))) (kB [none,some (.int (c:Int)),some (.str acc),o3,o4]) = .ok (.int (r:Int),.mv []):=by
  unfold ev;rw[e];show Rs.ok (D.int ((c:Int) - (acc.length:Int)),_)=_;rw[show (c:Int) - (acc.length:Int)=(r:Int) from by omega];rfl
 have e3:ev T (.glb 8) (kB [none,some (.int (c:Int)),some (.str acc),o3,o4]) = .ok (.int 3,.mv []):=by
  unfold ev;rw[hg 8 (by decide)];rfl
 have e4:qJ [.int 3,.int (r:Int)]=some (.int (ft r:Nat)):=by
  show some (D.int (if (r:Int)<3 then (r:Int) else 3))=_;unfold ft;by_cases z:r<3
  ·rw[if_pos (by omega),if_pos z]
  ·rw[if_neg (by omega),if_neg z];rfl
 unfold cF1;rw[ev,aV,e3,aA,aV,e2,aA,aV,aA,aA,aA];show ((fE (qJ [.int 3,.int (r:Int)])).bind fun d=>.ok (d,dM d _))=_;rw[e4];rfl
theorem Dx {T:Tb}(hg:tZ T){c:Nat}{acc:Str}{o4:Option D}:∀{m:Nat},1<=m->m<=3->ev T cF2 (kB [none,some (.int (c:Int)),some (.str acc),some (.int (m:Int)),o4]) = .ok (.int (fb m:Nat),.mv []):=by
 intro m h1 h3;unfold cF2 ev;rw[show ev T (.glb 6) _=Rs.ok (T.gl 6,Rt.mv []) from by unfold ev;rw[hg 6 (by decide)],hg 6 (by decide)]
 match m,h1,h3 with
 |1,_,_=>rfl
 |2,_,_=>rfl
 |3,_,_=>rfl
theorem CK {T:Tb}(hg:tZ T){c:Nat}{acc:Str}{n:Int}:∀{m:Nat},1<=m->m<=3->ev T cF3 (kB [none,some (.int (c:Int)),some (.str acc),some (.int (m:Int)),some (.int n)]) = .ok (.bl (decide (gm m<n)),.mv []):=by
 intro m h1 h3;have e:ev T (.ix (.glb 7) (.var 3)) (kB [none,some (.int (c:Int)),some (.str acc),some (.int (m:Int)),some (.int n)]) = .ok (.int (gm m),.mv []):=by
  unfold ev;rw[show ev T (.glb 7) _=Rs.ok (T.gl 7,Rt.mv []) from by unfold ev;rw[hg 7 (by decide)],hg 7 (by decide)]
  match m,h1,h3 with
  |1,_,_=>rfl
  |2,_,_=>rfl
  |3,_,_=>rfl
 unfold cF3 ev;rw[e];rfl
theorem zN {f C fI fN cT:Addr}{fd fdI fdN:FuncData}{a b:Nat}{T:Tb}(k:Ez K mg C fI fN fdI fdN cT)(F:L2.kM K "read_figures" "read_figures" (st 25) f fd) (S:bU ["reader","count","signs","together","number"] ["reader","count"] (aE (st 25)))
  (FN:bX P w K mg base (j8 P w) (gO a b) fN fdN ["self","count"] (spN C cT)) (hC:∀ cdv A outer s H E,gO (a+1) (b+3) A->mE (eC (j8 P w) P w K mg base ["reader","count","signs","together","number"] "read_figures" (aE (st 25)) f cdv A outer s H E).nox scF T) (hg:tZ T) (hs:mg "str" = none) :
  bX P w K mg base (j8 P w) (gO (a+1) (b+3)) f fd ["reader","count"] (zM C cT):=by
 refine j4 F S (fun A r=>r.ok) (fun vs H Q E ⟨a,c,e,_⟩=>by rw[e];rfl) fun cdv A outer s H vs Q E hr1 hsp=>?_
 obtain⟨r,c,rfl,l,bs,p,hat,h10,h01,hc,q⟩:=hsp;dsimp only at q;have Cx:=hC cdv A outer s H E hr1;refine⟨_,aQ (cC (i:=2) S.nd rfl (.inl rfl) i9) (aQ (jz PassesOwn.leaving (PT.nox (cG 60 Cx.c _ cF0 (by kernel_rfl)).2)
  (aQ (cC (i:=3) S.nd rfl (.inl rfl) (PE.nox (cG 60 Cx.c _ cF1 (by kernel_rfl)).1))
  (aQ (cC (i:=4) S.nd rfl (.inl rfl) (hU (E:=fun C _ H'=>E C none H') (pv 0) k.cl k.mt FN (hr1.deeper _) k.bN dZ (aK (PE.nox (cG 60 Cx.c _ cF2 (by kernel_rfl)).1) aW)))
  (aQ (qj (PT.nox (cG 60 Cx.c _ cF3 (by kernel_rfl)).2)
   (cF (md (C:=cT) (W:=fun H'=>E (.ref cT) none H') rfl rfl k.mT (jm k.qT) ij (aK i9 aW) (fun pins σ H1 s1 h' a us hW I hx=>iG I hx hW) (fun σ H Q h=>⟨(show (1:Nat)<=sizeLine by decide),h⟩) rfl rfl rfl)) jA)
  (cF (cC (i:=2) S.nd rfl (.inl rfl) (pB mq (pv 2) (lY iz PySem.F.slot_str_zfill PySem.F.type_str_zfill wz (nz rC rfl hs rfl (aK (pv 4) aW)) (aK (pv 3) aW)))))))))
  (cF (iY (pv 2)))),?_⟩
 have hlim:∀{s:Str},s.length<=c->s.length<=lim:=fun h=>bg (bg h hc) (by decide)
 refine⟨fun m σ H'=>∃ acc p' o3 o4,σ=[some (.ref r),some (.int ((c:Nat):Int)),some (.str acc),o3,o4]/\Kept r H H'/\At H' C r l bs p'/\acc.length+m=c/\∃ f,m<=f/\kP bs f p' m acc=kP bs c p c (tx []),⟨c,_,p,_,_,rfl,Kept.refl,hat,gd _,c,aw _,rfl⟩,?_⟩;rintro m σ H1 ⟨acc,p',o3,o4,rfl,kp,at1,hm,f,hf,hrd⟩;rw[<-hrd] at q;refine jX (.skip (.val (fun H=>.int _) (.val (fun H=>.str _) (.skip (.skip .nil))))) (Ei (o3:=none) (o4:=none) (hlim (by omega))) fun H2 s2=>?_
 cases m with
 |zero =>
  rw[aq (by omega)];show if false=true then _ else _
  rw[if_neg ao];have e:kP bs f p' 0 acc=some (acc,p'):=by cases f<;>rfl
  rw[e] at q;exact⟨.str acc,rfl,q H2 (kp.trans (Kept.same s2)) (at1.same s2)⟩
 |succ m =>
  rw[ba (by omega)];show if true=true then _ else _
  rw[if_pos rfl];obtain⟨b1,b3,br⟩:=ft_b (show 0<m+1 from Nat.succ_pos m);refine⟨_,fun σ' H' h=>h,?_⟩;refine iO (.skip (.val (fun H=>.int _) (.val (fun H=>.str _) (.skip (.skip .nil))))) (CT hg (o3:=none) (o4:=none) (r:=m+1) (hlim (by omega)) (by omega)) fun H3 s3=>?_
  have at3:=(at1.same s2).same s3;obtain⟨dx,hx,_⟩:=at3;refine⟨.ref r,rfl,r,dx,_,rfl,hx,rfl,?_⟩;refine iO (.skip (.val (fun H=>.int _) (.val (fun H=>.str _) (.val (fun H=>.int _) (.skip .nil))))) (Dx hg (o4:=none) b1 b3) fun H4 s4=>?_
  have k4:Kept r H H4:=kp.trans (Kept.same ((s2.trans s3).trans s4));refine⟨r,l,bs,p',fb (ft (m+1)),rfl,at1.same ((s2.trans s3).trans s4),h10,?_⟩;cases f with
  |zero=>omega
  |succ f =>
  have er:kP bs (f+1) p' (m+1) acc=(gN bs p' (fb (ft (m+1)))).bind fun n=>if gm (ft (m+1))<n then none else kP bs f (p'+fb (ft (m+1))) (m+1 - ft (m+1)) (acc++zf (ft (m+1)) n):=rfl
  cases hn:gN bs p' (fb (ft (m+1))) with
  |none =>
   rw[er,hn] at q;exact fun H5 k5=>q H5 (k4.trans k5)
  |some n =>
   obtain⟨n1,n2,n3⟩:=qv h01 hn;intro H5 k5 at5;have er2:kP bs (f+1) p' (m+1) acc=if gm (ft (m+1))<n then none else kP bs f (p'+fb (ft (m+1))) (m+1 - ft (m+1)) (acc++zf (ft (m+1)) n):=by rw[er,hn];rfl
   refine jX (.skip (.val (fun H=>.int _) (.val (fun H=>.str _) (.val (fun H=>.int _) (.val (fun H=>.int _) .nil))))) (CK hg b1 b3) fun H6 s6=>?_
   have k6:Kept r H H6:=(k4.trans k5).trans (Kept.same s6);by_cases hgt:gm (ft (m+1))<n
   ·rw[er2,if_pos hgt] at q;rw[ba hgt];show if true=true then _ else _
    rw[if_pos rfl];exact q H6 k6
   ·rw[aq hgt];show if false=true then _ else _
    rw[if_neg ao];have hz:=yI b1 b3 n2 (by omega:n<=gm (ft (m+1)));have hgm:gm (ft (m+1))<=999:=by unfold gm;split<;>(try split)<;>(try split)<;>omega
    have hla:(acc++zf (ft (m+1)) n).length=acc.length+ft (m+1):=by have:=Str.length_append acc (zf (ft (m+1)) n);rw[hz] at this;exact this
    refine⟨.str acc,rfl,.int n,rfl,n,rfl,by omega,rfl,.int _,rfl,_,_,rfl,rfl,?_,_,_,rfl,rfl,?_,?_⟩
    ·have:∀ j:Nat,j<=3->PadOk (j:Int)=true:=by decide +kernel
     exact this _ b3
    ·have:(Txt.zfill (Str.ofString (toString n)) ((ft (m+1):Nat):Int)).length=ft (m+1):=hz;rw[this,sizeLine_eq];omega
    ·refine⟨m+1 - ft (m+1),by omega,acc++zf (ft (m+1)) n,p'+fb (ft (m+1)),_,_,rfl,k6,at5.same s6,by rw[hla];omega,f,by omega,?_⟩;rw[<-hrd,er2,if_neg hgt]
noncomputable def cS0:Ex:=.cmp .Lt (.blt .len (.cons (.var 3) .nil)) (.var 2)
noncomputable def cS1:Ex:=.ix (.glb 3) (.var 1)
noncomputable def cS2:Ex:=.cmp .GtE (.var 4) (.blt .len (.cons (.ix (.glb 2) (.var 1)) .nil))
noncomputable def cS3:Ex:=.bin .Add (.var 3) (.ix (.ix (.glb 2) (.var 1)) (.var 4))
noncomputable def scS:Sc:=⟨["reader","kind","count","signs","number"],aE (st 26),Cr,BL,wK⟩
noncomputable def A8 (k c:Nat)(acc:Str)(o:Option D):List (Option D):=[none,some (.int (k:Int)),some (.int (c:Int)),some (.str acc),o]
theorem Ee {T:Tb}{k c:Nat}{acc:Str}{o:Option D}(h:acc.length<=lim):ev T cS0 (kB (A8 k c acc o)) = .ok (.bl (decide ((acc.length:Int)<(c:Int))),.mv []):=by
 have e:ev T (.blt .len (.cons (.var 3) .nil)) (kB (A8 k c acc o)) = .ok (.int (acc.length:Int),.mv []):=by
  have h2:fQ .len [.str acc]=some (.int (acc.length:Int)):=if_pos h;unfold ev aV;show ((fE (fQ .len [.str acc])).bind fun d=>.ok (d,dM d _))=_;rw[h2];rfl
 unfold cS0 ev;rw[e];rfl
theorem BQ {T:Tb}(hg:tZ T){k c:Nat}{acc:Str}{o:Option D}(hk:k=2\/k=3):ev T cS1 (kB (A8 k c acc o)) = .ok (.int (sb k:Nat),.mv []):=by
 unfold cS1 ev;rw[show ev T (.glb 3) _=Rs.ok (T.gl 3,Rt.mv []) from by unfold ev;rw[hg 3 (by decide)],hg 3 (by decide)];rcases hk with rfl | rfl<;>rfl
theorem Bi {T:Tb}(hg:tZ T){k c:Nat}{acc:Str}{o:Option D}(hk:k=2\/k=3):ev T (.ix (.glb 2) (.var 1)) (kB (A8 k c acc o)) = .ok (.str (KS k),.mv []):=by
 unfold ev;rw[show ev T (.glb 2) _=Rs.ok (T.gl 2,Rt.mv []) from by unfold ev;rw[hg 2 (by decide)],hg 2 (by decide)];rcases hk with rfl | rfl<;>rfl
theorem xj {k:Nat}(hk:k=2\/k=3):(kn k).length<=94/\(KS k).length=(kn k).length:=by
 rcases hk with rfl | rfl
 ·exact⟨by rw[rl.2.1];decide,rfl⟩
 ·exact⟨by rw[rl.2.2];decide,rfl⟩
theorem B1 {T:Tb}(hg:tZ T){k c:Nat}{acc:Str}{n:Int}(hk:k=2\/k=3):ev T cS2 (kB (A8 k c acc (some (.int n)))) = .ok (.bl (decide (((kn k).length:Int)<=n)),.mv []):=by
 obtain⟨h1,h2⟩:=xj hk;have e:ev T (.blt .len (.cons (.ix (.glb 2) (.var 1)) .nil)) (kB (A8 k c acc (some (.int n)))) = .ok (.int ((kn k).length:Int),.mv []):=by
  have h3:fQ .len [.str (KS k)]=some (.int ((kn k).length:Int)):=by
   show (if (KS k).length<=lim then some (D.int ((KS k).length:Int)) else none)=_;rw[h2,if_pos (bg h1 (by decide))]
  rw[ev,aV,Bi hg hk,aA,aV,aA,aA];show ((fE (fQ .len [.str (KS k)])).bind fun d=>.ok (d,dM d _))=_;rw[h3];rfl
 unfold cS2 ev;rw[e];rfl
theorem Dq {T:Tb}(hg:tZ T){k c:Nat}{acc:Str}{n x:Nat}(hk:k=2\/k=3)(hx:(kn k)[n]? = some x)(hl:acc.length<=1000):ev T cS3 (kB (A8 k c acc (some (.int (n:Int))))) = .ok (.str (acc++tx [x]),.mv []):=by
 obtain⟨h1,h2⟩:=xj hk;have hn:n<(kn k).length:=(List.getElem?_eq_some_iff.mp hx).1;have e:Bv (.str (KS k)) (.int (n:Int))=some (.str (tx [x])):=by
  show (if (KS k).length<=lim then ((Pc.iZ (kn k).length (n:Int)).bind fun j=>(kn k)[j]?).map (fun c=>D.str ⟨#[c]⟩) else none)=_;rw[h2,if_pos (bg h1 (by decide)),mw hn];show ((kn k)[n]?).map _=_;rw[hx];rfl
 have e1:ev T (.ix (.ix (.glb 2) (.var 1)) (.var 4)) (kB (A8 k c acc (some (.int (n:Int))))) = .ok (.str (tx [x]),.mv []):=by
  rw[ev,Bi hg hk,aA];show ((fE (Bv (.str (KS k)) (.int (n:Int)))).bind fun d=>.ok (d,oH d _))=_;rw[e];rfl
 unfold cS3;rw[ev,e1];show ((fE (ck (acc.length+(tx [x]).length) (.str (acc++tx [x])))).bind fun d=>.ok (d,dM d _))=_;have:ck (acc.length+(tx [x]).length) (.str (acc++tx [x]))=some (.str (acc++tx [x])):=if_pos (bg (show acc.length+1<=1001 by omega) (by decide));rw[this];rfl
def AG (C cT:Addr):Sp:=fun vs H Q E=>∃ a k c,vs=[.ref a,.int ((k:Nat):Int),.int ((c:Nat):Int)]/\(k=2\/k=3)/\spG C cT (fun bs p c=>mJ bs k c p (tx [])) vs H Q E a c
theorem Ao {f C fI fN cT:Addr}{fd fdI fdN:FuncData}{a b:Nat}{T:Tb}(k:Ez K mg C fI fN fdI fdN cT)(F:L2.kM K "read_signs" "read_signs" (st 26) f fd) (S:bU ["reader","kind","count","signs","number"] ["reader","kind","count"] (aE (st 26)))
  (FN:bX P w K mg base (j8 P w) (gO a b) fN fdN ["self","count"] (spN C cT)) (hC:∀ cdv A outer s H E,gO (a+1) (b+3) A->mE (eC (j8 P w) P w K mg base ["reader","kind","count","signs","number"] "read_signs" (aE (st 26)) f cdv A outer s H E).nox scS T) (hg:tZ T) :
  bX P w K mg base (j8 P w) (gO (a+1) (b+3)) f fd ["reader","kind","count"] (AG C cT):=by
 refine j4 F S (fun A r=>r.ok) (fun vs H Q E ⟨a,k,c,e,_⟩=>by rw[e];rfl) fun cdv A outer s H vs Q E hr1 hsp=>?_
 obtain⟨r,kd,c,rfl,hk,l,bs,p,hat,h10,h01,hc,q⟩:=hsp;dsimp only at q;have Cx:=hC cdv A outer s H E hr1;refine⟨_,aQ (cC (i:=3) S.nd rfl (.inl rfl) i9) (aQ (jz PassesOwn.leaving (PT.nox (cG 60 Cx.c _ cS0 (by kernel_rfl)).2)
  (aQ (cC (i:=4) S.nd rfl (.inl rfl) (hU (E:=fun C _ H'=>E C none H') (pv 0) k.cl k.mt FN (hr1.deeper _) k.bN dZ (aK (PE.nox (cG 60 Cx.c _ cS1 (by kernel_rfl)).1) aW)))
  (aQ (qj (PT.nox (cG 60 Cx.c _ cS2 (by kernel_rfl)).2)
   (cF (md (C:=cT) (W:=fun H'=>E (.ref cT) none H') rfl rfl k.mT (jm k.qT) ij (aK i9 aW) (fun pins σ H1 s1 h' a us hW I hx=>iG I hx hW) (fun σ H Q h=>⟨(show (1:Nat)<=sizeLine by decide),h⟩) rfl rfl rfl)) jA)
  (cF (cC (i:=3) S.nd rfl (.inl rfl) (PE.nox (cG 60 Cx.c _ cS3 (by kernel_rfl)).1))))))
  (cF (iY (pv 3)))),?_⟩
 have hlim:∀{s:Str},s.length<=c->s.length<=lim:=fun h=>bg (bg h hc) (by decide)
 refine⟨fun m σ H'=>∃ acc p' o,σ=[some (.ref r),some (.int ((kd:Nat):Int)),some (.int ((c:Nat):Int)),some (.str acc),o]/\Kept r H H'/\At H' C r l bs p'/\acc.length+m=c/\mJ bs kd m p' acc=mJ bs kd c p (tx []),⟨c,_,p,_,rfl,Kept.refl,hat,gd _,rfl⟩,?_⟩;rintro m σ H1 ⟨acc,p',o,rfl,kp,at1,hm,hrd⟩;rw[<-hrd] at q;refine jX (.skip (.val (fun H=>.int _) (.val (fun H=>.int _) (.val (fun H=>.str _) (.skip .nil))))) (Ee (o:=none) (hlim (by omega))) fun H2 s2=>?_
 cases m with
 |zero =>
  rw[aq (by omega)];show if false=true then _ else _
  rw[if_neg ao];exact⟨.str acc,rfl,q H2 (kp.trans (Kept.same s2)) (at1.same s2)⟩
 |succ m =>
  rw[ba (by omega)];show if true=true then _ else _
  rw[if_pos rfl];refine⟨_,fun σ' H' h=>h,?_⟩;obtain⟨dx,hx,_⟩:=at1.same s2;refine⟨.ref r,rfl,r,dx,_,rfl,hx,rfl,?_⟩;refine iO (.skip (.val (fun H=>.int _) (.val (fun H=>.int _) (.val (fun H=>.str _) (.skip .nil))))) (BQ hg (o:=none) hk) fun H4 s4=>?_
  have k4:Kept r H H4:=kp.trans (Kept.same (s2.trans s4));refine⟨r,l,bs,p',sb kd,rfl,at1.same (s2.trans s4),h10,?_⟩;have er:mJ bs kd (m+1) p' acc=(gN bs p' (sb kd)).bind fun n=>match (kn kd)[n.toNat]? with
   |some c=>mJ bs kd m (p'+sb kd) (acc++tx [c])
   |none=>none:=rfl
  cases hn:gN bs p' (sb kd) with
  |none =>
   rw[er,hn] at q;exact fun H5 k5=>q H5 (k4.trans k5)
  |some n0 =>
   obtain⟨n1,n2,n3⟩:=qv h01 hn;obtain⟨n,rfl⟩:=c9 n2;intro H5 k5 at5;refine jX (.skip (.val (fun H=>.int _) (.val (fun H=>.int _) (.val (fun H=>.str _) (.val (fun H=>.int _) .nil))))) (B1 hg hk) fun H6 s6=>?_
   have k6:Kept r H H6:=(k4.trans k5).trans (Kept.same s6);cases hx:(kn kd)[n]? with
   |none =>
    have er2:mJ bs kd (m+1) p' acc=none:=by
     rw[er,hn];show (match (kn kd)[n]? with | some c=>mJ bs kd m (p'+sb kd) (acc++tx [c]) | none=>none)=_;rw[hx]
    rw[er2] at q;have:(kn kd).length<=n:=by
     rw[List.getElem?_eq_none_iff] at hx;exact hx
    rw[ba (by omega)];show if true=true then _ else _
    rw[if_pos rfl];exact q H6 k6
   |some x =>
    have er2:mJ bs kd (m+1) p' acc=mJ bs kd m (p'+sb kd) (acc++tx [x]):=by
     rw[er,hn];show (match (kn kd)[n]? with | some c=>mJ bs kd m (p'+sb kd) (acc++tx [c]) | none=>none)=_;rw[hx]
    have:n<(kn kd).length:=(List.getElem?_eq_some_iff.mp hx).1;rw[aq (by omega)];show if false=true then _ else _
    rw[if_neg ao];have hla:(acc++tx [x]).length=acc.length+1:=Str.length_append acc (tx [x]);refine Ap (.skip (.val (fun H=>.int _) (.val (fun H=>.int _) (.val (fun H=>.str _) (.val (fun H=>.int _) .nil))))) (Dq hg hk hx (by omega)) fun H7 s7=>?_
    exact⟨m,fi _,acc++tx [x],p'+sb kd,_,rfl,k6.trans (Kept.same s7),(at5.same s6).same s7,by rw[hla];omega,by rw[<-hrd,er2]⟩
noncomputable def scP:Sc:=⟨["bits","reader","pieces","kind","count","signs"],aE (st 24),Cr,BL,wK⟩
noncomputable def cP0:Ex:=.cmp .NotEq (.var 3) (.glb 0)
noncomputable def EA:Ex:=.cmp .Eq (.var 3) (.glb 1)
noncomputable def enP (k:Nat):List (Option D):=[none,none,none,some (.int (k:Int)),none,none]
theorem kQ {T:Tb}(hg:tZ T){j:Nat}{n:Int}(hj:j<9)(h:G3 j = .int n)(env:En):ev T (.glb j) env = .ok (.int n,.mv []):=by
 unfold ev;rw[hg j hj,h]
theorem BS {T:Tb}(hg:tZ T){k:Nat}:ev T cP0 (kB (enP k)) = .ok (.bl (!decide (k=0)),.mv []):=by
 unfold cP0 ev;rw[kQ hg (by decide) rfl];show Rs.ok (D.bl (!((k:Int)==0)),_)=_;have:((k:Int)==0)=decide (k=0):=by cases k<;>rfl
 rw[this]
theorem Ep {T:Tb}(hg:tZ T){k:Nat}:ev T EA (kB (enP k)) = .ok (.bl (decide (k=1)),.mv []):=by
 unfold EA ev;rw[kQ hg (by decide) rfl];show Rs.ok (D.bl ((k:Int)==1),_)=_;have:((k:Int)==1)=decide (k=1):=by
  by_cases h:k=1
  ·subst h;rfl
  ·rw[aq h,beq_eq_false_iff_ne];omega
 rw[this]
theorem Kept.tq {r b:Addr}{H H':Hp}{o:HO}{vs:List V}(x:Kept r H H')(hr:H r=some o)(ho:∀ vs,o≠.tup vs)(h:kq K H b vs):kq K H' b vs:=by
 rcases h with h | h
 ·exact .inl (x _ _ (fun z=>by subst z;rw[hr] at h;exact ho _ (cw h)) h)
 ·exact .inr h
theorem Kept.fz {r:Addr}{H H':Hp}{o:HO}(x:Kept r H H')(hr:H r=some o)(ho:∀ a b,o≠.frz a b):Eu H H':=fun b p u h=>x _ _ (fun z=>by subst z;rw[hr] at h;exact ho _ _ (cw h)) h
theorem Kept.reps {r:Addr}{H H':Hp}{o:HO}{ds:List D}{vs:List V}(x:Kept r H H')(hr:H r=some o)(ho:∀ vs,o≠.tup vs)(hz:∀ a b,o≠.frz a b)(h:aG K H ds vs []):aG K H' ds vs [] :=
 h.keep (fun _ _=>x.tq hr ho) (x.fz hr hz) fun _ z=>(nomatch z)
theorem Kept.stay {r:Addr}{H H1 H':Hp}(x:Kept r H1 H')(s:aI H H1)(hr:H r=none):aI H H':=fun b o h=>x b o (fun z=>by subst z;rw[hr] at h;cases h) (s b o h)
theorem Kept.upd {r:Addr}{H:Hp}{o:HO}:Kept r H (upd H r o):=fun b u n h=>by rw[aM n];exact h
def spR (K:Frag)(cT:Addr):Sp:=fun vs H Q E=>∃ l bs,vs=[.ref l]/\Rd H l (.lst (bs.map .int))/\bs.length<=10000/\jd bs=true/\match lE bs with
 |some q=>∀ v H' G',aI H H'->Rep K H' (outD q) v G'->(∀ a∈G',H a=none/\∃ vs:ML,H' a=some vs.o)->G'.Nodup->Q v H'
 |none=>∀ H',aI H H'->E (.ref cT) none H'
theorem pY {C cT a:Addr}{c:Nat}{out:List Int->Nat->Nat->Option (Str×Nat)}{vs:List V}{H:Hp}{Q1 Q0:VK}{E:XK}(hm:∀ x H',Q1 x H'->Q0 x H')(h:spG C cT out vs H Q1 E a c):spG C cT out vs H Q0 E a c:=by
 obtain⟨l,bs,p,h1,h2,h3,h4,h5⟩:=h;refine⟨l,bs,p,h1,h2,h3,h4,?_⟩;cases e:out bs p c with
 |none=>rw[e] at h5;exact h5
 |some q=>rw[e] at h5;exact fun H' kp at'=>hm _ _ (h5 H' kp at')
theorem xg {T:Tb}{C cT:Addr}{E':XK}{σ:L2.St}{H:Hp}{Q1 Q0:VK}(hm:∀ x H',Q1 x H'->Q0 x H')
  (h:tIf (mo K T EA) (fun σ H Q=>bR (iT 1) (bR (iT 4) lJ) σ H fun vs H1=>zM C cT vs H1 Q E') (fun σ H Q=>bR (iT 1) (bR (iT 3) (bR (iT 4) lJ)) σ H fun vs H1=>AG C cT vs H1 Q E') σ H Q1) :
  tIf (mo K T EA) (fun σ H Q=>bR (iT 1) (bR (iT 4) lJ) σ H fun vs H1=>zM C cT vs H1 Q E') (fun σ H Q=>bR (iT 1) (bR (iT 3) (bR (iT 4) lJ)) σ H fun vs H1=>AG C cT vs H1 Q E') σ H Q0:=by
 obtain⟨P,env,F,re,p,b,h1,h2,k⟩:=h;refine⟨P,env,F,re,p,b,h1,h2,fun H' s=>?_⟩;have:=k H' s;cases b with
 |true =>
  obtain⟨v1,e1,v4,e4,a,c,e,g⟩:=this;exact⟨v1,e1,v4,e4,a,c,e,pY hm g⟩
 |false =>
  obtain⟨v1,e1,v3,e3,v4,e4,a,kd,c,e,hk,g⟩:=this;exact⟨v1,e1,v3,e3,v4,e4,a,kd,c,e,hk,pY hm g⟩
theorem vq {f C fI fN fF fS cT:Addr}{fd fdI fdN fdF fdS:FuncData}{a b:Nat}{T:Tb}(ha6:6<=a)(hb6:203<=b)(k:Ez K mg C fI fN fdI fdN cT)(F:L2.kM K "read_pieces" "read_pieces" (st 24) f fd) (S:bU ["bits","reader","pieces","kind","count","signs"] ["bits"] (aE (st 24)))
  (FI:bX P w K mg base (j8 P w) (gO 1 3) fI fdI ["self","bits"] (sp0 C))
  (FN:bX P w K mg base (j8 P w) (gO a b) fN fdN ["self","count"] (spN C cT))
  (FF:bX P w K mg base (j8 P w) (gO (a+1) (b+3)) fF fdF ["reader","count"] (zM C cT)) (kF:PySem.W.keepIn K (.ref fF)=true) (bF:Binds K fdF ["reader","count"] []) (mF:mg "read_figures" = some (.ref fF))
  (FS:bX P w K mg base (j8 P w) (gO (a+1) (b+3)) fS fdS ["reader","kind","count"] (AG C cT)) (kS:PySem.W.keepIn K (.ref fS)=true) (bS:Binds K fdS ["reader","kind","count"] []) (mS:mg "read_signs" = some (.ref fS))
  (hC:∀ cdv A outer s H E,gO (a+2) (b+6) A->mE (eC (j8 P w) P w K mg base ["bits","reader","pieces","kind","count","signs"] "read_pieces" (aE (st 24)) f cdv A outer s H E).nox scP T) (hg:tZ T) :
  bX P w K mg base (j8 P w) (gO (a+2) (b+6)) f fd ["bits"] (spR K cT):=by
 refine j4 F S (fun A r=>r.ok) (fun vs H Q E ⟨l,bs,e,_⟩=>by rw[e];rfl) fun cdv A outer s H vs Q E hr1 hsp=>?_
 obtain⟨l,bs,rfl,hl,h10,h01,q⟩:=hsp;have Cx:=hC cdv A outer s H E hr1;have rN:∀{env:Env},gO a b (A.deeper env):=fun {env}=>(gO.deeper (a:=a+1) (b:=b+3) hr1 env).mono (by omega) (by omega)
 have rI:∀{env:Env}(us:List Value),gO 1 3 ((A.deeper env).under (.builtin "type.__call__" ⟨.ref C::us,[]⟩)):=fun {env} us=>⟨hr1.hd,by have:=hr1.dp;rw[qG];show A.depth+1+1+1<_;omega,by have:=hr1.un;rw[qR];show A.units+3+1+3<_;omega⟩
 refine⟨_,aQ (cC (i:=1) S.nd rfl (.inl rfl) (xo (E:=fun C _ H'=>E C none H') k.mc FI rI rfl k.mC k.bI dZ (aK (pv 0) aW)))
  (aQ (cC (i:=2) S.nd rfl (.inl rfl) (qH aW))
  (aQ (cC (i:=3) S.nd rfl (.inl rfl) (hU (E:=fun C _ H'=>E C none H') (pv 1) k.cl k.mt FN rN k.bN dZ (aK (PE.nox (cG 60 Cx.c _ (.glb 4) (by kernel_rfl)).1) aW)))
  (aQ (jz PassesOwn.leaving (PT.nox (cG 60 Cx.c _ cP0 (by kernel_rfl)).2)
   (aQ (cC (i:=4) S.nd rfl (.inl rfl) (pB rh (hU (E:=fun C _ H'=>E C none H') (pv 1) k.cl k.mt FN rN k.bN dZ (aK (PE.nox (cG 60 Cx.c _ (.glb 5) (by kernel_rfl)).1) aW)) kR))
   (aQ (cC (i:=5) S.nd rfl (.inl rfl) (pq (PT.nox (cG 60 Cx.c _ EA (by kernel_rfl)).2)
    (mf (E:=fun C _ H'=>E C none H') FF (hr1.deeper _) rfl mF kF bF dZ (aK (pv 1) (aK (pv 4) aW)))
    (mf (E:=fun C _ H'=>E C none H') FS (hr1.deeper _) rfl mS kS bS dZ (aK (pv 1) (aK (pv 3) (aK (pv 4) aW))))))
   (aQ (jr (lY fv PySem.F.slot_list_append PySem.F.type_list_append jT (pv 2) (aK (oo (aK (pv 3) (aK (pv 5) aW))) aW)))
   (cF (cC (i:=3) S.nd rfl (.inl rfl) (hU (E:=fun C _ H'=>E C none H') (pv 1) k.cl k.mt FN rN k.bN dZ (aK (PE.nox (cG 60 Cx.c _ (.glb 4) (by kernel_rfl)).1) aW))))))))
  (cF (iY (oo (aK (pv 2) (aK (kY (pv 1) rfl) aW)))))))),?_⟩
 refine⟨.ref l,rfl,fun r dx hr hdx hne=>?_⟩;refine⟨r,dx,.ref l,rfl,aL,rfl,(show (0:Nat)<=sizeLine by decide),fun lp hlp=>?_⟩;have hll:H l≠none:=Rd.ne_none hl;have nlr:l≠r:=fun z=>hll (by rw[z];exact hr)
 have nldx:l≠dx:=fun z=>hll (by rw[z];exact hdx)
 have nlp:lp≠r:=fun z=>by rw[z,aL] at hlp;cases hlp
 have sm0:aI H (upd (upd (upd (upd (upd H dx (.own r)) r (.ins C dx [])) r (.ins C dx [("bits",.ref l)])) r (.ins C dx [("bits",.ref l),("place",.int 0)])) lp (.lst [])):=fun b o hb=>by
  have n1:b≠r:=fun z=>by rw[z,hr] at hb;cases hb
  have n2:b≠dx:=fun z=>by rw[z,hdx] at hb;cases hb
  have e:(upd (upd (upd (upd H dx (.own r)) r (.ins C dx [])) r (.ins C dx [("bits",.ref l)])) r (.ins C dx [("bits",.ref l),("place",.int 0)])) b=some o:=by
   rw[aM n1,aM n1,aM n1,aM n2];exact hb
  exact aI.new hlp _ _ e
 generalize hH0:upd (upd (upd (upd (upd H dx (.own r)) r (.ins C dx [])) r (.ins C dx [("bits",.ref l)])) r (.ins C dx [("bits",.ref l),("place",.int 0)])) lp (.lst [])=H0 at sm0;have at0:At H0 C r l bs 0:=⟨dx,by rw[<-hH0,aM (dk nlp)];exact aL,aI.rd sm0 hl⟩;have lp0:H0 lp=some (.lst []):=by rw[<-hH0];exact aL
 have hlpn:H lp=none:=by
  cases e:H lp with
  |none=>rfl
  |some o =>
   exfalso;have n2:lp≠dx:=fun z=>by rw[z,hdx] at e;cases e
   have n1:lp≠r:=nlp;rw[show (upd (upd (upd (upd H dx (.own r)) r (.ins C dx [])) r (.ins C dx [("bits",.ref l)])) r (.ins C dx [("bits",.ref l),("place",.int 0)])) lp=some o from by rw[aM n1,aM n1,aM n1,aM n2];exact e] at hlp;cases hlp
 obtain⟨dx1,hx1,_⟩:=id at0;refine⟨.ref r,rfl,r,dx1,_,rfl,hx1,rfl,?_⟩;refine iO (.skip (.skip (.skip (.skip (.skip (.skip .nil)))))) (kQ hg (n:=2) (by decide) rfl _) fun H1 s1=>?_
 refine⟨r,l,bs,0,2,rfl,at0.same s1,h10,?_⟩;have eP:lE bs=(gN bs 0 2).bind fun k=>pA bs bs.length k.toNat 2 []:=rfl
 cases hk0:gN bs 0 2 with
 |none =>
  rw[eP,hk0] at q;exact fun H2 k2=>q H2 (k2.stay (sm0.trans s1) hr)
 |some n0 =>
 obtain⟨b1,b2,b3⟩:=qv h01 hk0;obtain⟨k0,rfl⟩:=c9 b2;have eP2:lE bs=pA bs bs.length k0 2 []:=by rw[eP,hk0];rfl
 rw[eP2] at q;intro H2 k2 at2;have nins:∀{o:HO}{fs:List (Str×V)}{d:Addr},o = .ins C d fs->(∀ vs,o≠.tup vs)/\∀ a b,o≠.frz a b:=fun e=>by subst e;exact⟨fun _ z=>(by cases z),fun _ _ z=>(by cases z)⟩
 refine⟨fun m σ H'=>∃(kd p':Nat) (acc:List (Nat×Str)) (vs:List V) (o4 o5:Option V),σ=[some (.ref l),some (.ref r),some (.ref lp),some (.int (kd:Int)),o4,o5]/\kd<4/\aI H H'/\At H' C r l bs p'/\H' lp=some (.lst vs)/\aG K H' (acc.map jc) vs []/\acc.length+m=bs.length/\acc.length+2<=p'/\p'<=bs.length/\pA bs m kd p' acc=pA bs bs.length k0 2 [],
  ⟨bs.length,k0,2,[],[],_,_,rfl,by omega,k2.stay (sm0.trans s1) hr,at2,k2 _ _ nlp (s1 _ _ lp0),.nil,gd _,aw _,b1,rfl⟩,?_⟩
 rintro m σ H3 ⟨kd,p',acc,vs,o4,o5,rfl,hkd,sm3,at3,lp3,rs3,hm,hp1,hp2,hrd⟩;rw[<-hrd] at q;refine jX (.skip (.skip (.skip (.val (fun H=>.int _) (.skip (.skip .nil)))))) (BS hg) fun H4 s4=>?_
 cases kd with
 |zero =>
  show if false=true then _ else _
  rw[if_neg ao];have e:pA bs m 0 p' acc=some (acc,p'):=by cases m<;>rfl
  rw[e] at q;obtain⟨dx4,hx4,_⟩:=at3.same s4;refine⟨.ref lp,rfl,.ref r,rfl,r,C,dx4,_,.int (p':Int),rfl,hx4,k.cl,k.n2,rfl,(show (2:Nat)<=sizeLine by decide),fun tp htp=>?_⟩;refine q (.ref tp) _ [lp] ((sm3.trans s4).trans (aI.new htp)) (.tup (.inl aL) (.cons (G:=[lp]) (G':=[]) (.lst (.inl (aI.new htp _ _ (s4 _ _ lp3))) (rs3.same (s4.trans (aI.new htp)))) (.cons (G:=[]) (.int _) .nil))) (fun x hx=>?_) (by simp);rw[gp] at hx;subst hx;exact⟨hlpn,.l vs,aI.new htp _ _ (s4 _ _ lp3)⟩
 |succ kd =>
  show if true=true then _ else _
  rw[if_pos rfl];refine⟨_,fun σ' H' h=>h,?_⟩;obtain⟨dx4,hx4,_⟩:=at3.same s4;refine⟨.ref r,rfl,r,dx4,_,rfl,hx4,rfl,?_⟩;refine iO (.skip (.skip (.skip (.skip (.skip (.skip .nil)))))) (kQ hg (n:=6) (by decide) rfl _) fun H5 s5=>?_
  have sm5:aI H H5:=(sm3.trans s4).trans s5;refine⟨r,l,bs,p',6,rfl,at3.same (s4.trans s5),h10,?_⟩;cases m with
  |zero=>omega
  |succ m =>
  have er:pA bs (m+1) (kd+1) p' acc=(gN bs p' 6).bind fun c=>(if kd=0 then kP bs (c.toNat+1) (p'+6) (c.toNat+1) (tx []) else mJ bs (kd+1) (c.toNat+1) (p'+6) (tx [])).bind fun q =>
   (gN bs q.2 2).bind fun k'=>pA bs m k'.toNat (q.2+2) (acc ++ [(kd+1,q.1)]):=rfl
  cases hn:gN bs p' 6 with
  |none =>
   rw[er,hn] at q;exact fun H6 k6=>q H6 (k6.stay sm5 hr)
  |some c0 =>
  obtain⟨c1,c2,c3⟩:=qv h01 hn;obtain⟨c,rfl⟩:=c9 c2;intro H6 k6 at6;refine⟨(c:Int),1,rfl,rfl,?_⟩;have sm6:aI H H6:=k6.stay sm5 hr;have x5:H5 r=some (.ins C dx4 _):=s5 _ _ hx4;have rs6:aG K H6 (acc.map jc) vs []:=k6.reps x5 (nins rfl).1 (nins rfl).2 ((rs3.same s4).same s5);have lp6:H6 lp=some (.lst vs):=k6 _ _ nlp (s5 _ _ (s4 _ _ lp3));have hcc:(c:Int)+1=((c+1:Nat):Int):=by omega
  have ck7:c+1<=64:=by omega
  have er2:pA bs (m+1) (kd+1) p' acc=(if kd=0 then kP bs (c+1) (p'+6) (c+1) (tx []) else mJ bs (kd+1) (c+1) (p'+6) (tx [])).bind fun q =>
   (gN bs q.2 2).bind fun k'=>pA bs m k'.toNat (q.2+2) (acc ++ [(kd+1,q.1)]):=by rw[er,hn];rfl
  refine xg (Q1:=fun x H8=>∃ sg p2,x = .str sg/\Kept r H6 H8/\At H8 C r l bs p2/\p'+6<=p2/\p2<=bs.length/\pA bs (m+1) (kd+1) p' acc=(gN bs p2 2).bind fun k'=>pA bs m k'.toNat (p2+2) (acc ++ [(kd+1,sg)])) (fun x H8 hx8=>?_) ?_
  ·obtain⟨sg,p2,rfl,k8,at8,g1,g2,er3⟩:=hx8;rw[er3] at q;have sm8:aI H H8:=k8.stay sm6 hr;obtain⟨dx6,x6,_⟩:=id at6;have rs8:aG K H8 (acc.map jc) vs []:=k8.reps x6 (nins rfl).1 (nins rfl).2 rs6;have lp8:H8 lp=some (.lst vs):=k8 _ _ nlp lp6;refine⟨.ref lp,rfl,.inl ⟨rfl,_,.inl (.inl lp8)⟩,.int ((kd+1:Nat):Int),rfl,.str sg,rfl,(show (2:Nat)<=sizeLine by decide),fun tp htp=>?_⟩;have hvl:vs.length=acc.length:=by rw[<-rs8.len,av]
   refine⟨lp,vs,.ref tp,rfl,rfl,aI.new htp _ _ lp8,by rw[hvl,sizeLine_eq];omega,?_⟩;have s9:aI H8 (upd H8 tp (.tup [.int ((kd+1:Nat):Int),.str sg])):=aI.new htp;generalize hH9:upd H8 tp (.tup [.int ((kd+1:Nat):Int),.str sg])=H9 at s9;have t9:H9 tp=some (.tup [.int ((kd+1:Nat):Int),.str sg]):=by rw[<-hH9];exact aL
   have k10:Kept lp H9 (upd H9 lp (.lst (vs ++ [.ref tp]))):=Kept.upd;have lp9:H9 lp=some (.lst vs):=s9 _ _ lp8;have ntp:tp≠lp:=fun z=>by rw[z,lp9] at t9;cases t9
   have at10:At (upd H9 lp (.lst (vs ++ [.ref tp]))) C r l bs p2:=by
    obtain⟨d8,x8,y8⟩:=at8.same s9;refine⟨d8,k10 _ _ (dk nlp) x8,k10.rd (fun z=>?_) y8⟩;exact hll (by rw[z];exact hlpn)
   have rs10:aG K (upd H9 lp (.lst (vs ++ [.ref tp]))) ((acc ++ [(kd+1,sg)]).map jc) (vs ++ [.ref tp]) []:=by
    have a1:aG K (upd H9 lp (.lst (vs ++ [.ref tp]))) (acc.map jc) vs []:=k10.reps lp9 (fun _ z=>(by cases z)) (fun _ _ z=>(by cases z)) (rs8.same s9);rw[fk];exact a1.append (G':=[]) (.cons (G:=[]) (.tup (.inl (k10 _ _ ntp t9)) (.cons (G:=[]) (.int _) (.cons (G:=[]) (.str _) .nil))) .nil)
   have sm10:aI H (upd H9 lp (.lst (vs ++ [.ref tp]))):=k10.stay (sm8.trans s9) hlpn;have lp10:(upd H9 lp (.lst (vs ++ [.ref tp]))) lp=some (.lst (vs ++ [.ref tp])):=aL;generalize upd H9 lp (.lst (vs ++ [.ref tp]))=H10 at at10 rs10 sm10 lp10;obtain⟨dx10,hx10,_⟩:=id at10;refine⟨.ref r,rfl,r,dx10,_,rfl,hx10,rfl,?_⟩;refine iO (.skip (.skip (.skip (.skip (.skip (.skip .nil)))))) (kQ hg (n:=2) (by decide) rfl _) fun H11 s11=>?_
   refine⟨r,l,bs,p2,2,rfl,at10.same s11,h10,?_⟩;cases hk2:gN bs p2 2 with
   |none =>
    rw[hk2] at q;exact fun H12 k12=>q H12 (k12.stay (sm10.trans s11) hr)
   |some n2 =>
    obtain⟨u1,u2,u3⟩:=qv h01 hk2;obtain⟨k3,rfl⟩:=c9 u2;intro H12 k12 at12;refine⟨m,fi _,k3,p2+2,acc ++ [(kd+1,sg)],vs ++ [.ref tp],_,_,rfl,by omega,k12.stay (sm10.trans s11) hr,at12,k12 _ _ nlp (s11 _ _ lp10),k12.reps (s11 _ _ hx10) (nins rfl).1 (nins rfl).2 (rs10.same s11),?_,?_,u1,?_⟩
    ·rw[aj];show acc.length+1+m=_;omega
    ·rw[aj];show acc.length+1+2<=_;omega
    ·rw[<-hrd,er3,hk2];rfl
  ·refine jX (.skip (.skip (.skip (.val (fun H=>.int _) (.skip (.skip .nil)))))) (Ep hg) fun H7 s7=>?_
   have at7:=at6.same s7;by_cases h1:kd=0
   ·subst h1;show if true=true then _ else _
    rw[if_pos rfl];refine⟨.ref r,rfl,.int ((c:Int)+1),rfl,r,c+1,by rw[hcc],l,bs,p'+6,at7,h10,h01,ck7,?_⟩;dsimp only;rw[if_pos rfl] at er2;cases hf:kP bs (c+1) (p'+6) (c+1) (tx []) with
    |none =>
     rw[er2,hf] at q;exact fun H8 k8=>q H8 (k8.stay (sm6.trans s7) hr)
    |some w =>
     rw[hf] at er2;obtain⟨g1,g2⟩:=Bb (c+1) (p'+6) (c+1) (tx []) w c1 hf;exact fun H8 k8 at8=>⟨w.1,w.2,rfl,(Kept.same s7).trans k8,at8,g1,g2,er2⟩
   ·rw[aq (by omega)];show if false=true then _ else _
    rw[if_neg ao];refine⟨.ref r,rfl,.int ((kd+1:Nat):Int),rfl,.int ((c:Int)+1),rfl,r,kd+1,c+1,by rw[hcc],by omega,l,bs,p'+6,at7,h10,h01,ck7,?_⟩;dsimp only;rw[if_neg h1] at er2;cases hf:mJ bs (kd+1) (c+1) (p'+6) (tx []) with
    |none =>
     rw[er2,hf] at q;exact fun H8 k8=>q H8 (k8.stay (sm6.trans s7) hr)
    |some w =>
     rw[hf] at er2;obtain⟨g1,g2⟩:=Bc (kd+1) (c+1) (p'+6) (tx []) w c1 hf;exact fun H8 k8 at8=>⟨w.1,w.2,rfl,(Kept.same s7).trans k8,at8,g1,g2,er2⟩
end
end K04
end
section
namespace Pc
open PySem PySem.Spec PyProof.Rows L2
section
variable {X:Cx}{pins:List (Addr×Obj)}{σ:L2.St}{H:Hp}{s:Shared}{D:Ends}
noncomputable abbrev rg (X:Cx)(a:Addr)(o:Obj):Cx:={ X with pn:=(a,o)::X.pn }
noncomputable abbrev FY:Ends:=⟨fun _ _=>False,fun _ _=>False,fun _ _=>False,fun _ _=>False⟩
theorem Co {f:Flow}(h:SP X pins FY f s):False:=by
 cases f with
 |next=>obtain⟨_,_,_,q⟩:=h;exact q
 |brk=>obtain⟨_,_,_,q⟩:=h;exact q
 |cont=>obtain⟨_,_,_,q⟩:=h;exact q
 |ret u=>obtain⟨_,_,_,_,_,q⟩:=h;exact q
theorem sf {a:Addr}{o:Obj}(I:Inv (pX X a o) pins σ H s)(ok:X.Ok):Inv (rg X a o) pins σ H s :=
 ⟨⟨ok.mod,ok.kind,ok.glob,ok.blt,ok.above,ok.inj,ok.has,ok.cab,ok.hd,ok.frames,ok.stk,ok.exf,ok.bs,ok.bsz,ok.noex,ok.exfs,ok.funs,ok.frf⟩,I.os,I.bare,I.base,I.loc,I.cell,I.free,I.freeC,I.pin,I.hok,I.len⟩
theorem fZ {a:Addr}{o:Obj}(I:Inv (rg X a o) pins σ H s)(ok:X.Ok):Inv X pins σ H s:=⟨ok,I.os,I.bare,I.base,I.loc,I.cell,I.free,I.freeC,fun p hp=>I.pin p (ah _ hp),I.hok,I.len⟩
theorem uN {a:Addr}{o:Obj}{f:Flow}(ok:X.Ok)(h:SP (rg X a o) pins D f s):SP X pins D f s:=by
 cases f with
 |next=>obtain⟨σ',H',I,q⟩:=h;exact⟨σ',H',fZ I ok,q⟩
 |brk=>obtain⟨σ',H',I,q⟩:=h;exact⟨σ',H',fZ I ok,q⟩
 |cont=>obtain⟨σ',H',I,q⟩:=h;exact⟨σ',H',fZ I ok,q⟩
 |ret u=>obtain⟨v,σ',H',I,r,q⟩:=h;exact⟨v,σ',H',fZ I ok,r,q⟩
theorem zW (hs:X.stack=X.env::X.outer)(hf:X.env.frame=some X.env.locals)(ok:X.Ok){body rest:List Stmt}{x n:Str}{i:Nat}{Cd:Addr}{bmD:List Value}{newD:String}{np hp pos:Pos}{b₀:Stmt}{suite:List Stmt}{ts tr:Addr->TS}{W:Value->Hp->Prop}(hN:X.N.Nodup)(hi:X.N[i]? = some n)(hk:X.env.scope.names.lookup n=some .local)
  (hg:Gl X x) (hm:X.mg x=some (.ref Cd)) (qD:PySem.W.excIn X.K Cd bmD newD=true) (hB:bmD.contains (.type "BaseException")=true)
  (hsu:∀ a o C H',W C H'->o.cls=C->(∃ vs,o.data = .fields vs)->jI (pX X a o) (b₀::suite) (ts a))
  (hre:∀ a o C H',W C H'->o.cls=C->jI (rg X a o) rest (tr a))
  (hw:∀ C H',W C H'->(∃ c,C = .ref c/\w9 X.K c Cd)/\∀ a,ts a ⟨fun σ' H2=>tr a D (σ'.set i none) H2,fun _ _=>False,fun _ _=>False,fun _ _=>False⟩ (σ.set i (some (.ref a))) H') (hd:(x==("__debug__" : Str))=false:=by decide)
  (hb:wpAny (model X.prog X.w) X.A (execs body X.env) (SP X pins FY) (k7 X pins σ W) s) :
  wpAny (model X.prog X.w) X.A (execs (.Try body [.ExceptHandler (some (.Name x np)) (some n) (b₀::suite) hp] [] [] pos::rest) X.env) (SP X pins D) X.xe s:=by
 refine wpAny_execs_cons (wpAny_mono (Q:=fun f s'=>f = .next/\∃ a o C H1,W C H1/\o.cls=C/\∃ σ' H2,Inv (rg X a o) pins σ' H2 s'/\tr a D σ' H2) ?_ (fun f s2 q=>?_) fun _ _ z=>z)
 rotate_left
 ·obtain⟨rfl,a,o,C,H1,h1,h2,σ',H2,I2,h3⟩:=q;exact wpAny_mono (hre a o C H1 h1 h2 pins s2 σ' H2 D I2 h3) (fun f s3 q=>uN ok q) fun _ _ z=>z
 refine wpAny_Try_except (wpAny_mono hb (fun f s1 h1=>?_) fun e s1 h1=>?_)
 ·exact (Co h1).elim
 obtain⟨H0,s0,a,C,a0,H',B,I0,rfl,ho,hbr,F1,f1,w1⟩:=h1;obtain⟨⟨c,rfl,bmB,newId,cd,c0,dd0,sl0,qC,lC,mC⟩,hts⟩:=hw C H' w1;have f1':=f1;rw[hs] at f1';refine wpAny_looks_onW (by rw[ok.frames,hs]) hf f1' fun h2 g2 u2=>?_
 rw[<-hs] at g2;have F2:=F1.next I0 g2.1 (gA f1) u2;refine wpAny_landsW g2 fun h3 f3 u3=>?_
 have F3:=F2.next I0 f3.1 (pS g2) u3;have e3:({ s1 with heap:=h3 }:Shared)={ s0 with heap:=h3,gens:=s1.gens,drawn:=s1.drawn,toks:=s1.toks }:=by
  cases s1;cases s0;cases ho;rfl
 have I3:Inv X pins σ H' { s1 with heap:=h3 }:=by
  rw[e3];exact F3.inv I0 hbr
 have M3:=wu I3 a ok.frames;refine wpAny_handleBy_cons (codeAny_handlers_test (eV (X:=markX X a) M3 hg hm ?_ hd)) (by intro q;cases q);obtain⟨bm',N',nm',qn',bs',hdct',sn',sub',ab',col',dd',j0,j1,j2,j3,j5,mN',hD,hND,hniD,TD⟩:=kH I3.kIn qD;obtain⟨bm,N,nm,qn,bs,hdct,sn,sub,ab,col,dd,k0,k1,k2,k3,k5,mN,hC,hNC,hniC,TC⟩:=kH I3.kIn qC;obtain⟨oe,he,hcl⟩:=f3.there;have hmro:(Value.ref c::bm).contains (.ref Cd)=true:=by
  have:=I3.kIn _ _ lC;rw[hC] at this;cases this;exact mC
 refine pT hC hD he hcl (TD.hasType hB) ?_;rw[hmro];refine codeAny_handlers_suite_as ?_;refine lands_againW f3 fun h4 f4 u4=>?_
 have F4:=F3.next I0 f4.1 (gA f3) u4;have e4:({ s1 with heap:=h4 }:Shared)={ s0 with heap:=h4,gens:=s1.gens,drawn:=s1.drawn,toks:=s1.toks }:=by
  cases s1;cases s0;cases ho;rfl
 have I4:Inv X pins σ H' { s1 with heap:=h4 }:=by
  rw[e4];exact F4.inv I0 hbr
 obtain⟨o4,vs4,e5,c5,d5,_⟩:=f4.first;have nofr:a∉fL X.stack:=fun z=>by
  obtain⟨o',e',hd'⟩:=gA f4 a z;rw[e5] at e';cases e';exact hd' vs4 d5
 have hnone:H' a=none:=by
  rcases F4.bf a o4 e5 with z | z | z
  ·exact absurd z nofr
  ·rw[f4.2.1] at z;cases z
  ·exact z.2
 have hstk:fL X.stack=X.env.locals::X.fs:=by
  rw[hs];unfold fL;rw[ie,hf];rfl
 rw[hstk] at nofr;have P4:Inv (pX X a o4) pins σ H' { s1 with heap:=h4 }:=vy I4 a o4 ok.frames ⟨e5,hnone,fun z=>nofr (by rw[z];exact au),fun z=>nofr (ah _ z),fun v z=>by rw[d5] at z;cases z⟩;refine iC (X:=pX X a o4) P4 hN hi (.inl hk) (show RelV (.ref a) (.ref a) from rfl) (fun s5 I5=>?_) (.inr hk);refine wpAny_mono (hsu a o4 _ H' w1 c5 ⟨vs4,d5⟩ pins s5 _ H' _ I5 (hts a)) (fun f s6 h6=>?_) fun _ _ z=>z.elim
 cases f with
 |next =>
  obtain⟨σ',H6,I6,q⟩:=h6;exact vb (X:=rg X a o4) (sf I6 ok) hN hi hk fun s7 I7=>⟨rfl,a,o4,_,H',w1,c5,_,H6,I7,q⟩
 |brk=>obtain⟨_,_,_,q⟩:=h6;exact q.elim
 |cont=>obtain⟨_,_,_,q⟩:=h6;exact q.elim
 |ret u=>obtain⟨_,_,_,_,_,q⟩:=h6;exact q.elim
variable {a C:Addr}{o:Obj}
theorem jM (qC:lR X.K C=true)(hc:o.cls = .ref C):dY (rg X a o) (.builtin "isinstance") (y0 X.K a C):=by
 have qC:Dp X.K C:=D0 qC;intro pins s σ H xs us Q I r h;have hx:s.heap.get? a=some o:=(I.pin (a,o) (bj _ au)).1;have kin:X.K.In s.heap:=I.kIn;rcases h with ⟨D,rfl,qD,q⟩ | ⟨rfl,q⟩ | ⟨p,Ds,rfl,hp,qD,q⟩
 ·obtain⟨u,w',rfl,r1,r2⟩:=r.two;cases r1;cases r2;exact Aj kin qC qD hx hc fun t'=>⟨.bl _,H,I.kept (t':=t') fun b o e=>e,rfl,q⟩
 ·obtain⟨u,w',rfl,r1,r2⟩:=r.two;cases r1;cases r2;exact z5 kin qC hx hc ⟨.bl true,H,I,rfl,q⟩
 ·obtain⟨u,w',rfl,r1,r2⟩:=r.two;cases r1;cases r2;obtain⟨_,its,rv,ot,e1,e2,n,e3⟩:=I.hok p _ hp;have:=m5 rv;subst this;exact Ac kin qC qD hx hc e1 e2 e3 fun t'=>⟨.bl _,H,I.kept (t':=t') fun b o e=>e,rfl,q⟩
end
end Pc
end
section
namespace K04
open PySem PySem.Spec PyProof.Rows L2 Pc Pc.Ct Pc.Gn Pc.Rd
section
variable {P:Program}{w:World}{K:Frag}{mg:Str->Option Value}{base:Heap}
noncomputable def dN:Df:=⟨"number_of",st 1,["bits"],["bits","number","bit"],bNO⟩
noncomputable def p0:Pg:=⟨[dN],[],[],fun _=>.non,1000⟩
theorem ok0:qx (Df.OkX p0 []) p0.dfs :=
 ⟨.inl (Df.ok_of (n:=60) (by decide +kernel) rfl (fun _ _ _ _ _ _ us hl=>@we (fun us=>bindArgs _ ⟨us,[]⟩=pure (List.zip _ us)) us hl (fun _=>rfl))),trivial⟩
theorem num1 {f:Addr}{fd:FuncData}(F:L2.kM K "number_of" "number_of" (st 1) f fd) (M:mg "number_of" = some (.ref f)) (hH:uQ w K):ja P w K mg base tU 1 f fd ["bits"] (uE K 1 (p0.run 1 0)):=by
 have I0:p0.In K mg:=by
  refine⟨fun i d hd=>?_,fun i x h=>(by cases h),fun x h=>(by cases h)⟩;cases i with
  |zero=>cases hd;exact⟨f,fd,F,M⟩
  |succ i=>cases hd
 exact sU (fo:=[]) (cK ok0) I0 hH (fun n i d hd hn=>by cases hn) 1 0 dN rfl f fd F
theorem vZ (l:List Int):p0.run 1 0 [.lst (l.map .int)] = .ok (.int (num l),true):=(bO (F:=⟨1,3,bNO⟩) rfl rfl).trans (yu l)
structure ER (K:Frag)(mg:Str->Option Value)(cS cT:Addr)(cs:List Addr):Prop where
 hS:mg "SquareError" = some (.ref cS)
 sQ:lR K cS=true
 t:mg "NoText" = some (.ref cT)
 tQ:lR K cT=true
 o:qx (fun q:Str×Addr=>(PySem.W.nsIn K mainGlobals q.1=some (some (.ref q.2))/\mI K q.2=true)/\eH K cT q.2=false) (List.zip ["NoInverse","NoLabel","NoMarks","NoMend","NoPicture","NoSign","NoSquare","TooLong"] cs)
 l:cs.length=8
 st:eH K cT cS=true
 tD:mI K cT=true
 tt:eH K cT cT=true
theorem len8 {cs:List Addr}(h:cs.length=8):∃ a b c d e f g i,cs=[a,b,c,d,e,f,g,i]:=by
 match cs,h with
 |[a,b,c,d,e,f,g,i],_=>exact⟨a,b,c,d,e,f,g,i,rfl⟩
def trR (K:Frag)(cI c1 c2 c3 c4 c5 c6 c7 c8 a:Addr):TS:=GN (EG (tOr (CL (tB (DG (y0 K a cI) (bR (iT 1) (bR (tC (.ref cI)) lJ))))) (CL (tB (DG (y0 K a cI) (bR (iT 1) (bR (tC (.ty "ValueError")) lJ)))))) (B9 (tC (.bl false))) tR)
 (B9 (BA (DG (y0 K a cI) (bR (iT 1) (bR (F5 (bR (tC (.ref c1)) (bR (tC (.ref c2)) (bR (tC (.ref c3)) (bR (tC (.ref c4)) (bR (tC (.ref c5)) (bR (tC (.ref c6)) (bR (tC (.ref c7)) (bR (tC (.ref c8)) lJ))))))))) lJ)))))
theorem refused {n:Nat}(hn2:2<=n){f f' cS cT:Addr}{cs:List Addr}{fd fd':FuncData}{h:Heap}{spx:Sp}(KX:K.In h)(G:h.Ns mainGlobals mg)(hh:ER K mg cS cT cs)
  (F:L2.kM K "_law_refused" "_law_refused" (st 42) f fd) (S:bU ["_law_bits_here","_law_told","e"] ["_law_bits_here"] (aE (st 42)))
  (FR:bX P w K mg base (j8 P w) (gO 11 225) f' fd' ["bits"] spx) (kp:PySem.W.keepIn K (.ref f')=true) (B':Binds K fd' ["bits"] []) (hm':mg "read_pieces" = some (.ref f'))
  (hi:mg "isinstance" = none) (hv:mg "ValueError" = none) (sp:Sp)
  (hl:∀ vs H Q E,sp vs H Q E->∃ v,vs=[v]/\spx [v] H (fun _ _=>False) (fun C' _ H'=>C' = .ref cT/\∀ H2,aI H' H2->Q (.bl true) H2)):ja P w K mg base tU (n+1) f fd ["_law_bits_here"] sp:=by
 obtain⟨c1,c2,c3,c4,c5,c6,c7,c8,rfl⟩:=len8 hh.l;obtain⟨⟨o1,n1⟩,⟨o2,n2⟩,⟨o3,n3⟩,⟨o4,n4⟩,⟨o5,n5⟩,⟨o6,n6⟩,⟨o7,n7⟩,⟨o8,n8⟩,_⟩:=hh.o;refine (j4 (RP:=eM (n+1)) F S (fun A r=>⟨r.hd,r.depth⟩) (fun vs H Q E h=>by obtain⟨v1,e,_⟩:=hl vs H Q E h;rw[e];rfl) fun cdv A outer s H vs Q E hr hs=>?_).plain;obtain⟨v1,rfl,hx⟩:=hl vs H Q E hs;have hRP:∀ env,gO 11 225 (A.deeper env):=fun env=>⟨hr.hd,by have:=hr.dp;show A.depth+1+_<_;omega,by have:=hr.un;show A.units+3+_<_;omega⟩
 have hrest:jI (eC tU P w K mg base ["_law_bits_here","_law_told","e"] "_law_refused" (aE (st 42)) f cdv A outer s H E).nox ((aY (st 42)).drop 1)
   (fun D σ H1=>σ=[some v1,some .non,none]/\spx [v1] H1 (fun _ _=>False) (fun C' _ H'=>C' = .ref cT/\∀ H2,aI H' H2->D.rt (.bl true) H2)):=by
  intro pins s1 σ H1 D I ⟨hσ,hx⟩;subst hσ;refine zW (i:=2) (ts:=fun a=>Az (iT 2) (kW 1)) (tr:=trR K cT c1 c2 c3 c4 c5 c6 c7 c8) (W:=fun C' H'=>C' = .ref cT/\∀ H2,aI H' H2->D.rt (.bl true) H2) rfl rfl I.ok S.nd rfl rfl rfl hh.hS (jm hh.sQ) (by decide)
   (fun a o C H' hW hc hd=>?su) (fun a o C H' hW hc=>?re) (fun C H' hW=>?w) (by decide)
   (wq (Q:=fun _ _=>False) I (uv FR (hRP _) rfl hm' kp B' .nil I (aK (pv 0) aW) ⟨v1,rfl,hx⟩) fun _ _ z=>z.elim)
  case su=>exact cF (cC (i:=1) S.nd rfl (.inl rfl) (pv 2))
  case re =>
   have hc:o.cls = .ref cT:=hc.trans hW.1;exact aQ (qj (PW.pt (Bh (qM (yG (fO (jM hh.tQ hc) rfl hi boot_isinstance (aK (pv 1) (aK (dI rfl hh.t rfl) aW))))) (vI (qM (yG (fO (jM hh.tQ hc) rfl hi boot_isinstance (aK (pv 1) (aK (tW (v:=.ty "ValueError") rfl hv (by rfl) rfl) aW)))))))) (cF (iY xp)) jA)
    (cF (iY (xB (fO (jM hh.tQ hc) rfl hi boot_isinstance (aK (pv 1) (aK (oo (aK (dI rfl (cu KX G o1.1) rfl) (aK (dI rfl (cu KX G o2.1) rfl) (aK (dI rfl (cu KX G o3.1) rfl) (aK (dI rfl (cu KX G o4.1) rfl) (aK (dI rfl (cu KX G o5.1) rfl) (aK (dI rfl (cu KX G o6.1) rfl) (aK (dI rfl (cu KX G o7.1) rfl) (aK (dI rfl (cu KX G o8.1) rfl) aW))))))))) aW))))))
  case w =>
   obtain⟨rfl,hQ⟩:=hW;refine⟨⟨cT,rfl,vN hh.tQ hh.st⟩,fun a=>?_⟩;refine⟨.ref a,rfl,?_⟩;refine⟨.ref a,rfl,.inl ⟨cT,rfl,hh.tD,true,gc V.bl hh.tt,?_⟩⟩;refine⟨.ref a,rfl,.inr (.inl ⟨rfl,true,rfl,?_⟩)⟩;refine⟨.ref a,rfl,(show (8:Nat)<=sizeLine by decide),fun p hp=>.inr (.inr ⟨p,[c1,c2,c3,c4,c5,c6,c7,c8],rfl,aL,?_,?_⟩)⟩
   ·intro D hD;simp only[List.mem_cons,List.not_mem_nil,or_false] at hD;rcases hD with rfl | rfl | rfl | rfl | rfl | rfl | rfl | rfl
    ·exact o1.2
    ·exact o2.2
    ·exact o3.2
    ·exact o4.2
    ·exact o5.2
    ·exact o6.2
    ·exact o7.2
    ·exact o8.2
   ·have e:(([c1,c2,c3,c4,c5,c6,c7,c8].map (eH K cT)).any id)=false:=by
     simp only[List.map_cons,List.map_nil,List.any_cons,List.any_nil,n1,n2,n3,n4,n5,n6,n7,n8];rfl
    exact⟨false,gc V.bl e,hQ _ (aI.new hp)⟩
 exact⟨_,jI.nox (aQ (cC (i:=1) S.nd rfl (.inl rfl) rQ) hrest),rfl,hx⟩
end
end K04
end
section
namespace Pc.Gn
open PySem Pc Pc.Sm Pc.Lw Pc.Gr Pc.Nw Pc.Ct
open Pc.Fr (iD)
noncomputable def Ay (k:Nat)(cs:List Nat):List (Int×Nat):=cs.map fun c=>(gM k c,2*k+1)
noncomputable def ch:Nat->List Nat->List (List Nat)
 |0,_=>[]
 |m+1,cs=>cs.take 3::ch m (cs.drop 3)
noncomputable def rD (cs:List Nat):Nat:=(cs.length+2) / 3
noncomputable def oR (m:Nat)(cs:List Nat):List (Int×Nat):=(ch m cs).map fun g=>(pN g,fb g.length)
theorem EW (n:Nat):(Builtin.Range.rangeSize 0 (n:Int) 3).toNat=(n+2) / 3:=by
 unfold Builtin.Range.rangeSize;rw[if_pos (by decide)];by_cases h:(0:Int)<(n:Int)
 ·rw[if_pos h];omega
 ·rw[if_neg h];omega
theorem zV (T:Tb)(env:En)(e1 e2:Ex)(n:Nat)(hn:n<=1000){R:Rt}(h1:ev T e1 env = .ok (.int (n:Int),R)){R2:Rt}(h2:ev T e2 env = .ok (.int 3,R2)):iS T (.rng3 (.cst (.int (0))) e1 e2) env = .ok (aZ 0 3 ((n+2) / 3),[]):=by
 rw[iS,aH,aA,h1,aA,h2,aA];dsimp only;have a1:gL 0=true:=by decide
 have a2:=vH hn;have a3:((3:Int) != 0)=true:=by decide
 have a4:decide ((3:Int).natAbs<1073741824)=true:=by decide
 rw[a1,a2,a3,a4,EW];rfl
theorem xW (cs:List Nat)(s:Nat)(h:s<=cs.length)(hl:cs.length<=1000):Ga (.str (tx cs)) (some (s:Int)) (some ((s:Int)+3))=some (.str (tx ((cs.drop s).take 3))):=by
 show (if (tx cs).length<=lim then some (D.str ⟨(cut cs (some (s:Int)) (some ((s:Int)+3))).toArray⟩) else none)=_;rw[if_pos (zu hl)];have:cut cs (some (s:Int)) (some ((s:Int)+3))=(cs.drop s).take 3:=by
  unfold cut;have h1:aU cs.length 0 (some (s:Int))=s:=by
   unfold aU;dsimp only;rw[if_neg (by omega),bo];omega
  have h2:aU cs.length cs.length (some ((s:Int)+3))=min (s+3) cs.length:=by
   unfold aU;dsimp only;rw[if_neg (by omega),show ((s:Int)+3).toNat=s+3 by omega]
  dsimp only;rw[h1,h2];by_cases hc:s+3<=cs.length
  ·rw[h9 hc,show s+3 - s=3 by omega]
  ·rw[gy (by omega),bu (by rw[bt];omega),bu (by rw[bt];omega)]
 rw[this];rfl
theorem zg {T:Tb}{env:En}{e:Ex}{g:List Nat}(h0:0<g.length)(h3:g.length<=3)(hg:∀ c∈g,c∈kn 1)(h:ev T e env = .ok (.str (tx g),.mv [])):ev T (.blt .int (.cons e .nil)) env = .ok (.int (pN g),.mv []):=by
 obtain⟨a,_,_⟩:=zJ h0 h3 hg;rw[ev,aV,aV,h,aA,aA,aA,uB];have:fQ .int [.str (tx g)]=some (.int (pN g)):=by
  show (if (tx g).length<=640 then (PySem.intText? (tx g)).map D.int else none)=_;rw[if_pos (by rw[gZ];omega),a];rfl
 dsimp only;rw[this,bP,aA,iL]
theorem wA {m:Nat}(h:m<=3):fb m<=10:=by
 unfold fb;split<;>omega
theorem ints3 (s m:Nat):aZ (s:Int) 3 (m+1) = .int (s:Int)::aZ ((s+3:Nat):Int) 3 m:=by
 rw[aZ,show (s:Int)+3=((s+3:Nat):Int) by omega]
noncomputable def Be (k:Nat)(cs:List Nat):List (Int×Nat):=if k=1 then oR (rD cs) cs else Ay k cs
noncomputable def gG (k:Nat)(cs:List Nat):List (Int×Nat):=[((k:Int),2),((cs.length:Int) - 1,6)]++Be k cs
theorem kL {T:Tb}{env:En}{a b:Ex}{x y:List Int}{R R':Rt}(h:ev T a env = .ok (.lst (iD x),R))(h':ev T b env = .ok (.lst (iD y),R'))(hl:x.length+y.length<=20000):ev T (.bin .Add a b) env = .ok (.lst (iD (x++y)),.mv []):=by
 rw[ev,h,aA,h',aA];have:lQ .Add (.lst (iD x)) (.lst (iD y))=some (.lst (iD (x++y))):=by
  show ck ((iD x).length+(iD y).length) (.lst (iD x++iD y))=_;unfold ck;rw[if_pos (by rw[fY,fY];exact limB hl),vQ]
 rw[this,bP,aA,rJ]
noncomputable def PB (p:Pe):List Int:=pb (gG p.1 p.2)
theorem xD {k c:Nat}(h:wx k c=true):c∈kn k:=by
 unfold wx at h;exact List.contains_iff_mem.mp h
noncomputable def sS (P:List Pe):List Int:=(P.map PB).flatten
end Pc.Gn
end
section
namespace Pc.Rd
open PySem Pc Pc.Ct Pc.Gn
noncomputable def gX:List D->Option D
 |[.lst xs]=>match eE xs with
  |some bs=>if jd bs&&decide (bs.length<=10000) then (match lE bs with
   |none=>some (.bl true)
   |some _=>none) else none
  |none=>none
 |_=>none
noncomputable def gK (bs:List Int)(p c:Nat):Int:=num ((bs.drop p).take c)
noncomputable def o9 (k w:Nat)(n:Int):Str:=if 1<k then tx [((kn k)[n.toNat]?).getD 0] else zf (w / 3) n
noncomputable def uT (bs:List Int)(k:Nat):List (Nat×Nat)->Nat->Str->Option (Str×Nat)
 |[],p,acc=>some (acc,p)
 | (w,x)::r,p,acc=>if bs.length<p+w\/(x:Int)<=gK bs p w then none else uT bs k r (p+w) (if 0<w then acc++o9 k w (gK bs p w) else acc)
noncomputable def w3:Nat->List (Nat×Nat)
 |0=>[(0,1)]
 |1=>[(4,10)]
 |_=>[(7,100)]
noncomputable def vF (k c:Nat):List (Nat×Nat):=if 1<k then List.replicate c (2*k+1,(kn k).length) else List.replicate (c / 3) (10,1000)++w3 (c%3)
theorem jB {bs:List Int}{p c:Nat}(h:p+c<=bs.length):gN bs p c=some (gK bs p c):=if_pos h
theorem hZ {bs:List Int}{p c:Nat}(h:¬ p+c<=bs.length):gN bs p c=none:=if_neg h
theorem wU {bs:List Int}(hb:jd bs=true)(p c:Nat):0<=gK bs p c:=by
 have:=nT ((bs.drop p).take c) 0 (by decide) fun b h=>oN hb b (fq (fm h))
 simp at this;exact this.1
theorem wb {bs:List Int}(hb:jd bs=true){k:Nat}(hk:k=2\/k=3):∀(c p:Nat) (acc:Str),uT bs k (List.replicate c (2*k+1,(kn k).length)) p acc=mJ bs k c p acc
 |0,p,acc=>rfl
 | c+1,p,acc=>by
  have hs:sb k=2*k+1:=by rcases hk with rfl | rfl<;>rfl
  rw[bz];show (if bs.length<p+(2*k+1)\/(((kn k).length:Nat):Int)<=gK bs p (2*k+1) then none else uT bs k (List.replicate c (2*k+1,(kn k).length)) (p+(2*k+1)) (if 0<2*k+1 then acc++o9 k (2*k+1) (gK bs p (2*k+1)) else acc))=(gN bs p (sb k)).bind fun n=>match (kn k)[n.toNat]? with
   |some c'=>mJ bs k c (p+sb k) (acc++tx [c'])
   |none=>none
  rw[hs];by_cases h1:p+(2*k+1)<=bs.length
  ·rw[jB h1,dz];have h0:=wU hb p (2*k+1);have e1:o9 k (2*k+1) (gK bs p (2*k+1))=tx [((kn k)[(gK bs p (2*k+1)).toNat]?).getD 0]:=if_pos (by omega);generalize gK bs p (2*k+1)=n at *;by_cases h2:(((kn k).length:Nat):Int)<=n
   ·rw[if_pos (.inr h2),List.getElem?_eq_none (by omega)]
   ·rw[if_neg (by omega),if_pos (by omega),wb hb hk,e1,List.getElem?_eq_getElem (show n.toNat<(kn k).length by omega)];rfl
  ·rw[hZ h1,if_pos (.inl (by omega))];rfl
theorem rK {bs:List Int}(hb:jd bs=true){m w x:Nat}(hm:1<=m/\m<=3)(hw:fb m=w)(hw3:w / 3=m)(hx:gm m+1=(x:Int)){p:Nat}{acc:Str}{r:List (Nat×Nat)}{g:Nat->Str->Option (Str×Nat)}(hr:p+w<=bs.length->∀ a,uT bs 1 r (p+w) a=g (p+w) a) :
  uT bs 1 ((w,x)::r) p acc=(gN bs p (fb m)).bind fun n=>if gm m<n then none else g (p+fb m) (acc++zf m n):=by
 show (if bs.length<p+w\/(x:Int)<=gK bs p w then none else uT bs 1 r (p+w) (if 0<w then acc++o9 1 w (gK bs p w) else acc))=_;rw[hw];by_cases h1:p+w<=bs.length
 ·rw[jB h1,dz];have e1:o9 1 w (gK bs p w)=zf m (gK bs p w):=by
   show zf (w / 3) _=_;rw[hw3]
  generalize gK bs p w=n at *;by_cases h2:(x:Int)<=n
  ·rw[if_pos (.inr h2),if_pos (by omega)]
  ·rw[if_neg (by omega),if_pos (show 0<w by omega),e1,if_neg (show ¬ gm m<n by omega)];exact hr h1 _
 ·rw[hZ h1,if_pos (.inl (by omega))];rfl
theorem ym {bs:List Int}(hb:jd bs=true):∀(f c p:Nat) (acc:Str),c<=f->p<=bs.length->uT bs 1 (List.replicate (c / 3) (10,1000)++w3 (c%3)) p acc=kP bs f p c acc
 | f,0,p,acc,_,hp=>by
  have:kP bs f p 0 acc=some (acc,p):=by cases f<;>rfl
  rw[this];show (if bs.length<p+0\/((1:Nat):Int)<=gK bs p 0 then none else some (if 0<0 then acc++o9 1 0 (gK bs p 0) else acc,p+0))=some (acc,p);have:gK bs p 0=0:=by unfold gK;rw[List.take_zero];rfl
  rw[this,if_neg (by omega)];rfl
 |0,c+1,p,acc,h,hp=>by omega
 | f+1,c+1,p,acc,h,hp=>by
  show _=(gN bs p (fb (ft (c+1)))).bind fun n=>if gm (ft (c+1))<n then none else kP bs f (p+fb (ft (c+1))) (c+1 - ft (c+1)) (acc++zf (ft (c+1)) n)
  by_cases h3:3<=c+1
  ·have e1:(c+1) / 3=(c - 2) / 3+1:=by omega
   have e2:(c+1)%3=(c - 2)%3:=by omega
   have e3:ft (c+1)=3:=if_neg (by omega);rw[e1,e2,e3,bz];exact rK hb (m:=3) (w:=10) (x:=1000) ⟨by omega,by omega⟩ rfl rfl rfl (g:=fun q a=>kP bs f q (c+1 - 3) a) fun hq a=>by
    rw[show c+1 - 3=c - 2 by omega];exact ym hb f (c - 2) _ _ (by omega) hq
  ·have:c=0\/c=1:=by omega
   rcases this with rfl | rfl
   ·exact rK hb (m:=1) (w:=4) (x:=10) (r:=[]) ⟨by omega,by omega⟩ rfl rfl rfl (g:=fun q a=>kP bs f q 0 a) fun hq a=>by cases f<;>rfl
   ·exact rK hb (m:=2) (w:=7) (x:=100) (r:=[]) ⟨by omega,by omega⟩ rfl rfl rfl (g:=fun q a=>kP bs f q 0 a) fun hq a=>by cases f<;>rfl
noncomputable def AE (bs:List Int)(k p:Nat):Option (Str×Nat):=if bs.length<p+8 then none else uT bs k (vF k (1+(gK bs (p+2) 6).toNat)) (p+8) (tx [])
theorem BU {bs:List Int}(hb:jd bs=true){k p:Nat}(h1:1<=k)(h3:k<=3):AE bs k p=(gN bs (p+2) 6).bind fun c=>if k=1 then kP bs (c.toNat+1) (p+2+6) (c.toNat+1) (tx []) else mJ bs k (c.toNat+1) (p+2+6) (tx []):=by
 unfold AE vF;by_cases h:p+2+6<=bs.length
 ·rw[jB h,dz,if_neg (by omega)];generalize (gK bs (p+2) 6).toNat=c;rw[Nat.add_comm 1 c];by_cases e:k=1
  ·subst e;rw[if_pos rfl,if_neg (by omega)];exact ym hb _ _ _ _ (aw _) h
  ·rw[if_neg e,if_pos (by omega)];exact wb hb (by omega) _ _ _
 ·rw[hZ h,if_pos (by omega)];rfl
theorem wZ {bs:List Int}(hb:jd bs=true){f k p:Nat}{acc:List (Nat×Str)}(h1:1<=k)(h3:k<=3):pA bs (f+1) k (p+2) acc=(AE bs k p).bind fun q=>(gN bs q.2 2).bind fun k'=>pA bs f k'.toNat (q.2+2) (acc ++ [(k,q.1)]):=by
 rw[BU hb h1 h3];obtain⟨j,rfl⟩:∃ j,k=j+1:=⟨k - 1,by omega⟩;show ((gN bs (p+2) 6).bind fun c=>(if j=0 then kP bs (c.toNat+1) (p+2+6) (c.toNat+1) (tx []) else mJ bs (j+1) (c.toNat+1) (p+2+6) (tx [])).bind fun q =>
  (gN bs q.2 2).bind fun k'=>pA bs f k'.toNat (q.2+2) (acc ++ [(j+1,q.1)]))=_
 cases gN bs (p+2) 6 with
 |none=>rfl
 |some c =>
  rw[dz,dz];by_cases e:j=0
  ·rw[if_pos e,if_pos (by omega)]
  ·rw[if_neg e,if_neg (by omega)]
end Pc.Rd
end
section
namespace K04
open PySem Pc
noncomputable def b0:cJ:=(.cons (.asg (.nm 1) (.cst (.int (0))) false)
  (.cons (.forr (.nm 2) (.seq (.var 0)) (.cons (.asg (.nm 1) (.bin .Add (.bin .Mult (.cst (.int (2))) (.var 1)) (.var 2)) false)
  .nil))
  (.cons (.ret (.var 1))
  .nil)))
noncomputable def b1:cJ:=(.cons (.expr (.call 0 (.cons (.lst .nil) .nil)))
  (.cons (.ret (.app Pc.Rd.gP (.cons (.var 0) .nil)))
  .nil))
noncomputable def b2:cJ:=(.cons (.ret (.bin .Mod (.bin .Mult (.bin .Add (.bin .Add (.var 0) (.bin .Mult (.var 1) (.var 1))) (.cst (.int (1)))) (.var 2)) (.cst (.int (2305843009213693951)))))
  .nil)
noncomputable def b3:cJ:=(.cons (.asg (.nm 0) (.cst (.str (" !\"#$&'()*+,-./0123456789:;<=>?@ABCDEFGHIJKLMNOPQRSTUVWXYZ[\\]^_`" : PySem.Str))) false)
  (.cons (.ret (.bin .Add (.var 0) (.cst (.str ("abcdefghijklmnopqrstuvwxyz{|}~" : PySem.Str)))))
  .nil))
noncomputable def b4:cJ:=(.cons (.ite (.cmp .Eq (.var 0) (.cst (.int (1)))) (.cons (.ret (.cst (.str ("0123456789" : PySem.Str))))
  .nil) .nil)
  (.cons (.ite (.cmp .Eq (.var 0) (.cst (.int (2)))) (.cons (.ret (.cst (.str (" ABCDEFGHIJKLMNOPQRSTUVWXYZ.,-:/" : PySem.Str))))
  .nil) .nil)
  (.cons (.ret (.call 3 .nil))
  .nil)))
noncomputable def b5:cJ:=(.cons (.asg (.nm 3) (.call 4 (.cons (.var 0) .nil)) false)
  (.cons (.asg (.nm 4) (.cst (.str ("" : PySem.Str))) false)
  (.cons (.forr (.nm 5) (.rng1 (.var 2)) (.cons (.asg (.nm 1) (.bin .Mod (.bin .Mult (.bin .Add (.var 1) (.var 5)) (.cst (.int (40692)))) (.cst (.int (2147483399)))) false)
  (.cons (.asg (.nm 4) (.bin .Add (.var 4) (.ix (.var 3) (.bin .Mod (.bin .FloorDiv (.var 1) (.cst (.int (7)))) (.blt .len (.cons (.var 3) .nil))))) false)
  .nil)))
  (.cons (.ret (.var 4))
  .nil))))
noncomputable def b6:cJ:=(.cons (.asg (.nm 2) (.lst .nil) false)
  (.cons (.forr (.nm 3) (.rng1 (.var 1)) (.cons (.mut 2 .none .insert (.cons (.cst (.int (0))) (.cons (.bin .Mod (.var 0) (.cst (.int (2)))) .nil)))
  (.cons (.asg (.nm 0) (.bin .FloorDiv (.var 0) (.cst (.int (2)))) false)
  .nil)))
  (.cons (.ret (.var 2))
  .nil)))
noncomputable def b7:cJ:=(.cons (.asg (.nm 2) (.bin .Add (.call 6 (.cons (.var 0) (.cons (.cst (.int (2))) .nil))) (.call 6 (.cons (.bin .Sub (.blt .len (.cons (.var 1) .nil)) (.cst (.int (1)))) (.cons (.cst (.int (6))) .nil)))) false)
  (.cons (.ite (.cmp .Gt (.var 0) (.cst (.int (1)))) (.cons (.forr (.nm 3) (.seq (.var 1)) (.cons (.asg (.nm 2) (.bin .Add (.var 2) (.call 6 (.cons (.mth .sfind (.call 4 (.cons (.var 0) .nil)) (.cons (.var 3) .nil)) (.cons (.bin .Add (.bin .Mult (.cst (.int (2))) (.var 0)) (.cst (.int (1)))) .nil)))) false)
  .nil))
  (.cons (.ret (.var 2))
  .nil)) .nil)
  (.cons (.forr (.nm 4) (.rng3 (.cst (.int (0))) (.blt .len (.cons (.var 1) .nil)) (.cst (.int (3)))) (.cons (.asg (.nm 5) (.sl (.var 1) (.some (.var 4)) (.some (.bin .Add (.var 4) (.cst (.int (3)))))) false)
  (.cons (.asg (.nm 2) (.bin .Add (.var 2) (.call 6 (.cons (.blt .int (.cons (.var 5) .nil)) (.cons (.ix (.lst (.cons (.cst (.int (0))) (.cons (.cst (.int (4))) (.cons (.cst (.int (7))) (.cons (.cst (.int (10))) .nil))))) (.blt .len (.cons (.var 5) .nil))) .nil)))) false)
  .nil)))
  (.cons (.ret (.var 2))
  .nil))))
noncomputable def b8:cJ:=(.cons (.asg (.nm 1) (.lst .nil) false)
  (.cons (.asg (.nm 2) (.cst (.int (0))) false)
  (.cons (.forr (.nm 3) (.rng1 (.blt .len (.cons (.var 0) .nil))) (.cons (.asg (.nm 4) (.call 2 (.cons (.ix (.var 0) (.var 3)) (.cons (.var 3) (.cons (.cst (.int (1234567890123456789))) .nil)))) false)
  (.cons (.asg (.nm 5) (.bin .Add (.cst (.int (1))) (.bin .Mod (.bin .FloorDiv (.var 4) (.cst (.int (3)))) (.cst (.int (7))))) false)
  (.cons (.ite (.cmp .Eq (.bin .Mod (.bin .FloorDiv (.var 4) (.cst (.int (21)))) (.cst (.int (9)))) (.cst (.int (1)))) (.cons (.asg (.nm 5) (.bin .Add (.cst (.int (1))) (.bin .Mod (.bin .FloorDiv (.var 4) (.cst (.int (189)))) (.cst (.int (64))))) false)
  .nil) .nil)
  (.cons (.ite (.cmp .LtE (.bin .Add (.var 2) (.var 5)) (.cst (.int (60)))) (.cons (.mut 1 .none .append (.cons (.tup (.cons (.bin .Add (.cst (.int (1))) (.bin .Mod (.var 4) (.cst (.int (3))))) (.cons (.call 5 (.cons (.bin .Add (.cst (.int (1))) (.bin .Mod (.var 4) (.cst (.int (3))))) (.cons (.bin .Mod (.bin .FloorDiv (.var 4) (.cst (.int (12096)))) (.cst (.int (2147483399)))) (.cons (.var 5) .nil)))) .nil))) .nil))
  (.cons (.asg (.nm 2) (.bin .Add (.var 2) (.var 5)) false)
  .nil)) .nil)
  .nil)))))
  (.cons (.ret (.var 1))
  .nil))))
noncomputable def b9:cJ:=(.cons (.asg (.nm 1) (.cst (.int (0))) false)
  (.cons (.forr (.nm 2) (.seq (.var 0)) (.cons (.asg (.nm 1) (.bin .Add (.bin .Mult (.cst (.int (2))) (.var 1)) (.var 2)) false)
  .nil))
  (.cons (.ret (.var 1))
  .nil)))
noncomputable def b10:cJ:=(.cons (.ite (.cmp .Gt (.var 0) (.cst (.int (1)))) (.cons (.ret (.bin .Mult (.lst (.cons (.tup (.cons (.bin .Add (.bin .Mult (.cst (.int (2))) (.var 0)) (.cst (.int (1)))) (.cons (.blt .len (.cons (.call 4 (.cons (.var 0) .nil)) .nil)) .nil))) .nil)) (.var 1)))
  .nil) .nil)
  (.cons (.ret (.bin .Add (.bin .Mult (.lst (.cons (.tup (.cons (.cst (.int (10))) (.cons (.cst (.int (1000))) .nil))) .nil)) (.bin .FloorDiv (.var 1) (.cst (.int (3))))) (.sl (.lst (.cons (.tup (.cons (.cst (.int (0))) (.cons (.cst (.int (1))) .nil))) (.cons (.tup (.cons (.cst (.int (4))) (.cons (.cst (.int (10))) .nil))) (.cons (.tup (.cons (.cst (.int (7))) (.cons (.cst (.int (100))) .nil))) .nil)))) (.some (.bin .Mod (.var 1) (.cst (.int (3))))) (.some (.bin .Add (.bin .Mod (.var 1) (.cst (.int (3)))) (.cst (.int (1))))))))
  .nil))
noncomputable def b11:cJ:=(.cons (.ite (.cmp .Gt (.var 0) (.cst (.int (1)))) (.cons (.ret (.ix (.call 4 (.cons (.var 0) .nil)) (.var 1)))
  .nil) .nil)
  (.cons (.asg (.nm 3) (.blt .str (.cons (.var 1) .nil)) false)
  (.cons (.whl (.cmp .Lt (.blt .len (.cons (.var 3) .nil)) (.bin .FloorDiv (.var 2) (.cst (.int (3))))) (.cons (.asg (.nm 3) (.bin .Add (.cst (.str ("0" : PySem.Str))) (.var 3)) false)
  .nil))
  (.cons (.ret (.var 3))
  .nil))))
noncomputable def b12:cJ:=(.cons (.asg (.nm 2) (.call 9 (.cons (.sl (.var 0) (.some (.var 1)) (.some (.bin .Add (.var 1) (.cst (.int (2)))))) .nil)) false)
  (.cons (.ite (.cmp .Lt (.blt .len (.cons (.var 0) .nil)) (.bin .Add (.var 1) (.cst (.int (8))))) (.cons (.ret (.cst .non))
  .nil) .nil)
  (.cons (.asg (.nm 3) (.bin .Add (.cst (.int (1))) (.call 9 (.cons (.sl (.var 0) (.some (.bin .Add (.var 1) (.cst (.int (2))))) (.some (.bin .Add (.var 1) (.cst (.int (8)))))) .nil))) false)
  (.cons (.asg (.nm 1) (.bin .Add (.var 1) (.cst (.int (8)))) false)
  (.cons (.asg (.nm 4) (.cst (.str ("" : PySem.Str))) false)
  (.cons (.forr (.tp [5,6]) (.seq (.call 10 (.cons (.var 2) (.cons (.var 3) .nil)))) (.cons (.asg (.nm 7) (.call 9 (.cons (.sl (.var 0) (.some (.var 1)) (.some (.bin .Add (.var 1) (.var 5)))) .nil)) false)
  (.cons (.ite (.or (.cmp .Lt (.blt .len (.cons (.var 0) .nil)) (.bin .Add (.var 1) (.var 5))) (.cmp .GtE (.var 7) (.var 6))) (.cons (.ret (.cst .non))
  .nil) .nil)
  (.cons (.ite (.cmp .Gt (.var 5) (.cst (.int (0)))) (.cons (.asg (.nm 4) (.bin .Add (.var 4) (.call 11 (.cons (.var 2) (.cons (.var 7) (.cons (.var 5) .nil))))) false)
  .nil) .nil)
  (.cons (.asg (.nm 1) (.bin .Add (.var 1) (.var 5)) false)
  .nil)))))
  (.cons (.ret (.tup (.cons (.tup (.cons (.var 2) (.cons (.var 4) .nil))) (.cons (.var 1) .nil))))
  .nil)))))))
noncomputable def b13:cJ:=(.cons (.asg (.nm 1) (.lst .nil) false)
  (.cons (.asg (.nm 2) (.cst (.int (0))) false)
  (.cons (.whl (.and (.cmp .GtE (.blt .len (.cons (.var 0) .nil)) (.bin .Add (.var 2) (.cst (.int (2))))) (.cmp .NotEq (.sl (.var 0) (.some (.var 2)) (.some (.bin .Add (.var 2) (.cst (.int (2)))))) (.lst (.cons (.cst (.int (0))) (.cons (.cst (.int (0))) .nil))))) (.cons (.asg (.nm 3) (.call 12 (.cons (.var 0) (.cons (.var 2) .nil))) false)
  (.cons (.ite (.cmp .Is (.var 3) (.cst .non)) (.cons (.ret (.cst .non))
  .nil) .nil)
  (.cons (.mut 1 .none .append (.cons (.ix (.var 3) (.cst (.int (0)))) .nil))
  (.cons (.asg (.nm 2) (.ix (.var 3) (.cst (.int (1)))) false)
  .nil)))))
  (.cons (.ite (.cmp .Lt (.blt .len (.cons (.var 0) .nil)) (.bin .Add (.var 2) (.cst (.int (2))))) (.cons (.ret (.cst .non))
  .nil) .nil)
  (.cons (.ret (.tup (.cons (.var 1) (.cons (.bin .Add (.var 2) (.cst (.int (2)))) .nil))))
  .nil)))))
noncomputable def b14:cJ:=(.cons (.asg (.nm 2) (.lst .nil) false)
  (.cons (.forr (.nm 3) (.rng1 (.var 1)) (.cons (.asg (.nm 0) (.bin .Mod (.bin .Mult (.bin .Add (.var 0) (.var 3)) (.cst (.int (40692)))) (.cst (.int (2147483399)))) false)
  (.cons (.mut 2 .none .append (.cons (.bin .Mod (.bin .FloorDiv (.var 0) (.cst (.int (5)))) (.cst (.int (2)))) .nil))
  .nil)))
  (.cons (.ret (.var 2))
  .nil)))
noncomputable def GK:cJ:=(.cons (.asg (.nm 2) (.bin .Mod (.bin .FloorDiv (.var 1) (.cst (.int (5)))) (.blt .len (.cons (.var 0) .nil))) false)
  (.cons (.ite (.cmp .Eq (.bin .Mod (.var 1) (.cst (.int (5)))) (.cst (.int (0)))) (.cons (.ret (.sl (.var 0) .none (.some (.var 2))))
  .nil) .nil)
  (.cons (.ite (.cmp .Eq (.bin .Mod (.var 1) (.cst (.int (5)))) (.cst (.int (1)))) (.cons (.ret (.bin .Add (.bin .Add (.sl (.var 0) .none (.some (.var 2))) (.lst (.cons (.bin .Sub (.cst (.int (1))) (.ix (.var 0) (.var 2))) .nil))) (.sl (.var 0) (.some (.bin .Add (.var 2) (.cst (.int (1))))) .none)))
  .nil) .nil)
  (.cons (.ite (.cmp .Eq (.bin .Mod (.var 1) (.cst (.int (5)))) (.cst (.int (2)))) (.cons (.ret (.bin .Add (.bin .Add (.sl (.var 0) .none (.some (.var 2))) (.call 14 (.cons (.bin .Mod (.bin .FloorDiv (.var 1) (.cst (.int (10007)))) (.cst (.int (2147483399)))) (.cons (.bin .Add (.cst (.int (1))) (.bin .Mod (.bin .FloorDiv (.var 1) (.cst (.int (5003)))) (.cst (.int (12))))) .nil)))) (.sl (.var 0) (.some (.var 2)) .none)))
  .nil) .nil)
  (.cons (.ite (.cmp .Eq (.bin .Mod (.var 1) (.cst (.int (5)))) (.cst (.int (3)))) (.cons (.ret (.bin .Add (.sl (.var 0) .none (.some (.var 2))) (.bin .Mult (.lst (.cons (.cst (.int (1))) .nil)) (.bin .Sub (.blt .len (.cons (.var 0) .nil)) (.var 2)))))
  .nil) .nil)
  (.cons (.ret (.call 14 (.cons (.bin .Mod (.bin .FloorDiv (.var 1) (.cst (.int (10007)))) (.cst (.int (2147483399)))) (.cons (.bin .Mod (.bin .FloorDiv (.var 1) (.cst (.int (5)))) (.cst (.int (121)))) .nil))))
  .nil))))))
noncomputable def b16:cJ:=(.cons (.expr (.call 4 (.cons (.cst (.int (3))) .nil)))
  (.cons (.ret (.app Pc.Rd.gX (.cons (.var 0) .nil)))
  .nil))
noncomputable def GV:cJ:=(.cons (.asg (.nm 1) (.lst .nil) false)
  (.cons (.forr (.tp [2,3]) (.seq (.call 8 (.cons (.sl (.var 0) .none (.some (.cst (.int (63))))) .nil))) (.cons (.asg (.nm 1) (.bin .Add (.var 1) (.call 7 (.cons (.var 2) (.cons (.var 3) .nil)))) false)
  .nil))
  (.cons (.asg (.nm 1) (.bin .Add (.var 1) (.lst (.cons (.cst (.int (0))) (.cons (.cst (.int (0))) .nil)))) false)
  (.cons (.asg (.nm 4) (.bin .Add (.sl (.var 0) .none (.some (.cst (.int (6))))) (.lst (.cons (.blt .sum (.cons (.comp 1 [] (.nm 0) (.seq (.sl (.var 0) .none (.some (.cst (.int (63)))))) .none (.bin .Mod (.var 0) (.cst (.int (1000003))))) .nil)) .nil))) false)
  (.cons (.forr (.nm 5) (.rng1 (.blt .len (.cons (.var 4) .nil))) (.cons (.asg (.nm 6) (.call 15 (.cons (.var 1) (.cons (.call 2 (.cons (.ix (.var 4) (.var 5)) (.cons (.var 5) (.cons (.cst (.int (1111111111111111111))) .nil)))) .nil))) false)
  (.cons (.asg (.nm 7) (.call 13 (.cons (.var 6) .nil)) false)
  (.cons (.ite (.and (.cmp .Is (.var 7) (.cst .non)) (.not (.call 16 (.cons (.blt .list (.cons (.var 6) .nil)) .nil)))) (.cons (.ret (.cst (.bl false)))
  .nil) .nil)
  (.cons (.ite (.and (.cmp .IsNot (.var 7) (.cst .non)) (.cmp .NotEq (.call 1 (.cons (.blt .list (.cons (.var 6) .nil)) .nil)) (.var 7))) (.cons (.ret (.cst (.bl false)))
  .nil) .nil)
  .nil)))))
  (.cons (.ret (.cst (.bl true)))
  .nil))))))
noncomputable def fns:List Fn:=[⟨1,3,b0⟩,⟨1,6,b1⟩,⟨3,3,b2⟩,⟨0,1,b3⟩,⟨1,1,b4⟩,⟨3,6,b5⟩,⟨2,4,b6⟩,⟨2,6,b7⟩,⟨1,6,b8⟩,⟨1,3,b9⟩,⟨2,2,b10⟩,⟨3,4,b11⟩,⟨2,8,b12⟩,⟨1,4,b13⟩,⟨2,4,b14⟩,⟨2,3,GK⟩,⟨1,3,b16⟩,⟨1,8,GV⟩]
noncomputable def gl:Nat->D
 |0=>.int 0
 |1=>.int 1
 |2=>.tup [.str ("" : PySem.Str),.str ("0123456789" : PySem.Str),.str (" ABCDEFGHIJKLMNOPQRSTUVWXYZ.,-:/" : PySem.Str),.str (" !\"#$&'()*+,-./0123456789:;<=>?@ABCDEFGHIJKLMNOPQRSTUVWXYZ[\\]^_`abcdefghijklmnopqrstuvwxyz{|}~" : PySem.Str)]
 |3=>.tup [.int 0,.int 0,.int 5,.int 7]
 |4=>.int 2
 |5=>.int 6
 |6=>.tup [.int 0,.int 4,.int 7,.int 10]
 |7=>.tup [.int 0,.int 9,.int 99,.int 999]
 |8=>.int 3
 |_=>.non
noncomputable abbrev T (n:Nat):Tb:=⟨Pc.run fns gl 1000 n,gl,1000⟩
theorem qz (n:Nat):(T n).cl=Pc.run fns gl 1000 n:=rfl
end K04
end
section
namespace K04
open PySem Pc Pc.Sm Pc.Lw Pc.Gr Pc.Nw Pc.Ct Pc.Gn Pc.Rd
open Pc.Fr (iD)
def vw (T:Tb):Prop:=∀(c:Int) (k:Nat) (f:Int),k<=64->small f=true->∃ r:Int,0<=r/\T.cl 2 [.int c,.int (k:Int),.int f] = .ok (.int r,true)
theorem mx (n:Nat):vw (T (n+1)):=fun c k f hk hf=>by
 have hst:aP [.int c,.int (k:Int),.int f] 3=[sI c,sI (k:Int),sI f]:=rfl;have v0:ev (T n) (.var 0) [sI c,sI (k:Int),sI f] = .ok (.int c,.mv []):=aF rfl rfl;have v1:ev (T n) (.var 1) [sI c,sI (k:Int),sI f] = .ok (.int (k:Int),.mv []):=aF rfl rfl;have v2:ev (T n) (.var 2) [sI c,sI (k:Int),sI f] = .ok (.int f,.mv []):=aF rfl rfl;have hs:small (k:Int)=true:=by unfold small;exact ba ⟨by omega,by omega⟩
 have e:=cP (by decide:(0:Int)<2305843009213693951) (Fr.jL (by rw[hf,Bool.or_true]) (cM (cM v0 (Fr.jL (by rw[hs];rfl) v1 v1)) (aH (.int 1))) v2) (aH (.int 2305843009213693951));refine⟨(c+(k:Int)*(k:Int)+1)*f%2305843009213693951,gi _ (by decide),?_⟩;rw[qz,bO (F:=⟨3,3,b2⟩) rfl rfl];dsimp only;rw[hst];exact gH e
def vh (T:Tb):Prop:=∀ k:Nat,1<=k->k<=3->T.cl 4 [.int (k:Int)] = .ok (.str (KS k),true)
theorem GB (n:Nat):vh (T (n+2)):=fun k h1 h3=>by
 rw[qz,bO (F:=⟨1,1,b4⟩) rfl rfl];have:k=1\/k=2\/k=3:=by omega
 rcases this with rfl | rfl | rfl
 ·rfl
 ·rfl
 ·rfl
noncomputable def zq:cJ:=(.cons (.asg (.nm 1) (.bin .Mod (.bin .Mult (.bin .Add (.var 1) (.var 5)) (.cst (.int (40692)))) (.cst (.int (2147483399)))) false)
  (.cons (.asg (.nm 4) (.bin .Add (.var 4) (.ix (.var 3) (.bin .Mod (.bin .FloorDiv (.var 1) (.cst (.int (7)))) (.blt .len (.cons (.var 3) .nil))))) false)
  .nil))
theorem G8:b5=(.cons (.asg (.nm 3) (.call 4 (.cons (.var 0) .nil)) false)
  (.cons (.asg (.nm 4) (.cst (.str ("" : PySem.Str))) false)
  (.cons (.forr (.nm 5) (.rng1 (.var 2)) zq)
  (.cons (.ret (.var 4))
  .nil)))):=rfl
noncomputable abbrev ES (k m n:Int)(S cs:List Nat)(a:Slot):En:=[sI k,sI m,sI n,sT S,sT cs,a]
theorem oF {k m n:Int}{S cs:List Nat}{a:Slot}(h:bY a):Tame (ES k m n S cs a):=.cons (aC _) (.cons (aC _) (.cons (aC _) (.cons (aC _) (.cons (aC _) (.cons h .nil)))))
theorem FQ {T:Tb}{k m n j:Int}{S cs:List Nat}(hS:S.length<=100)(hS0:0<S.length)(hcs:cs.length<=200):∃ m',∃ c∈S,aD T zq (ES k m n S cs (sI j)) = .nx (ES k m' n S (cs ++ [c]) (sI j)):=by
 have e1:=cP (by decide:(0:Int)<2147483399) (Fr.jL (by rw[show small 40692=true by decide,Bool.or_true]) (cM (aF (T:=T) (env:=ES k m n S cs (sI j)) (i:=1) (d:=.int m) (t:=.own) rfl rfl) (aF (i:=5) (d:=.int j) (t:=.own) rfl rfl)) (aH (.int 40692))) (aH (.int 2147483399));have g1:=bJ (i:=1) (oF (k:=k) (m:=m) (n:=n) (S:=S) (cs:=cs) (aC (.int j))) (show (1:Nat)<6 by decide) e1;have g1:bM T (.asg (.nm 1) (.bin .Mod (.bin .Mult (.bin .Add (.var 1) (.var 5)) (.cst (.int (40692)))) (.cst (.int (2147483399)))) false) (ES k m n S cs (sI j)) = .nx (ES k ((m+j)*40692%2147483399) n S cs (sI j)):=g1;generalize (m+j)*40692%2147483399=m' at g1;have v3:ev T (.var 3) (ES k m' n S cs (sI j)) = .ok (.str (tx S),.mv []):=aF rfl rfl;have e2:=cP (show (0:Int)<(S.length:Int) by omega) (cR (by decide) (by decide) (aF (T:=T) (env:=ES k m' n S cs (sI j)) (i:=1) (d:=.int m') (t:=.own) rfl rfl) (aH (.int 7))) (jR (by omega) v3);obtain⟨c,hc,e3⟩:=CJ (by omega) (gi _ (by omega)) (gv _ (show (0:Int)<(S.length:Int) by omega)) v3 e2;have e4:=Ct.sR (aF (T:=T) (env:=ES k m' n S cs (sI j)) (i:=4) (d:=.str (tx cs)) (t:=.own) rfl rfl) e3 (by rw[cz];omega);have g2:=bJ (i:=4) (oF (k:=k) (m:=m') (n:=n) (S:=S) (cs:=cs) (aC (.int j))) (show (4:Nat)<6 by decide) e4;refine⟨m',c,hc,?_⟩;unfold zq;rw[aD,g1,aB,aD,g2,aB,aD];rfl
theorem tz {T:Tb}{k n:Int}{S:List Nat}(hS:S.length<=100)(hS0:0<S.length):∀(l:List Int) (m:Int) (cs:List Nat) (a:Slot),bY a->cs.length+l.length<=100->(∀ c∈cs,c∈S)->∃ m' cs' a',bY a'/\cs'.length=cs.length+l.length/\(∀ c∈cs',c∈S)/\bL (.nm 5) [] (aD T zq) (l.map D.int) (ES k m n S cs a) = .nx (ES k m' n S cs' a')
 |[],m,cs,a,h,_,hc=>⟨m,cs,a,h,rfl,hc,rfl⟩
 | j::l,m,cs,a,h,hl,hc=>by
  rw[ak] at hl;obtain⟨m1,c,hcS,st⟩:=FQ (T:=T) (k:=k) (m:=m) (n:=n) (j:=j) (cs:=cs) hS hS0 (by omega);obtain⟨m',cs',a',t',q1,q2,q⟩:=tz (T:=T) (k:=k) (n:=n) hS hS0 l m1 (cs ++ [c]) (sI j) (aC _) (by rw[aj,cz];omega) (fun x hx=>by
   rcases List.mem_append.mp hx with hx | hx
   ·exact hc x hx
   ·rw[gp.mp hx];exact hcS)
  refine⟨m',cs',a',t',by rw[q1,aj,cz,ak];omega,q2,?_⟩;have hb:bQ [] (.nm 5) (.int j) (ES k m n S cs a)=some (ES k m n S cs (sI j)):=eT (oF h) (show (5:Nat)<6 by decide);rw[ay,dE hb st];exact q
def Di (T:Tb):Prop:=∀(k:Nat) (m:Int) (n:Nat),1<=k->k<=3->n<=64->∃ cs:List Nat,cs.length=n/\(∀ c∈cs,c∈kn k)/\T.cl 5 [.int (k:Int),.int m,.int (n:Int)] = .ok (.str (tx cs),true)
theorem sn (n:Nat):Di (T (n+3)):=fun k m c h1 h3 hc=>by
 obtain⟨hb1,hb2⟩:=C3 h1 h3;have hst:aP [.int (k:Int),.int m,.int (c:Int)] 6=[sI (k:Int),sI m,sI (c:Int),none,none,none]:=rfl;have tn:=cN;have ec:=fB (aF (T:=T (n+2)) (env:=[sI (k:Int),sI m,sI (c:Int),none,none,none]) (i:=0) (d:=.int (k:Int)) (t:=.own) rfl rfl) (GB n k h1 h3);rw[yn] at ec;have g1:bM (T (n+2)) (.asg (.nm 3) (.call 4 (.cons (.var 0) .nil)) false) [sI (k:Int),sI m,sI (c:Int),none,none,none] = .nx [sI (k:Int),sI m,sI (c:Int),sT (kn k),none,none]:=bJ (.cons (aC _) (.cons (aC _) (.cons (aC _) (.cons tn (.cons tn (.cons tn .nil)))))) (show (3:Nat)<6 by decide) ec;have g2:bM (T (n+2)) (.asg (.nm 4) (.cst (.str ("" : PySem.Str))) false) [sI (k:Int),sI m,sI (c:Int),sT (kn k),none,none] = .nx (ES (k:Int) m (c:Int) (kn k) [] none):=by
  generalize kn k=S;rfl
 obtain⟨m',cs,a',t',q1,q2,q⟩:=tz (T:=T (n+2)) (k:=(k:Int)) (n:=(c:Int)) hb1 hb2 ((List.range c).map fun j=>((0+j:Nat):Int)) m [] none tn (by rw[av,dw];show 0+c<=100;omega) (fun _ h=>(nomatch h));have hit:iS (T (n+2)) (.rng1 (.var 2)) (ES (k:Int) m (c:Int) (kn k) [] none) = .ok (((List.range c).map fun j=>((0+j:Nat):Int)).map D.int,[]):=by
  rw[Af (m:=c) (aF rfl rfl) (by omega),eJ,gg];rfl
 have g3:=dW hit q;refine⟨cs,by rw[q1,cj,av,dw];omega,q2,?_⟩;rw[qz,bO (F:=⟨3,6,b5⟩) rfl rfl];dsimp only;rw[hst,G8,aD,g1,aB,aD,g2,aB,aD,g3,aB];exact gH (aF rfl rfl)
noncomputable def zQ:cJ:=(.cons (.mut 2 .none .insert (.cons (.cst (.int (0))) (.cons (.bin .Mod (.var 0) (.cst (.int (2)))) .nil)))
  (.cons (.asg (.nm 0) (.bin .FloorDiv (.var 0) (.cst (.int (2)))) false)
  .nil))
theorem G4:b6=(.cons (.asg (.nm 2) (.lst .nil) false)
  (.cons (.forr (.nm 3) (.rng1 (.var 1)) zQ)
  (.cons (.ret (.var 2))
  .nil))):=rfl
noncomputable abbrev EL (x w:Int)(L:List Int)(a:Slot):En:=[sI x,sI w,oI L,a]
theorem iK {x w:Int}{L:List Int}{a:Slot}(h:bY a):Tame (EL x w L a):=.cons (aC _) (.cons (aC _) (.cons (aC _) (.cons h .nil)))
theorem FL {T:Tb}{x w j:Int}{L:List Int}(hL:L.length<=100):aD T zQ (EL x w L (sI j)) = .nx (EL (x / 2) w (x%2::L) (sI j)):=by
 have e1:=cP (by decide:(0:Int)<2) (aF (T:=T) (env:=EL x w L (sI j)) (i:=0) (d:=.int x) (t:=.own) rfl rfl) (aH (.int 2));have g1:=zY (x:=2) (iK (x:=x) (w:=w) (L:=L) (aC (.int j))) rfl e1 (by rw[fY];exact bg (Nat.succ_le_succ hL) (by decide));have g1:bM T (.mut 2 .none .insert (.cons (.cst (.int (0))) (.cons (.bin .Mod (.var 0) (.cst (.int (2)))) .nil))) (EL x w L (sI j)) = .nx (EL x w (x%2::L) (sI j)):=g1;have e2:=cR (by decide:(0:Int)<2) (by decide) (aF (T:=T) (env:=EL x w (x%2::L) (sI j)) (i:=0) (d:=.int x) (t:=.own) rfl rfl) (aH (.int 2));have g2:=bJ (i:=0) (iK (x:=x) (w:=w) (L:=x%2::L) (aC (.int j))) (show (0:Nat)<4 by decide) e2;unfold zQ;rw[aD,g1,aB,aD,g2,aB,aD];rfl
theorem sM {T:Tb}{x w:Int}:∀(l:List Int) (k:Nat) (a:Slot),bY a->k+l.length<=60->∃ a',bL (.nm 3) [] (aD T zQ) (l.map D.int) (EL (x / 2 ^ k) w (aS x k) a) = .nx (EL (x / 2 ^ (k+l.length)) w (aS x (k+l.length)) a')
 |[],k,a,h,_=>⟨a,rfl⟩
 | j::l,k,a,h,hl=>by
  rw[ak] at hl;have st:=FL (T:=T) (x:=x / 2 ^ k) (w:=w) (j:=j) (L:=aS x k) (by rw[bC];omega);have e1:x / 2 ^ k / 2=x / 2 ^ (k+1):=by rw[Int.pow_succ,Int.ediv_ediv_of_nonneg (Int.pow_nonneg (by decide))]
  have e2:x / 2 ^ k%2::aS x k=aS x (k+1):=rfl;rw[e1,e2] at st;obtain⟨a',q⟩:=sM (T:=T) (x:=x) (w:=w) l (k+1) (sI j) (aC _) (by omega);have hb:bQ [] (.nm 3) (.int j) (EL (x / 2 ^ k) w (aS x k) a)=some (EL (x / 2 ^ k) w (aS x k) (sI j)):=eT (iK h) (show (3:Nat)<4 by decide);refine⟨a',?_⟩;rw[ay,dE hb st,q,ak,show k+1+l.length=k+(l.length+1) by omega]
def vz (T:Tb):Prop:=∀(x:Int) (c:Nat),c<=60->T.cl 6 [.int x,.int (c:Int)] = .ok (.lst (iD (aS x c)),true)
theorem lb (n:Nat):vz (T (n+1)):=fun x c hc=>by
 have hst:aP [.int x,.int (c:Int)] 4=[sI x,sI (c:Int),none,none]:=rfl;have g1:bM (T n) (.asg (.nm 2) (.lst .nil) false) [sI x,sI (c:Int),none,none] = .nx (EL x (c:Int) [] none):=rfl;obtain⟨a',q⟩:=sM (T:=T n) (x:=x) (w:=(c:Int)) ((List.range c).map fun j=>((0+j:Nat):Int)) 0 none cN (by rw[av,dw];omega);rw[Int.pow_zero,Int.ediv_one,av,dw,gd] at q;have hit:iS (T n) (.rng1 (.var 1)) (EL x (c:Int) [] none) = .ok (((List.range c).map fun j=>((0+j:Nat):Int)).map D.int,[]):=by
  rw[Af (m:=c) (aF rfl rfl) (by omega),eJ,gg];rfl
 have g2:=dW hit q;rw[qz,bO (F:=⟨2,4,b6⟩) rfl rfl];dsimp only;generalize aS x c=B at *;rw[hst,G4,aD,g1,aB,aD,g2,aB];have v2:ev (T n) (.var 2) (EL (x / 2 ^ c) (c:Int) B a') = .ok (.lst (iD B),.mv [2]):=eY rfl rfl;rw[aD,bM,v2,aR];rfl
noncomputable def AB:cJ:=(.cons (.asg (.nm 2) (.bin .Add (.var 2) (.call 6 (.cons (.mth .sfind (.call 4 (.cons (.var 0) .nil)) (.cons (.var 3) .nil)) (.cons (.bin .Add (.bin .Mult (.cst (.int (2))) (.var 0)) (.cst (.int (1)))) .nil)))) false)
  .nil)
noncomputable def z0:cJ:=(.cons (.asg (.nm 5) (.sl (.var 1) (.some (.var 4)) (.some (.bin .Add (.var 4) (.cst (.int (3)))))) false)
  (.cons (.asg (.nm 2) (.bin .Add (.var 2) (.call 6 (.cons (.blt .int (.cons (.var 5) .nil)) (.cons (.ix (.lst (.cons (.cst (.int (0))) (.cons (.cst (.int (4))) (.cons (.cst (.int (7))) (.cons (.cst (.int (10))) .nil))))) (.blt .len (.cons (.var 5) .nil))) .nil)))) false)
  .nil))
theorem GZ:b7=(.cons (.asg (.nm 2) (.bin .Add (.call 6 (.cons (.var 0) (.cons (.cst (.int (2))) .nil))) (.call 6 (.cons (.bin .Sub (.blt .len (.cons (.var 1) .nil)) (.cst (.int (1)))) (.cons (.cst (.int (6))) .nil)))) false)
  (.cons (.ite (.cmp .Gt (.var 0) (.cst (.int (1)))) (.cons (.forr (.nm 3) (.seq (.var 1)) AB)
  (.cons (.ret (.var 2))
  .nil)) .nil)
  (.cons (.forr (.nm 4) (.rng3 (.cst (.int (0))) (.blt .len (.cons (.var 1) .nil)) (.cst (.int (3)))) z0)
  (.cons (.ret (.var 2))
  .nil)))):=rfl
noncomputable abbrev EB (k:Nat)(cs:List Nat)(L:List Int)(a3 a4 a5:Slot):En:=[sN k,sT cs,oI L,a3,a4,a5]
theorem jv {k:Nat}{cs:List Nat}{L:List Int}{a3 a4 a5:Slot}(h3:bY a3)(h4:bY a4)(h5:bY a5):Tame (EB k cs L a3 a4 a5):=.cons (aC _) (.cons (aC _) (.cons (aC _) (.cons h3 (.cons h4 (.cons h5 .nil)))))
theorem Ax {T:Tb}{env:En}{a b:Ex}{k c:Nat}{R R':Rt}(hk:k=2\/k=3)(hc:c∈kn k)(ha:ev T a env = .ok (.str (KS k),R))(hb:ev T b env = .ok (.str (tx [c]),R')):ev T (.mth .sfind a (.cons b .nil)) env = .ok (.int (gM k c),.mv []):=by
 rw[ev,ha,aA,aV,hb,aA,aV,aA,aA];show (fE (n9 .sfind (.str (KS k)) [.str (tx [c])])).bind _=_;rw[(AN hk hc).2.1];rfl
theorem EY {T:Tb}(hB:vz T)(hK:vh T){k:Nat}(hk:k=2\/k=3){cs:List Nat}{L:List Int}{c:Nat}{a4 a5:Slot}(h4:bY a4)(h5:bY a5)(hc:c∈kn k)(hL:L.length<=2000):aD T AB (EB k cs L (sT [c]) a4 a5) = .nx (EB k cs (L++aS (gM k c) (2*k+1)) (sT [c]) a4 a5):=by
 have v0:ev T (.var 0) (EB k cs L (sT [c]) a4 a5) = .ok (.int (k:Int),.mv []):=aF rfl rfl;have ef:=Ax hk hc (fB v0 (hK k (by omega) (by omega))) (aF (T:=T) (env:=EB k cs L (sT [c]) a4 a5) (i:=3) (d:=.str (tx [c])) (t:=.own) rfl rfl);have hs:small 2=true:=by decide
 have ew:=cM (Fr.jL (by rw[hs];rfl) (aH (.int 2)) v0) (aH (.int 1));rw[show (2:Int)*(k:Int)+1=((2*k+1:Nat):Int) by omega] at ew;have ec:=iF ef ew (hB (gM k c) (2*k+1) (by omega));have hl:(aS (gM k c) (2*k+1)).length=2*k+1:=bC _ _;generalize aS (gM k c) (2*k+1)=B at *;obtain⟨R,v2⟩:∃ R,ev T (.var 2) (EB k cs L (sT [c]) a4 a5) = .ok (.lst (iD L),R):=⟨_,eY rfl rfl⟩;have e:=kL v2 ec (by omega);have g:=bJ (i:=2) (jv (k:=k) (cs:=cs) (L:=L) (aC (.str (tx [c]))) h4 h5) (show (2:Nat)<6 by decide) e;unfold AB;rw[aD,g,aB,aD];rfl
theorem tP {T:Tb}(hB:vz T)(hK:vh T){k:Nat}(hk:k=2\/k=3){cs0:List Nat}{a4 a5:Slot}(h4:bY a4)(h5:bY a5):∀(cs:List Nat) (L:List Int) (a:Slot),bY a->(∀ c∈cs,c∈kn k)->L.length+7*cs.length<=2000->∃ a',bL (.nm 3) [] (aD T AB) (cs.map fun c=>D.str (tx [c])) (EB k cs0 L a a4 a5) = .nx (EB k cs0 (L++pb (Ay k cs)) a' a4 a5)
 |[],L,a,_,_,_=>⟨a,by rw[show pb (Ay k [])=[] from rfl,bh];rfl⟩
 | c::cs,L,a,h,hc,hl=>by
  rw[ak] at hl;have st:=EY hB hK hk (cs:=cs0) (L:=L) h4 h5 (hc c au) (by omega);have hlb:(L++aS (gM k c) (2*k+1)).length=L.length+(2*k+1):=by rw[aj,bC]
  obtain⟨a',q⟩:=tP hB hK hk (cs0:=cs0) h4 h5 cs (L++aS (gM k c) (2*k+1)) (sT [c]) (aC _) (fun x hx=>hc x (ah _ hx)) (by rw[hlb];omega);have hb:bQ [] (.nm 3) (.str (tx [c])) (EB k cs0 L a a4 a5)=some (EB k cs0 L (sT [c]) a4 a5):=eT (jv h h4 h5) (show (3:Nat)<6 by decide);refine⟨a',?_⟩;rw[ay,dE hb st,q,show pb (Ay k (c::cs))=aS (gM k c) (2*k+1)++pb (Ay k cs) from rfl,dq]
theorem Ci {T:Tb}{env:En}{e:Ex}{m:Nat}{R:Rt}(h1:1<=m)(h3:m<=3)(h:ev T e env = .ok (.int (m:Int),R)):ev T (.ix (.lst (.cons (.cst (.int (0))) (.cons (.cst (.int (4))) (.cons (.cst (.int (7))) (.cons (.cst (.int (10))) .nil))))) e) env = .ok (.int (fb m:Nat),.mv []):=by
 have el:ev T (.lst (.cons (.cst (.int (0))) (.cons (.cst (.int (4))) (.cons (.cst (.int (7))) (.cons (.cst (.int (10))) .nil))))) env = .ok (.lst [.int 0,.int 4,.int 7,.int 10],.mv []):=by
  rw[ev,aV,aH,aA,aV,aH,aA,aV,aH,aA,aV,aH,aA,aV];rfl
 rw[ev,el,aA,h,aA]
 match m,h1,h3 with
 |1,_,_=>rfl
 |2,_,_=>rfl
 |3,_,_=>rfl
theorem Fj {T:Tb}(hB:vz T){k:Nat}{cs:List Nat}(hcs:cs.length<=64)(hk:∀ c∈cs,c∈kn 1){L:List Int}{s:Nat}(hs:s<cs.length){a3 a5:Slot}(h3:bY a3)(h5:bY a5)(hL:L.length<=2000) :
  aD T z0 (EB k cs L a3 (sN s) a5) = .nx (EB k cs (L++aS (pN ((cs.drop s).take 3)) (fb ((cs.drop s).take 3).length)) a3 (sN s) (sT ((cs.drop s).take 3))):=by
 have hg0:0<((cs.drop s).take 3).length:=by rw[bp,bt];omega
 have hg3:((cs.drop s).take 3).length<=3:=by rw[bp];omega
 have hgk:∀ c∈(cs.drop s).take 3,c∈kn 1:=fun c h=>hk c (fq (fm h))
 have e1:ev T (.sl (.var 1) (.some (.var 4)) (.some (.bin .Add (.var 4) (.cst (.int (3)))))) (EB k cs L a3 (sN s) a5) = .ok (.str (tx ((cs.drop s).take 3)),.mv []):=by
  have v1:ev T (.var 1) (EB k cs L a3 (sN s) a5) = .ok (.str (tx cs),.mv []):=aF rfl rfl;have v4:ev T (.var 4) (EB k cs L a3 (sN s) a5) = .ok (.int (s:Int),.mv []):=aF rfl rfl;have ea:=cM v4 (aH (.int 3));rw[ev,v1,aA,jQ,v4,aA];dsimp only;rw[aA,jQ,ea,aA];dsimp only;rw[aA,xW cs s (by omega) (by omega)];rfl
 generalize hg:(cs.drop s).take 3=g at *;have g1:=bJ (i:=5) (jv (k:=k) (cs:=cs) (L:=L) h3 (aC (.int (s:Int))) h5) (show (5:Nat)<6 by decide) e1;have g1:bM T (.asg (.nm 5) (.sl (.var 1) (.some (.var 4)) (.some (.bin .Add (.var 4) (.cst (.int (3)))))) false) (EB k cs L a3 (sN s) a5) = .nx (EB k cs L a3 (sN s) (sT g)):=g1;have v5:ev T (.var 5) (EB k cs L a3 (sN s) (sT g)) = .ok (.str (tx g),.mv []):=aF rfl rfl;have ec:=iF (zg hg0 hg3 hgk v5) (Ci (by omega) hg3 (jR (by omega) v5)) (hB (pN g) (fb g.length) (bg (wA hg3) (by decide)));have hl:(aS (pN g) (fb g.length)).length<=10:=by rw[bC];exact wA hg3
 generalize aS (pN g) (fb g.length)=B at *;obtain⟨R,v2⟩:∃ R,ev T (.var 2) (EB k cs L a3 (sN s) (sT g)) = .ok (.lst (iD L),R):=⟨_,eY rfl rfl⟩;have e:=kL v2 ec (by omega);have g2:=bJ (i:=2) (jv (k:=k) (cs:=cs) (L:=L) h3 (aC (.int (s:Int))) (aC (.str (tx g)))) (show (2:Nat)<6 by decide) e;unfold z0;rw[aD,g1,aB,aD,g2,aB,aD];rfl
theorem ui {T:Tb}(hB:vz T){k:Nat}{cs:List Nat}(hcs:cs.length<=64)(hk:∀ c∈cs,c∈kn 1){a3:Slot}(h3:bY a3):∀(m s:Nat) (L:List Int) (a4 a5:Slot),bY a4->bY a5->s+3*m<cs.length+3->L.length+10*m<=2000 ->
  ∃ a4' a5',bL (.nm 4) [] (aD T z0) (aZ (s:Int) 3 m) (EB k cs L a3 a4 a5) = .nx (EB k cs (L++pb (oR m (cs.drop s))) a3 a4' a5')
 |0,s,L,a4,a5,_,_,_,_=>⟨a4,a5,by rw[show pb (oR 0 (cs.drop s))=[] from rfl,bh];rfl⟩
 | m+1,s,L,a4,a5,h4,h5,hm,hl=>by
  have st:=Fj hB (k:=k) hcs hk (L:=L) (s:=s) (by omega) h3 h5 (by omega);have hlb:(L++aS (pN ((cs.drop s).take 3)) (fb ((cs.drop s).take 3).length)).length<=L.length+10:=by
   rw[aj,bC];have:=wA (m:=((cs.drop s).take 3).length) (by rw[bp];omega);omega
  obtain⟨a4',a5',q⟩:=ui hB (k:=k) hcs hk h3 m (s+3) (L++aS (pN ((cs.drop s).take 3)) (fb ((cs.drop s).take 3).length)) (sN s) (sT ((cs.drop s).take 3)) (aC _) (aC _) (by omega) (by omega);have hb:bQ [] (.nm 4) (.int (s:Int)) (EB k cs L a3 a4 a5)=some (EB k cs L a3 (sN s) a5):=eT (jv h3 h4 h5) (show (4:Nat)<6 by decide);refine⟨a4',a5',?_⟩;rw[ints3,dE hb st,q,show pb (oR (m+1) (cs.drop s))=aS (pN ((cs.drop s).take 3)) (fb ((cs.drop s).take 3).length)++pb (oR m ((cs.drop s).drop 3)) from rfl,List.drop_drop,dq]
open Pc.Fr (iD)
def E9 (T:Tb):Prop:=∀ p:Pe,Piece p->T.cl 7 [.int (p.1:Int),.str (tx p.2)] = .ok (.lst (iD (PB p)),true)
theorem lp (n:Nat):E9 (T (n+3)):=fun p hp=>by
 obtain⟨k,cs⟩:=p;obtain⟨k1,k3,c1,c64,hall⟩:=hp;dsimp only at k1 k3 c1 c64 hall;have hc:∀ c∈cs,c∈kn k:=fun c h=>xD (hall c h)
 have tn:=cN;have hB:vz (T (n+2)):=lb (n+1);have hK:vh (T (n+2)):=GB n;have hst:aP [.int (k:Int),.str (tx cs)] 6=[sN k,sT cs,none,none,none,none]:=rfl;have v0:ev (T (n+2)) (.var 0) [sN k,sT cs,none,none,none,none] = .ok (.int (k:Int),.mv []):=aF rfl rfl;have e1:=iF v0 (aH (.int 2)) (hB (k:Int) 2 (by decide));have em:=wY (jR (by omega) (aF (T:=T (n+2)) (env:=[sN k,sT cs,none,none,none,none]) (i:=1) (d:=.str (tx cs)) (t:=.own) rfl rfl)) (aH (.int 1));have e2:=iF em (aH (.int 6)) (hB ((cs.length:Int) - 1) 6 (by decide));have e3:=kL e1 e2 (by rw[bC,bC];decide);have hPB:PB (k,cs)=(aS (k:Int) 2++aS ((cs.length:Int) - 1) 6)++pb (Be k cs):=by
  show aS (k:Int) 2++(aS ((cs.length:Int) - 1) 6++pb (Be k cs))=_;rw[dq]
 have hl8:(aS (k:Int) 2++aS ((cs.length:Int) - 1) 6).length=8:=by rw[aj,bC,bC]
 rw[hPB];generalize aS (k:Int) 2++aS ((cs.length:Int) - 1) 6=H at *;have g1:bM (T (n+2)) (.asg (.nm 2) (.bin .Add (.call 6 (.cons (.var 0) (.cons (.cst (.int (2))) .nil))) (.call 6 (.cons (.bin .Sub (.blt .len (.cons (.var 1) .nil)) (.cst (.int (1)))) (.cons (.cst (.int (6))) .nil)))) false) [sN k,sT cs,none,none,none,none] = .nx (EB k cs H none none none) :=
  bJ (.cons (aC _) (.cons (aC _) (.cons tn (.cons tn (.cons tn (.cons tn .nil)))))) (show (2:Nat)<6 by decide) e3
 have ec:=rO (y:=1) (aF (T:=T (n+2)) (env:=EB k cs H none none none) (i:=0) (d:=.int (k:Int)) (t:=.own) rfl rfl) (aH (.int 1));have v1:ev (T (n+2)) (.var 1) (EB k cs H none none none) = .ok (.str (tx cs),.mv []):=aF rfl rfl;rw[qz,bO (F:=⟨2,6,b7⟩) rfl rfl];dsimp only;rw[hst,GZ,aD,g1,aB,aD,dG ec];by_cases h1:1<k
 ·rw[if_pos h1];obtain⟨a',q⟩:=tP hB hK (k:=k) (by omega) (cs0:=cs) tn tn cs H none tn hc (by omega);have g2:=dW (Ct.wy (by omega) v1) q;have hg:Be k cs=Ay k cs:=if_neg (by omega);rw[hg];generalize pb (Ay k cs)=B at *;rw[aD,g2,aB];have v2:ev (T (n+2)) (.var 2) (EB k cs (H++B) a' none none) = .ok (.lst (iD (H++B)),.mv [2]):=eY rfl rfl;rw[aD,bM,v2,aR];rfl
 ·rw[if_neg h1];obtain rfl:k=1:=by omega
  obtain⟨a4,a5,q⟩:=ui hB (k:=1) (cs:=cs) c64 hc tn (rD cs) 0 H none none tn tn (by unfold rD;omega) (by unfold rD;omega);have hit:=zV (T (n+2)) (EB 1 cs H none none none) (.blt .len (.cons (.var 1) .nil)) (.cst (.int 3)) cs.length (by omega) (jR (by omega) v1) (aH (.int 3));have g2:=dW hit q;have hg:Be 1 cs=oR (rD cs) cs:=if_pos rfl;rw[hg];rw[List.drop_zero] at g2;generalize pb (oR (rD cs) cs)=B at *;rw[show aD (T (n+2)) .nil (EB 1 cs H none none none) = .nx (EB 1 cs H none none none) from by rw[aD],aB,aD,g2,aB];have v2:ev (T (n+2)) (.var 2) (EB 1 cs (H++B) none a4 a5) = .ok (.lst (iD (H++B)),.mv [2]):=eY rfl rfl;rw[aD,bM,v2,aR];rfl
noncomputable def rT (P:List Pe):Nat:=(P.map fun p=>p.2.length).sum
noncomputable def cNW:Ex:=(.cmp .Eq (.bin .Mod (.bin .FloorDiv (.var 4) (.cst (.int (21)))) (.cst (.int (9)))) (.cst (.int (1))))
noncomputable def cLE:Ex:=(.cmp .LtE (.bin .Add (.var 2) (.var 5)) (.cst (.int (60))))
noncomputable def FE:Ex:=(.bin .Add (.cst (.int (1))) (.bin .Mod (.var 4) (.cst (.int (3)))))
noncomputable def zh:cJ:=(.cons (.asg (.nm 4) (.call 2 (.cons (.ix (.var 0) (.var 3)) (.cons (.var 3) (.cons (.cst (.int (1234567890123456789))) .nil)))) false)
  (.cons (.asg (.nm 5) (.bin .Add (.cst (.int (1))) (.bin .Mod (.bin .FloorDiv (.var 4) (.cst (.int (3)))) (.cst (.int (7))))) false)
  (.cons (.ite cNW (.cons (.asg (.nm 5) (.bin .Add (.cst (.int (1))) (.bin .Mod (.bin .FloorDiv (.var 4) (.cst (.int (189)))) (.cst (.int (64))))) false)
  .nil) .nil)
  (.cons (.ite cLE (.cons (.mut 1 .none .append (.cons (.tup (.cons FE (.cons (.call 5 (.cons FE (.cons (.bin .Mod (.bin .FloorDiv (.var 4) (.cst (.int (12096)))) (.cst (.int (2147483399)))) (.cons (.var 5) .nil)))) .nil))) .nil))
  (.cons (.asg (.nm 2) (.bin .Add (.var 2) (.var 5)) false)
  .nil)) .nil)
  .nil))))
theorem EH:b8=(.cons (.asg (.nm 1) (.lst .nil) false)
  (.cons (.asg (.nm 2) (.cst (.int (0))) false)
  (.cons (.forr (.nm 3) (.rng1 (.blt .len (.cons (.var 0) .nil))) zh)
  (.cons (.ret (.var 1))
  .nil)))):=rfl
noncomputable abbrev oP (P:List Pe):Slot:=some (.lst (P.map pD),.own)
noncomputable abbrev sL (ns:List Int):Slot:=some (.lst (iD ns),.sh [])
noncomputable abbrev EC (ns:List Int)(P:List Pe)(t:Nat)(a3 a4 a5:Slot):En:=[sL ns,oP P,sN t,a3,a4,a5]
theorem iQ {ns:List Int}{P:List Pe}{t:Nat}{a3 a4 a5:Slot}(h3:bY a3)(h4:bY a4)(h5:bY a5):Tame (EC ns P t a3 a4 a5):=.cons (kJ _) (.cons (aC _) (.cons (aC _) (.cons h3 (.cons h4 (.cons h5 .nil)))))
theorem yR {T:Tb}{env:En}{a b:Ex}{x y:Nat}{R R':Rt}(h:ev T a env = .ok (.int (x:Int),R))(h':ev T b env = .ok (.int (y:Int),R')):ev T (.cmp .LtE a b) env = .ok (.bl (decide (x<=y)),.mv []):=by
 rw[ev,h,aA,h',aA];have:decide ((x:Int)<=(y:Int))=decide (x<=y):=by
  by_cases z:x<=y
  ·rw[ba z,ba (by omega)]
  ·rw[aq z,aq (by omega)]
 rw[<-this];rfl
theorem vR {T:Tb}{env:En}{a:Ex}{x d m:Nat}{R:Rt}(hd:0<d)(hd':d<1073741824)(hm:0<m)(h:ev T a env = .ok (.int (x:Int),R)):ev T (.bin .Add (.cst (.int (1))) (.bin .Mod (.bin .FloorDiv a (.cst (.int (d:Int)))) (.cst (.int (m:Int))))) env = .ok (.int ((1+x / d%m:Nat):Int),.mv []):=by
 have e:=cM (aH (.int 1)) (cP (show (0:Int)<(m:Int) by omega) (cR (show (0:Int)<(d:Int) by omega) (by omega) h (aH (.int (d:Int)))) (aH (.int (m:Int))));rw[e];rfl
theorem EM {T:Tb}(hM:vw T)(hS:Di T){ns:List Int}{P:List Pe}{t j:Nat}{a4 a5:Slot}(h4:bY a4)(h5:bY a5)(hj:j<ns.length)(hj':j<=64)(hP:∀ p∈P,Piece p)(ht:rT P=t)(ht2:t<=60)(hPl:P.length<=100) :
  ∃ P' t' a4' a5',bY a4'/\bY a5'/\(∀ p∈P',Piece p)/\rT P'=t'/\t'<=60/\P'.length<=P.length+1/\aD T zh (EC ns P t (sN j) a4 a5) = .nx (EC ns P' t' (sN j) a4' a5'):=by
 obtain⟨r,r0,hr⟩:=hM ns[j] j 1234567890123456789 hj' (by decide);obtain⟨x,rfl⟩:=c9 r0;have v3:∀{a4 a5:Slot},ev T (.var 3) (EC ns P t (sN j) a4 a5) = .ok (.int (j:Int),.mv []):=fun {a4 a5}=>aF rfl rfl
 obtain⟨R0,v0⟩:∃ R,ev T (.var 0) (EC ns P t (sN j) a4 a5) = .ok (.lst (iD ns),R):=⟨_,rfl⟩;have e1:=ql (Fr.Cg (i:=(j:Int)) (v:=ns[j]) (by omega) (by rw[bo];exact List.getElem?_eq_getElem hj) v0 v3) v3 (aH (.int 1234567890123456789)) hr;have g1:=bJ (i:=4) (iQ (ns:=ns) (P:=P) (t:=t) (aC (.int (j:Int))) h4 h5) (show (4:Nat)<6 by decide) e1;have g1:bM T (.asg (.nm 4) (.call 2 (.cons (.ix (.var 0) (.var 3)) (.cons (.var 3) (.cons (.cst (.int (1234567890123456789))) .nil)))) false) (EC ns P t (sN j) a4 a5) = .nx (EC ns P t (sN j) (sN x) a5):=g1;have v4:∀{P:List Pe}{t:Nat}{a5:Slot},ev T (.var 4) (EC ns P t (sN j) (sN x) a5) = .ok (.int (x:Int),.mv []):=fun {_ _ _}=>aF rfl rfl
 have g2:=bJ (i:=5) (iQ (ns:=ns) (P:=P) (t:=t) (aC (.int (j:Int))) (aC (.int (x:Int))) h5) (show (5:Nat)<6 by decide) (vR (d:=3) (m:=7) (by decide) (by decide) (by decide) v4);have g2:bM T (.asg (.nm 5) (.bin .Add (.cst (.int (1))) (.bin .Mod (.bin .FloorDiv (.var 4) (.cst (.int (3)))) (.cst (.int (7))))) false) (EC ns P t (sN j) (sN x) a5) = .nx (EC ns P t (sN j) (sN x) (sN (1+x / 3%7))):=g2;have ew:∀{a5:Slot},ev T cNW (EC ns P t (sN j) (sN x) a5) = .ok (.bl (decide (x / 21%9=1)),.mv []):=fun {a5} =>
  lq (x:=x / 21%9) (y:=1) (cP (by decide:(0:Int)<9) (cR (by decide:(0:Int)<21) (by decide) v4 (aH (.int 21))) (aH (.int 9))) (aH (.int 1))
 have g3:∃ c,1<=c/\c<=64/\bM T (.ite cNW (.cons (.asg (.nm 5) (.bin .Add (.cst (.int (1))) (.bin .Mod (.bin .FloorDiv (.var 4) (.cst (.int (189)))) (.cst (.int (64))))) false) .nil) .nil) (EC ns P t (sN j) (sN x) (sN (1+x / 3%7))) = .nx (EC ns P t (sN j) (sN x) (sN c)):=by
  rw[dG ew];by_cases z:x / 21%9=1
  ·refine⟨1+x / 189%64,by omega,by omega,?_⟩;rw[if_pos z];have g:=bJ (i:=5) (iQ (ns:=ns) (P:=P) (t:=t) (aC (.int (j:Int))) (aC (.int (x:Int))) (aC (.int ((1+x / 3%7:Nat):Int)))) (show (5:Nat)<6 by decide) (vR (d:=189) (m:=64) (by decide) (by decide) (by decide) v4);have g:bM T (.asg (.nm 5) (.bin .Add (.cst (.int (1))) (.bin .Mod (.bin .FloorDiv (.var 4) (.cst (.int (189)))) (.cst (.int (64))))) false) (EC ns P t (sN j) (sN x) (sN (1+x / 3%7))) = .nx (EC ns P t (sN j) (sN x) (sN (1+x / 189%64))):=g;rw[aD,g,aB,aD]
  ·exact⟨1+x / 3%7,by omega,by omega,by rw[if_neg z,aD]⟩
 obtain⟨c,c1,c64,g3⟩:=g3;have v5:∀{P:List Pe},ev T (.var 5) (EC ns P t (sN j) (sN x) (sN c)) = .ok (.int (c:Int),.mv []):=fun {_}=>aF rfl rfl
 have v2:∀{P:List Pe},ev T (.var 2) (EC ns P t (sN j) (sN x) (sN c)) = .ok (.int (t:Int),.mv []):=fun {_}=>aF rfl rfl
 have el:ev T cLE (EC ns P t (sN j) (sN x) (sN c)) = .ok (.bl (decide (t+c<=60)),.mv []):=yR (y:=60) (jw v2 v5) (aH (.int 60));unfold zh;rw[aD,g1,aB,aD,g2,aB,aD,g3,aB,aD,dG el];by_cases z:t+c<=60
 ·rw[if_pos z];have ek:ev T FE (EC ns P t (sN j) (sN x) (sN c)) = .ok (.int ((1+x%3:Nat):Int),.mv []):=by
   have e:=cM (aH (.int 1)) (cP (by decide:(0:Int)<3) (v4 (P:=P) (t:=t) (a5:=sN c)) (aH (.int 3)));exact e
  obtain⟨cs,hcl,hck,hcs⟩:=hS (1+x%3) ((x:Int) / 12096%2147483399) c (by omega) (by omega) c64;have ec:=ql ek (cP (by decide:(0:Int)<2147483399) (cR (by decide:(0:Int)<12096) (by decide) (v4 (P:=P) (t:=t) (a5:=sN c)) (aH (.int 12096))) (aH (.int 2147483399))) v5 hcs;have et:=vP ek ec;have ga:=oY (x:=1) (iQ (ns:=ns) (P:=P) (t:=t) (aC (.int (j:Int))) (aC (.int (x:Int))) (aC (.int (c:Int)))) rfl et (by rw[av];exact bg (Nat.succ_le_succ hPl) (by decide));have ga:bM T (.mut 1 .none .append (.cons (.tup (.cons FE (.cons (.call 5 (.cons FE (.cons (.bin .Mod (.bin .FloorDiv (.var 4) (.cst (.int (12096)))) (.cst (.int (2147483399)))) (.cons (.var 5) .nil)))) .nil))) .nil)) (EC ns P t (sN j) (sN x) (sN c)) = .nx (EC ns (P ++ [(1+x%3,cs)]) t (sN j) (sN x) (sN c)):=by
   rw[ga];show Fl.nx [sL ns,some (.lst (P.map pD ++ [pD (1+x%3,cs)]),.own),sN t,sN j,sN x,sN c]=_;rw[EC,oP,fk];rfl
  have gb:=bJ (i:=2) (iQ (ns:=ns) (P:=P ++ [(1+x%3,cs)]) (t:=t) (aC (.int (j:Int))) (aC (.int (x:Int))) (aC (.int (c:Int)))) (show (2:Nat)<6 by decide) (jw (v2 (P:=P ++ [(1+x%3,cs)])) (v5 (P:=P ++ [(1+x%3,cs)])));have gb:bM T (.asg (.nm 2) (.bin .Add (.var 2) (.var 5)) false) (EC ns (P ++ [(1+x%3,cs)]) t (sN j) (sN x) (sN c)) = .nx (EC ns (P ++ [(1+x%3,cs)]) (t+c) (sN j) (sN x) (sN c)):=gb;refine⟨P ++ [(1+x%3,cs)],t+c,sN x,sN c,aC _,aC _,fun p hp=>?_,?_,z,by rw[aj];exact aw _,?_⟩
  ·rcases List.mem_append.mp hp with hp | hp
   ·exact hP p hp
   ·rw[gp.mp hp];refine⟨by show 1<=1+x%3;omega,by show 1+x%3<=3;omega,by show 1<=cs.length;omega,by show cs.length<=64;omega,fun d hd=>?_⟩;unfold wx;exact List.contains_iff_mem.mpr (hck d hd)
  ·unfold rT at ht ⊢;rw[fk,List.sum_append,ht];show t+(cs.length+0)=_;omega
  ·rw[aD,ga,aB,aD,gb,aB,aD,aB,aD]
 ·rw[if_neg z];refine⟨P,t,sN x,sN c,aC _,aC _,hP,ht,ht2,Nat.le_succ _,?_⟩;rw[aD,aB,aD]
theorem ug {T:Tb}(hM:vw T)(hS:Di T){ns:List Int}(hn:ns.length<=63):∀(l:List Nat) (P:List Pe) (t:Nat) (a3 a4 a5:Slot),bY a3->bY a4->bY a5->(∀ j∈l,j<ns.length)->(∀ p∈P,Piece p)->rT P=t->t<=60->P.length+l.length<=64 ->
  ∃ P' t' a3' a4' a5',(∀ p∈P',Piece p)/\rT P'=t'/\t'<=60/\P'.length<=64/\bL (.nm 3) [] (aD T zh) (l.map fun j=>D.int ((j:Nat):Int)) (EC ns P t a3 a4 a5) = .nx (EC ns P' t' a3' a4' a5')
 |[],P,t,a3,a4,a5,_,_,_,_,hP,ht,ht2,hl=>⟨P,t,a3,a4,a5,hP,ht,ht2,by simpa using hl,rfl⟩
 | j::l,P,t,a3,a4,a5,h3,h4,h5,hj,hP,ht,ht2,hl=>by
  rw[ak] at hl;obtain⟨P1,t1,b4,b5,t4,t5,q1,q2,q3,q4,st⟩:=EM hM hS (ns:=ns) (P:=P) (t:=t) (j:=j) h4 h5 (hj j au) (by have:=hj j au;omega) hP ht ht2 (by omega);obtain⟨P',t',a3',a4',a5',u1,u2,u3,u4,q⟩:=ug hM hS hn l P1 t1 (sN j) b4 b5 (aC _) t4 t5 (fun i hi=>hj i (ah _ hi)) q1 q2 q3 (by omega);have hb:bQ [] (.nm 3) (.int (j:Int)) (EC ns P t a3 a4 a5)=some (EC ns P t (sN j) a4 a5):=eT (iQ h3 h4 h5) (show (3:Nat)<6 by decide);refine⟨P',t',a3',a4',a5',u1,u2,u3,u4,?_⟩;rw[ay,dE hb st];exact q
def PCok (T:Tb):Prop:=∀ ns:List Int,ns.length<=63->∃ P:List Pe,(∀ p∈P,Piece p)/\rT P<=60/\P.length<=64/\T.cl 8 [.lst (iD ns)] = .ok (.lst (P.map pD),true)
theorem pcs (n:Nat):PCok (T (n+4)):=fun ns hn=>by
 have hst:aP [.lst (iD ns)] 6=[sL ns,none,none,none,none,none]:=rfl;have tn:=cN;have g1:bM (T (n+3)) (.asg (.nm 1) (.lst .nil) false) [sL ns,none,none,none,none,none] = .nx [sL ns,oP [],none,none,none,none]:=rfl;have g2:bM (T (n+3)) (.asg (.nm 2) (.cst (.int (0))) false) [sL ns,oP [],none,none,none,none] = .nx (EC ns [] 0 none none none):=rfl;obtain⟨P,t,a3,a4,a5,q1,q2,q3,q4,q⟩:=ug (T:=T (n+3)) (mx (n+2)) (sn n) hn (List.range ns.length) [] 0 none none none tn tn tn (fun j hj=>List.mem_range.mp hj) (fun _ h=>(nomatch h)) rfl (by decide) (by rw[dw,cj];omega);obtain⟨R0,v0⟩:∃ R,ev (T (n+3)) (.var 0) (EC ns [] 0 none none none) = .ok (.lst (iD ns),R):=⟨_,rfl⟩;have el:=tw v0;rw[fY] at el;have hit:iS (T (n+3)) (.rng1 (.blt .len (.cons (.var 0) .nil))) (EC ns [] 0 none none none) = .ok ((List.range ns.length).map fun j=>D.int ((j:Nat):Int),[]):=by
  rw[Af (m:=ns.length) el (by omega),eJ];simp only[Nat.zero_add]
 have g3:=dW hit q;refine⟨P,q1,by rw[q2];exact q3,q4,?_⟩;rw[qz,bO (F:=⟨1,6,b8⟩) rfl rfl];dsimp only;rw[hst,EH,aD,g1,aB,aD,g2,aB,aD,g3,aB];have v1:ev (T (n+3)) (.var 1) (EC ns P t a3 a4 a5) = .ok (.lst (P.map pD),.mv [1]):=eY rfl rfl;rw[aD,bM,v1,aR];rfl
end K04
end
section
end
section
end
section
end
section
end
section
end
section
end
section
namespace Pc.Vw
open PySem Pc Pc.Sm Pc.Gr Fl64
def aJ (T:Tb)(e:Ex)(env:En)(d:D):Prop:=∃ R,ev T e env = .ok (d,R)
section
variable {T:Tb}{env:En}{a b c:Ex}{x y z d:D}
theorem aJ.bin {op:Operator}(h:aJ T a env x)(h':aJ T b env y)(e:lQ op x y=some z):aJ T (.bin op a b) env z:=by
 obtain⟨R,h⟩:=h;obtain⟨R',h'⟩:=h';exact⟨_,by rw[ev,h,aA,h',aA,e,bP,aA]⟩
theorem aJ.cmp {op:CmpOp}{k:Bool}(h:aJ T a env x)(h':aJ T b env y)(e:kz op x y=some k):aJ T (.cmp op a b) env (.bl k):=by
 obtain⟨R,h⟩:=h;obtain⟨R',h'⟩:=h';exact⟨_,by rw[ev,h,aA,h',aA,e,bP,aA]⟩
theorem aJ.ix (h:aJ T a env x)(h':aJ T b env y)(e:Bv x y=some z):aJ T (.ix a b) env z:=by
 obtain⟨R,h⟩:=h;obtain⟨R',h'⟩:=h';exact⟨_,by rw[ev,h,aA,h',aA,e,bP,aA]⟩
theorem aJ.cst (d:D):aJ T (.cst d) env d:=⟨_,by rw[ev]⟩
theorem aJ.fB {f:Nat}{r:D}{fr:Bool}(h:aJ T a env x)(e:T.cl f [x] = .ok (r,fr)):aJ T (.call f (.cons a .nil)) env r:=by
 obtain⟨R,h⟩:=h;exact⟨_,by rw[ev,aV,h,aA,aV,aA,aA];show (T.cl f [x]).bind _=_;rw[e,aA]⟩
theorem aJ.iF {f:Nat}{r:D}{fr:Bool}(h:aJ T a env x)(h2:aJ T b env y)(e:T.cl f [x,y] = .ok (r,fr)):aJ T (.call f (.cons a (.cons b .nil))) env r:=by
 obtain⟨R,h⟩:=h;obtain⟨R2,h2⟩:=h2;exact⟨_,by rw[ev,aV,h,aA,aV,h2,aA,aV,aA,aA,aA];show (T.cl f [x,y]).bind _=_;rw[e,aA]⟩
theorem aJ.ql {f:Nat}{r:D}{fr:Bool}(h:aJ T a env x)(h2:aJ T b env y)(h3:aJ T c env z)(e:T.cl f [x,y,z] = .ok (r,fr)):aJ T (.call f (.cons a (.cons b (.cons c .nil)))) env r:=by
 obtain⟨R,h⟩:=h;obtain⟨R2,h2⟩:=h2;obtain⟨R3,h3⟩:=h3;exact⟨_,by rw[ev,aV,h,aA,aV,h2,aA,aV,h3,aA,aV,aA,aA,aA,aA];show (T.cl f [x,y,z]).bind _=_;rw[e,aA]⟩
theorem aJ.blt1 {k:Bt}(h:aJ T a env x)(e:fQ k [x]=some z):aJ T (.blt k (.cons a .nil)) env z:=by
 obtain⟨R,h⟩:=h;exact⟨_,by rw[ev,aV,h,aA,aV,aA,aA];show (fE (fQ k [x])).bind _=_;rw[e,bP,aA]⟩
theorem aJ.lst1 (h:aJ T a env x):aJ T (.lst (.cons a .nil)) env (.lst [x]):=by
 obtain⟨R,h⟩:=h;exact⟨_,by rw[ev,aV,h,aA,aV,aA,aA];exact if_pos (by show (1:Nat)<=lim;decide)⟩
theorem aJ.not {k:Bool}(h:aJ T a env (.bl k)):aJ T (.not a) env (.bl (!k)):=by
 obtain⟨R,h⟩:=h;exact⟨_,by rw[ev,h,aA]⟩
theorem aJ.and {k:Bool}{w:Bool}(h:aJ T a env (.bl k))(h':k=true->aJ T b env (.bl w))(hw:k=false->w=false):aJ T (.and a b) env (.bl w):=by
 obtain⟨R,h⟩:=h;cases k with
 |true=>obtain⟨R',h'⟩:=h' rfl;exact⟨_,by rw[ev,h,aA];exact h'⟩
 |false=>rw[hw rfl];exact⟨_,by rw[ev,h,aA]⟩
theorem aJ.or {k:Bool}{w:Bool}(h:aJ T a env (.bl k))(h':k=false->aJ T b env (.bl w))(hw:k=true->w=true):aJ T (.or a b) env (.bl w):=by
 obtain⟨R,h⟩:=h;cases k with
 |false=>obtain⟨R',h'⟩:=h' rfl;exact⟨_,by rw[ev,h,aA];exact h'⟩
 |true=>rw[hw rfl];exact⟨_,by rw[ev,h,aA]⟩
theorem iU {k:Bool}{p q:cJ}(h:aJ T c env (.bl k)):bM T (.ite c p q) env=if k then aD T p env else aD T q env:=by
 obtain⟨R,h⟩:=h;rw[bM,h,aR];cases k<;>rfl
end
def Vw (env:En)(vs:List (Option D)):Prop:=env.length=vs.length/\∀(j:Nat) (d:D),vs[j]? = some (some d)->∃ t,env[j]? = some (some (d,t))
section
variable {T:Tb}{env:En}{vs:List (Option D)}{d:D}
theorem Vw.var (h:Vw env vs){i:Nat}(e:vs[i]? = some (some d)):aJ T (.var i) env d:=by
 obtain⟨t,q⟩:=h.2 i d e;rw[aJ,ev,q];exact⟨_,rfl⟩
theorem Vw.put (h:Vw env vs)(i:Nat)(d:D)(t:Tg):Vw (Pc.put env i d t) (vs.set i (some d)):=by
 unfold Pc.put;refine⟨by rw[gh,gh,av,h.1],fun j x e=>?_⟩;by_cases hj:i=j
 ·subst hj;have hl:i<vs.length:=by
   have:=(List.getElem?_eq_some_iff.mp e).1
   rwa [gh] at this
  rw[List.getElem?_set_self hl] at e;cases e;exact⟨t,List.getElem?_set_self (by rw[av,h.1];exact hl)⟩
 ·rw[List.getElem?_set_ne hj] at e;obtain⟨t',q⟩:=h.2 j x e;refine⟨t'.drop i,?_⟩;rw[List.getElem?_set_ne hj,List.getElem?_map,q];rfl
theorem Vw.asg (h:Vw env vs){i:Nat}(hi:i<vs.length){e:Ex}(he:aJ T e env d):∃ env',bM T (.asg (.nm i) e false) env = .nx env'/\Vw env' (vs.set i (some d)):=by
 obtain⟨R,he⟩:=he;rw[bM,he,aR];have hi':i<env.length:=by rw[h.1];exact hi
 show ∃ env',(if i<env.length then _ else _)=_/\_;rw[if_pos hi'];cases R with
 |mv R =>
  cases R with
  |nil=>exact⟨_,rfl,h.put i d _⟩
  |cons r R=>exact⟨_,rfl,h.put i d _⟩
 |sh R=>exact⟨_,rfl,h.put i d _⟩
theorem Vw.bind (h:Vw env vs){i:Nat}(hi:i<vs.length)(R:List Nat)(d:D):∃ env',bQ R (.nm i) d env=some env'/\Vw env' (vs.set i (some d)):=by
 refine⟨_,?_,h.put i d (dB d R)⟩;show (if i<env.length then _ else _)=_;rw[if_pos (by rw[h.1];exact hi)]
theorem Vw.start (ds:List D)(n:Nat):Vw (aP ds n) (ds.map some++List.replicate (n - ds.length) none):=by
 unfold aP;refine⟨by simp,fun j d e=>?_⟩;by_cases hj:j<ds.length
 ·rw[List.getElem?_append_left (by rw[av];exact hj),List.getElem?_map] at e;rw[List.getElem?_append_left (by rw[av];exact hj),List.getElem?_map];cases q:ds[j]? with
  |none=>rw[q] at e;cases e
  |some x=>rw[q] at e;cases e;exact⟨_,rfl⟩
 ·rw[List.getElem?_append_right (by rw[av];omega),List.getElem?_replicate] at e;split at e<;>cases e
end
theorem Gw {t:kD}{R:List Nat}{b:En->Fl}(J:Nat->En->Prop):∀(l:List D) (k:Nat) (env:En),J k env ->
  (∀(i:Nat) (d:D) (e:En),l[i]? = some d->J (k+i) e->∃ e1 e2,bQ R t d e=some e1/\(b e1 = .nx e2\/b e1 = .ct e2)/\J (k+i+1) e2)->∃ e,bL t R b l env = .nx e/\J (k+l.length) e
 |[],k,env,h,_=>⟨env,rfl,h⟩
 | d::r,k,env,h,st=>by
  obtain⟨e1,e2,h1,h2,h3⟩:=st 0 d env rfl h;obtain⟨e,q1,q2⟩:=Gw J r (k+1) e2 h3 fun i d e hd hJ=>by
   have:=st (i+1) d e hd (by rw[show k+(i+1)=k+1+i by omega];exact hJ);rw[show k+(i+1)+1=k+1+i+1 by omega] at this;exact this
  refine⟨e,?_,by rw[ak,show k+(r.length+1)=k+1+r.length by omega];exact q2⟩;rw[bL,h1];rcases h2 with h2 | h2
  ·dsimp only;rw[h2];exact q1
  ·dsimp only;rw[h2];exact q1
theorem rngV {T:Tb}{env:En}{e:Ex}{n:Nat}(h:aJ T e env (.int (n:Int)))(hn:n<=1000):iS T (.rng1 e) env = .ok ((List.range n).map fun (k:Nat)=>D.int (k:Int),[]):=by
 obtain⟨R,h⟩:=h;rw[uc T env e _ R h (vH hn),bo];have:=jo n 0;rw[show ((0:Nat):Int)=0 from rfl] at this;rw[this,List.range_eq_range']
theorem aJ.sl {T:Tb}{env:En}{a lo hi:Ex}{x z:D}{m c:Int}(h:aJ T a env x)(h1:aJ T lo env (.int m))(h2:aJ T hi env (.int c))(e:Ga x (some m) (some c)=some z):aJ T (.sl a (.some lo) (.some hi)) env z:=by
 obtain⟨R,h⟩:=h;obtain⟨R1,h1⟩:=h1;obtain⟨R2,h2⟩:=h2;exact⟨_,by rw[ev,h,aA,jQ,h1,aA];dsimp only;rw[aA,jQ,h2,aA];dsimp only;rw[aA,e,bP,aA]⟩
theorem aJ.slh {T:Tb}{env:En}{a hi:Ex}{x z:D}{c:Int}(h:aJ T a env x)(h2:aJ T hi env (.int c))(e:Ga x none (some c)=some z):aJ T (.sl a .none (.some hi)) env z:=by
 obtain⟨R,h⟩:=h;obtain⟨R2,h2⟩:=h2;exact⟨_,by rw[ev,h,aA,jQ,aA,jQ,h2,aA];dsimp only;rw[aA,e,bP,aA]⟩
end Pc.Vw
end
section
namespace Pc.Vw
open PySem Pc Pc.Sm Pc.Gr Pc.Lw Fl64
theorem qZ {α:Type}{a b:α}(h:Rs.ok a=Rs.ok b):a=b:=by cases h;rfl
theorem eN {α β:Type}{a:Rs α}{f:α->Rs β}{b:β}(h:a.bind f = .ok b):∃ x,a = .ok x/\f x = .ok b:=by
 cases a with
 |ok x=>exact⟨x,rfl,h⟩
 |exc e=>cases h
 |bad=>cases h
noncomputable abbrev EP (S:List D)(m s t:Nat)(L P:List Nat)(o6 o7:Slot):En:=[some (.lst S,.sh []),sN m,sN s,sN t,oG L,oG P,o6,o7]
structure PlI (m k:Nat)(L P:List Nat):Prop where
 nd:(L++P).Nodup
 lt:∀ p∈L++P,p<m
 lp:P.length=k
 ll:L.length+k=m
def BX (T:Tb)(sp:Nat):Prop:=∀(ns:List Int) (row W M:List Nat),Gr row->row.length<=63->W.Nodup->(∀ p∈W,p<row.length)->(∀ p∈M,p<row.length)->W.length<=63->M.length<=63->∃ l,Gr l/\l.length=row.length/\(∀ p,p∉M->p∈W->l.getD p 0≠row.getD p 0)/\(∀ p,p∉M->p∉W->l.getD p 0=row.getD p 0)/\∃ fr,T.cl sp [.lst (ns.map D.int),.lst (gD row),.lst (gD W),.lst (gD M)] = .ok (.lst (gD l),fr)
noncomputable abbrev ES (S:List D)(row W M l:List Nat)(o5 o6:Slot):En:=[some (.lst S,.sh []),sG row,sG W,sG M,oG l,o5,o6]
structure SpI (row:List Nat)(S:List Nat)(l:List Nat):Prop where
 gr:Gr l
 len:l.length=row.length
 ne:∀ p,p∈S->l.getD p 0≠row.getD p 0
 eq:∀ p,p∉S->l.getD p 0=row.getD p 0
structure SqI (M l0 l:List Nat):Prop where
 gr:Gr l
 len:l.length=l0.length
 eq:∀ p,p∉M->l.getD p 0=l0.getD p 0
section
variable {T:Tb}{env:En}{d:D}
theorem yy {op:Operator}{a b:Ex}(h:aJ T (.bin op a b) env d)(hd:d.inner=true):ev T (.bin op a b) env = .ok (d,.mv []):=by
 obtain⟨R,h⟩:=h;have h':=h;rw[ev] at h;obtain⟨p,_,h⟩:=eN h;obtain⟨q,_,h⟩:=eN h;obtain⟨z,_,h⟩:=eN h;have:=qZ h;rw[g8] at this;obtain⟨rfl,e⟩:=this;rw[h',<-e];unfold dM;rw[if_pos hd]
theorem slM {a:Ex}{lo hi:mL}(h:aJ T (.sl a lo hi) env d)(hd:d.inner=true):ev T (.sl a lo hi) env = .ok (d,.mv []):=by
 obtain⟨R,h⟩:=h;have h':=h;rw[ev] at h;obtain⟨p,_,h⟩:=eN h;obtain⟨q,_,h⟩:=eN h;obtain⟨r,_,h⟩:=eN h;obtain⟨z,_,h⟩:=eN h;have:=qZ h;rw[g8] at this;obtain⟨rfl,e⟩:=this;rw[h',<-e];unfold dM;rw[if_pos hd]
theorem D6 {i:Nat}(h:aJ T (.var i) env d)(hd:d.flat=true):ev T (.var i) env = .ok (d,.mv []):=by
 obtain⟨R,h⟩:=h;cases q:env[i]? with
 |none=>rw[ev,q] at h;cases h
 |some o =>
  cases o with
  |none=>rw[ev,q] at h;cases h
  |some p =>
   obtain⟨d',t⟩:=p;rw[ev,q] at h;have:=qZ h;rw[g8] at this;obtain⟨rfl,e⟩:=this;exact aF q hd
theorem aJ.lst2 {a b:Ex}{x y:D}(h:aJ T a env x)(h2:aJ T b env y):aJ T (.lst (.cons a (.cons b .nil))) env (.lst [x,y]):=by
 obtain⟨R,h⟩:=h;obtain⟨R2,h2⟩:=h2;exact⟨_,by rw[ev,aV,h,aA,aV,h2,aA,aV,aA,aA,aA];exact if_pos (by show (2:Nat)<=lim;decide)⟩
end
structure Tv (env:En)(vs:List (Option (D×Bool))):Prop where
 len:env.length=vs.length
 tm:Tame env
 at':∀(j:Nat) (d:D) (b:Bool),vs[j]? = some (some (d,b))->∃ t,env[j]? = some (some (d,t))/\(b=true->t = .own)
section
variable {T:Tb}{env:En}{vs:List (Option (D×Bool))}{d:D}
end
end Pc.Vw
end
section
namespace K04
open PySem Pc Pc.Sm Pc.Lw Pc.Gr Pc.Nw Pc.Ct Pc.Gn Pc.Rd
open Pc.Fr (iD)
open Pc.Vw (aJ Vw iU)
def DM (T:Tb):Prop:=∀ l:List Int,T.cl 9 [.lst (iD l)] = .ok (.int (num l),true)
theorem va (n:Nat):DM (T (n+1)):=fun l=>by
 rw[qz,bO (F:=⟨1,3,b9⟩) rfl rfl];exact yu l
noncomputable def wD (q:Nat×Nat):D:=.tup [.int (q.1:Int),.int (q.2:Int)]
theorem Ff (d:D)(hd:D.flats [d]=true)(j:Int)(h : -(2 ^ 63)<=j/\j<2 ^ 63)(hc:j.toNat<=1000):lQ .Mult (.lst [d]) (.int j)=some (.lst (List.replicate j.toNat d)):=by
 show (if -(2 ^ 63)<=j/\j<2 ^ 63 then (if D.flats [d] then ck ([d].length*j.toNat) (.lst (List.replicate j.toNat [d]).flatten) else none) else none)=_;rw[if_pos h,if_pos hd];have e:∀ c:Nat,(List.replicate c [d]).flatten=List.replicate c d:=fun c=>by
  induction c with
  |zero=>rfl
  |succ c ih=>rw[bz,dm,ih,bz];rfl
 rw[e];exact if_pos (mj (show 1*j.toNat<=_ by omega))
theorem v9 (d:D)(hd:D.flats [d]=true)(c:Nat)(hc:c<=1000):lQ .Mult (.lst [d]) (.int (c:Int))=some (.lst (List.replicate c d)):=by
 have:=Ff d hd (c:Int) (by omega) (by omega)
 rwa [bo] at this
theorem Hg (xs ys:List D)(h:xs.length+ys.length<=1000):lQ .Add (.lst xs) (.lst ys)=some (.lst (xs++ys)):=by
 show ck (xs.length+ys.length) (.lst (xs++ys))=_;exact if_pos (mj (by omega))
theorem tup2 {T:Tb}{env:En}{a b:Ex}{x y:D}(h:aJ T a env x)(h2:aJ T b env y):aJ T (.tup (.cons a (.cons b .nil))) env (.tup [x,y]):=by
 obtain⟨R,h⟩:=h;obtain⟨R2,h2⟩:=h2;exact⟨_,by rw[ev,aV,h,aA,aV,h2,aA,aV,aA,aA,aA];exact if_pos (by show (2:Nat)<=lim;decide)⟩
theorem AO (W:List (Nat×Nat)):D.flats (W.map wD)=true:=by
 induction W with
 |nil=>rfl
 |cons q W ih=>exact ih
theorem ti (W:List (Nat×Nat)):(D.lst (W.map wD)).inner=true:=AO W
def F6 (T:Tb):Prop:=∀ k c:Nat,1<=k->k<=3->c<=100->T.cl 10 [.int (k:Int),.int (c:Int)] = .ok (.lst ((vF k c).map wD),true)
noncomputable def eW3:Ex:=(.sl (.lst (.cons (.tup (.cons (.cst (.int (0))) (.cons (.cst (.int (1))) .nil))) (.cons (.tup (.cons (.cst (.int (4))) (.cons (.cst (.int (10))) .nil))) (.cons (.tup (.cons (.cst (.int (7))) (.cons (.cst (.int (100))) .nil))) .nil)))) (.some (.bin .Mod (.var 1) (.cst (.int (3))))) (.some (.bin .Add (.bin .Mod (.var 1) (.cst (.int (3)))) (.cst (.int (1))))))
theorem Cq {T:Tb}{k c:Nat}:aJ T eW3 [sN k,sN c] (.lst ((w3 (c%3)).map wD)):=by
 have v1:ev T (.var 1) [sN k,sN c] = .ok (.int (c:Int),.mv []):=aF rfl rfl;have em:=cP (by decide:(0:Int)<3) v1 (aH (.int 3));have el:aJ T (.lst (.cons (.tup (.cons (.cst (.int (0))) (.cons (.cst (.int (1))) .nil))) (.cons (.tup (.cons (.cst (.int (4))) (.cons (.cst (.int (10))) .nil))) (.cons (.tup (.cons (.cst (.int (7))) (.cons (.cst (.int (100))) .nil))) .nil)))) [sN k,sN c] (.lst [wD (0,1),wD (4,10),wD (7,100)]):=⟨_,rfl⟩;have:c%3=0\/c%3=1\/c%3=2:=by omega
 rcases this with h | h | h
 ·rw[show (c:Int)%3=0 by omega] at em;rw[h];exact aJ.sl el ⟨_,em⟩ ⟨_,cM em (aH (.int 1))⟩ rfl
 ·rw[show (c:Int)%3=1 by omega] at em;rw[h];exact aJ.sl el ⟨_,em⟩ ⟨_,cM em (aH (.int 1))⟩ rfl
 ·rw[show (c:Int)%3=2 by omega] at em;rw[h];exact aJ.sl el ⟨_,em⟩ ⟨_,cM em (aH (.int 1))⟩ rfl
theorem C0:b10=(.cons (.ite (.cmp .Gt (.var 0) (.cst (.int (1)))) (.cons (.ret (.bin .Mult (.lst (.cons (.tup (.cons (.bin .Add (.bin .Mult (.cst (.int (2))) (.var 0)) (.cst (.int (1)))) (.cons (.blt .len (.cons (.call 4 (.cons (.var 0) .nil)) .nil)) .nil))) .nil)) (.var 1)))
  .nil) .nil)
  (.cons (.ret (.bin .Add (.bin .Mult (.lst (.cons (.tup (.cons (.cst (.int (10))) (.cons (.cst (.int (1000))) .nil))) .nil)) (.bin .FloorDiv (.var 1) (.cst (.int (3))))) eW3))
  .nil)):=rfl
theorem wd (n:Nat):F6 (T (n+3)):=fun k c h1 h3 hc=>by
 have hK:vh (T (n+2)):=GB n;have hst:aP [.int (k:Int),.int (c:Int)] 2=[sN k,sN c]:=rfl;have v0:ev (T (n+2)) (.var 0) [sN k,sN c] = .ok (.int (k:Int),.mv []):=aF rfl rfl;have v1:ev (T (n+2)) (.var 1) [sN k,sN c] = .ok (.int (c:Int),.mv []):=aF rfl rfl;have ec:=rO (y:=1) v0 (aH (.int 1));obtain⟨hb1,hb2⟩:=C3 h1 h3;rw[qz,bO (F:=⟨2,2,b10⟩) rfl rfl];dsimp only;rw[hst,C0,aD,dG ec];by_cases h:1<k
 ·have hW:vF k c=List.replicate c (2*k+1,(kn k).length):=if_pos h;rw[if_pos h,hW,gq];have ek:=fB v0 (hK k h1 h3);rw[yn] at ek;have hs:small 2=true:=by decide
  have ew:=cM (Fr.jL (by rw[hs];rfl) (aH (.int 2)) v0) (aH (.int 1));rw[show (2:Int)*(k:Int)+1=((2*k+1:Nat):Int) by omega] at ew;have e:=aJ.bin (aJ.lst1 (tup2 ⟨_,ew⟩ ⟨_,jR (by omega) ek⟩)) ⟨_,v1⟩ (v9 (wD (2*k+1,(kn k).length)) rfl c (by omega));have i:=ti (List.replicate c (2*k+1,(kn k).length));rw[gq] at i;have e:=Vw.yy e i;generalize List.replicate c (wD (2*k+1,(kn k).length))=L at *;rw[aD,bM,e,aR];rfl
 ·have hW:vF k c=List.replicate (c / 3) (10,1000)++w3 (c%3):=if_neg h;rw[if_neg h,hW,fk,gq];have ed:=cR (by decide:(0:Int)<3) (by decide) v1 (aH (.int 3));rw[show (c:Int) / 3=((c / 3:Nat):Int) by omega] at ed;have ed2:aJ (T (n+2)) (.tup (.cons (.cst (.int (10))) (.cons (.cst (.int (1000))) .nil))) [sN k,sN c] (wD (10,1000)):=⟨_,rfl⟩;have e1:=aJ.bin (aJ.lst1 ed2) ⟨_,ed⟩ (v9 (wD (10,1000)) rfl (c / 3) (by omega));have hl:(w3 (c%3)).length=1:=by
   have:c%3=0\/c%3=1\/c%3=2:=by omega
   rcases this with h | h | h<;>rw[h]<;>rfl
  have e:=aJ.bin (op:=.Add) e1 (Cq (T:=T (n+2)) (k:=k) (c:=c)) (Hg (List.replicate (c / 3) (wD (10,1000))) ((w3 (c%3)).map wD) (by rw[cq,av,hl];omega));have i:=ti (List.replicate (c / 3) (10,1000)++w3 (c%3));rw[fk,gq] at i;have e:=Vw.yy e i;generalize List.replicate (c / 3) (wD (10,1000))++(w3 (c%3)).map wD=L at *;rw[show aD (T (n+2)) .nil [sN k,sN c] = .nx [sN k,sN c] from by rw[aD],aB];exact gH e
noncomputable def dn (n:Nat):List Nat:=if n<10 then [48+n] else if n<100 then [48+n / 10,48+n%10] else [48+n / 100,48+n / 10%10,48+n%10]
theorem FV:∀ n:Nat,n<1000->(Str.ofString (toString (n:Int))).cps.toList=dn n:=by decide +kernel
theorem GD:∀ n:Nat,n<10->(dn n).length<=1/\List.replicate (1 - (dn n).length) 48++dn n=dg 1 n:=by decide +kernel
theorem pad2:∀ n:Nat,n<100->(dn n).length<=2/\List.replicate (2 - (dn n).length) 48++dn n=dg 2 n:=by decide +kernel
theorem Gq:∀ n:Nat,n<1000->(dn n).length<=3/\List.replicate (3 - (dn n).length) 48++dn n=dg 3 n:=by decide +kernel
theorem pad {m n:Nat}(h1:1<=m)(h3:m<=3)(h:(n:Int)<=gm m):n<1000/\(dn n).length<=m/\tx (List.replicate (m - (dn n).length) 48++dn n)=zf m (n:Int):=by
 rw[Bz h1 h3 h]
 match m,h1,h3 with
 |1,_,_ =>
  have hn:n<10:=by unfold gm at h;simp at h;omega
  exact⟨by omega,(GD n hn).1,gc tx (GD n hn).2⟩
 |2,_,_ =>
  have hn:n<100:=by unfold gm at h;simp at h;omega
  exact⟨by omega,(pad2 n hn).1,gc tx (pad2 n hn).2⟩
 |3,_,_ =>
  have hn:n<1000:=by unfold gm at h;simp at h;omega
  exact⟨by omega,(Gq n hn).1,gc tx (Gq n hn).2⟩
noncomputable def cSH:Ex:=(.cmp .Lt (.blt .len (.cons (.var 3) .nil)) (.bin .FloorDiv (.var 2) (.cst (.int (3)))))
noncomputable def zR:cJ:=(.cons (.asg (.nm 3) (.bin .Add (.cst (.str ("0" : PySem.Str))) (.var 3)) false)
  .nil)
theorem Dj:b11=(.cons (.ite (.cmp .Gt (.var 0) (.cst (.int (1)))) (.cons (.ret (.ix (.call 4 (.cons (.var 0) .nil)) (.var 1)))
  .nil) .nil)
  (.cons (.asg (.nm 3) (.blt .str (.cons (.var 1) .nil)) false)
  (.cons (.whl cSH zR)
  (.cons (.ret (.var 3))
  .nil)))):=rfl
theorem BR {T:Tb}{k n w:Nat}:∀(r f:Nat) (cs:List Nat),r<f->cs.length+r=w / 3->w / 3<=3->fA (fun env=>(ev T cSH env).bind fun p=>fE (truth p.1)) (aD T zR) f [sN k,sN n,sN w,sT cs] = .nx [sN k,sN n,sN w,sT (List.replicate r 48++cs)]:=by
 have cond:∀ cs:List Nat,cs.length<=3->((ev T cSH [sN k,sN n,sN w,sT cs]).bind fun p=>fE (truth p.1)) = .ok (decide (cs.length<w / 3)):=fun cs hc=>by
  have ed:=cR (by decide:(0:Int)<3) (by decide) (aF (T:=T) (env:=[sN k,sN n,sN w,sT cs]) (i:=2) (d:=.int (w:Int)) (t:=.own) rfl rfl) (aH (.int 3));rw[show (w:Int) / 3=((w / 3:Nat):Int) by omega] at ed;have e:=Cv (jR (by omega) (aF (T:=T) (env:=[sN k,sN n,sN w,sT cs]) (i:=3) (d:=.str (tx cs)) (t:=.own) rfl rfl)) ed;show (ev T (.cmp .Lt _ _) _).bind _=_;rw[e,aA];rfl
 intro r
 induction r with
 |zero =>
  intro f cs hf hl h3;obtain⟨f,rfl⟩:∃ g,f=g+1:=⟨f - 1,by omega⟩;rw[ue (by rw[cond cs (by omega),aq (by omega)])];rfl
 |succ r ih =>
  intro f cs hf hl h3;obtain⟨f,rfl⟩:∃ g,f=g+1:=⟨f - 1,by omega⟩;have e:=Ct.sR (x:=[48]) (aH (T:=T) (env:=[sN k,sN n,sN w,sT cs]) (.str ("0" : PySem.Str))) (aF (i:=3) (d:=.str (tx cs)) (t:=.own) rfl rfl) (by rw[cz];omega);have g:=bJ (i:=3) (.cons (aC _) (.cons (aC _) (.cons (aC _) (.cons (aC _) .nil)))) (show (3:Nat)<4 by decide) e;have g:bM T (.asg (.nm 3) (.bin .Add (.cst (.str ("0" : PySem.Str))) (.var 3)) false) [sN k,sN n,sN w,sT cs] = .nx [sN k,sN n,sN w,sT (48::cs)]:=g;rw[A7 (by rw[cond cs (by omega),ba (by omega)]) (show aD T zR _=_ from lU g),ih f (48::cs) (by omega) (by rw[ak];omega) h3];have:List.replicate r 48++48::cs=List.replicate (r+1) 48++cs:=by
   rw[List.replicate_succ',dq];rfl
  rw[this]
def ok3 (k w n:Nat):Prop:=((k=2\/k=3)/\n<(kn k).length)\/(k=1/\1<=w / 3/\w / 3<=3/\(n:Int)<=gm (w / 3))
def Eg (T:Tb):Prop:=∀ k w n:Nat,ok3 k w n->∃ fr,T.cl 11 [.int (k:Int),.int (n:Int),.int (w:Int)] = .ok (.str (o9 k w (n:Int)),fr)
theorem shw (n:Nat):Eg (T (n+3)):=fun k w m hk=>by
 have hK:vh (T (n+2)):=GB n;have hst:aP [.int (k:Int),.int (m:Int),.int (w:Int)] 4=[sN k,sN m,sN w,none]:=rfl;have v0:ev (T (n+2)) (.var 0) [sN k,sN m,sN w,none] = .ok (.int (k:Int),.mv []):=aF rfl rfl;have v1:ev (T (n+2)) (.var 1) [sN k,sN m,sN w,none] = .ok (.int (m:Int),.mv []):=aF rfl rfl;have ec:=rO (y:=1) v0 (aH (.int 1));rw[qz,bO (F:=⟨3,4,b11⟩) rfl rfl];dsimp only;rw[hst,Dj,aD,dG ec];rcases hk with ⟨hk,hm⟩ | ⟨rfl,h1,h3,hm⟩
 ·obtain⟨hb1,hb2⟩:=C3 (k:=k) (by omega) (by omega);rw[if_pos (by omega)];have ek:=fB v0 (hK k (by omega) (by omega));rw[yn] at ek;have e:aJ (T (n+2)) (.ix (.call 4 (.cons (.var 0) .nil)) (.var 1)) [sN k,sN m,sN w,none] (.str (tx [(kn k)[m]])):=aJ.ix ⟨_,ek⟩ ⟨_,v1⟩ (Bg (by omega) (List.getElem?_eq_getElem hm));have hS:o9 k w (m:Int)=tx [(kn k)[m]]:=by
   show (if 1<k then _ else _)=_;rw[if_pos (by omega),bo,List.getElem?_eq_getElem hm];rfl
  rw[hS];obtain⟨R,e⟩:=e;rw[aD,bM,e,aR];exact⟨_,rfl⟩
 ·rw[if_neg (by omega),show aD (T (n+2)) .nil [sN 1,sN m,sN w,none] = .nx [sN 1,sN m,sN w,none] from by rw[aD],aB];obtain⟨p1,p2,p3⟩:=pad h1 h3 hm;have es:ev (T (n+2)) (.blt .str (.cons (.var 1) .nil)) [sN 1,sN m,sN w,none] = .ok (.str (tx (dn m)),.mv []):=by
   rw[ev,aV,v1,aA,aV,aA,aA,uB];show (fE (if (m:Int).natAbs<1000000 then some (D.str (Str.ofString (toString (m:Int)))) else none)).bind _=_;rw[if_pos (by omega),oU (FV m p1)];rfl
  have g1:=bJ (i:=3) (.cons (aC _) (.cons (aC _) (.cons (aC _) (.cons cN .nil)))) (show (3:Nat)<4 by decide) es;have g1:bM (T (n+2)) (.asg (.nm 3) (.blt .str (.cons (.var 1) .nil)) false) [sN 1,sN m,sN w,none] = .nx [sN 1,sN m,sN w,sT (dn m)]:=g1;have g2:=BR (T:=T (n+2)) (k:=1) (n:=m) (w:=w) (w / 3 - (dn m).length) 1000 (dn m) (by omega) (by omega) h3;have g2:bM (T (n+2)) (.whl cSH zR) [sN 1,sN m,sN w,sT (dn m)] = .nx [sN 1,sN m,sN w,sT (List.replicate (w / 3 - (dn m).length) 48++dn m)]:=by
   rw[bM];exact g2
  have hS:o9 1 w (m:Int)=tx (List.replicate (w / 3 - (dn m).length) 48++dn m):=p3.symm;rw[hS,aD,g1,aB,aD,g2,aB];exact⟨true,gH (aF rfl rfl)⟩
open Pc.Fr (iD)
open Pc.Vw (aJ Vw iU)
theorem GQ {α:Type}(xs:List α)(m c:Nat):cut xs (some (m:Int)) (some (c:Int))=(xs.drop m).take (c - m):=by
 unfold cut aU;dsimp only;rw[if_neg (by omega),if_neg (by omega),bo,bo];by_cases h:m<=xs.length
 ·rw[h9 h];by_cases h2:c<=xs.length
  ·rw[h9 h2]
  ·rw[gy (by omega),bu (by rw[bt];omega),bu (by rw[bt];omega)]
 ·rw[gy (show xs.length<=m by omega),gx (aw _),gx (show xs.length<=m by omega),List.take_nil,List.take_nil]
theorem DP (l:List Int)(m c:Nat):((iD l).drop m).take c=iD ((l.drop m).take c):=by
 unfold iD;rw[<-List.map_drop,<-List.map_take]
theorem um {T:Tb}{env:En}{a lo hi:Ex}{l:List Int}{m c:Nat}(h:aJ T a env (.lst (iD l)))(h1:aJ T lo env (.int (m:Int)))(h2:aJ T hi env (.int ((m:Int)+(c:Int)))):aJ T (.sl a (.some lo) (.some hi)) env (.lst (iD ((l.drop m).take c))):=by
 refine aJ.sl h h1 h2 ?_;have e:(m:Int)+(c:Int)=((m+c:Nat):Int):=by omega
 rw[e];show some (D.lst (cut (iD l) _ _))=_;rw[GQ,show m+c - m=c by omega,DP]
theorem kG {T:Tb}{env:En}{a b:Ex}{i j:Int}(h:aJ T a env (.int i))(h':aJ T b env (.int j)):aJ T (.bin .Add a b) env (.int (i+j)):=aJ.bin h h' rfl
theorem rX {T:Tb}{env:En}{a:Ex}{l:List Int}(h:aJ T a env (.lst (iD l))):aJ T (.blt .len (.cons a .nil)) env (.int (l.length:Int)):=by
 have:fQ .len [.lst (iD l)]=some (.int ((iD l).length:Int)):=rfl;rw[fY] at this;exact aJ.blt1 h this
theorem ltI {T:Tb}{env:En}{a b:Ex}{i j:Int}(h:aJ T a env (.int i))(h':aJ T b env (.int j)):aJ T (.cmp .Lt a b) env (.bl (decide (i<j))):=aJ.cmp h h' rfl
theorem gtI {T:Tb}{env:En}{a b:Ex}{i j:Int}(h:aJ T a env (.int i))(h':aJ T b env (.int j)):aJ T (.cmp .Gt a b) env (.bl (decide (j<i))):=aJ.cmp h h' rfl
theorem geI {T:Tb}{env:En}{a b:Ex}{i j:Int}(h:aJ T a env (.int i))(h':aJ T b env (.int j)):aJ T (.cmp .GtE a b) env (.bl (decide (j<=i))):=aJ.cmp h h' rfl
theorem addS {T:Tb}{env:En}{a b:Ex}{x y:Str}(h:aJ T a env (.str x))(h':aJ T b env (.str y))(hl:x.length+y.length<=1000):aJ T (.bin .Add a b) env (.str (x++y)):=aJ.bin h h' (if_pos (mj hl))
theorem BJ {env:En}{vs:List (Option D)}(h:Vw env vs){i j:Nat}(hi:i<vs.length)(hj:j<vs.length)(R:List Nat)(x y:D):∃ env',bQ R (.tp [i,j]) (.tup [x,y]) env=some env'/\Vw env' ((vs.set i (some x)).set j (some y)):=by
 have h1:=h.put i x (dB x R);refine⟨_,?_,h1.put j y (dB y R)⟩;show bindM (fun d=>dB d R) [i,j] [x,y] env=_;simp only[bindM];rw[if_pos (by rw[h.1];exact hi),if_pos (by rw[h1.1,gh];exact hj)]
theorem bT {T:Tb}{env:En}:aD T .nil env = .nx env:=by rw[aD]
theorem jg {T:Tb}{env:En}{r:cJ}:aD T (.cons (.ret (.cst .non)) r) env = .rt .non true:=by
 rw[aD,bM,aH,aR];rfl
theorem xN {t:kD}{R:List Nat}{b:En->Fl}{d r:D}{l:List D}{env e1:En}{fr:Bool}(hb:bQ R t d env=some e1)(h:b e1 = .rt r fr):bL t R b (d::l) env = .rt r fr:=by
 rw[bL,hb];dsimp only;rw[h]
noncomputable def oj:cJ:=(.cons (.asg (.nm 7) (.call 9 (.cons (.sl (.var 0) (.some (.var 1)) (.some (.bin .Add (.var 1) (.var 5)))) .nil)) false)
  (.cons (.ite (.or (.cmp .Lt (.blt .len (.cons (.var 0) .nil)) (.bin .Add (.var 1) (.var 5))) (.cmp .GtE (.var 7) (.var 6))) (.cons (.ret (.cst .non))
  .nil) .nil)
  (.cons (.ite (.cmp .Gt (.var 5) (.cst (.int (0)))) (.cons (.asg (.nm 4) (.bin .Add (.var 4) (.call 11 (.cons (.var 2) (.cons (.var 7) (.cons (.var 5) .nil))))) false)
  .nil) .nil)
  (.cons (.asg (.nm 1) (.bin .Add (.var 1) (.var 5)) false)
  .nil))))
theorem Du:b12=(.cons (.asg (.nm 2) (.call 9 (.cons (.sl (.var 0) (.some (.var 1)) (.some (.bin .Add (.var 1) (.cst (.int (2)))))) .nil)) false)
  (.cons (.ite (.cmp .Lt (.blt .len (.cons (.var 0) .nil)) (.bin .Add (.var 1) (.cst (.int (8))))) (.cons (.ret (.cst .non))
  .nil) .nil)
  (.cons (.asg (.nm 3) (.bin .Add (.cst (.int (1))) (.call 9 (.cons (.sl (.var 0) (.some (.bin .Add (.var 1) (.cst (.int (2))))) (.some (.bin .Add (.var 1) (.cst (.int (8)))))) .nil))) false)
  (.cons (.asg (.nm 1) (.bin .Add (.var 1) (.cst (.int (8)))) false)
  (.cons (.asg (.nm 4) (.cst (.str ("" : PySem.Str))) false)
  (.cons (.forr (.tp [5,6]) (.seq (.call 10 (.cons (.var 2) (.cons (.var 3) .nil)))) oj)
  (.cons (.ret (.tup (.cons (.tup (.cons (.var 2) (.cons (.var 4) .nil))) (.cons (.var 1) .nil))))
  .nil))))))):=rfl
def okW (k:Nat)(q:Nat×Nat):Prop:=((k=2\/k=3)/\q=(2*k+1,(kn k).length))\/(k=1/\(q=(0,1)\/q=(4,10)\/q=(7,100)\/q=(10,1000)))
theorem Fg {k w x n:Nat}(h:okW k (w,x))(h0:0<w)(hn:n<x):ok3 k w n/\(o9 k w (n:Int)).length<=3:=by
 rcases h with ⟨hk,e⟩ | ⟨rfl,e⟩
 ·cases e;refine⟨.inl ⟨hk,hn⟩,?_⟩;have:o9 k (2*k+1) (n:Int)=tx [((kn k)[(n:Int).toNat]?).getD 0]:=if_pos (by omega);rw[this,gZ];exact (show (1:Nat)<=3 by decide)
 ·have hm:1<=w / 3/\w / 3<=3/\(n:Int)<=gm (w / 3):=by
   rcases e with e | e | e | e
   ·cases e;omega
   ·cases e;exact⟨by decide,by decide,show (n:Int)<=9 by omega⟩
   ·cases e;exact⟨by decide,by decide,show (n:Int)<=99 by omega⟩
   ·cases e;exact⟨by decide,by decide,show (n:Int)<=999 by omega⟩
  refine⟨.inr ⟨rfl,hm⟩,?_⟩;show (zf (w / 3) (n:Int)).length<=3;rw[yI hm.1 hm.2.1 (by omega) hm.2.2];exact hm.2.1
theorem A1 {k c:Nat}(h1:1<=k)(h3:k<=3):∀ q∈vF k c,okW k q:=by
 intro q hq;unfold vF at hq;by_cases h:1<k
 ·rw[if_pos h] at hq;exact .inl ⟨by omega,ir hq⟩
 ·rw[if_neg h] at hq;refine .inr ⟨by omega,?_⟩;rcases List.mem_append.mp hq with hq | hq
  ·exact .inr (.inr (.inr (ir hq)))
  ·have:c%3=0\/c%3=1\/c%3=2:=by omega
   rcases this with e | e | e
   ·rw[e] at hq;exact .inl (gp.mp hq)
   ·rw[e] at hq;exact .inr (.inl (gp.mp hq))
   ·rw[e] at hq;exact .inr (.inr (.inl (gp.mp hq)))
theorem Ae {k c:Nat}:(vF k c).length<=c+1:=by
 unfold vF;by_cases h:1<k
 ·rw[if_pos h,cq];omega
 ·rw[if_neg h,aj,cq];have:(w3 (c%3)).length=1:=by
   have:c%3=0\/c%3=1\/c%3=2:=by omega
   rcases this with h | h | h<;>rw[h]<;>rfl
  omega
noncomputable abbrev VP (bs:List Int)(p k:Nat)(c:Option D)(acc:Str)(x5 x6 x7:Option D):List (Option D):=[some (.lst (iD bs)),some (.int (p:Int)),some (.int (k:Int)),c,some (.str acc),x5,x6,x7]
theorem uk {T:Tb}(hV:DM T)(hS:Eg T){bs:List Int}(hb:jd bs=true){k:Nat}{c:Option D}:∀(W:List (Nat×Nat)) (p:Nat) (acc:Str) (env:En) (x5 x6 x7:Option D),(∀ q∈W,okW k q)->acc.length+3*W.length<=900->Vw env (VP bs p k c acc x5 x6 x7) ->
  match uT bs k W p acc with
  |none=>bL (.tp [5,6]) [] (aD T oj) (W.map wD) env = .rt .non true
  |some q=>∃ env' y5 y6 y7,bL (.tp [5,6]) [] (aD T oj) (W.map wD) env = .nx env'/\Vw env' (VP bs q.2 k c q.1 y5 y6 y7)
 |[],p,acc,env,x5,x6,x7,_,_,V=>⟨env,x5,x6,x7,rfl,V⟩
 | (w,x)::W,p,acc,env,x5,x6,x7,hW,hl,V=>by
  rw[ak] at hl;obtain⟨e1,hb1,V1⟩:=BJ V (i:=5) (j:=6) (show (5:Nat)<8 by decide) (show (6:Nat)<8 by decide) [] (.int (w:Int)) (.int (x:Int));have V1:Vw e1 (VP bs p k c acc (some (.int (w:Int))) (some (.int (x:Int))) x7):=V1;have hb1:bQ [] (.tp [5,6]) (wD (w,x)) env=some e1:=hb1;have s1:aJ T (.bin .Add (.var 1) (.var 5)) e1 (.int ((p:Int)+(w:Int))):=kG (V1.var (i:=1) rfl) (V1.var (i:=5) rfl);have ev7:=aJ.fB (um (V1.var (i:=0) rfl) (V1.var (i:=1) rfl) s1) (hV _);obtain⟨e2,g1,V2⟩:=V1.asg (i:=7) (show (7:Nat)<8 by decide) ev7;have V2:Vw e2 (VP bs p k c acc (some (.int (w:Int))) (some (.int (x:Int))) (some (.int (gK bs p w)))):=V2;have h0:=wU hb p w;have s2:aJ T (.bin .Add (.var 1) (.var 5)) e2 (.int ((p:Int)+(w:Int))):=kG (V2.var (i:=1) rfl) (V2.var (i:=5) rfl);have c1:=ltI (rX (V2.var (T:=T) (i:=0) rfl)) s2;have c2:=geI (V2.var (T:=T) (i:=7) rfl) (V2.var (i:=6) rfl);have hc:aJ T (.or (.cmp .Lt (.blt .len (.cons (.var 0) .nil)) (.bin .Add (.var 1) (.var 5))) (.cmp .GtE (.var 7) (.var 6))) e2 (.bl (decide (bs.length<p+w\/(x:Int)<=gK bs p w))):=by
   refine aJ.or c1 (fun hf=>?_) (fun ht=>?_)
   ·have hf:=of_decide_eq_false hf;have:decide (bs.length<p+w\/(x:Int)<=gK bs p w)=decide ((x:Int)<=gK bs p w):=by
     refine decide_eq_decide.mpr ⟨fun z=>z.elim (fun z=>?_) id,.inr⟩;omega
    rw[this];exact c2
   ·have ht:=dt ht;exact ba (.inl (by omega))
  have hst:=iU (p:=.cons (.ret (.cst .non)) .nil) (q:=.nil) hc;show match (if bs.length<p+w\/(x:Int)<=gK bs p w then none else uT bs k W (p+w) (if 0<w then acc++o9 k w (gK bs p w) else acc)) with
   |none=>bL (.tp [5,6]) [] (aD T oj) (wD (w,x)::W.map wD) env = .rt .non true
   |some q=>∃ env' y5 y6 y7,bL (.tp [5,6]) [] (aD T oj) (wD (w,x)::W.map wD) env = .nx env'/\Vw env' (VP bs q.2 k c q.1 y5 y6 y7)
  by_cases hh:bs.length<p+w\/(x:Int)<=gK bs p w
  ·rw[if_pos hh];rw[ba hh,if_pos rfl] at hst;refine xN hb1 ?_;unfold oj;rw[aD,g1,aB,aD,hst,jg];rfl
  ·rw[if_neg hh];rw[aq hh,if_neg (by decide),bT] at hst;obtain⟨n,hn⟩:=c9 h0;rw[hn] at V2 hh ⊢;have hnx:n<x:=by omega
   have c3:=gtI (V2.var (T:=T) (i:=5) rfl) (aJ.cst (.int 0));have h3:∃ e3,bM T (.ite (.cmp .Gt (.var 5) (.cst (.int (0)))) (.cons (.asg (.nm 4) (.bin .Add (.var 4) (.call 11 (.cons (.var 2) (.cons (.var 7) (.cons (.var 5) .nil))))) false)
  .nil) .nil) e2 = .nx e3/\(if 0<w then acc++o9 k w (n:Int) else acc).length<=acc.length+3/\Vw e3 (VP bs p k c (if 0<w then acc++o9 k w (n:Int) else acc) (some (.int (w:Int))) (some (.int (x:Int))) (some (.int (n:Int)))):=by
    by_cases h0:0<w
    ·rw[if_pos h0];obtain⟨k3,l3⟩:=Fg (hW (w,x) au) h0 hnx;obtain⟨fr,hcl⟩:=hS k w n k3;have e4:=addS (V2.var (T:=T) (i:=4) rfl) (aJ.ql (V2.var (i:=2) rfl) (V2.var (i:=7) rfl) (V2.var (i:=5) rfl) hcl) (by omega);obtain⟨e3,g,V3⟩:=V2.asg (i:=4) (show (4:Nat)<8 by decide) e4;refine⟨e3,?_,?_,V3⟩
     ·rw[iU c3,ba (by omega),if_pos rfl];exact lU g
     ·show (acc++_).length<=_;have:(acc++o9 k w (n:Int)).length=acc.length+(o9 k w (n:Int)).length:=Array.size_append;omega
    ·rw[if_neg h0];refine⟨e2,?_,by omega,V2⟩;rw[iU c3,aq (by omega),if_neg (by decide),bT]
   obtain⟨e3,g3,l3,V3⟩:=h3;generalize (if 0<w then acc++o9 k w (n:Int) else acc)=acc' at *;have s4:aJ T (.bin .Add (.var 1) (.var 5)) e3 (.int ((p:Int)+(w:Int))):=kG (V3.var (i:=1) rfl) (V3.var (i:=5) rfl);rw[show (p:Int)+(w:Int)=((p+w:Nat):Int) by omega] at s4;obtain⟨e4,g4,V4⟩:=V3.asg (i:=1) (show (1:Nat)<8 by decide) s4;have V4:Vw e4 (VP bs (p+w) k c acc' (some (.int (w:Int))) (some (.int (x:Int))) (some (.int (n:Int)))):=V4;have hbody:aD T oj e1 = .nx e4:=by
    unfold oj;rw[aD,g1,aB,aD,hst,aB,aD,g3,aB,aD,g4,aB,bT]
   have ih:=uk hV hS hb (k:=k) (c:=c) W (p+w) acc' e4 _ _ _ (fun q hq=>hW q (ah _ hq)) (by omega) V4;rw[dE hb1 hbody];exact ih
noncomputable def uV (k:Nat):Option (Str×Nat)->D
 |none=>.non
 |some q=>.tup [.tup [.int (k:Int),.str q.1],.int (q.2:Int)]
def Fv (T:Tb):Prop:=∀(bs:List Int) (p k:Nat),jd bs=true->1<=k->k<=3->gK bs p 2=(k:Int)->T.cl 12 [.lst (iD bs),.int (p:Int)] = .ok (uV k (AE bs k p),true)
theorem Gp {bs:List Int}(hb:jd bs=true){p:Nat}:(gK bs p 6).toNat<64:=by
 have:=nT ((bs.drop p).take 6) 0 (by decide) fun b h=>oN hb b (fq (fm h))
 have hl:((bs.drop p).take 6).length<=6:=by rw[bp];omega
 have h2:gK bs p 6<2 ^ ((bs.drop p).take 6).length:=by
  have h:=this.2;rw[Int.zero_add,Int.one_mul] at h;exact h
 have h3:(2:Int) ^ ((bs.drop p).take 6).length<=2 ^ 6:=by
  have:(2:Nat) ^ ((bs.drop p).take 6).length<=2 ^ 6:=Nat.pow_le_pow_right (by decide) hl;have:=Int.ofNat_le.mpr this;simpa using this
 have h4:(2:Int) ^ 6=64:=by decide
 omega
theorem EI (n:Nat):Fv (T (n+4)):=fun bs p k hb h1 h3 hk=>by
 have hV:DM (T (n+3)):=va (n+2);have hS:Eg (T (n+3)):=shw n;have hW:F6 (T (n+3)):=wd n;rw[qz,bO (F:=⟨2,8,b12⟩) rfl rfl];have V0:=Vw.start [.lst (iD bs),.int (p:Int)] 8;dsimp only;generalize aP [.lst (iD bs),.int (p:Int)] 8=e0 at *;have V0:Vw e0 [some (.lst (iD bs)),some (.int (p:Int)),none,none,none,none,none,none]:=V0;have k2:=aJ.fB (um (c:=2) (V0.var (T:=T (n+3)) (i:=0) rfl) (V0.var (i:=1) rfl) (kG (V0.var (i:=1) rfl) (aJ.cst (.int 2)))) (hV _);obtain⟨e1,g1,V1⟩:=V0.asg (i:=2) (show (2:Nat)<8 by decide) k2;have hk:num ((bs.drop p).take 2)=(k:Int):=hk;rw[hk] at V1;have V1:Vw e1 [some (.lst (iD bs)),some (.int (p:Int)),some (.int (k:Int)),none,none,none,none,none]:=V1;have s8:aJ (T (n+3)) (.bin .Add (.var 1) (.cst (.int (8)))) e1 (.int ((p:Int)+8)):=kG (V1.var (i:=1) rfl) (aJ.cst (.int 8));have c1:=ltI (rX (V1.var (T:=T (n+3)) (i:=0) rfl)) s8;have hst:=iU (p:=.cons (.ret (.cst .non)) .nil) (q:=.nil) c1;rw[Du,aD,g1,aB,aD,hst];unfold AE;by_cases h8:bs.length<p+8
 ·rw[if_pos h8,ba (by omega),if_pos rfl];rw[jg];rfl
 ·rw[if_neg h8,aq (by omega),if_neg (by decide),bT,aB];have s2:aJ (T (n+3)) (.bin .Add (.var 1) (.cst (.int (2)))) e1 (.int ((p+2:Nat):Int)):=kG (V1.var (i:=1) rfl) (aJ.cst (.int 2));have s8':aJ (T (n+3)) (.bin .Add (.var 1) (.cst (.int (8)))) e1 (.int (((p+2:Nat):Int)+((6:Nat):Int))):=by
   rw[show ((p+2:Nat):Int)+((6:Nat):Int)=(p:Int)+8 by omega];exact s8
  have k3:=kG (aJ.cst (.int 1)) (aJ.fB (um (V1.var (T:=T (n+3)) (i:=0) rfl) s2 s8') (hV _));have hc:=wU hb (p+2) 6;have hc6:=Gp hb (p:=p+2);obtain⟨c,hcn⟩:=c9 hc;rw[hcn] at hc6 ⊢;rw[show num ((bs.drop (p+2)).take 6)=(c:Int) from hcn] at k3;rw[bo] at hc6;rw[show ((c:Nat):Int).toNat=c from bo c];rw[show (1:Int)+(c:Int)=((1+c:Nat):Int) by omega] at k3;obtain⟨e2,g2,V2⟩:=V1.asg (i:=3) (show (3:Nat)<8 by decide) k3;have V2:Vw e2 [some (.lst (iD bs)),some (.int (p:Int)),some (.int (k:Int)),some (.int ((1+c:Nat):Int)),none,none,none,none]:=V2;have s8b:aJ (T (n+3)) (.bin .Add (.var 1) (.cst (.int (8)))) e2 (.int ((p+8:Nat):Int)):=kG (V2.var (i:=1) rfl) (aJ.cst (.int 8));obtain⟨e3,g3,V3⟩:=V2.asg (i:=1) (show (1:Nat)<8 by decide) s8b;obtain⟨e4,g4,V4⟩:=V3.asg (T:=T (n+3)) (i:=4) (show (4:Nat)<8 by decide) (aJ.cst (.str ("" : PySem.Str)));have V4:Vw e4 (VP bs (p+8) k (some (.int ((1+c:Nat):Int))) (tx []) none none none):=V4;have hl:=Ae (k:=k) (c:=1+c);have q:=uk hV hS hb (vF k (1+c)) (p+8) (tx []) e4 none none none (A1 h1 h3) (by rw[gZ];show 0+_<=_;omega) V4;have hit:iS (T (n+3)) (.seq (.call 10 (.cons (.var 2) (.cons (.var 3) .nil)))) e4 = .ok ((vF k (1+c)).map wD,[]):=by
   obtain⟨R,w2⟩:=V4.var (T:=T (n+3)) (i:=2) rfl;obtain⟨R',w3⟩:=V4.var (T:=T (n+3)) (i:=3) rfl;rw[iS,iF w2 w3 (hW k (1+c) h1 h3 (by omega)),aA];rfl
  rw[aD,g2,aB,aD,g3,aB,aD,g4,aB];cases hr:uT bs k (vF k (1+c)) (p+8) (tx []) with
  |none =>
   rw[hr] at q;have gf:bM (T (n+3)) (.forr (.tp [5,6]) (.seq (.call 10 (.cons (.var 2) (.cons (.var 3) .nil)))) oj) e4 = .rt .non true:=by
    rw[bM,hit,aR];dsimp only;rw[qh,q]
   rw[aD,gf];rfl
  |some o =>
   rw[hr] at q;obtain⟨e5,y5,y6,y7,q,V5⟩:=q;have gf:=dW hit q;rw[aD,gf,aB];refine gH ?_;have w2:=Vw.D6 (V5.var (T:=T (n+3)) (i:=2) rfl) rfl;have w4:=Vw.D6 (V5.var (T:=T (n+3)) (i:=4) rfl) rfl;have w1:=Vw.D6 (V5.var (T:=T (n+3)) (i:=1) rfl) rfl;have wt:ev (T (n+3)) (.tup (.cons (.var 2) (.cons (.var 4) .nil))) e5 = .ok (.tup [.int (k:Int),.str o.1],.mv []):=by
    rw[ev,aV,w2,aA,aV,w4,aA,aV];rfl
   rw[ev,aV,wt,aA,aV,w1,aA,aV];rfl
open Pc.Fr (iD)
open Pc.Vw (aJ Vw iU)
theorem vK {bs:List Int}{k:Nat}:∀(W:List (Nat×Nat)) (p:Nat) (acc:Str) (q:Str×Nat),uT bs k W p acc=some q->p<=q.2
 |[],p,acc,q,h=>by cases h;exact aw _
 | (w,x)::W,p,acc,q,h=>by
  have h:(if bs.length<p+w\/(x:Int)<=gK bs p w then none else uT bs k W (p+w) (if 0<w then acc++o9 k w (gK bs p w) else acc))=some q:=h;by_cases hh:bs.length<p+w\/(x:Int)<=gK bs p w
  ·rw[if_pos hh] at h;cases h
  ·rw[if_neg hh] at h;have:=vK W (p+w) _ q h;omega
theorem D3 {bs:List Int}{k p:Nat}{q:Str×Nat}(h:AE bs k p=some q):p+8<=q.2:=by
 unfold AE at h;by_cases h8:bs.length<p+8
 ·rw[if_pos h8] at h;cases h
 ·rw[if_neg h8] at h;exact vK _ _ _ _ h
noncomputable def Fy:Ex:=(.and (.cmp .GtE (.blt .len (.cons (.var 0) .nil)) (.bin .Add (.var 2) (.cst (.int (2))))) (.cmp .NotEq (.sl (.var 0) (.some (.var 2)) (.some (.bin .Add (.var 2) (.cst (.int (2)))))) (.lst (.cons (.cst (.int (0))) (.cons (.cst (.int (0))) .nil)))))
noncomputable def u9:cJ:=(.cons (.asg (.nm 3) (.call 12 (.cons (.var 0) (.cons (.var 2) .nil))) false)
  (.cons (.ite (.cmp .Is (.var 3) (.cst .non)) (.cons (.ret (.cst .non))
  .nil) .nil)
  (.cons (.mut 1 .none .append (.cons (.ix (.var 3) (.cst (.int (0)))) .nil))
  (.cons (.asg (.nm 2) (.ix (.var 3) (.cst (.int (1)))) false)
  .nil))))
noncomputable def u0:cJ:=(.cons (.ite (.cmp .Lt (.blt .len (.cons (.var 0) .nil)) (.bin .Add (.var 2) (.cst (.int (2))))) (.cons (.ret (.cst .non))
  .nil) .nil)
  (.cons (.ret (.tup (.cons (.var 1) (.cons (.bin .Add (.var 2) (.cst (.int (2)))) .nil))))
  .nil))
theorem B4:b13=(.cons (.asg (.nm 1) (.lst .nil) false)
  (.cons (.asg (.nm 2) (.cst (.int (0))) false)
  (.cons (.whl Fy u9) u0))):=rfl
noncomputable abbrev ED (bs:List Int)(P:List (Nat×Str))(p:Nat)(o:Slot):En:=[some (.lst (iD bs),.sh []),some (.lst (P.map jc),.own),sN p,o]
theorem oM {bs:List Int}{P:List (Nat×Str)}{p:Nat}{o:Slot}(h:bY o):Tame (ED bs P p o):=.cons (kJ _) (.cons (aC _) (.cons (aC _) (.cons h .nil)))
noncomputable def duD:Option (List (Nat×Str)×Nat)->D
 |none=>.non
 |some q=>outD q
theorem By {bs:List Int}(hb:jd bs=true){p:Nat}(h:p+2<=bs.length):∃ k:Nat,gK bs p 2=(k:Int)/\k<=3/\(((bs.drop p).take 2 == [0,0])=decide (k=0)):=by
 have hl:((bs.drop p).take 2).length=2:=by rw[bp,bt];omega
 have hm:∀ b∈(bs.drop p).take 2,0<=b/\b<=1:=fun b h=>oN hb b (fq (fm h))
 unfold gK;generalize (bs.drop p).take 2=A at *
 match A,hl with
 |[a,b],_ =>
  have ha:=hm a (by simp);have hb:=hm b (by simp);have:a=0\/a=1:=by omega
  have:b=0\/b=1:=by omega
  rcases ‹a=0\/a=1› with rfl | rfl<;>rcases ‹b=0\/b=1› with rfl | rfl
  ·exact⟨0,rfl,by decide,rfl⟩
  ·exact⟨1,rfl,by decide,rfl⟩
  ·exact⟨2,rfl,by decide,rfl⟩
  ·exact⟨3,rfl,by decide,rfl⟩
theorem kN {T:Tb}{bs:List Int}(hb:jd bs=true){P:List (Nat×Str)}{p:Nat}{o:Slot} :
  ((ev T Fy (ED bs P p o)).bind fun q=>fE (truth q.1)) = .ok (decide (p+2<=bs.length/\gK bs p 2≠0)):=by
 have v0:aJ T (.var 0) (ED bs P p o) (.lst (iD bs)):=⟨_,rfl⟩;have v2:aJ T (.var 2) (ED bs P p o) (.int (p:Int)):=⟨_,aF rfl rfl⟩;have s2:=kG v2 (aJ.cst (.int 2));have c1:=geI (rX v0) s2;have ez:aJ T (.lst (.cons (.cst (.int (0))) (.cons (.cst (.int (0))) .nil))) (ED bs P p o) (.lst (iD [0,0])):=Vw.aJ.lst2 (aJ.cst _) (aJ.cst _);have c2:aJ T (.cmp .NotEq (.sl (.var 0) (.some (.var 2)) (.some (.bin .Add (.var 2) (.cst (.int (2)))))) (.lst (.cons (.cst (.int (0))) (.cons (.cst (.int (0))) .nil)))) (ED bs P p o) (.bl (!((bs.drop p).take 2 == [0,0]))):=by
  refine aJ.cmp (um (c:=2) v0 v2 s2) ez ?_;show (D.eqf 40 (.lst (iD ((bs.drop p).take 2))) (.lst (iD [0,0]))).map (!·)=_;rw[show D.eqf 40 (.lst (iD ((bs.drop p).take 2))) (.lst (iD [0,0]))=_ from A0 38 _ _];rfl
 have c:aJ T Fy (ED bs P p o) (.bl (decide (p+2<=bs.length/\gK bs p 2≠0))):=by
  refine aJ.and c1 (fun ht=>?_) (fun hf=>?_)
  ·have ht:=dt ht;have h2:p+2<=bs.length:=by omega
   obtain⟨k,hk,_,he⟩:=By hb h2;have:decide (p+2<=bs.length/\gK bs p 2≠0) = !((bs.drop p).take 2 == [0,0]):=by
    rw[he,hk];by_cases hk0:k=0
    ·rw[ba hk0,aq (by omega)];rfl
    ·rw[aq hk0,ba ⟨h2,by omega⟩];rfl
   rw[this];exact c2
  ·have hf:=of_decide_eq_false hf;exact aq (by omega)
 obtain⟨R,c⟩:=c;rw[c,aA];rfl
theorem Ce {T:Tb}(hP:Fv T){bs:List Int}(hb:jd bs=true)(hlb:bs.length<=1000):∀(f g:Nat) (P:List (Nat×Str)) (p:Nat) (o:Slot),bY o->f<g->bs.length<=p+f->P.length+f<=1000 ->
  ret ((fA (fun env=>(ev T Fy env).bind fun q=>fE (truth q.1)) (aD T u9) g (ED bs P p o)).andThen (aD T u0)) = .ok (duD ((gN bs p 2).bind fun k=>pA bs f k.toNat (p+2) P),true):=by
 intro f
 induction f with
 |zero =>
  intro g P p o ho hg hf hl;obtain⟨g,rfl⟩:∃ j,g=j+1:=⟨g - 1,by omega⟩;rw[ue (by rw[kN hb,aq (by omega)]),aB,hZ (by omega)];have c:=ltI (rX (a:=.var 0) (l:=bs) ⟨_,rfl⟩) (kG (T:=T) (env:=ED bs P p o) (a:=.var 2) (i:=(p:Int)) ⟨_,aF rfl rfl⟩ (aJ.cst (.int 2)));unfold u0;rw[aD,iU c,ba (by omega),if_pos rfl,jg];rfl
 |succ f ih =>
  intro g P p o ho hg hf hl;obtain⟨g,rfl⟩:∃ j,g=j+1:=⟨g - 1,by omega⟩;have c:=ltI (rX (a:=.var 0) (l:=bs) ⟨_,rfl⟩) (kG (T:=T) (env:=ED bs P p o) (a:=.var 2) (i:=(p:Int)) ⟨_,aF rfl rfl⟩ (aJ.cst (.int 2)));by_cases h2:p+2<=bs.length
  ·obtain⟨k,hk,hk3,_⟩:=By hb h2;rw[jB h2,dz,hk,bo];by_cases hk0:k=0
   ·subst hk0;rw[ue (by rw[kN hb,aq (by omega)]),aB];have v1:ev T (.var 1) (ED bs P p o) = .ok (.lst (P.map jc),.mv [1]):=eY rfl rfl;have v2:=jw (y:=2) (aF (T:=T) (env:=ED bs P p o) (i:=2) (d:=.int (p:Int)) (t:=.own) rfl rfl) (aH (.int 2));show ret (aD T u0 (ED bs P p o)) = .ok (.tup [.lst (P.map jc),.int ((p+2:Nat):Int)],true);unfold u0;rw[aD,iU c,aq (by omega),if_neg (by decide),bT,aB,aD,bM,ev,aV,v1,aA,aV,v2,aA,aV];rfl
   ·rw[wZ hb (by omega) hk3];have hcl:=hP bs p k hb (by omega) hk3 hk;have ec:=iF (T:=T) (env:=ED bs P p o) (show ev T (.var 0) (ED bs P p o) = .ok (.lst (iD bs),.sh []) from rfl) (aF (i:=2) (d:=.int (p:Int)) (t:=.own) rfl rfl) hcl;have g1:=bJ (i:=3) (oM (bs:=bs) (P:=P) (p:=p) ho) (show (3:Nat)<4 by decide) ec;have g1:bM T (.asg (.nm 3) (.call 12 (.cons (.var 0) (.cons (.var 2) .nil))) false) (ED bs P p o) = .nx (ED bs P p (some (uV k (AE bs k p),.own))):=g1;have hcond:((ev T Fy (ED bs P p o)).bind fun q=>fE (truth q.1)) = .ok true:=by rw[kN hb,ba ⟨h2,by omega⟩]
    cases hq:AE bs k p with
    |none =>
     rw[hq] at g1;have ci:aJ T (.cmp .Is (.var 3) (.cst .non)) (ED bs P p (some (uV k none,.own))) (.bl true):=aJ.cmp (x:=.non) (y:=.non) ⟨_,aF rfl rfl⟩ (aJ.cst .non) rfl;have hbody:aD T u9 (ED bs P p o) = .rt .non true:=by
      unfold u9;rw[aD,g1,aB,aD,iU ci,if_pos rfl,jg];rfl
     rw[fA,hcond,aR,if_pos rfl,hbody];rfl
    |some q =>
     rw[hq] at g1;have hge:=D3 hq;have v3:ev T (.var 3) (ED bs P p (some (uV k (some q),.own))) = .ok (.tup [jc (k,q.1),.int (q.2:Int)],.mv []):=aF rfl rfl;have ci:aJ T (.cmp .Is (.var 3) (.cst .non)) (ED bs P p (some (uV k (some q),.own))) (.bl false):=aJ.cmp ⟨_,v3⟩ (aJ.cst .non) rfl;have g2:=oY (x:=1) (oM (bs:=bs) (P:=P) (p:=p) (aC (uV k (some q)))) rfl (wg (i:=0) v3 (aH (.int 0)) rfl rfl) (mj (by rw[av];omega));have g2:bM T (.mut 1 .none .append (.cons (.ix (.var 3) (.cst (.int (0)))) .nil)) (ED bs P p (some (uV k (some q),.own))) = .nx (ED bs (P ++ [(k,q.1)]) p (some (uV k (some q),.own))):=by
      rw[g2];show Fl.nx [_,some (.lst (P.map jc ++ [jc (k,q.1)]),.own),_,_]=_;rw[ED,fk];rfl
     have v3':ev T (.var 3) (ED bs (P ++ [(k,q.1)]) p (some (uV k (some q),.own))) = .ok (.tup [jc (k,q.1),.int (q.2:Int)],.mv []):=aF rfl rfl;have g3:=bJ (i:=2) (oM (bs:=bs) (P:=P ++ [(k,q.1)]) (p:=p) (aC (uV k (some q)))) (show (2:Nat)<4 by decide) (wg (i:=1) v3' (aH (.int 1)) rfl rfl);have g3:bM T (.asg (.nm 2) (.ix (.var 3) (.cst (.int (1)))) false) (ED bs (P ++ [(k,q.1)]) p (some (uV k (some q),.own))) = .nx (ED bs (P ++ [(k,q.1)]) q.2 (some (uV k (some q),.own))):=g3;have hbody:aD T u9 (ED bs P p o) = .nx (ED bs (P ++ [(k,q.1)]) q.2 (some (uV k (some q),.own))):=by
      unfold u9;rw[aD,g1,aB,aD,iU ci,if_neg (by decide),bT,aB,aD,g2,aB,aD,g3,aB,bT]
     rw[A7 hcond hbody,dz];exact ih g (P ++ [(k,q.1)]) q.2 _ (aC _) (by omega) (by omega) (by rw[aj,cz];omega)
  ·rw[ue (by rw[kN hb,aq (by omega)]),aB,hZ h2];unfold u0;rw[aD,iU c,ba (by omega),if_pos rfl,jg];rfl
def FK (T:Tb):Prop:=∀ bs:List Int,jd bs=true->bs.length<=990->T.cl 13 [.lst (iD bs)] = .ok (duD (lE bs),true)
theorem du (n:Nat):FK (T (n+5)):=fun bs hb hl=>by
 rw[qz,bO (F:=⟨1,4,b13⟩) rfl rfl];have hst:aP [.lst (iD bs)] 4=[some (.lst (iD bs),.sh []),none,none,none]:=rfl;dsimp only;have g1:bM (T (n+4)) (.asg (.nm 1) (.lst .nil) false) [some (.lst (iD bs),.sh []),none,none,none] = .nx [some (.lst (iD bs),.sh []),some (.lst [],.own),none,none]:=rfl;have g2:bM (T (n+4)) (.asg (.nm 2) (.cst (.int (0))) false) [some (.lst (iD bs),.sh []),some (.lst [],.own),none,none] = .nx (ED bs [] 0 none):=rfl;rw[hst,B4,aD,g1,aB,aD,g2,aB,aD,bM];have:=Ce (T:=T (n+4)) (EI n) hb (by omega) bs.length 1000 [] 0 none cN (by omega) (by omega) (by show 0+_<=_;omega);exact this
open Pc.Fr (iD)
open Pc.Vw (aJ Vw iU)
noncomputable def AX:cJ:=(.cons (.asg (.nm 0) (.bin .Mod (.bin .Mult (.bin .Add (.var 0) (.var 3)) (.cst (.int (40692)))) (.cst (.int (2147483399)))) false)
  (.cons (.mut 2 .none .append (.cons (.bin .Mod (.bin .FloorDiv (.var 0) (.cst (.int (5)))) (.cst (.int (2)))) .nil))
  .nil))
theorem DU:b14=(.cons (.asg (.nm 2) (.lst .nil) false)
  (.cons (.forr (.nm 3) (.rng1 (.var 1)) AX)
  (.cons (.ret (.var 2))
  .nil))):=rfl
theorem FT {T:Tb}{m w j:Int}{L:List Int}(hL:L.length<=300):∃ m' b,0<=b/\b<=1/\aD T AX (EL m w L (sI j)) = .nx (EL m' w (L ++ [b]) (sI j)):=by
 have e1:=cP (by decide:(0:Int)<2147483399) (Fr.jL (by rw[show small 40692=true by decide,Bool.or_true]) (cM (aF (T:=T) (env:=EL m w L (sI j)) (i:=0) (d:=.int m) (t:=.own) rfl rfl) (aF (i:=3) (d:=.int j) (t:=.own) rfl rfl)) (aH (.int 40692))) (aH (.int 2147483399));have g1:=bJ (i:=0) (iK (x:=m) (w:=w) (L:=L) (aC (.int j))) (show (0:Nat)<4 by decide) e1;have g1:bM T (.asg (.nm 0) (.bin .Mod (.bin .Mult (.bin .Add (.var 0) (.var 3)) (.cst (.int (40692)))) (.cst (.int (2147483399)))) false) (EL m w L (sI j)) = .nx (EL ((m+j)*40692%2147483399) w L (sI j)):=g1;generalize (m+j)*40692%2147483399=m' at g1;have e2:=cP (by decide:(0:Int)<2) (cR (by decide:(0:Int)<5) (by decide) (aF (T:=T) (env:=EL m' w L (sI j)) (i:=0) (d:=.int m') (t:=.own) rfl rfl) (aH (.int 5))) (aH (.int 2));have g2:=oY (x:=2) (iK (x:=m') (w:=w) (L:=L) (aC (.int j))) rfl e2 (by rw[fY];exact bg (Nat.succ_le_succ hL) (by decide));refine⟨m',m' / 5%2,by omega,by omega,?_⟩;unfold AX;rw[aD,g1,aB,aD,g2,aB,aD];show Fl.nx [sI m',sI w,some (.lst (iD L ++ [.int (m' / 5%2)]),.own),sI j]=_;rw[EL,oI,vQ];rfl
theorem ud {T:Tb}{w:Int}:∀(l:List Int) (m:Int) (L:List Int) (a:Slot),bY a->L.length+l.length<=300->(∀ b∈L,0<=b/\b<=1)->∃ m' L' a',L'.length=L.length+l.length/\(∀ b∈L',0<=b/\b<=1)/\bL (.nm 3) [] (aD T AX) (l.map D.int) (EL m w L a) = .nx (EL m' w L' a')
 |[],m,L,a,h,hl,hb=>⟨m,L,a,rfl,hb,rfl⟩
 | j::l,m,L,a,h,hl,hb=>by
  rw[ak] at hl;obtain⟨m1,b,b0,b1,st⟩:=FT (T:=T) (m:=m) (w:=w) (j:=j) (L:=L) (by omega);obtain⟨m',L',a',q1,q2,q⟩:=ud (T:=T) (w:=w) l m1 (L ++ [b]) (sI j) (aC _) (by rw[aj,cz];omega) (fun x hx=>by
   rcases List.mem_append.mp hx with hx | hx
   ·exact hb x hx
   ·rw[gp.mp hx];exact⟨b0,b1⟩)
  refine⟨m',L',a',by rw[q1,aj,cz,ak];omega,q2,?_⟩;have hb':bQ [] (.nm 3) (.int j) (EL m w L a)=some (EL m w L (sI j)):=eT (iK h) (show (3:Nat)<4 by decide);rw[ay,dE hb' st];exact q
def FU (T:Tb):Prop:=∀(m:Int) (c:Nat),c<=300->∃ L:List Int,L.length=c/\(∀ b∈L,0<=b/\b<=1)/\T.cl 14 [.int m,.int (c:Int)] = .ok (.lst (iD L),true)
theorem an (n:Nat):FU (T (n+1)):=fun m c hc=>by
 have hst:aP [.int m,.int (c:Int)] 4=[sI m,sI (c:Int),none,none]:=rfl;have g1:bM (T n) (.asg (.nm 2) (.lst .nil) false) [sI m,sI (c:Int),none,none] = .nx (EL m (c:Int) [] none):=rfl;obtain⟨m',L,a',q1,q2,q⟩:=ud (T:=T n) (w:=(c:Int)) ((List.range c).map fun j=>((0+j:Nat):Int)) m [] none cN (by rw[av,dw,cj];omega) (fun _ h=>(nomatch h));rw[av,dw,cj,gd] at q1;have hit:iS (T n) (.rng1 (.var 1)) (EL m (c:Int) [] none) = .ok (((List.range c).map fun j=>((0+j:Nat):Int)).map D.int,[]):=by
  rw[Af (m:=c) (aF rfl rfl) (by omega),eJ,gg];rfl
 have g2:=dW hit q;refine⟨L,q1,q2,?_⟩;rw[qz,bO (F:=⟨2,4,b14⟩) rfl rfl];dsimp only;rw[hst,DU,aD,g1,aB,aD,g2,aB];have v2:ev (T n) (.var 2) (EL m' (c:Int) L a') = .ok (.lst (iD L),.mv [2]):=eY rfl rfl;rw[aD,bM,v2,aR];rfl
theorem Hf {α:Type}(xs:List α)(c:Nat):cut xs none (some (c:Int))=xs.take c:=by
 unfold cut aU;dsimp only;rw[if_neg (by omega),bo,List.drop_zero,Nat.sub_zero];by_cases h:c<=xs.length
 ·rw[h9 h]
 ·rw[gy (by omega),bu (aw _),bu (by omega)]
theorem FZ {α:Type}(xs:List α)(c:Nat):cut xs (some (c:Int)) none=xs.drop c:=by
 unfold cut aU;dsimp only;rw[if_neg (by omega),bo];by_cases h:c<=xs.length
 ·rw[h9 h,bu (by rw[bt];omega)]
 ·rw[gy (by omega),gx (aw _),gx (by omega),List.take_nil]
theorem sy {T:Tb}{env:En}{a hi:Ex}{l:List Int}{c:Nat}(h:aJ T a env (.lst (iD l)))(h2:aJ T hi env (.int (c:Int))):aJ T (.sl a .none (.some hi)) env (.lst (iD (l.take c))):=by
 refine aJ.slh h h2 ?_;show some (D.lst (cut (iD l) _ _))=_;rw[Hf];unfold iD;rw[<-List.map_take]
theorem A4 {T:Tb}{env:En}{a lo:Ex}{l:List Int}{c:Nat}(h:aJ T a env (.lst (iD l)))(h1:aJ T lo env (.int (c:Int))):aJ T (.sl a (.some lo) .none) env (.lst (iD (l.drop c))):=by
 have e:Ga (.lst (iD l)) (some (c:Int)) none=some (.lst (iD (l.drop c))):=by
  show some (D.lst (cut (iD l) _ _))=_;rw[FZ];unfold iD;rw[<-List.map_drop]
 obtain⟨R,h⟩:=h;obtain⟨R1,h1⟩:=h1;have hlo:jQ T (.some lo) env = .ok (some (c:Int)):=by rw[jQ,h1,aA]
 have hno:jQ T .none env = .ok none:=by rw[jQ]
 exact⟨_,by rw[ev,h,aA,hlo,aA,hno,aA,e,bP,aA]⟩
theorem qc {T:Tb}{env:En}{a b:Ex}{x y:List Int}(h:aJ T a env (.lst (iD x)))(h':aJ T b env (.lst (iD y)))(hl:x.length+y.length<=20000):aJ T (.bin .Add a b) env (.lst (iD (x++y))):=by
 obtain⟨R,h⟩:=h;obtain⟨R',h'⟩:=h';exact⟨_,kL h h' hl⟩
theorem ju (l:List Int):(D.lst (iD l)).inner=true:=by
 show D.flats (iD l)=true
 induction l with
 |nil=>rfl
 |cons a l ih=>exact ih
theorem lK:GK=(.cons (.asg (.nm 2) (.bin .Mod (.bin .FloorDiv (.var 1) (.cst (.int (5)))) (.blt .len (.cons (.var 0) .nil))) false)
  (.cons (.ite (.cmp .Eq (.bin .Mod (.var 1) (.cst (.int (5)))) (.cst (.int (0)))) (.cons (.ret (.sl (.var 0) .none (.some (.var 2))))
  .nil) .nil)
  (.cons (.ite (.cmp .Eq (.bin .Mod (.var 1) (.cst (.int (5)))) (.cst (.int (1)))) (.cons (.ret (.bin .Add (.bin .Add (.sl (.var 0) .none (.some (.var 2))) (.lst (.cons (.bin .Sub (.cst (.int (1))) (.ix (.var 0) (.var 2))) .nil))) (.sl (.var 0) (.some (.bin .Add (.var 2) (.cst (.int (1))))) .none)))
  .nil) .nil)
  (.cons (.ite (.cmp .Eq (.bin .Mod (.var 1) (.cst (.int (5)))) (.cst (.int (2)))) (.cons (.ret (.bin .Add (.bin .Add (.sl (.var 0) .none (.some (.var 2))) (.call 14 (.cons (.bin .Mod (.bin .FloorDiv (.var 1) (.cst (.int (10007)))) (.cst (.int (2147483399)))) (.cons (.bin .Add (.cst (.int (1))) (.bin .Mod (.bin .FloorDiv (.var 1) (.cst (.int (5003)))) (.cst (.int (12))))) .nil)))) (.sl (.var 0) (.some (.var 2)) .none)))
  .nil) .nil)
  (.cons (.ite (.cmp .Eq (.bin .Mod (.var 1) (.cst (.int (5)))) (.cst (.int (3)))) (.cons (.ret (.bin .Add (.sl (.var 0) .none (.some (.var 2))) (.bin .Mult (.lst (.cons (.cst (.int (1))) .nil)) (.bin .Sub (.blt .len (.cons (.var 0) .nil)) (.var 2)))))
  .nil) .nil)
  (.cons (.ret (.call 14 (.cons (.bin .Mod (.bin .FloorDiv (.var 1) (.cst (.int (10007)))) (.cst (.int (2147483399)))) (.cons (.bin .Mod (.bin .FloorDiv (.var 1) (.cst (.int (5)))) (.cst (.int (121)))) .nil))))
  .nil)))))):=rfl
def kx (l:List Int):Prop:=∀ b∈l,0<=b/\b<=1
theorem kx.app {x y:List Int}(h:kx x)(h':kx y):kx (x++y):=fun b hb=>(List.mem_append.mp hb).elim (h b) (h' b)
theorem kx.tk {x:List Int}(h:kx x)(c:Nat):kx (x.take c):=fun b hb=>h b (fm hb)
theorem kx.dr {x:List Int}(h:kx x)(c:Nat):kx (x.drop c):=fun b hb=>h b (fq hb)
def BX (T:Tb):Prop:=∀(bs:List Int) (m:Int),kx bs->0<bs.length->bs.length<=970->∃ L:List Int,kx L/\L.length<=985/\T.cl 15 [.lst (iD bs),.int m] = .ok (.lst (iD L),true)
theorem sp (n:Nat):BX (T (n+2)):=fun bs m hb h0 hl=>by
 have hA:FU (T (n+1)):=an n;have hst:aP [.lst (iD bs),.int m] 3=[some (.lst (iD bs),.sh []),sI m,none]:=rfl;obtain⟨a,ha,ha2⟩:=gY (gi (m / 5) (show (bs.length:Int)≠0 by omega)) (gv (m / 5) (show (0:Int)<(bs.length:Int) by omega));have e2:=cP (show (0:Int)<(bs.length:Int) by omega) (cR (by decide:(0:Int)<5) (by decide) (aF (T:=T (n+1)) (env:=[some (.lst (iD bs),.sh []),sI m,none]) (i:=1) (d:=.int m) (t:=.own) rfl rfl) (aH (.int 5))) (show ev (T (n+1)) (.blt .len (.cons (.var 0) .nil)) [some (.lst (iD bs),.sh []),sI m,none] = .ok (.int (bs.length:Int),.mv []) from by
  have:=tw (T:=T (n+1)) (env:=[some (.lst (iD bs),.sh []),sI m,none]) (e:=.var 0) (xs:=iD bs) rfl;rw[fY] at this;exact this)
 rw[ha] at e2;have g1:=bJ (i:=2) (.cons (kJ _) (.cons (aC _) (.cons cN .nil))) (show (2:Nat)<3 by decide) e2;have g1:bM (T (n+1)) (.asg (.nm 2) (.bin .Mod (.bin .FloorDiv (.var 1) (.cst (.int (5)))) (.blt .len (.cons (.var 0) .nil))) false) [some (.lst (iD bs),.sh []),sI m,none] = .nx [some (.lst (iD bs),.sh []),sI m,sN a]:=g1;have hal:a<bs.length:=by omega
 generalize hE:[some (D.lst (iD bs),Tg.sh []),sI m,sN a]=E at g1;have v0:aJ (T (n+1)) (.var 0) E (.lst (iD bs)):=by rw[<-hE];exact⟨_,rfl⟩
 have v1:ev (T (n+1)) (.var 1) E = .ok (.int m,.mv []):=by rw[<-hE];exact aF rfl rfl
 have v2:aJ (T (n+1)) (.var 2) E (.int (a:Int)):=by rw[<-hE];exact⟨_,aF rfl rfl⟩
 obtain⟨r,hr,hr5⟩:=gY (gi m (show (5:Int)≠0 by decide)) (gv m (show (0:Int)<5 by decide));have em:=cP (by decide:(0:Int)<5) v1 (aH (.int 5));rw[hr] at em;have c0:=lq (y:=0) em (aH (.int 0));have c1:=lq (y:=1) em (aH (.int 1));have c2:=lq (y:=2) em (aH (.int 2));have c3:=lq (y:=3) em (aH (.int 3));have st:=sy v0 v2;have eA:=cP (by decide:(0:Int)<2147483399) (cR (by decide:(0:Int)<10007) (by decide) v1 (aH (.int 10007))) (aH (.int 2147483399));have lt:(bs.take a).length=a:=by rw[bp];omega
 have ld:(bs.drop a).length=bs.length - a:=by rw[bt]
 have hrun:∀(L:List Int),ret (aD (T (n+1)) GK [some (.lst (iD bs),.sh []),sI m,none]) = .ok (.lst (iD L),true)->(T (n+2)).cl 15 [.lst (iD bs),.int m] = .ok (.lst (iD L),true):=fun L h=>by
  rw[qz,bO (F:=⟨2,3,GK⟩) rfl rfl];exact h
 have:r=0\/r=1\/r=2\/r=3\/r=4:=by omega
 rcases this with rfl | rfl | rfl | rfl | rfl
 ·refine⟨bs.take a,hb.tk a,by omega,hrun _ ?_⟩;have e:=Vw.slM st (ju _);rw[lK,aD,g1,aB,aD,dG c0,if_pos (by decide),aD,bM,e,aR];rfl
 ·have e1:aJ (T (n+1)) (.lst (.cons (.bin .Sub (.cst (.int (1))) (.ix (.var 0) (.var 2))) .nil)) E (.lst (iD [1 - bs[a]])):=by
   refine aJ.lst1 (aJ.bin (aJ.cst (.int 1)) (aJ.ix v0 v2 (z:=.int bs[a]) ?_) rfl);show (Pc.iZ (iD bs).length (a:Int)).bind (fun j=>(iD bs)[j]?)=_;rw[mw (by rw[fY];exact hal)];show (bs.map D.int)[a]? = _;rw[List.getElem?_map,List.getElem?_eq_getElem hal];rfl
  have ed:=A4 (c:=a+1) v0 (show aJ (T (n+1)) (.bin .Add (.var 2) (.cst (.int (1)))) E (.int ((a+1:Nat):Int)) from kG v2 (aJ.cst (.int 1)));have ea:=qc (qc st e1 (by show _+1<=_;omega)) ed (by rw[aj,bt];show _+1+_<=_;omega);have hB1:kx [1 - bs[a]]:=fun b hb'=>by
   rw[gp.mp hb'];have:=hb bs[a] (List.getElem_mem hal);omega
  refine⟨_,((hb.tk a).app hB1).app (hb.dr (a+1)),?_,hrun _ ?_⟩
  ·rw[aj,aj,bt];show _+1+_<=_;omega
  ·have e:=Vw.yy ea (ju _);rw[lK,aD,g1,aB,aD,dG c0,if_neg (by decide),bT,aB,aD,dG c1,if_pos (by decide),aD,bM,e,aR];rfl
 ·obtain⟨q,hq,hq2⟩:=gY (gi (m / 5003) (show (12:Int)≠0 by decide)) (gv (m / 5003) (show (0:Int)<12 by decide));have eq':=cP (by decide:(0:Int)<12) (cR (by decide:(0:Int)<5003) (by decide) v1 (aH (.int 5003))) (aH (.int 12));rw[hq] at eq';have e12:=jw (x:=1) (aH (.int 1)) eq';obtain⟨A,lA,hA1,hcA⟩:=hA (m / 10007%2147483399) (1+q) (by omega);have ec:=iF eA e12 hcA;have ed:=A4 v0 v2;have ea:=qc (qc st ⟨_,ec⟩ (by omega)) ed (by rw[aj];omega);refine⟨_,((hb.tk a).app hA1).app (hb.dr a),by rw[aj,aj];omega,hrun _ ?_⟩;have e:=Vw.yy ea (ju _);rw[lK,aD,g1,aB,aD,dG c0,if_neg (by decide),bT,aB,aD,dG c1,if_neg (by decide),bT,aB,aD,dG c2,if_pos (by decide),aD,bM,e,aR];rfl
 ·have es:aJ (T (n+1)) (.bin .Sub (.blt .len (.cons (.var 0) .nil)) (.var 2)) E (.int ((bs.length - a:Nat):Int)):=by
   rw[show ((bs.length - a:Nat):Int)=(bs.length:Int) - (a:Int) by omega];exact aJ.bin (rX v0) v2 rfl
  have er:aJ (T (n+1)) (.bin .Mult (.lst (.cons (.cst (.int (1))) .nil)) (.bin .Sub (.blt .len (.cons (.var 0) .nil)) (.var 2))) E (.lst (iD (List.replicate (bs.length - a) 1))):=by
   unfold iD;rw[gq];exact aJ.bin (aJ.lst1 (aJ.cst (.int 1))) es (v9 (.int 1) rfl _ (by omega))
  have ea:=qc st er (by rw[cq];omega);have hB3:kx (List.replicate (bs.length - a) (1:Int)):=fun b hb'=>by
   have e:b=1:=ir hb';omega
  refine⟨_,(hb.tk a).app hB3,by rw[aj,cq];omega,hrun _ ?_⟩;have e:=Vw.yy ea (ju _);rw[lK,aD,g1,aB,aD,dG c0,if_neg (by decide),bT,aB,aD,dG c1,if_neg (by decide),bT,aB,aD,dG c2,if_neg (by decide),bT,aB,aD,dG c3,if_pos (by decide),aD,bM,e,aR];rfl
 ·obtain⟨q,hq,hq2⟩:=gY (gi (m / 5) (show (121:Int)≠0 by decide)) (gv (m / 5) (show (0:Int)<121 by decide));have eq':=cP (by decide:(0:Int)<121) (cR (by decide:(0:Int)<5) (by decide) v1 (aH (.int 5))) (aH (.int 121));rw[hq] at eq';obtain⟨A,lA,hA1,hcA⟩:=hA (m / 10007%2147483399) q (by omega);refine⟨A,hA1,by omega,hrun _ ?_⟩;rw[lK,aD,g1,aB,aD,dG c0,if_neg (by decide),bT,aB,aD,dG c1,if_neg (by decide),bT,aB,aD,dG c2,if_neg (by decide),bT,aB,aD,dG c3,if_neg (by decide),bT,aB];exact gH (iF eA eq' hcA)
theorem sZ (l:List Int):eE (iD l)=some l:=by
 induction l with
 |nil=>rfl
 |cons a l ih =>
  show (eE (iD l)).map (a :: ·)=_;rw[ih];rfl
theorem sj {l:List Int}(h:kx l):jd l=true:=by
 unfold jd;rw[cy];exact fun b hb=>ba (h b hb)
theorem EJ {l:List Int}{q:List (Nat×Str)×Nat}(h:kx l)(hl:l.length<=10000)(hr:lE l=some q):gP [.lst (iD l)]=some (outD q):=by
 show (match eE (iD l) with
  |some bs=>if jd bs&&decide (bs.length<=10000) then (lE bs).map outD else none
  |none=>none)=_
 rw[sZ];dsimp only;rw[sj h,ba hl,Bool.and_self,if_pos rfl,hr];rfl
theorem FD {l:List Int}(h:kx l)(hl:l.length<=10000)(hr:lE l=none):gX [.lst (iD l)]=some (.bl true):=by
 show (match eE (iD l) with
  |some bs=>if jd bs&&decide (bs.length<=10000) then (match lE bs with
   |none=>some (D.bl true)
   |some _=>none) else none
  |none=>none)=_
 rw[sZ];dsimp only;rw[sj h,ba hl,Bool.and_self,if_pos rfl,hr]
theorem Bs {T:Tb}{g:List D->Option D}{W:List Int}{O d:D}{R:Rt}{c:Ex}{r:En}(hg:g [.lst (iD W)]=some O)(g1:ev T c (some (.lst (iD W),.sh [])::r) = .ok (d,R)):ret (aD T (.cons (.expr c) (.cons (.ret (.app g (.cons (.var 0) .nil))) .nil)) (some (.lst (iD W),.sh [])::r)) = .ok (O,true):=by
 have g1:bM T (.expr c) (some (.lst (iD W),.sh [])::r) = .nx (some (.lst (iD W),.sh [])::r):=by
  rw[bM,g1,aR]
 obtain⟨R0,v0⟩:∃ R,ev T (.var 0) (some (.lst (iD W),.sh [])::r) = .ok (.lst (iD W),R):=⟨_,rfl⟩;have e2:ev T (.app g (.cons (.var 0) .nil)) (some (.lst (iD W),.sh [])::r) = .ok (O,.mv []):=by
  rw[ev,aV,v0,aA,aV,aA,aA,uB,hg];rfl
 rw[aD,g1,aB];exact gH e2
theorem n0 (n:Nat):(T (n+1)).cl 0 [.lst []] = .ok (.int 0,true):=by
 rw[qz,bO (F:=⟨1,3,b0⟩) rfl rfl];exact yu []
theorem rp (n:Nat){l:List Int}{q:List (Nat×Str)×Nat}(h:kx l)(hl:l.length<=10000)(hr:lE l=some q):(T (n+2)).cl 1 [.lst (iD l)] = .ok (outD q,true):=by
 rw[qz,bO (F:=⟨1,6,b1⟩) rfl rfl];exact Bs (r:=[none,none,none,none,none]) (EJ h hl hr) (fB (by rw[ev,aV];rfl) (n0 n))
theorem rx (n:Nat){l:List Int}(h:kx l)(hl:l.length<=10000)(hr:lE l=none):(T (n+3)).cl 16 [.lst (iD l)] = .ok (.bl true,true):=by
 rw[qz,bO (F:=⟨1,3,b16⟩) rfl rfl];exact Bs (r:=[none,none]) (FD h hl hr) (fB (aH (.int 3)) (GB n 3 (by decide) (by decide)))
open Pc.Fr (iD)
open Pc.Vw (aJ Vw iU)
theorem Hb (n:Nat)(p:Nat×Str):D.eqf (n+2) (jc p) (jc p)=some true:=by
 show (if (2:Nat)=2 then mH (D.eqf (n+1)) [.int (p.1:Int),.str p.2] [.int (p.1:Int),.str p.2] else some false)=_;rw[if_pos rfl];show ((D.eqf (n+1) (.int (p.1:Int)) (.int (p.1:Int))).bind fun a=>((D.eqf (n+1) (.str p.2) (.str p.2)).bind fun b=>(some true).map fun c=>b&&c).map fun b=>a&&b)=_;rw[show D.eqf (n+1) (.str p.2) (.str p.2)=some true by show some (p.2==p.2)=_;rw[de],show D.eqf (n+1) (.int (p.1:Int)) (.int (p.1:Int))=some true by show some ((p.1:Int)==(p.1:Int))=_;rw[de]];rfl
theorem xM (n:Nat):∀ l:List (Nat×Str),mH (D.eqf (n+2)) (l.map jc) (l.map jc)=some true
 |[]=>rfl
 | p::l=>by
  show ((D.eqf (n+2) (jc p) (jc p)).bind fun a=>(mH (D.eqf (n+2)) (l.map jc) (l.map jc)).map fun b=>a&&b)=_;rw[xM n l,Hb];rfl
theorem B2 (q:List (Nat×Str)×Nat):D.eqf 40 (outD q) (outD q)=some true:=by
 show (if (2:Nat)=2 then mH (D.eqf 39) [.lst (q.1.map jc),.int (q.2:Int)] [.lst (q.1.map jc),.int (q.2:Int)] else some false)=_;rw[if_pos rfl];show ((D.eqf 39 (.lst (q.1.map jc)) (.lst (q.1.map jc))).bind fun a=>((D.eqf 39 (.int (q.2:Int)) (.int (q.2:Int))).bind fun b=>(some true).map fun c=>b&&c).map fun b=>a&&b)=_;have e1:D.eqf 39 (.lst (q.1.map jc)) (.lst (q.1.map jc))=some true:=by
  show (if (q.1.map jc).length=(q.1.map jc).length then mH (D.eqf 38) (q.1.map jc) (q.1.map jc) else some false)=_;rw[if_pos rfl];exact xM 36 q.1
 rw[e1,show D.eqf 39 (.int (q.2:Int)) (.int (q.2:Int))=some true by show some ((q.2:Int)==(q.2:Int))=_;rw[de]];rfl
theorem qw:∀(G:List (Int×Nat)),kx (pb G)
 |[],b,h=>by cases h
 | q::G,b,h=>by
  rcases List.mem_append.mp (show b∈aS q.1 q.2++pb G from h) with h | h
  ·exact pj q.1 q.2 b h
  ·exact qw G b h
theorem v8:∀(P:List Pe),kx (sS P)
 |[],b,h=>by cases h
 | p::P,b,h=>by
  rcases List.mem_append.mp (show b∈PB p++sS P from h) with h | h
  ·exact qw _ b h
  ·exact v8 P b h
theorem fb4:∀ m:Nat,m<=3->fb m<=4*m:=by decide
theorem Gk:∀(m:Nat) (cs:List Nat),(pb (oR m cs)).length<=4*cs.length
 |0,cs=>en _
 | m+1,cs=>by
  show (aS (pN (cs.take 3)) (fb (cs.take 3).length)++pb (oR m (cs.drop 3))).length<=_;rw[aj,bC];have h1:=fb4 (cs.take 3).length (by rw[bp];omega);have h2:=Gk m (cs.drop 3);rw[bp] at h1 ⊢;rw[bt] at h2;omega
theorem sg7 {k:Nat}(h3:k<=3):∀ cs:List Nat,(pb (Ay k cs)).length<=7*cs.length
 |[]=>en _
 | c::cs=>by
  show (aS (gM k c) (2*k+1)++pb (Ay k cs)).length<=_;have:=sg7 h3 cs;rw[aj,bC,ak];omega
theorem PB15 {p:Pe}(hp:Piece p):(PB p).length<=15*p.2.length:=by
 obtain⟨k,cs⟩:=p;obtain⟨k1,k3,c1,c64,hall⟩:=hp;dsimp only at k1 k3 c1 c64 hall;show (aS (k:Int) 2++(aS ((cs.length:Int) - 1) 6++pb (Be k cs))).length<=15*cs.length;rw[aj,aj,bC,bC];have:(pb (Be k cs)).length<=7*cs.length:=by
  unfold Be;by_cases h:k=1
  ·rw[if_pos h];have:=Gk (rD cs) cs;omega
  ·rw[if_neg h];exact sg7 k3 cs
 omega
theorem BC:∀(P:List Pe),(∀ p∈P,Piece p)->(sS P).length<=15*rT P
 |[],_=>en _
 | p::P,h=>by
  have a:=PB15 (h p au);have b:=BC P fun q hq=>h q (ah _ hq)
  have e:rT (p::P)=p.2.length+rT P:=by
   unfold rT;rw[ay,List.sum_cons]
  show (PB p++sS P).length<=_;rw[aj,e];omega
noncomputable def bLl:cJ:=(.cons (.asg (.nm 1) (.bin .Add (.var 1) (.call 7 (.cons (.var 2) (.cons (.var 3) .nil)))) false)
  .nil)
noncomputable def GC:Ex:=(.blt .sum (.cons (.comp 1 [] (.nm 0) (.seq (.sl (.var 0) .none (.some (.cst (.int (63)))))) .none (.bin .Mod (.var 0) (.cst (.int (1000003))))) .nil))
noncomputable def cA:Ex:=(.and (.cmp .Is (.var 7) (.cst .non)) (.not (.call 16 (.cons (.blt .list (.cons (.var 6) .nil)) .nil))))
noncomputable def cB:Ex:=(.and (.cmp .IsNot (.var 7) (.cst .non)) (.cmp .NotEq (.call 1 (.cons (.blt .list (.cons (.var 6) .nil)) .nil)) (.var 7)))
noncomputable def bLm:cJ:=(.cons (.asg (.nm 6) (.call 15 (.cons (.var 1) (.cons (.call 2 (.cons (.ix (.var 4) (.var 5)) (.cons (.var 5) (.cons (.cst (.int (1111111111111111111))) .nil)))) .nil))) false)
  (.cons (.asg (.nm 7) (.call 13 (.cons (.var 6) .nil)) false)
  (.cons (.ite cA (.cons (.ret (.cst (.bl false)))
  .nil) .nil)
  (.cons (.ite cB (.cons (.ret (.cst (.bl false)))
  .nil) .nil)
  .nil))))
theorem DE:GV=(.cons (.asg (.nm 1) (.lst .nil) false)
  (.cons (.forr (.tp [2,3]) (.seq (.call 8 (.cons (.sl (.var 0) .none (.some (.cst (.int (63))))) .nil))) bLl)
  (.cons (.asg (.nm 1) (.bin .Add (.var 1) (.lst (.cons (.cst (.int (0))) (.cons (.cst (.int (0))) .nil)))) false)
  (.cons (.asg (.nm 4) (.bin .Add (.sl (.var 0) .none (.some (.cst (.int (6))))) (.lst (.cons GC .nil))) false)
  (.cons (.forr (.nm 5) (.rng1 (.blt .len (.cons (.var 4) .nil))) bLm)
  (.cons (.ret (.cst (.bl true)))
  .nil)))))):=rfl
noncomputable abbrev VL (S L:List Int)(x2 x3 x4 x5 x6 x7:Option D):List (Option D):=[some (.lst (iD S)),some (.lst (iD L)),x2,x3,x4,x5,x6,x7]
theorem yh {T:Tb}(hL:E9 T){S:List Int}{x4 x5 x6 x7:Option D}:∀(P:List Pe) (L:List Int) (env:En) (x2 x3:Option D),Vw env (VL S L x2 x3 x4 x5 x6 x7)->(∀ p∈P,Piece p)->L.length+(sS P).length<=10000 ->
  ∃ env' y2 y3,bL (.tp [2,3]) [] (aD T bLl) (P.map pD) env = .nx env'/\Vw env' (VL S (L++sS P) y2 y3 x4 x5 x6 x7)
 |[],L,env,x2,x3,V,_,_=>⟨env,x2,x3,rfl,by rw[show sS []=[] from rfl,bh];exact V⟩
 | p::P,L,env,x2,x3,V,hP,hl=>by
  have hB:sS (p::P)=PB p++sS P:=rfl;rw[hB,aj] at hl;obtain⟨e1,hb1,V1⟩:=BJ V (i:=2) (j:=3) (show (2:Nat)<8 by decide) (show (3:Nat)<8 by decide) [] (.int (p.1:Int)) (.str (tx p.2));have hb1:bQ [] (.tp [2,3]) (pD p) env=some e1:=hb1;have V1:Vw e1 (VL S L (some (.int (p.1:Int))) (some (.str (tx p.2))) x4 x5 x6 x7):=V1;have ec:=aJ.iF (V1.var (T:=T) (i:=2) rfl) (V1.var (i:=3) rfl) (hL p (hP p au));have ea:=qc (V1.var (T:=T) (i:=1) rfl) ec (by omega);obtain⟨e2,g,V2⟩:=V1.asg (i:=1) (show (1:Nat)<8 by decide) ea;have V2:Vw e2 (VL S (L++PB p) (some (.int (p.1:Int))) (some (.str (tx p.2))) x4 x5 x6 x7):=V2;obtain⟨e3,y2,y3,q,V3⟩:=yh hL P (L++PB p) e2 _ _ V2 (fun x hx=>hP x (ah _ hx)) (by rw[aj];omega);refine⟨e3,y2,y3,?_,by rw[hB,<-dq];exact V3⟩;rw[ay,dE hb1 (show aD T bLl e1=_ from lU g)];exact q
theorem zC {T:Tb}{env:En}{ns:List Int}(h:aJ T (.var 0) env (.lst (iD ns)))(hl:ns.length<=63):∃ X:Int,aJ T GC env (.int X):=by
 have e1:=Vw.slM (sy (c:=63) h (aJ.cst (.int 63))) (ju _);rw[bu hl] at e1;have hit:iS T (.seq (.sl (.var 0) .none (.some (.cst (.int (63)))))) env = .ok (ns.map D.int,[]):=by
  rw[iS,e1,aA];rfl
 have he:ev T (.comp 1 [] (.nm 0) (.seq (.sl (.var 0) .none (.some (.cst (.int (63)))))) .none (.bin .Mod (.var 0) (.cst (.int (1000003))))) env = .ok (.lst ((ns.map fun c=>c%1000003).map D.int),.mv []):=by
  rw[zv (g:=fun d=>match d with | .int c=>(.int (c%1000003),.mv []) | _=>(.non,.mv [])) hit (by rw[av];exact mj (by omega)) (fun d hd=>?_) (fun d hd=>?_)]
  ·rw[gg,gg];rfl
  ·obtain⟨c,_,rfl⟩:=List.mem_map.mp hd;rfl
  ·obtain⟨c,_,rfl⟩:=List.mem_map.mp hd;rfl
 have hs:fQ .sum [.lst ((ns.map fun c=>c%1000003).map D.int)]=some (.int (0+(ns.map fun c=>c%1000003).sum)):=by
  show (rS 0 ((ns.map fun c=>c%1000003).map D.int)).map D.int=_;rw[sum_ints];rfl
 exact⟨_,aJ.blt1 ⟨_,he⟩ hs⟩
theorem m_in {T:Tb}(hM:vw T)(hSp:BX T)(hDu:FK T)(hRp:∀{l:List Int}{q:List (Nat×Str)×Nat},kx l->l.length<=10000->lE l=some q->T.cl 1 [.lst (iD l)] = .ok (outD q,true))(hRx:∀{l:List Int},kx l->l.length<=10000->lE l=none->T.cl 16 [.lst (iD l)] = .ok (.bl true,true))
  {S L C:List Int}(hb:kx L) (h0:0<L.length) (hl:L.length<=970) {j:Nat}(hj:j<C.length) (hC:C.length<=10) {x2 x3 x6 x7:Option D}{env:En}(V:Vw env (VL S L x2 x3 (some (.lst (iD C))) (some (.int (j:Int))) x6 x7)) :
  ∃ env' y6 y7,aD T bLm env = .nx env'/\Vw env' (VL S L x2 x3 (some (.lst (iD C))) (some (.int (j:Int))) y6 y7):=by
 have ei:aJ T (.ix (.var 4) (.var 5)) env (.int C[j]):=by
  refine aJ.ix (V.var (i:=4) rfl) (V.var (i:=5) rfl) ?_;show (Pc.iZ (iD C).length (j:Int)).bind (fun i=>(iD C)[i]?)=_;rw[mw (by rw[fY];exact hj)];show (C.map D.int)[j]? = _;rw[List.getElem?_map,List.getElem?_eq_getElem hj];rfl
 obtain⟨X,_,hX⟩:=hM C[j] j 1111111111111111111 (by omega) (by decide);obtain⟨W,hW,hWl,hcW⟩:=hSp L X hb h0 hl;have e6:=aJ.iF (V.var (T:=T) (i:=1) rfl) (aJ.ql ei (V.var (i:=5) rfl) (aJ.cst (.int 1111111111111111111)) hX) hcW;obtain⟨e1,g1,V1⟩:=V.asg (i:=6) (show (6:Nat)<8 by decide) e6;have V1:Vw e1 (VL S L x2 x3 (some (.lst (iD C))) (some (.int (j:Int))) (some (.lst (iD W))) x7):=V1;have e7:=aJ.fB (V1.var (T:=T) (i:=6) rfl) (hDu W (sj hW) (by omega));obtain⟨e2,g2,V2⟩:=V1.asg (i:=7) (show (7:Nat)<8 by decide) e7;have V2:Vw e2 (VL S L x2 x3 (some (.lst (iD C))) (some (.int (j:Int))) (some (.lst (iD W))) (some (duD (lE W)))):=V2;have ecp:aJ T (.blt .list (.cons (.var 6) .nil)) e2 (.lst (iD W)):=aJ.blt1 (V2.var (i:=6) rfl) rfl;have cAB:aJ T cA e2 (.bl false)/\aJ T cB e2 (.bl false):=by
  cases hr:lE W with
  |none =>
   rw[hr] at V2;have v7:aJ T (.var 7) e2 .non:=V2.var (i:=7) rfl;refine⟨aJ.and (k:=true) (aJ.cmp v7 (aJ.cst .non) rfl) (fun _=>?_) (fun z=>by cases z),aJ.and (k:=false) (aJ.cmp v7 (aJ.cst .non) rfl) (fun z=>by cases z) (fun _=>rfl)⟩;exact aJ.not (k:=true) (aJ.fB ecp (hRx hW (by omega) hr))
  |some q =>
   rw[hr] at V2;have v7:aJ T (.var 7) e2 (outD q):=V2.var (i:=7) rfl;refine⟨aJ.and (k:=false) (aJ.cmp v7 (aJ.cst .non) rfl) (fun z=>by cases z) (fun _=>rfl),aJ.and (k:=true) (aJ.cmp v7 (aJ.cst .non) rfl) (fun _=>?_) (fun z=>by cases z)⟩;refine aJ.cmp (aJ.fB ecp (hRp hW (by omega) hr)) v7 ?_;show (D.eqf 40 (outD q) (outD q)).map (!·)=_;rw[B2];rfl
 refine⟨e2,_,_,?_,V2⟩;unfold bLm;rw[aD,g1,aB,aD,g2,aB,aD,iU cAB.1,if_neg (by decide),bT,aB,aD,iU cAB.2,if_neg (by decide),bT,aB,bT]
theorem law (ns:List Int)(hl:ns.length<=63):∃ fr,Pc.run fns gl 1000 6 17 [.lst (ns.map D.int)] = .ok (.bl true,fr):=by
 refine⟨true,?_⟩;rw[bO (F:=⟨1,8,GV⟩) rfl rfl];show ret (aD (T 5) GV (aP [.lst (iD ns)] 8))=_;have V0:=Vw.start [.lst (iD ns)] 8;generalize aP [.lst (iD ns)] 8=e0 at *;have V0:Vw e0 [some (.lst (iD ns)),none,none,none,none,none,none,none]:=V0;obtain⟨e1,g1,V1⟩:=V0.asg (T:=T 5) (e:=.lst .nil) (d:=.lst []) (i:=1) (show (1:Nat)<8 by decide) ⟨_,by rw[ev,aV];rfl⟩;have V1:Vw e1 (VL ns [] none none none none none none):=V1;obtain⟨P,hP,ht,hPl,hcl⟩:=pcs 1 ns hl;have hlen:=BC P hP;have es:=sy (T:=T 5) (c:=63) (V1.var (i:=0) rfl) (aJ.cst (.int 63));rw[bu hl] at es;have hit:iS (T 5) (.seq (.call 8 (.cons (.sl (.var 0) .none (.some (.cst (.int (63))))) .nil))) e1 = .ok (P.map pD,[]):=by
  obtain⟨R,es⟩:=es;rw[iS,fB es hcl,aA];rfl
 obtain⟨e2,y2,y3,q,V2⟩:=yh (T:=T 5) (lp 2) P [] e1 none none V1 hP (by rw[cj];omega);have g2:=dW hit q;rw[i5] at V2;have ez:aJ (T 5) (.lst (.cons (.cst (.int (0))) (.cons (.cst (.int (0))) .nil))) e2 (.lst (iD [0,0])):=Vw.aJ.lst2 (aJ.cst _) (aJ.cst _);obtain⟨e3,g3,V3⟩:=V2.asg (i:=1) (show (1:Nat)<8 by decide) (qc (V2.var (T:=T 5) (i:=1) rfl) ez (by show _+2<=_;omega));have V3:Vw e3 (VL ns (sS P ++ [0,0]) y2 y3 none none none none):=V3;have hB:kx (sS P ++ [0,0]):=(v8 P).app (fun b hb=>by
  have:∀ b∈([0,0]:List Int),0<=b/\b<=1:=by decide
  exact this b hb)
 have hBl:(sS P ++ [0,0]).length<=970/\0<(sS P ++ [0,0]).length:=by
  rw[aj];show _+2<=_/\0<_+2;omega
 generalize sS P ++ [0,0]=L at *;obtain⟨X,eX⟩:=zC (T:=T 5) (env:=e3) (V3.var (i:=0) rfl) hl;have e4:=qc (sy (T:=T 5) (c:=6) (V3.var (i:=0) rfl) (aJ.cst (.int 6))) (y:=[X]) (aJ.lst1 eX) (by rw[bp];show _+1<=_;omega);have hCl:(ns.take 6 ++ [X]).length<=10:=by
  rw[aj,bp];show _+1<=_;omega
 generalize ns.take 6 ++ [X]=C at *;obtain⟨e5,g4,V5⟩:=V3.asg (i:=4) (show (4:Nat)<8 by decide) e4;have V5:Vw e5 (VL ns L y2 y3 (some (.lst (iD C))) none none none):=V5;have hit2:=Vw.rngV (rX (V5.var (T:=T 5) (i:=4) rfl)) (show C.length<=1000 by omega);have hloop:=Vw.Gw (t:=.nm 5) (R:=[]) (b:=aD (T 5) bLm) (fun _ e=>∃ x5 x6 x7,Vw e (VL ns L y2 y3 (some (.lst (iD C))) x5 x6 x7)) ((List.range C.length).map fun (k:Nat)=>D.int (k:Int)) 0 e5 ⟨_,_,_,V5⟩ (fun i d e hd ⟨x5,x6,x7,V⟩=>by
  rw[List.getElem?_map] at hd;by_cases hi:i<C.length
  ·rw[List.getElem?_range hi] at hd;cases hd;obtain⟨e',hb',V'⟩:=V.bind (i:=5) (show (5:Nat)<8 by decide) [] (.int (i:Int));have V':Vw e' (VL ns L y2 y3 (some (.lst (iD C))) (some (.int (i:Int))) x6 x7):=V';obtain⟨e'',y6,y7,h1,h2⟩:=m_in (T:=T 5) (mx 4) (sp 3) (du 0) (fun h1 h2 h3=>rp 3 h1 h2 h3) (fun h1 h2 h3=>rx 2 h1 h2 h3) hB hBl.2 hBl.1 hi hCl V';exact⟨e',e'',hb',.inl h1,_,_,_,h2⟩
  ·rw[List.getElem?_eq_none (by rw[dw];omega)] at hd;cases hd)
 obtain⟨e6,q6,_⟩:=hloop;have g5:=dW hit2 q6;rw[DE,aD,g1,aB,aD,g2,aB,aD,g3,aB,aD,g4,aB,aD,g5,aB];exact gH (aH (.bl true))
end K04
end
section
namespace K04
open PySem PySem.Spec PyProof.Rows L2 Pc Pc.Ct Pc.Gn Pc.Rd
section
variable {P:Program}{w:World}{K:Frag}{mg:Str->Option Value}{base:Heap}
theorem nj {T:Tb}{g:List D->Option D}{d0:D}{t:Tg}{r':En}{c:Ex}{r:D×Bool}(h:ret (aD T (.cons (.expr c) (.cons (.ret (.app g (.cons (.var 0) .nil))) .nil)) (some (d0,t)::r')) = .ok r):(∃ q,ev T c (some (d0,t)::r') = .ok q)/\g [d0]=some r.1:=by
 cases hq:ev T c (some (d0,t)::r') with
 |ok q =>
  refine⟨⟨q,rfl⟩,?_⟩;have g1:bM T (.expr c) (some (d0,t)::r') = .nx (some (d0,t)::r'):=by rw[bM,hq,aR]
  obtain⟨R0,v0⟩:∃ R,ev T (.var 0) (some (d0,t)::r') = .ok (d0,R):=by
   unfold ev;dsimp only[List.getElem?_cons_zero];split<;>exact⟨_,rfl⟩
  rw[aD,g1,aB,aD] at h;cases hg:g [d0] with
  |none =>
   have e2:ev T (.app g (.cons (.var 0) .nil)) (some (d0,t)::r') = .bad:=by
    rw[ev,aV,v0,aA,aV,aA,aA];show (fE (g [d0])).bind _=_;rw[hg];rfl
   rw[bM,e2] at h;cases h
  |some d =>
   have e2:ev T (.app g (.cons (.var 0) .nil)) (some (d0,t)::r') = .ok (d,.mv []):=by
    rw[ev,aV,v0,aA,aV,aA,aA];show (fE (g [d0])).bind _=_;rw[hg];rfl
   rw[bM,e2,aR] at h;cases h;rfl
 |bad =>
  rw[aD,bM,hq] at h;cases h
 |exc e =>
  rw[aD,bM,hq] at h;cases h
theorem pV {T:Tb}{f:Nat}{e:Ex}{env:En}{d:D}{R:Rt}{q:D×Rt}(h:ev T (.call f (.cons e .nil)) env = .ok q)(he:ev T e env = .ok (d,R)):∃ q',T.cl f [d] = .ok q':=by
 rw[ev,aV,he,aA,aV,aA,aA] at h;have h:(T.cl f [d]).bind _ = .ok q:=h;cases hq:T.cl f [d] with
 |ok q'=>exact⟨q',rfl⟩
 |bad=>rw[hq] at h;cases h
 |exc e=>rw[hq] at h;cases h
theorem low {m:Nat}{q:D×Bool}(h:(T m).cl 4 [.int 3] = .ok q):2<=m:=by
 match m with
 |0=>cases h
 |1 =>
  have e:(T 1).cl 4 [.int 3] = .bad:=rfl;rw[e] at h;cases h
 |m+2=>omega
theorem D5 {d0 d:D}(h:gX [d0]=some d):∃ bs,d0 = .lst (bs.map .int)/\jd bs=true/\bs.length<=10000/\lE bs=none/\d = .bl true:=by
 cases d0 with
 |lst xs =>
  have h:(match eE xs with
   |some bs=>if jd bs&&decide (bs.length<=10000) then (match lE bs with
    |none=>some (D.bl true)
    |some _=>none) else none
   |none=>none)=some d:=h
  cases hk:eE xs with
  |none=>rw[hk] at h;cases h
  |some bs =>
   rw[hk] at h;dsimp only at h;by_cases hc:(jd bs&&decide (bs.length<=10000))=true
   ·rw[if_pos hc] at h;rw[ag] at hc;cases hr:lE bs with
    |none=>rw[hr] at h;cases h;exact⟨bs,by rw[cX hk],hc.1,dt hc.2,hr,rfl⟩
    |some q=>rw[hr] at h;cases h
   ·rw[if_neg hc] at h;cases h
 |_=>cases h
theorem D1 {d0 d:D}(h:gP [d0]=some d):∃ bs q,d0 = .lst (bs.map .int)/\jd bs=true/\bs.length<=10000/\lE bs=some q/\d=outD q:=by
 cases d0 with
 |lst xs =>
  have h:(match eE xs with
   |some bs=>if jd bs&&decide (bs.length<=10000) then (lE bs).map outD else none
   |none=>none)=some d:=h
  cases hk:eE xs with
  |none=>rw[hk] at h;cases h
  |some bs =>
   rw[hk] at h;dsimp only at h;by_cases hc:(jd bs&&decide (bs.length<=10000))=true
   ·rw[if_pos hc,aa] at h;obtain⟨q,hq,rfl⟩:=h;rw[ag] at hc;exact⟨bs,q,by rw[cX hk],hc.1,dt hc.2,hq,rfl⟩
   ·rw[if_neg hc] at h;cases h
 |_=>cases h
theorem jJ {H:Hp}:∀{bs:List Int}{vs:List V}{G:List Addr},aG K H (bs.map D.int) vs G->vs=bs.map V.int
 |[],vs,G,h=>by cases h;rfl
 | b::bs,vs,G,h=>by
  cases h with
  |cons h r =>
   obtain⟨rfl,_⟩:=h.int_inv;rw[jJ r];rfl
theorem z7 {RP:Around->Prop}{n k:Nat}{f:Addr}{fd:FuncData}{ps:List Str}{sp:Sp}{r:List D->Rs (D×Bool)}(F:bX P w K mg base (j8 P w) RP f fd ps sp)(hr:∀ A,eM n A->RP A)(h:∀ vs H Q E,uE K k r vs H Q E->sp vs H Q fun _ _ _=>False)(hk:ps.length=k):ja P w K mg base tU n f fd ps (uE K k r):=by
 refine⟨fun vs H Q E hs=>by rw[hk];exact iI hs,fun A outer s H args us vs Q E hA he hb hv hs=>?_⟩;refine codeAny_mono (F.run A outer s H args us vs Q _ (hr A hA) he hb hv (h vs H Q E hs)) fun r s' hq=>?_
 cases r with
 |error e =>
  obtain⟨_,_,_,_,_,_,_,_,_,_,_,_,z⟩:=hq;exact z.elim
 |ok fl =>
  cases fl with
  |ret u=>exact hq
  |next=>exact False.elim hq
  |brk=>exact False.elim hq
  |cont=>exact False.elim hq
end
end K04
end
section
namespace K04
open PySem PySem.Spec PyProof.Rows L2 Pc
noncomputable def gE:List Str:=["range","len","isinstance","int","list","min","str","sum","ValueError"]
noncomputable def qL:List Str:=["END","FIGURES","KIND_SIGNS","SIGN_BITS","KIND_BITS","COUNT_BITS","FIGURE_BITS","FIGURE_GREATEST","MOST_FIGURES"]
noncomputable def df0:Df:=⟨"number_of",st 1,["bits"],["bits","number","bit"],b0⟩
noncomputable def df1:Df:=⟨"read_pieces",st 24,["bits"],["bits","reader","pieces","kind","count","signs"],b1⟩
noncomputable def df2:Df:=⟨"_law_mix",st 28,["_law_cell","_law_k","_law_factor"],["_law_cell","_law_k","_law_factor"],b2⟩
noncomputable def df3:Df:=⟨"_law_all",st 29,[],["_law_some"],b3⟩
noncomputable def df4:Df:=⟨"_law_known",st 30,["_law_kind"],["_law_kind"],b4⟩
noncomputable def df5:Df:=⟨"_law_signs",st 31,["_law_kind","_law_m","_law_count"],["_law_kind","_law_m","_law_count","_law_some","_law_signs_here","_law_k"],b5⟩
noncomputable def df6:Df:=⟨"_law_bits",st 32,["_law_number","_law_width"],["_law_number","_law_width","_law_bits_here","_law_k"],b6⟩
noncomputable def df7:Df:=⟨"_law_piece_bits",st 33,["_law_kind","_law_signs_here"],["_law_kind","_law_signs_here","_law_bits_here","_law_sign","_law_k","_law_group"],b7⟩
noncomputable def df8:Df:=⟨"_law_pieces",st 34,["_law_cells"],["_law_cells","_law_pieces_here","_law_signs_here","_law_k","_law_m","_law_count"],b8⟩
noncomputable def df9:Df:=⟨"_law_value",st 35,["_law_bits_here"],["_law_bits_here","_law_number","_law_bit"],b9⟩
noncomputable def df10:Df:=⟨"_law_widths",st 36,["_law_kind","_law_count"],["_law_kind","_law_count"],b10⟩
noncomputable def df11:Df:=⟨"_law_shown",st 37,["_law_kind","_law_number","_law_width"],["_law_kind","_law_number","_law_width","_law_shown_here"],b11⟩
noncomputable def df12:Df:=⟨"_law_piece",st 38,["_law_bits_here","_law_at"],["_law_bits_here","_law_at","_law_kind","_law_count","_law_signs_here","_law_width","_law_past","_law_number"],b12⟩
noncomputable def df13:Df:=⟨"_law_due",st 39,["_law_bits_here"],["_law_bits_here","_law_pieces_here","_law_at","_law_told"],b13⟩
noncomputable def df14:Df:=⟨"_law_any",st 40,["_law_m","_law_count"],["_law_m","_law_count","_law_bits_here","_law_k"],b14⟩
noncomputable def df15:Df:=⟨"_law_spoilt",st 41,["_law_bits_here","_law_m"],["_law_bits_here","_law_m","_law_at"],GK⟩
noncomputable def Hc:Df:=⟨"_law_refused",st 42,["_law_bits_here"],["_law_bits_here","_law_told","e"],b16⟩
noncomputable def EK:Df:=⟨"law",st 43,["_law_script"],["_law_script","_law_bits_here","_law_kind","_law_signs_here","_law_cells","_law_k","_law_spoilt_here","_law_due_here"],GV⟩
noncomputable def p:Pg:=⟨[df0,df1,df2,df3,df4,df5,df6,df7,df8,df9,df10,df11,df12,df13,df14,df15,Hc,EK],qL,gE,gl,1000⟩
noncomputable def fgn:List Str:=["read_pieces","_law_refused"]
theorem ok:qx (Df.OkX p fgn) p.dfs:=by
 refine⟨?a0,?a1,?a2,?a3,?a4,?a5,?a6,?a7,?a8,?a9,?a10,?a11,?a12,?a13,?a14,?a15,?a16,?a17,trivial⟩
 case a0 | a4 | a8 | a9 | a13 | a17=>exact .inl (Df.ok_of (n:=60) (by decide +kernel) rfl (fun _ _ _ _ _ _ us hl=>@we (fun us=>bindArgs _ ⟨us,[]⟩=pure (List.zip _ us)) us hl (fun _=>rfl)))
 case a1=>exact .inr ⟨(fun _ _ _ _ _ _ us hl=>@we (fun us=>bindArgs _ ⟨us,[]⟩=pure (List.zip _ us)) us hl (fun _=>rfl)),.head _⟩
 case a2 | a5 | a11=>exact .inl (Df.ok_of (n:=60) (by decide +kernel) rfl (fun _ _ _ _ _ _ us hl=>@F9 (fun us=>bindArgs _ ⟨us,[]⟩=pure (List.zip _ us)) us hl (fun _ _ _=>rfl)))
 case a3=>exact .inl (Df.ok_of (n:=60) (by decide +kernel) rfl (fun _ _ _ _ _ _ us hl=>@len0 (fun us=>bindArgs _ ⟨us,[]⟩=pure (List.zip _ us)) us hl rfl))
 case a6 | a7 | a10 | a12 | a14 | a15=>exact .inl (Df.ok_of (n:=60) (by decide +kernel) rfl (fun _ _ _ _ _ _ us hl=>@x9 (fun us=>bindArgs _ ⟨us,[]⟩=pure (List.zip _ us)) us hl (fun _ _=>rfl)))
 case a16=>exact .inr ⟨(fun _ _ _ _ _ _ us hl=>@we (fun us=>bindArgs _ ⟨us,[]⟩=pure (List.zip _ us)) us hl (fun _=>rfl)),.tail _ (.head _)⟩
theorem plaw (ns:List Int)(hl:ns.length<=63):∃ fr,p.run 6 17 [.lst (ns.map D.int)] = .ok (.bl true,fr):=law ns hl
noncomputable def dF:Df:=⟨"read_figures",st 25,["reader","count"],["reader","count","signs","together","number"],.nil⟩
noncomputable def dS:Df:=⟨"read_signs",st 26,["reader","kind","count"],["reader","kind","count","signs","number"],.nil⟩
section
open Pc.Gn Pc.Rd
variable {P:Program}{w:World}{K:Frag}{mg:Str->Option Value}{base h:Heap}
theorem g3p (c:Nat->List D->Rs (D×Bool)):tZ ⟨c,p.gl,p.fuel⟩:=fun i hi=>by
 match i,hi with
 |0,_=>rfl
 |1,_=>rfl
 |2,_=>rfl
 |3,_=>rfl
 |4,_=>rfl
 |5,_=>rfl
 |6,_=>rfl
 |7,_=>rfl
 |8,_=>rfl
theorem CS:sD p P w K mg base 0:=by
 intro i d hd f fd F;refine⟨fun vs H Q E h=>iI h,fun A outer s H args us vs Q E hr he hb hv hs=>?_⟩;obtain⟨ds,G,_,_,r,h,_⟩:=hs;cases h
structure Rds (K:Frag)(mg:Str->Option Value)(C fI fN fF fS cS cT:Addr)(cs:List Addr)(fdI fdN fdF fdS:FuncData):Prop where
 k:Ez K mg C fI fN fdI fdN cT
 FF:L2.kM K "read_figures" "read_figures" (st 25) fF fdF
 mF:mg "read_figures" = some (.ref fF)
 bF:Binds K fdF ["reader","count"] []
 FS:L2.kM K "read_signs" "read_signs" (st 26) fS fdS
 mS:mg "read_signs" = some (.ref fS)
 bS:Binds K fdS ["reader","kind","count"] []
 hh:ER K mg cS cT cs
theorem foreign (KX:K.In h)(G:h.Ns mainGlobals mg)(I:p.In K mg)(hH:uQ w K)(hh:∃ C fI fN fF fS cS cT cs fdI fdN fdF fdS,Rds K mg C fI fN fF fS cS cT cs fdI fdN fdF fdS):oX p fgn P w K mg base:=by
 obtain⟨C,fI,fN,fF,fS,cS,cT,cs,fdI,fdN,fdF,fdS,hh⟩:=hh;intro n i d hd hn ih f fd F;have e24:∀ j,j<18->j≠1->j≠16->(p.dfs[j]?.all fun e=>e.nm != ("read_pieces" : Str)&&e.nm != ("_law_refused" : Str))=true:=by decide +kernel
 have hi:i=1\/i=16:=Classical.byContradiction fun z=>by
  have y:=e24 i (List.getElem?_eq_some_iff.mp hd).1 (fun e=>z (.inl e)) (fun e=>z (.inr e));rw[hd] at y;have y:(d.nm != ("read_pieces" : Str)&&d.nm != ("_law_refused" : Str))=true:=y;rw[ag,iw,iw] at y;rcases g9.mp hn with e | e
  ·exact y.1 e
  ·exact y.2 (gp.mp e)
 have mk:∀{fP:Addr}{fdP:FuncData},L2.kM K "read_pieces" "read_pieces" (st 24) fP fdP->bX P w K mg base (j8 P w) (gO 11 225) fP fdP ["bits"] (spR K cT):=fun {fP fdP} FPf=>by
  obtain⟨f0,fd0,F0,M0⟩:=I.fn 0 df0 rfl;have B0:=F0.binds (cK ok df0 (List.mem_of_getElem? (i:=0) rfl)).bd;have FI:=AW (P:=P) (w:=w) (base:=base) hh.k (fK (p:=p) (d:=⟨"__init__",stM 0,["self","bits"],["self","bits"],.nil⟩) (n:=60) (by decide +kernel));have FN:=Dm (P:=P) (w:=w) (base:=base) (n:=1) (r:=p0.run 1 0) hh.k (fK (p:=p) (d:=⟨"read_number",stM 1,["self","count"],["self","count","end","number"],.nil⟩) (n:=60) (by decide +kernel)) (num1 F0 M0 hH) F0.kp B0 M0 vZ (I.blt "len" (by decide));have SF:=fK (p:=p) (d:=dF) (n:=60) (by decide +kernel);have SS:=fK (p:=p) (d:=dS) (n:=60) (by decide +kernel);have SP:=fK (p:=p) (d:=df1) (n:=60) (by decide +kernel);have FF:=zN hh.k hh.FF SF FN (fun cdv A outer s H E r=>qF (n:=0) (p:=p) (cK ok) I hH CS SF (gO.room ((gO.mono r (a':=6) (b':=203) (by omega) (by omega)).deeper _))) (g3p _) (I.blt "str" (by decide));have FS:=Ao hh.k hh.FS SS FN (fun cdv A outer s H E r=>qF (n:=0) (p:=p) (cK ok) I hH CS SS (gO.room ((gO.mono r (a':=6) (b':=203) (by omega) (by omega)).deeper _))) (g3p _);exact vq (by omega) (by omega) hh.k FPf SP FI FN FF hh.FF.kp hh.bF hh.mF FS hh.FS.kp hh.bS hh.mS (fun cdv A outer s H E r=>qF (n:=0) (p:=p) (cK ok) I hH CS SP (gO.room ((gO.mono r (a':=6) (b':=203) (by omega) (by omega)).deeper _))) (g3p _)
 rcases hi with rfl | rfl
 ·cases hd;have inv:∀{m:Nat}{ds:List D}{r:D×Bool},ds.length=1->p.run (m+1) 1 ds = .ok r->(∃ q,p.run m 0 [.lst []] = .ok q)/\∃ bs q,ds=[.lst (bs.map .int)]/\jd bs=true/\bs.length<=10000/\lE bs=some q/\r.1=outD q:=fun {m ds r} hl hrun=>by
   match ds,hl with
   |[d0],_ =>
    obtain⟨⟨q,h1⟩,h2⟩:=nj (r':=[none,none,none,none,none]) ((bO (F:=⟨1,6,b1⟩) rfl rfl).symm.trans hrun);obtain⟨bs,q,rfl,a1,a2,a3,a4⟩:=D1 h2;exact⟨pV h1 (d:=.lst []) (R:=.mv []) (by rw[ev,aV];rfl),bs,q,rfl,a1,a2,a3,a4⟩
  cases n with
  |zero =>
   refine⟨fun vs H Q E h=>iI h,fun A outer s H args us vs Q E hr he hb hv hs=>?_⟩;obtain⟨ds,G,hl,_,r,hrun,_⟩:=hs;obtain⟨⟨q,hq⟩,_⟩:=inv hl hrun;cases hq
  |succ n =>
   refine z7 (mk F) (fun A r=>⟨r.hd,by have:=r.dp;omega,by have:=r.un;omega⟩) (fun vs H Q E hs=>?_) rfl;obtain⟨ds,G,hl,rs,r,hrun,kk⟩:=hs;obtain⟨_,bs,q,rfl,a1,a2,a3,a4⟩:=inv hl hrun;obtain⟨v,rfl,rp⟩:=rs.of1;obtain⟨l,vs,g,rfl,rfl,h1,h2⟩:=rp.lst_inv;rw[jJ h2] at h1;refine⟨l,bs,rfl,h1,a2,a1,?_⟩;rw[a3];exact fun v H' G' sm rp hG nd=>kk v H' G' sm (by rw[a4];exact rp) (fun a ha=>.inl (hG a ha).1) (fun _=>⟨nd,hG⟩)
 ·cases hd;have inv:∀{m:Nat}{ds:List D}{r:D×Bool},ds.length=1->p.run (m+1) 16 ds = .ok r->2<=m/\∃ bs,ds=[.lst (bs.map .int)]/\jd bs=true/\bs.length<=10000/\lE bs=none/\r.1 = .bl true:=fun {m ds r} hl hrun=>by
   match ds,hl with
   |[d0],_ =>
    obtain⟨⟨q,h1⟩,h2⟩:=nj (r':=[none,none]) ((bO (F:=⟨1,3,b16⟩) rfl rfl).symm.trans hrun);obtain⟨bs,rfl,a1,a2,a3,a4⟩:=D5 h2;obtain⟨q',h3⟩:=pV h1 (Pc.Lw.aH (.int 3));exact⟨low h3,bs,rfl,a1,a2,a3,a4⟩
  by_cases h2:2<=n
  ·obtain⟨fP,fdP,FP',MP⟩:=I.fn 1 df1 rfl;have BP:=FP'.binds (cK ok df1 (List.mem_of_getElem? (i:=1) rfl)).bd;refine refused h2 KX G hh.hh F (fK (p:=p) (d:=Hc) (n:=60) (by decide +kernel)) (mk FP') FP'.kp BP MP (I.blt "isinstance" (by decide)) (I.blt "ValueError" (by decide)) _ fun vs H Q E hs=>?_
   obtain⟨ds,G',hlen,rs,r,hrun,kk⟩:=hs;obtain⟨_,l,rfl,a1,a2,a3,a4⟩:=inv hlen hrun;obtain⟨v,rfl,rp⟩:=rs.of1;obtain⟨pl,vs,g,rfl,rfl,h1,h2⟩:=rp.lst_inv;rw[jJ h2] at h1;refine⟨.ref pl,rfl,pl,l,rfl,h1,a2,a1,?_⟩;rw[a3];exact fun H' sm=>⟨rfl,fun H2 s2=>kk (.bl true) H2 [] (sm.trans s2) (by rw[a4];exact .bl _) (fun _ z=>(nomatch z)) fun _=>⟨cn,fun _ z=>(nomatch z)⟩⟩
  ·refine⟨fun vs H Q E h=>iI h,fun A outer s H args us vs Q E hr he hb hv hs=>?_⟩;obtain⟨ds,G,hl,_,r,hrun,_⟩:=hs;exact absurd (inv hl hrun).1 h2
end
theorem bdI (kV doc pm:Value)(an:Option Addr)(cdv ct:Value)(us:List Value)(hl:us.length=2):bindArgs (PySem.W.fnOf "__init__" "BitReader.__init__" (cD (stM 0)) (aY (stM 0)) (aE (stM 0)) .none kV doc pm an cdv ct) ⟨us,[]⟩=pure ([("self" : Str),"bits"].zip us) :=
 @x9 (fun us=>bindArgs _ ⟨us,[]⟩=pure (List.zip _ us)) us hl (fun _ _=>rfl)
theorem bdN (kV doc pm:Value)(an:Option Addr)(cdv ct:Value)(us:List Value)(hl:us.length=2):bindArgs (PySem.W.fnOf "read_number" "BitReader.read_number" (cD (stM 1)) (aY (stM 1)) (aE (stM 1)) .none kV doc pm an cdv ct) ⟨us,[]⟩=pure ([("self" : Str),"count"].zip us) :=
 @x9 (fun us=>bindArgs _ ⟨us,[]⟩=pure (List.zip _ us)) us hl (fun _ _=>rfl)
theorem bdF (kV doc pm:Value)(an:Option Addr)(cdv ct:Value)(us:List Value)(hl:us.length=2):bindArgs (PySem.W.fnOf "read_figures" "read_figures" (cD (st 25)) (aY (st 25)) (aE (st 25)) .none kV doc pm an cdv ct) ⟨us,[]⟩=pure ([("reader" : Str),"count"].zip us) :=
 @x9 (fun us=>bindArgs _ ⟨us,[]⟩=pure (List.zip _ us)) us hl (fun _ _=>rfl)
theorem bdS (kV doc pm:Value)(an:Option Addr)(cdv ct:Value)(us:List Value)(hl:us.length=3):bindArgs (PySem.W.fnOf "read_signs" "read_signs" (cD (st 26)) (aY (st 26)) (aE (st 26)) .none kV doc pm an cdv ct) ⟨us,[]⟩=pure ([("reader" : Str),"kind","count"].zip us) :=
 @F9 (fun us=>bindArgs _ ⟨us,[]⟩=pure (List.zip _ us)) us hl (fun _ _ _=>rfl)
end K04
open PySem PySem.W PyProof.Rows
theorem PySem.Challenge.cw_patchsquare_k04_spoilt_bits_holds : PySem.Challenge.rw_patchsquare_k04_spoilt_bits.Holds := by
 refine holds_law (by decide +kernel) fun said=>?_
 refine holds_open (q:=K04.Q) (loose:=[]) (XP:=XL K04.Q []) (YP:=Hook.says K04.H) K04.left (Hook.of K04.H) (Hook.keeps K04.H) (fun s e=>xl_of s (Bool.and_eq_true_iff.mp e).1) XL.keeps (by rfl) (by rfl) (by rfl) (fun s e=>recFacts_of (Bool.and_eq_true_iff.mp e).2) (by rfl) said (by decide +kernel) ⟨rfl,rfl,rfl,rfl,rfl,by decide +kernel⟩ ?hw ?hc
 case hw=>w_witness2
 refine Pc.G6 (l:=PySem.Challenge.rw_patchsquare_k04_spoilt_bits) K04.p K04.fgn 6 17 "_law_script" K04.EK rfl rfl (fun w h Y=>PySem.W.kIn_of Y) rfl rfl rfl ⟨rfl,by decide,by decide⟩ K04.ok ?st ?nl ?hh ?hf K04.plaw
 case nl=>intro w;rfl
 case hh=>intro w;exact Pc.Br rfl
 case hf =>
  intro w mg h base KX G I;have FI:L2.kM (K04.K w.params) "__init__" "BitReader.__init__" (K04.stM 0) 181 _:=⟨⟨_,_,_,_,_,_,_,_,_,rfl,rfl,rfl⟩,rfl⟩;have FN:L2.kM (K04.K w.params) "read_number" "BitReader.read_number" (K04.stM 1) 188 _:=⟨⟨_,_,_,_,_,_,_,_,_,rfl,rfl,rfl⟩,rfl⟩;have FF:L2.kM (K04.K w.params) "read_figures" "read_figures" (K04.st 25) 209 _:=⟨⟨_,_,_,_,_,_,_,_,_,rfl,rfl,rfl⟩,rfl⟩;have FS:L2.kM (K04.K w.params) "read_signs" "read_signs" (K04.st 26) 216 _:=⟨⟨_,_,_,_,_,_,_,_,_,rfl,rfl,rfl⟩,rfl⟩;exact K04.foreign KX G I (Pc.Br rfl) ⟨191,181,188,209,216,31,44,[68,80,92,142,161,123,104,56],_,_,_,_,⟨⟨by kernel_rfl,by kernel_rfl,by kernel_rfl,by kernel_rfl⟩,by unfold L2.fH;kernel_rfl,by unfold L2.fH;kernel_rfl,⟨by kernel_rfl,by kernel_rfl,by kernel_rfl,by kernel_rfl⟩,⟨by kernel_rfl,by kernel_rfl,by kernel_rfl⟩,cu KX G rfl,FI,FN,FI.binds K04.bdI,FN.binds K04.bdN,cu KX G rfl,by kernel_rfl⟩,FF,cu KX G rfl,FF.binds K04.bdF,FS,cu KX G rfl,FS.binds K04.bdS,
   ⟨cu KX G rfl,by kernel_rfl,cu KX G rfl,by kernel_rfl,⟨⟨⟨rfl,rfl⟩,rfl⟩,⟨⟨rfl,rfl⟩,rfl⟩,⟨⟨rfl,rfl⟩,rfl⟩,⟨⟨rfl,rfl⟩,rfl⟩,⟨⟨rfl,rfl⟩,rfl⟩,⟨⟨rfl,rfl⟩,rfl⟩,⟨⟨rfl,rfl⟩,rfl⟩,⟨⟨rfl,rfl⟩,rfl⟩,trivial⟩,rfl,by kernel_rfl,by kernel_rfl,by kernel_rfl⟩⟩
 case st =>
  intro w;refine⟨⟨?d0,?d1,?d2,?d3,?d4,?d5,?d6,?d7,?d8,?d9,?d10,?d11,?d12,?d13,?d14,?d15,?d16,?d17,trivial⟩,Pc.zE ⟨?glb0,?glb1,?glb2,?glb3,?glb4,?glb5,?glb6,?glb7,?glb8,trivial⟩,⟨?e0,?e1,?e2,?e3,?e4,?e5,?e6,?e7,?e8,trivial⟩⟩
  case d0 | d1 | d2 | d3 | d4 | d5 | d6 | d7 | d8 | d9 | d10 | d11 | d12 | d13 | d14 | d15 | d16 | d17=>refine' Pc.Cw ?a ?l ?c ?k;(case a=>rfl);(case l=>rfl);(case c=>rfl);(case k=>rfl)
  case glb0=>refine' Pc.gl_int (i:=0) ?ga0;(case ga0=>rfl)
  case glb1=>refine' Pc.gl_int (i:=1) ?ga1;(case ga1=>rfl)
  case glb2=>refine' Pc.om (ds:=[.str ("" : PySem.Str),.str ("0123456789" : PySem.Str),.str (" ABCDEFGHIJKLMNOPQRSTUVWXYZ.,-:/" : PySem.Str),.str (" !\"#$&'()*+,-./0123456789:;<=>?@ABCDEFGHIJKLMNOPQRSTUVWXYZ[\\]^_`abcdefghijklmnopqrstuvwxyz{|}~" : PySem.Str)]) (vs:=[.str ("" : PySem.Str),.str ("0123456789" : PySem.Str),.str (" ABCDEFGHIJKLMNOPQRSTUVWXYZ.,-:/" : PySem.Str),.str (" !\"#$&'()*+,-./0123456789:;<=>?@ABCDEFGHIJKLMNOPQRSTUVWXYZ[\\]^_`abcdefghijklmnopqrstuvwxyz{|}~" : PySem.Str)]) ?ga2 ?gl2 ?gc2 ?gz2 ?gv2 ?gr2;(case ga2=>rfl);(case gl2=>rfl);(case gc2=>rfl);(case gz2=>decide);(case gv2=>exact (.cons ⟨_,rfl⟩ (.cons ⟨_,rfl⟩ (.cons ⟨_,rfl⟩ (.cons ⟨_,rfl⟩ .nil)))));(case gr2=>exact fun H=>(.cons (.str _) (.cons (.str _) (.cons (.str _) (.cons (.str _) .nil)))))
  case glb3=>refine' Pc.om (ds:=[.int 0,.int 0,.int 5,.int 7]) (vs:=[.int 0,.int 0,.int 5,.int 7]) ?ga3 ?gl3 ?gc3 ?gz3 ?gv3 ?gr3;(case ga3=>rfl);(case gl3=>rfl);(case gc3=>rfl);(case gz3=>decide);(case gv3=>exact (.cons ⟨_,rfl⟩ (.cons ⟨_,rfl⟩ (.cons ⟨_,rfl⟩ (.cons ⟨_,rfl⟩ .nil)))));(case gr3=>exact fun H=>(.cons (.int _) (.cons (.int _) (.cons (.int _) (.cons (.int _) .nil)))))
  case glb4=>refine' Pc.gl_int (i:=2) ?ga4;(case ga4=>rfl)
  case glb5=>refine' Pc.gl_int (i:=6) ?ga5;(case ga5=>rfl)
  case glb6=>refine' Pc.om (ds:=[.int 0,.int 4,.int 7,.int 10]) (vs:=[.int 0,.int 4,.int 7,.int 10]) ?ga6 ?gl6 ?gc6 ?gz6 ?gv6 ?gr6;(case ga6=>rfl);(case gl6=>rfl);(case gc6=>rfl);(case gz6=>decide);(case gv6=>exact (.cons ⟨_,rfl⟩ (.cons ⟨_,rfl⟩ (.cons ⟨_,rfl⟩ (.cons ⟨_,rfl⟩ .nil)))));(case gr6=>exact fun H=>(.cons (.int _) (.cons (.int _) (.cons (.int _) (.cons (.int _) .nil)))))
  case glb7=>refine' Pc.om (ds:=[.int 0,.int 9,.int 99,.int 999]) (vs:=[.int 0,.int 9,.int 99,.int 999]) ?ga7 ?gl7 ?gc7 ?gz7 ?gv7 ?gr7;(case ga7=>rfl);(case gl7=>rfl);(case gc7=>rfl);(case gz7=>decide);(case gv7=>exact (.cons ⟨_,rfl⟩ (.cons ⟨_,rfl⟩ (.cons ⟨_,rfl⟩ (.cons ⟨_,rfl⟩ .nil)))));(case gr7=>exact fun H=>(.cons (.int _) (.cons (.int _) (.cons (.int _) (.cons (.int _) .nil)))))
  case glb8=>refine' Pc.gl_int (i:=3) ?ga8;(case ga8=>rfl)
  case e0 | e1 | e2 | e3 | e4 | e5 | e6 | e7 | e8=>dsimp only;rfl
end
