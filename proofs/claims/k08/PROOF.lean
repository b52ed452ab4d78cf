import PyProof.Rows.All
import Wide.All
import OpenK.AllK
import Wide.FinOn
import Lean
import PyProof.EqAt
import PyProof.EqKinds
import PyProof.TupleCall
import PySem.Syntax
import PySem.Str
import PySem.Sem
import PySem.Builtin.Int.W1All
import PySem.Builtin.Str.Common
import PySem.Builtin.Range.Common
import KE.IntText
import KE.KSortAsk
import PyProof.IsRules
import PyProof.NeKinds
import PyProof.DictWalks
import PyProof.EnumMake
import PyProof.EnumFor
import PyProof.ZipIter
import PyProof.Rows.EnumRows
import PyProof.Rows.FactsT2
import KE.KRevIter
import PyProof.CompFree
import PyProof.CompUse
import PyProof.Cells
import PyProof.ConsumeWalk
import PyProof.IsInstanceH
import PyProof.IsiNone
import PyProof.SumWalkG
import PyProof.Rows.SumGenD
import KE.KDictList
import KE.KSortTup
import KE.KSorted
import KE.KSort
import PyProof.Draws
import PyProof.ListRange
import PyProof.MinMaxWalk
import PyProof.WalkInts
import PyProof.Conv_int_bool
import PyProof.Rows.CallKwBuiltin
import KE.KIntText
import PyProof.Rows.SeqMore
import PyProof.Rows.StrJoin2
import PyProof.Rows.StrSplitAre
import PyProof.Rows.StrSplitJoin
import OpenK.KOwn
import PyProof.RulesAs
import PyProof.RulesDel
import PyProof.ExcArgsOwn
import PyProof.ExcAttrAll.ValueError
import PyProof.Rows.RuleN_isinstance
import PyProof.IsiTuple
import PyProof.ExcInit
import PyProof.InstStoreFacts
import PyProof.ExcBaseAll.ValueError
import PyProof.FString
import PyProof.AssignAttr
import OpenK.KMore
import PySem.Challenge.RW_patchsquare_k08_grains_of_a_text
set_option Elab.async false
set_option linter.all false
set_option maxRecDepth 100000
set_option maxHeartbeats 0
abbrev aa:=@Option.map_eq_some_iff
abbrev ae:=@Option.bind_eq_some_iff
abbrev ag:=@List.length_append
abbrev ah:=@List.mem_cons_of_mem
abbrev ai:=@List.size_toArray
abbrev aj:=@Bool.and_eq_true
abbrev ak:=@List.mem_cons_self
abbrev ao:=@List.length_map
abbrev aq:=@List.mem_append_right
abbrev au:=@Nat.le_refl
abbrev av:=@List.map_cons
abbrev aw:=@List.length_cons
abbrev ax:=@List.append_nil
abbrev ay:=@Nat.lt_of_lt_of_le
abbrev az:=@decide_eq_false
abbrev ba:=@Nat.ne_of_lt
abbrev bg:=@List.mem_append_left
abbrev bh:=@List.length_take
abbrev bj:=@Nat.le_trans
abbrev bo:=@List.length_replicate
abbrev bp:=@List.mem_of_getElem
abbrev bq:=@Bool.false_ne_true
abbrev br:=@List.length_singleton
abbrev bt:=@List.nodup_nil
abbrev bu:=@Option.some.inj
abbrev bw:=@Option.map_some
abbrev bz:=@List.length_nil
abbrev cf:=@List.append_assoc
abbrev cg:=@PySem.mem_of_lookup
abbrev cj:=@decide_eq_true
abbrev cm:=@List.length_range
abbrev cn:=@Bool.false_eq_true
abbrev cq:=@Option.some.injEq
abbrev cu:=@beq_self_eq_true
abbrev cv:=@List.lookup_cons
abbrev cw:=@List.all_eq_true
abbrev cx:=@decide_eq_true_eq
abbrev cy:=@Ne.symm
abbrev cz:=@List.nil_append
abbrev c9:=@List.length_drop
abbrev de:=@List.flatten_cons
abbrev df:=@PySem.W.mg_of
abbrev dh:=@if_true
abbrev dk:=@Nat.zero_le
abbrev dm:=@Int.toNat_natCast
abbrev dn:=@List.replicate_succ
abbrev dq:=@List.map_congr_left
abbrev dt:=@Int.emod_lt_of_pos
abbrev du:=@Nat.lt_irrefl
abbrev dw:=@if_false
abbrev dz:=@Nat.min_eq_left
abbrev eh:=@List.take_of_length_le
abbrev eo:=@List.contains_cons
abbrev fh:=@List.drop_eq_getElem_cons
abbrev fk:=@Int.emod_nonneg
abbrev fm:=@List.map_nil
abbrev fq:=@List.map_map
abbrev fv:=@Bool.not_eq_true'
abbrev fw:=@beq_iff_eq
abbrev f9:=@PySem.W.callWith_K
abbrev gc:=@List.range_succ_eq_map
abbrev gh:=@Nat.zero_add
abbrev gi:=@Nat.min_le_right
abbrev gj:=@PySem.W.hideAll_get
abbrev gm:=@List.filterMap_cons
abbrev gn:=@Array.length_toList
abbrev gp:=@PySem.W.nsMap_none_of_in
abbrev gq:=@List.length_set
abbrev gu:=@Bool.or_eq_true
abbrev gv:=@List.lookup_append
abbrev gw:=@PySem.F.plainAttrs_list
abbrev gx:=@congrArg
abbrev gy:=@Bool.or_true
abbrev g9:=@List.not_mem_nil
abbrev h9:=@List.drop_length
abbrev ic:=@List.any_cons
abbrev ie:=@List.map_append
abbrev ig:=@beq_eq_false_iff_ne
abbrev ij:=@PyProof.Rows.callWith_type1
abbrev ik:=@PySem.W.of_hideAll
abbrev il:=@PySem.W.isNs_of_in
abbrev ip:=@PySem.F.excBase_ValueError
abbrev iq:=@Nat.lt_of_le_of_lt
abbrev ir:=@List.mem_singleton
abbrev iu:=@of_decide_eq_true
abbrev iw:=@Nat.lt_succ_of_lt
abbrev iy:=@List.mem_cons
abbrev iz:=@Nat.le_of_not_lt
abbrev i0:=@List.getElem_mem
abbrev i4:=@PySem.W.cellsFrom_some
abbrev i5:=@Nat.succ.inj
abbrev i6:=@List.of_mem_zip
section
namespace L2
open PySem PySem.Spec PyProof.Rows
noncomputable def dY (s:Stmt):Arguments:=match s with
 |.FunctionDef _ a _ _ _ _ _ _ _ _=>a
 |_=>{ posonlyargs:=[],args:=[],vararg:=none,kwonlyargs:=[],kw_defaults:=[],kwarg:=none,defaults:=[] }
noncomputable def aW (s:Stmt):List Stmt:=match s with
 |.FunctionDef _ _ b _ _ _ _ _ _ _=>b
 |_=>[]
noncomputable def aE (s:Stmt):Scope:=match s with
 |.FunctionDef _ _ _ _ _ _ sc _ _ _=>sc
 |_=>{ kind:=.function,names:=[],isGenerator:=false,isCoroutine:=false }
end L2
end
section
namespace Pc.Hd
open PySem PySem.W L2
noncomputable def sv (x:String)(t:Tok):Value:=.str (Str.ofString x) t
noncomputable def kv (P:Params)(x:String)(t:Tok)(v:Value):DictEntry:=⟨PyData.keyHash P (Str.ofString x),sv x t,v⟩
noncomputable def za:Stmt->Str
 |.FunctionDef n ..=>n
 |_=>Str.ofString ""
noncomputable def fo (a:Addr)(s:Stmt)(m c:Value):Addr×Obj:=(a,⟨.type "function",none,.func { name:=za s,qualname:=za s,params:=dY s,body:=.stmts (aW s),scope:=aE s,globals:=mainGlobals,closure:=[],defaults:=.none,kwdefaults:=.none,pyModule:=m,code:=c },#[]⟩)
noncomputable def co (a:Addr)(vs:Array Value):Addr×Obj:=(a,⟨.type "code",none,.fields vs,#[]⟩)
noncomputable def tu (a:Addr)(vs:Array Value):Addr×Obj:=(a,⟨.type "tuple",none,.seq vs 0,#[]⟩)
noncomputable def di (a:Addr)(es:Array DictEntry)(n:Nat):Addr×Obj:=(a,⟨.type "dict",none,.dict es n,#[]⟩)
noncomputable def cq (a:Addr)(n q:String)(t1 t2 t3:Tok)(l k:Int)(r s:Addr)(x y:Value)(u:Addr)(c:Int)(v:Tok):Addr×Obj:=co a #[sv n t1,sv q t2,sv "/claim/cut.py" t3,.int l 0,.int k 0,.int 0 0,.int 0 0,.int 3 0,.ref r,.bool true,.int 181 0,.ref s,.none,x,y,.ref u,.int c 0,.int l 0,sv "/claim/cut.py" v]
noncomputable def ec (a:Addr)(n:String)(m u:Addr)(t v:Tok):Addr×Obj:=(a,{ cls:=.type "type",data:=.cls { name:=Str.ofString n,bases:=[.ref 36],mro:=[.ref a,.ref 36,.type "ValueError",.type "Exception",.type "BaseException",.type "object"],ns:=m,qualname:=Str.ofString n },slots:=#[some (.ref u),none,some (sv n t),some (sv n v),some (.builtin "ValueError.__new__"),some (.bool true)] })
noncomputable def mt (s:Stmt)(i:Nat):Stmt:=match s with
 |.ClassDef _ _ _ b ..=>b.getD i (.Pass ⟨0,0,0,0⟩)
 |s=>s
noncomputable def fm (a:Addr)(s:Stmt)(n q:String)(m c:Value):Addr×Obj:=(a,⟨.type "function",none,.func { name:=Str.ofString n,qualname:=Str.ofString q,params:=dY s,body:=.stmts (aW s),scope:=aE s,globals:=mainGlobals,closure:=[],defaults:=.none,kwdefaults:=.none,pyModule:=m,code:=c },#[]⟩)
noncomputable def kd (P:Params)(a:Addr)(t1 t2 t3:Tok)(l:Int)(t4 t5:Tok)(r:Addr)(t6:Tok):Addr×Obj:=di a #[kv P "__module__" t1 (sv "patchsquare.errors" t2),kv P "__firstlineno__" t3 (.int l t4),kv P "__static_attributes__" t5 (.ref r),kv P "__doc__" t6 .none] 2
end Pc.Hd
end
section
namespace K08
open PySem PySem.Spec PyProof.Rows L2
noncomputable abbrev st (i:Nat):Stmt:=PySem.Challenge.pw_patchsquare_k08_grains_of_a_text.main.body.getD i (.Pass ⟨0,0,0,0⟩)
end K08
namespace K08
open PySem PySem.W Pc.Hd
noncomputable def K (P:Params):Frag:=[(2,{ cls:=Value.none,data:=Data.dict #[] }),
 di 3 #[kv P "__name__" 165 (sv "law_patchsquare_k08_grains_of_a_text" 551),kv P "__doc__" 166 .none,kv P "__package__" 167 .none,kv P "__loader__" 168 (.builtin "__main__.__loader__#opaque"),kv P "__spec__" 169 .none,kv P "__annotations__" 170 (.ref 6),kv P "__builtins__" 171 (.ref 4),kv P "__file__" 173 (sv "/claim/cut.py" 172),kv P "__cached__" 174 .none,kv P "bits_of" 194 (.ref 19),kv P "number_of" 203 (.ref 26),kv P "SquareError" 223 (.ref 36),kv P "NoText" 239 (.ref 49),kv P "TooLong" 255 (.ref 61),kv P "NoInverse" 271 (.ref 73),kv P "NoLabel" 287 (.ref 85),kv P "NoMarks" 303 (.ref 97),kv P "NoSquare" 319 (.ref 109),kv P "NoSign" 344 (.ref 128),kv P "NoMend" 369 (.ref 147),kv P "NoPicture" 394 (.ref 166),kv P "END" 398 (.int 0 397),kv P "FIGURES" 400 (.int 1 399),kv P "CAPITALS" 402 (.int 2 401),kv P "ANY" 404 (.int 3 403),kv P "KIND_SIGNS" 409 (.ref 169),kv P "SIGN_BITS" 414 (.ref 170),kv P "KIND_BITS" 416 (.int 2 415),kv P "COUNT_BITS" 418 (.int 6 417),kv P "MOST_SIGNS" 420 (.int 64 419),kv P "FIGURE_BITS" 425 (.ref 171),kv P "MOST_FIGURES" 427 (.int 3 426),kv P "piece_length" 436 (.ref 178),kv P "piece_bits" 446 (.ref 185),kv P "figures_bits" 456 (.ref 192),kv P "signs_bits" 466 (.ref 199),kv P "cut_text" 480 (.ref 206),kv P "refuse_strange_signs" 489 (.ref 213),kv P "best_cuts" 501 (.ref 220),kv P "cuts_of_kind" 514 (.ref 227),kv P "GRAIN_BITS" 518 (.int 6 517),kv P "FILLING" 521 (.ref 228),kv P "text_grains" 529 (.ref 235),kv P "bare_grains" 538 (.ref 242),kv P "grains_of_bits" 544 (.ref 247),kv P "filled_grains" 550 (.ref 252),kv P "_law_mix" 562 (.ref 259),kv P "_law_signs" 570 (.ref 266),kv P "_law_run" 581 (.ref 273),kv P "_law_text" 594 (.ref 280),kv P "_law_due" 607 (.ref 287),kv P "_law_in_room" 619 (.ref 294),kv P "_law_too_long" 630 (.ref 301),kv P "_law_place" 640 (.ref 308),kv P "law" 655 (.ref 315)] 55,
 di 6 #[] 0,
 cq 18 "bits_of" "bits_of" 189 190 191 2 2 15 16 .none .none 17 192 193,
 fo 19 (st 1) (sv "patchsquare.bits" 187) (.ref 18),
 cq 25 "number_of" "number_of" 195 196 197 4 1 20 21 (.ref 22) (.ref 23) 24 201 202,
 fo 26 (st 2) (sv "patchsquare.bits" 187) (.ref 25),
 tu 27 #[(.type "ValueError")],
 tu 34 #[],
 di 35 #[kv P "__module__" 213 (sv "patchsquare.errors" 204),kv P "__firstlineno__" 217 (.int 10 216),kv P "__static_attributes__" 218 (.ref 34),kv P "__weakref__" 220 (.ref 37),kv P "__doc__" 221 .none] 3,
 (36,{ cls:=Value.type "type",data:=Data.cls { name:=Str.ofString "SquareError",bases:=[Value.type "ValueError"],mro:=[Value.ref 36,Value.type "ValueError",Value.type "Exception",Value.type "BaseException",Value.type "object"],ns:=35,qualname:=Str.ofString "SquareError",subclasses:=[Value.ref 49,Value.ref 61,Value.ref 73,Value.ref 85,Value.ref 97,Value.ref 109,Value.ref 128,Value.ref 147,Value.ref 166] },slots:=#[some (Value.ref 27),none,some (Value.str (Str.ofString "SquareError") 206),some (Value.str (Str.ofString "SquareError") 214),some (Value.builtin "ValueError.__new__"),some (Value.bool true)] }),
 (37,{ cls:=Value.type "getset_descriptor",data:=Data.fields #[Value.str (Str.ofString "__weakref__") 219,Value.ref 36,Value.builtin "ExceptionGroup.__weakref__",Value.none] }),
 tu 40 #[(.ref 36)],
 tu 47 #[],
 kd P 48 231 204 235 12 234 236 47 237,
 ec 49 "NoText" 48 40 224 232,
 tu 52 #[(.ref 36)],
 tu 59 #[],
 kd P 60 247 204 251 14 250 252 59 253,
 ec 61 "TooLong" 60 52 240 248,
 tu 64 #[(.ref 36)],
 tu 71 #[],
 kd P 72 263 204 267 16 266 268 71 269,
 ec 73 "NoInverse" 72 64 256 264,
 tu 76 #[(.ref 36)],
 tu 83 #[],
 kd P 84 279 204 283 18 282 284 83 285,
 ec 85 "NoLabel" 84 76 272 280,
 tu 88 #[(.ref 36)],
 tu 95 #[],
 kd P 96 295 204 299 20 298 300 95 301,
 ec 97 "NoMarks" 96 88 288 296,
 tu 100 #[(.ref 36)],
 tu 107 #[],
 kd P 108 311 204 315 22 314 316 107 317,
 ec 109 "NoSquare" 108 100 304 312,
 tu 112 #[(.ref 36)],
 cq 124 "__init__" "NoSign.__init__" 332 333 334 26 2 119 120 (.ref 121) (.ref 122) 123 337 338,
 fm 125 (mt (st 11) 0) "__init__" "NoSign.__init__" (sv "patchsquare.errors" 204) (.ref 124),
 tu 126 #[(sv "place" 340)],
 di 127 #[kv P "__module__" 327 (sv "patchsquare.errors" 204),kv P "__firstlineno__" 331 (.int 24 330),kv P "__init__" 339 (.ref 125),kv P "__static_attributes__" 341 (.ref 126),kv P "__doc__" 342 .none] 2,
 ec 128 "NoSign" 127 112 320 328,
 tu 131 #[(.ref 36)],
 cq 143 "__init__" "NoMend.__init__" 357 358 359 31 2 138 139 (.ref 140) (.ref 141) 142 362 363,
 fm 144 (mt (st 12) 0) "__init__" "NoMend.__init__" (sv "patchsquare.errors" 204) (.ref 143),
 tu 145 #[(sv "block" 365)],
 di 146 #[kv P "__module__" 352 (sv "patchsquare.errors" 204),kv P "__firstlineno__" 356 (.int 29 355),kv P "__init__" 364 (.ref 144),kv P "__static_attributes__" 366 (.ref 145),kv P "__doc__" 367 .none] 2,
 ec 147 "NoMend" 146 131 345 353,
 tu 150 #[(.ref 36)],
 cq 162 "__init__" "NoPicture.__init__" 382 383 384 36 2 157 158 (.ref 159) (.ref 160) 161 387 388,
 fm 163 (mt (st 13) 0) "__init__" "NoPicture.__init__" (sv "patchsquare.errors" 204) (.ref 162),
 tu 164 #[(sv "row" 390)],
 di 165 #[kv P "__module__" 377 (sv "patchsquare.errors" 204),kv P "__firstlineno__" 381 (.int 34 380),kv P "__init__" 389 (.ref 163),kv P "__static_attributes__" 391 (.ref 164),kv P "__doc__" 392 .none] 2,
 ec 166 "NoPicture" 165 150 370 378,
 tu 169 #[(sv "" 405),(sv "0123456789" 406),(sv " ABCDEFGHIJKLMNOPQRSTUVWXYZ.,-:/" 407),(sv " !\"#$&'()*+,-./0123456789:;<=>?@ABCDEFGHIJKLMNOPQRSTUVWXYZ[\\]^_`abcdefghijklmnopqrstuvwxyz{|}~" 408)],
 tu 170 #[(.int 0 410),(.int 0 411),(.int 5 412),(.int 7 413)],
 tu 171 #[(.int 0 421),(.int 4 422),(.int 7 423),(.int 10 424)],
 cq 177 "piece_length" "piece_length" 428 429 430 51 2 172 173 (.ref 174) (.ref 175) 176 434 435,
 fo 178 (st 26) (sv "patchsquare.pieces" 395) (.ref 177),
 cq 184 "piece_bits" "piece_bits" 437 438 439 56 1 179 180 (.ref 181) (.ref 182) 183 444 445,
 fo 185 (st 27) (sv "patchsquare.pieces" 395) (.ref 184),
 cq 191 "figures_bits" "figures_bits" 447 448 449 63 1 186 187 (.ref 188) (.ref 189) 190 454 455,
 fo 192 (st 28) (sv "patchsquare.pieces" 395) (.ref 191),
 cq 198 "signs_bits" "signs_bits" 457 458 459 69 2 193 194 (.ref 195) (.ref 196) 197 464 465,
 fo 199 (st 29) (sv "patchsquare.pieces" 395) (.ref 198),
 cq 205 "cut_text" "cut_text" 469 470 471 75 1 200 201 (.ref 202) (.ref 203) 204 478 479,
 fo 206 (st 31) (sv "patchsquare.cutting" 467) (.ref 205),
 cq 212 "refuse_strange_signs" "refuse_strange_signs" 481 482 483 86 1 207 208 (.ref 209) (.ref 210) 211 487 488,
 fo 213 (st 32) (sv "patchsquare.cutting" 467) (.ref 212),
 cq 219 "best_cuts" "best_cuts" 490 491 492 90 1 214 215 (.ref 216) (.ref 217) 218 499 500,
 fo 220 (st 33) (sv "patchsquare.cutting" 467) (.ref 219),
 cq 226 "cuts_of_kind" "cuts_of_kind" 502 503 504 100 4 221 222 (.ref 223) (.ref 224) 225 512 513,
 fo 227 (st 34) (sv "patchsquare.cutting" 467) (.ref 226),
 tu 228 #[(.int 42 519),(.int 21 520)],
 cq 234 "text_grains" "text_grains" 522 523 524 109 2 229 230 (.ref 231) (.ref 232) 233 527 528,
 fo 235 (st 38) (sv "patchsquare.grains" 515) (.ref 234),
 cq 241 "bare_grains" "bare_grains" 530 531 532 111 1 236 237 (.ref 238) (.ref 239) 240 536 537,
 fo 242 (st 39) (sv "patchsquare.grains" 515) (.ref 241),
 cq 246 "grains_of_bits" "grains_of_bits" 539 540 541 119 1 243 244 .none .none 245 542 543,
 fo 247 (st 40) (sv "patchsquare.grains" 515) (.ref 246),
 cq 251 "filled_grains" "filled_grains" 545 546 547 121 2 248 249 .none .none 250 548 549,
 fo 252 (st 41) (sv "patchsquare.grains" 515) (.ref 251),
 cq 258 "_law_mix" "_law_mix" 553 554 555 127 3 253 254 (.ref 255) (.ref 256) 257 560 561,
 fo 259 (st 43) (sv "law_patchsquare_k08_grains_of_a_text" 551) (.ref 258),
 cq 265 "_law_signs" "_law_signs" 563 564 565 132 1 260 261 (.ref 262) (.ref 263) 264 568 569,
 fo 266 (st 44) (sv "law_patchsquare_k08_grains_of_a_text" 551) (.ref 265),
 cq 272 "_law_run" "_law_run" 571 572 573 139 2 267 268 (.ref 269) (.ref 270) 271 579 580,
 fo 273 (st 45) (sv "law_patchsquare_k08_grains_of_a_text" 551) (.ref 272),
 cq 279 "_law_text" "_law_text" 582 583 584 146 2 274 275 (.ref 276) (.ref 277) 278 592 593,
 fo 280 (st 46) (sv "law_patchsquare_k08_grains_of_a_text" 551) (.ref 279),
 cq 286 "_law_due" "_law_due" 595 596 597 158 1 281 282 (.ref 283) (.ref 284) 285 605 606,
 fo 287 (st 47) (sv "law_patchsquare_k08_grains_of_a_text" 551) (.ref 286),
 cq 293 "_law_in_room" "_law_in_room" 608 609 610 172 3 288 289 (.ref 290) (.ref 291) 292 617 618,
 fo 294 (st 48) (sv "law_patchsquare_k08_grains_of_a_text" 551) (.ref 293),
 cq 300 "_law_too_long" "_law_too_long" 620 621 622 187 2 295 296 (.ref 297) (.ref 298) 299 628 629,
 fo 301 (st 49) (sv "law_patchsquare_k08_grains_of_a_text" 551) (.ref 300),
 cq 307 "_law_place" "_law_place" 631 632 633 195 2 302 303 (.ref 304) (.ref 305) 306 638 639,
 fo 308 (st 50) (sv "law_patchsquare_k08_grains_of_a_text" 551) (.ref 307),
 cq 314 "law" "law" 641 642 643 202 1 309 310 (.ref 311) (.ref 312) 313 653 654,
 fo 315 (st 51) (sv "law_patchsquare_k08_grains_of_a_text" 551) (.ref 314)]
noncomputable def as:List Addr:=[2,3,6,18,19,25,26,27,34,35,36,37,40,47,48,49,52,59,60,61,64,71,72,73,76,83,84,85,88,95,96,97,100,107,108,109,112,124,125,126,127,128,131,143,144,145,146,147,150,162,163,164,165,166,169,170,171,177,178,184,185,191,192,198,199,205,206,212,213,219,220,226,227,228,234,235,241,242,246,247,251,252,258,259,265,266,272,273,279,280,286,287,293,294,300,301,307,308,314,315]
noncomputable def Q:Program:={ PySem.Challenge.pw_patchsquare_k08_grains_of_a_text with main:={ PySem.Challenge.pw_patchsquare_k08_grains_of_a_text.main with body:=[st 1,st 2,st 4,st 5,st 6,st 7,st 8,st 9,st 10,st 11,st 12,st 13,st 15,st 16,st 17,st 18,st 19,st 20,st 21,st 22,st 23,st 24,st 25,st 26,st 27,st 28,st 29,st 31,st 32,st 33,st 34,st 36,st 37,st 38,st 39,st 40,st 41,st 43,st 44,st 45,st 46,st 47,st 48,st 49,st 50,st 51] } }
noncomputable def H:Hook:=kHook K as (fun _=>rfl)
open PyProof.Rows
theorem leD {α β γ δ:Type}{o:Option α}{f:α->β×γ}{g:α->δ}{a:β×γ}{b:δ}(h:o.map (fun s=>(f s).1)=some a.1)(h':o.map (fun s=>(f s).2)=some a.2)(k:o.map g=some b):o.map (fun s=>(f s,g s))=some (a,b):=by
 cases o with
 |none=>cases h
 |some s=>exact congrArg some (Prod.ext (Prod.ext (Option.some.inj h) (Option.some.inj h')) (Option.some.inj k))
abbrev oeQ (w:World):=openEnds treeTable PySem.Challenge.pw_patchsquare_k08_grains_of_a_text w 6366
noncomputable abbrev seQ (s:Shared):=openSeen Q [] (importedModules PySem.Challenge.pw_patchsquare_k08_grains_of_a_text.main.body) (fun s=>xlAt K08.Q [] s&&recOk (RowW.records PySem.Challenge.rw_patchsquare_k08_grains_of_a_text.row.toRowW) s) true s
theorem leA (w:World):(oeQ w).map (fun s=>(seQ s).1)=some (openGood Q []).1:=by kernel_rfl
theorem leB (w:World):(oeQ w).map (fun s=>(seQ s).2)=some (openGood Q []).2:=by kernel_rfl
theorem leC (w:World):(oeQ w).map (Hook.obs H)=some (Hook.val H w):=by kernel_rfl
theorem left:LeftO PySem.Challenge.pw_patchsquare_k08_grains_of_a_text Q [] (fun s=>xlAt K08.Q [] s&&recOk (RowW.records PySem.Challenge.rw_patchsquare_k08_grains_of_a_text.row.toRowW) s) (Hook.obs H) (Hook.val H) 6366:=fun w=>leD (leA w) (leB w) (leC w)
end K08
end
section
namespace L2
open PySem PySem.Spec PyProof.Rows
noncomputable abbrev Key:=Sum Int Str
noncomputable def kF:Key->Value->Bool
 |.inl k,v=>Value.isInt k v
 |.inr x,v=>Value.isStrOf x v
noncomputable def keyH (w:World):Key->Int
 |.inl k=>hashInt k
 |.inr x=>hashStr w x
theorem bH:∀{k:Key}{v:Value},kF k v=true->(∃ i t,k=Sum.inl i/\v=Value.int i t)\/(∃ x t,k=Sum.inr x/\v=Value.str x t)
 | .inl i,v,h=>by
  obtain⟨t,e⟩:=Value.isInt_shape (k:=i) (v:=v) h;exact .inl ⟨i,t,rfl,e⟩
 | .inr x,v,h=>by
  obtain⟨t,e⟩:=Value.isStrOf_shape (x:=x) (v:=v) h;exact .inr ⟨x,t,rfl,e⟩
theorem uN (i:Int)(t:Tok):kF (.inl i) (.int i t)=true:=by simp[kF,Value.isInt]
theorem vQ (x:Str)(t:Tok):kF (.inr x) (.str x t)=true:=by simp[kF,Value.isStrOf]
theorem E5 (a b:Int):decide ((Sum.inl a:Key)=Sum.inl b)=(a==b):=by
 by_cases e:a=b
 ·subst e;simp
 ·have h:¬ (Sum.inl a:Key)=Sum.inl b:=fun q=>e (Sum.inl.inj q)
  rw[az h];exact (ig.mpr e).symm
theorem D7 (a b:Str):decide ((Sum.inr a:Key)=Sum.inr b)=decide (a=b):=by
 by_cases e:a=b
 ·subst e;simp
 ·have h:¬ (Sum.inr a:Key)=Sum.inr b:=fun q=>e (Sum.inr.inj q)
  rw[az h,az e]
theorem Dg (a:Int)(b:Str):decide ((Sum.inl a:Key)=Sum.inr b)=false:=az (fun q=>nomatch q)
theorem EO (a:Str)(b:Int):decide ((Sum.inr a:Key)=Sum.inl b)=false:=az (fun q=>nomatch q)
noncomputable def bR (prog:Program)(w:World):PySem.KeyKind prog w Key where
 is:=kF
 hash:=keyH w
 inj:=fun v a b ha hb=>by
  rcases bH ha with ⟨i,t,rfl,rfl⟩ | ⟨x,t,rfl,rfl⟩
  ·rcases bH hb with ⟨j,u,rfl,e⟩ | ⟨y,u,rfl,e⟩
   ·injection e with e1 _;rw[e1]
   ·exact nomatch e
  ·rcases bH hb with ⟨j,u,rfl,e⟩ | ⟨y,u,rfl,e⟩
   ·exact nomatch e
   ·injection e with e1 _;rw[e1]
 byValue:=fun k v h=>by
  rcases bH h with ⟨i,t,rfl,rfl⟩ | ⟨x,t,rfl,rfl⟩<;>rfl
 pyHash:=fun hv h=>by
  rcases bH hv with ⟨i,t,rfl,rfl⟩ | ⟨x,t,rfl,rfl⟩
  ·exact wpAny_pyHash_int h
  ·exact wpAny_pyHash_str h
 eqBool:=fun hu hv h=>by
  rcases bH hu with ⟨i,t,rfl,rfl⟩ | ⟨x,t,rfl,rfl⟩
  ·rcases bH hv with ⟨j,u,rfl,rfl⟩ | ⟨y,u,rfl,rfl⟩
   ·rw[E5] at h;exact wpAny_eqBool_int h
   ·rw[Dg] at h;exact SeqAt.EqAt.int_str i t y u _ _ _ _ h
  ·rcases bH hv with ⟨j,u,rfl,rfl⟩ | ⟨y,u,rfl,rfl⟩
   ·rw[EO] at h;exact SeqAt.EqAt.str_int x t j u _ _ _ _ h
   ·rw[D7] at h;exact wpAny_eqBool_str h
 «strs»:=fun k x t v h=>by
  rcases bH h with ⟨i,u,rfl,e⟩ | ⟨y,u,rfl,e⟩
  ·exact nomatch e
  ·injection e with e1 _
   subst e1;cases v<;>rfl
theorem km (prog:Program)(w:World)(i:Int)(t:Tok):(bR prog w).is (.inl i) (.int i t)=true:=uN i t
theorem qf (prog:Program)(w:World)(x:Str)(t:Tok):(bR prog w).is (.inr x) (.str x t)=true:=vQ x t
end L2
namespace L2
open PySem PySem.Spec PyProof.Rows
inductive V where
 | non | bl (b:Bool) | int (i:Int) | str (x:Str) | byt (b:Array UInt8) | flt (b:UInt64) | ref (a:Addr) | ty (n:String)
 deriving DecidableEq
noncomputable def RelV:V->Value->Prop
 |.non,u=>u=Value.none
 |.bl b,u=>u=Value.bool b
 |.int i,u=>∃ t,u=Value.int i t
 |.str x,u=>∃ t,u=Value.str x t
 |.byt b,u=>∃ t,u=Value.bytes b t
 |.flt b,u=>∃ t,u=Value.float b t
 |.ref a,u=>u=Value.ref a
 |.ty n,u=>u=Value.type n
noncomputable abbrev aM:List V->List Value->Prop:=Paired RelV
theorem aM.length {xs:List V}{us:List Value}(r:aM xs us):xs.length=us.length:=Paired.length r
theorem aM.get:∀{xs:List V}{us:List Value}{i:Nat}{x:V},aM xs us->xs[i]? = some x->∃ u,us[i]? = some u/\RelV x u
 |_,_,_,_,.nil,e=>by simp at e
 |_,_,0,_,.cons r _,e=>by simp at e;subst e;exact⟨_,rfl,r⟩
 | _,_,i+1,x,.cons _ t,e=>by
  obtain⟨u,h1,h2⟩:=aM.get (i:=i) (x:=x) t (by simpa using e);exact⟨u,by simpa using h1,h2⟩
theorem aM.set {x:V}{u:Value}(r:RelV x u):∀{xs:List V}{us:List Value}(i:Nat),aM xs us->aM (xs.set i x) (us.set i u)
 |_,_,_,.nil=>.nil
 |_,_,0,.cons _ t=>.cons r t
 |_,_,i+1,.cons q t=>.cons q (aM.set r i t)
theorem aM.append:∀{xs ys:List V}{us ws:List Value},aM xs us->aM ys ws->aM (xs++ys) (us++ws)
 |_,_,_,_,.nil,s=>s
 |_,_,_,_,.cons r t,s=>.cons r (aM.append t s)
theorem aM.take:∀{xs:List V}{us:List Value}(n:Nat),aM xs us->aM (xs.take n) (us.take n)
 |_,_,0,_=>.nil
 |_,_,_+1,.nil=>.nil
 |_,_,n+1,.cons r t=>.cons r (aM.take n t)
theorem aM.drop:∀{xs:List V}{us:List Value}(n:Nat),aM xs us->aM (xs.drop n) (us.drop n)
 |_,_,0,r=>r
 |_,_,_+1,.nil=>.nil
 |_,_,n+1,.cons _ t=>aM.drop n t
noncomputable def ve:Option V->Option Value->Prop
 |some v,some u=>RelV v u
 |none,none=>True
 |_,_=>False
def KV {κ:Type}:List (κ×V)->List (κ×Value)->Prop:=Paired fun (p:κ×V) (q:κ×Value)=>p.1=q.1/\RelV p.2 q.2
noncomputable def kV:Key->V
 |.inl i=>.int i
 |.inr x=>.str x
inductive HO where
 | lst (xs:List V)
 | tup (xs:List V)
 | dK (kvs:List (Key×V)) | dT (kvs:List (List Key×V))
 | set (S:Int->Bool) (n:Nat)
 | ins (C dx:Addr) (fs:List (Str×V))
 | own (x:Addr)
 | xd (fs:List (Str×V))
 | met (f x:Addr)
 | rng (lo hi:Int)
 | frz (o:Obj) (u:HO)
 | tbl (ps:Array Value)
 | ext (φ:Heap->Prop)
noncomputable abbrev Hp:=Addr->Option HO
noncomputable def upd (H:Hp)(a:Addr)(o:HO):Hp:=fun b=>if b=a then some o else H b
theorem aP {H:Hp}{a:Addr}{o:HO}:upd H a o a=some o:=by unfold upd;rw[if_pos rfl]
theorem aO {H:Hp}{a b:Addr}{o:HO}(h:b≠a):upd H a o b=H b:=by unfold upd;rw[if_neg h]
theorem GR {H:Hp}{a b:Addr}{o u:HO}(h:H a=some o)(h':H b=some u)(d:o≠u):a≠b:=by
 intro e;subst e;rw[h] at h';exact d (bu h')
theorem fT {H:Hp}{a b:Addr}{o:HO}(h:H a=some o)(h':H b=none):a≠b:=by
 intro e;subst e;rw[h] at h';cases h'
section
variable (P:Program)(w:World)
noncomputable def cJ (H:Hp)(h:Heap)(a:Addr):HO->Prop
 |.lst xs=>xs.length<=sizeLine/\∃(its:List Value) (n:Nat),aM xs its/\h.get? a=some { cls:=.type "list",data:=.seq its.toArray n }
 |.tup xs=>xs.length<=sizeLine/\∃ its:List Value,aM xs its/\IsTup h a its.toArray
 |.dK kvs=>kvs.length<=sizeLine/\(a==sysModules)=false/\∃ vs,KV kvs vs/\h.DictOf (bR P w) a vs
 | .dT kvs=>kvs.length<=sizeLine/\(a==sysModules)=false/\∃ xs:List (List Key×Addr×Value),
   Paired (fun (p:List Key×V) (q:List Key×Addr×Value)=>p.1=q.1/\H q.2.1=some (.tup (p.1.map kV))/\RelV p.2 q.2.2) kvs xs /\
   ∃ o es ep,h.get? a=some o/\o.ExactDict/\o.data = .dict es ep/\es.toList=xs.map (entryOfKey (tupleKind (bR P w)))/\(xs.map (·.1)).Nodup
 |.set S n=>h.SetOf (intKind P w) a S n
 | .ins C dx fs=>H dx=some (.own a)/\fs.length<=1000/\dx≠a/\h.get? a=some (PySem.W.instObj C dx) /\
   ∃ mA,h.Ns1 dx mA/\(∀ f,ve (fs.lookup f) (mA f))/\PySem.Within mA (fs.map (·.1))
 |.own _=>∃ o,h.get? a=some o
 |.xd fs=>∃ mA,h.Ns1 a mA/\∀ f,ve (fs.lookup f) (mA f)
 |.rng lo hi=>∃ t u v,h.get? a=some { cls:=.type "range",data:=.fields #[.int lo t,.int hi u,.int 1 v] }
 |.frz o u=>h.get? a=some o/\cJ H h a u
 |.tbl ps=>h.get? a=some { cls:=.none,data:=.fields ps }
 |.met f x=>h.get? a=some (PySem.W.methodObj (.ref f) (.ref x))
 |.ext φ=>φ h/\(∃ o,h.get? a=some o)/\∀ h1 h2:Heap,φ h1->(∀ o,h1.get? a=some o->h2.get? a=some o)->φ h2
def iG (H:Hp)(h:Heap):Prop:=∀ a o,H a=some o->cJ P w H h a o
end
section
variable {P:Program}{w:World}{H H':Hp}{h h':Heap}{a:Addr}{o:HO}
theorem cJ.lt (x:cJ P w H h a o):a<h.objs.size:=by
 cases o with
 |lst xs=>obtain⟨_,_,_,_,e⟩:=x;exact Heap.lt_size e
 |tup xs=>obtain⟨_,_,_,p⟩:=x;exact p.lt
 |dK kvs=>obtain⟨_,_,_,_,o,_,_,e,_⟩:=x;exact Heap.lt_size e
 |dT kvs=>obtain⟨_,_,_,_,o,_,_,e,_⟩:=x;exact Heap.lt_size e
 |set S n=>obtain⟨o,_,_,_,e,_⟩:=x;exact Heap.lt_size e
 |ins C dx fs=>obtain⟨_,_,_,e,_⟩:=x;exact Heap.lt_size e
 |own y=>obtain⟨_,e⟩:=x;exact Heap.lt_size e
 |xd fs=>obtain⟨_,⟨_,_,_,e,_⟩,_⟩:=x;exact Heap.lt_size e
 |rng lo hi=>obtain⟨_,_,_,e⟩:=x;exact Heap.lt_size e
 |frz ob u=>obtain⟨e,_⟩:=x;exact Heap.lt_size e
 |tbl ps=>exact Heap.lt_size (show h.get? a=some _ from x)
 |met f y=>exact Heap.lt_size (show h.get? a=some _ from x)
 |ext φ=>obtain⟨_,⟨_,e⟩,_⟩:=x;exact Heap.lt_size e
theorem Paired.mapP {α β:Type}{F G:α->β->Prop}:∀{l₁:List α}{l₂:List β},Paired F l₁ l₂->(∀ a b,F a b->G a b)->Paired G l₁ l₂
 |_,_,.nil,_=>.nil
 |_,_,.cons r t,f=>.cons (f _ _ r) (Paired.mapP t f)
theorem cJ.stay (x:cJ P w H h a o)(k:∀ b u,(b=a\/H b=some (.own a))->h.get? b=some u->h'.get? b=some u)
  (ho:∀ b,H b=some (.own a)->H' b=some (.own a)) (ht:∀ b xs,H b=some (.tup xs)->H' b=some (.tup xs)):cJ P w H' h' a o:=by
 induction o with
 |lst xs=>obtain⟨z,its,n,r,e⟩:=x;exact⟨z,its,n,r,k _ _ (.inl rfl) e⟩
 |tup xs=>obtain⟨z,its,r,ob,e,c⟩:=x;exact⟨z,its,r,ob,k _ _ (.inl rfl) e,c⟩
 |dK kvs=>obtain⟨z,y,vs,r,ob,es,ep,e,c⟩:=x;exact⟨z,y,vs,r,ob,es,ep,k _ _ (.inl rfl) e,c⟩
 |dT kvs =>
  obtain⟨z,y,xs,r,ob,es,ep,e,c⟩:=x;exact⟨z,y,xs,Paired.mapP r fun p q z=>⟨z.1,ht _ _ z.2.1,z.2.2⟩,ob,es,ep,k _ _ (.inl rfl) e,c⟩
 |set S n=>obtain⟨ob,es,ep,t,e,c⟩:=x;exact⟨ob,es,ep,t,k _ _ (.inl rfl) e,c⟩
 |ins C dx fs =>
  obtain⟨d,z,ne,e,mA,⟨od,es,ep,e2,c⟩,r⟩:=x;exact⟨ho _ d,z,ne,k _ _ (.inl rfl) e,mA,⟨od,es,ep,k _ _ (.inr d) e2,c⟩,r⟩
 |own y=>obtain⟨ob,e⟩:=x;exact⟨ob,k _ _ (.inl rfl) e⟩
 |xd fs=>obtain⟨mA,⟨od,es,ep,e,c⟩,r⟩:=x;exact⟨mA,⟨od,es,ep,k _ _ (.inl rfl) e,c⟩,r⟩
 |rng lo hi=>obtain⟨t,u,v,e⟩:=x;exact⟨t,u,v,k _ _ (.inl rfl) e⟩
 |frz ob u ih=>obtain⟨e,q⟩:=x;exact⟨k _ _ (.inl rfl) e,ih q⟩
 |tbl ps =>
  have e:h.get? a=some { cls:=.none,data:=.fields ps }:=x;show h'.get? a=some { cls:=.none,data:=.fields ps };exact k a _ (.inl rfl) e
 |met f y =>
  have e:h.get? a=some (PySem.W.methodObj (.ref f) (.ref y)):=x;show h'.get? a=some (PySem.W.methodObj (.ref f) (.ref y));exact k a _ (.inl rfl) e
 |ext φ=>obtain⟨p,⟨o,e⟩,st⟩:=x;exact⟨st _ _ p fun o q=>k _ _ (.inl rfl) q,⟨o,k _ _ (.inl rfl) e⟩,st⟩
theorem iG.lt (x:iG P w H h)(e:H a=some o):a<h.objs.size:=(x a o e).lt
theorem iG.fresh (x:iG P w H h)(e:h.objs.size<=a):H a=none:=by
 cases q:H a with
 |none=>rfl
 |some u=>exact absurd (ay (x.lt q) e) (du _)
theorem iG.kept (x:iG P w H h)(k:∀ b u,h.get? b=some u->h'.get? b=some u):iG P w H h':=fun a o e =>
 (x a o e).stay (fun b u _ q=>k b u q) (fun _ q=>q) fun _ _ q=>q
theorem iG.laid (x:iG P w H h)(k:∀ b u,h.get? b=some u->h'.get? b=some u)(hp:h.objs.size<=a)(new:cJ P w (upd H a o) h' a o):iG P w (upd H a o) h':=fun b u e=>by
 have hn:=x.fresh hp;by_cases hb:b=a
 ·subst hb;rw[aP] at e;cases e;exact new
 ·rw[aO hb] at e;exact (x b u e).stay (fun c v _ q=>k c v q) (fun c q=>by rw[aO (fT q hn)];exact q) fun c xs q=>by rw[aO (fT q hn)];exact q
end
def Rd (H:Hp)(a:Addr)(u:HO):Prop:=H a=some u\/∃ o,H a=some (.frz o u)
theorem Rd.ok {P:Program}{w:World}{H:Hp}{h:Heap}{a:Addr}{u:HO}(r:Rd H a u)(x:iG P w H h):cJ P w H h a u:=by
 rcases r with r | ⟨o,r⟩
 ·exact x a u r
 ·obtain⟨_,q⟩:=x a _ r;exact q
noncomputable def pW:Option HO->Prop
 | some (.lst _)=>True
 | some (.dK _)=>True
 | some (.dT _)=>True
 | some (.set _ _)=>True
 | some (.ins _ _ _)=>True
 | some (.ext _)=>True
 |_=>False
section
variable {P:Program}{w:World}{H:Hp}{h h':Heap}{x e:Addr}{o':HO}
theorem iG.write (ok:iG P w H h)(mu:pW (H x))(he:e=x\/H e=some (.own x))(k:∀ b u,b≠e->h.get? b=some u->h'.get? b=some u)(heo:∃ u,h'.get? e=some u)
  (new:cJ P w (upd H x o') h' x o'):iG P w (upd H x o') h':=fun b u q=>by
 have nown:∀ c y,H c=some (.own y)->c≠x:=fun c y r z=>by subst z;rw[r] at mu;exact mu
 have ntup:∀ c xs,H c=some (.tup xs)->c≠x:=fun c xs r z=>by subst z;rw[r] at mu;exact mu
 by_cases hb:b=x
 ·subst hb;rw[aP] at q;cases q;exact new
 ·rw[aO hb] at q;by_cases hbe:b=e
  ·have q':H b=some (.own x):=by
    rcases he with z | z
    ·exact absurd (hbe.trans z) hb
    ·rw[hbe];exact z
   rw[q] at q';cases q';obtain⟨v,hv⟩:=heo;exact⟨v,by rw[hbe];exact hv⟩
  ·refine (ok b u q).stay (fun c v hc r=>k c v ?_ r) (fun c r=>by rw[aO (nown c b r)];exact r) fun c xs r=>by rw[aO (ntup c xs r)];exact r
   rcases hc with rfl | hc
   ·exact hbe
   ·rintro rfl;rcases he with z | z
    ·exact nown c b hc z
    ·rw[hc] at z;cases z;exact hb rfl
end
structure Un (fs ex:List Addr)(H H':Hp)(h h':Heap):Prop where
 keep:∀ b o,h.get? b=some o->H b=none->b∉fs->b∉ex->h'.get? b=some o
 slot:∀ b o,h.get? b=some o->H b=none->b∈fs->b∉ex->∃ sl,h'.get? b=some { o with slots:=sl }
 free:∀ b o,h.get? b=some o->H b=none->b∉ex->H' b=none
 there:∀ b o,h.get? b=some o->b∉ex->∃ o',h'.get? b=some o'
 tups:∀ b xs,H b=some (.tup xs)->H' b=some (.tup xs)
 frzs:∀ b o u,H b=some (.frz o u)->H' b=some (.frz o u)
 tbls:∀ b ps,H b=some (.tbl ps)->∃ more,H' b=some (.tbl (ps++more))
section
variable {fs fs' ex ex':List Addr}{H H1 H2:Hp}{h h1 h2 h':Heap}{a x e:Addr}{o:HO}
theorem Un.any (u:Un fs ex H H1 h h1){b:Addr}{ob:Obj}(q:h.get? b=some ob)(n:H b=none)(hx:b∉ex):∃ sl,h1.get? b=some { ob with slots:=sl }:=by
 by_cases hb:b∈fs
 ·exact u.slot b ob q n hb hx
 ·exact⟨ob.slots,u.keep b ob q n hb hx⟩
theorem Un.kept (k:∀ b u,h.get? b=some u->h'.get? b=some u):Un fs ex H H h h' :=
 ⟨fun b ob q _ _ _=>k b ob q,fun b ob q _ _ _=>⟨ob.slots,k b ob q⟩,fun _ _ _ n _=>n,fun b ob q _=>⟨ob,k b ob q⟩,fun _ _ q=>q,fun _ _ _ q=>q,fun _ ps q=>⟨#[],by rw[q];simp⟩⟩
theorem Un.refl:Un fs ex H H h h:=Un.kept fun _ _ q=>q
theorem Un.laid (k:∀ b u,h.get? b=some u->h'.get? b=some u)(hp:h.objs.size<=a)(hn:H a=none):Un fs ex H (upd H a o) h h' where
 keep:=fun b u q _ _ _=>k b u q
 slot:=fun b u q _ _ _=>⟨u.slots,k b u q⟩
 free:=fun b u q n _=>by rw[aO (ba (ay (Heap.lt_size q) hp))];exact n
 there:=fun b u q _=>⟨u,k b u q⟩
 tups:=fun b xs q=>by rw[aO (fT q hn)];exact q
 frzs:=fun b u xs q=>by rw[aO (fT q hn)];exact q
 tbls:=fun b ps q=>⟨#[],by rw[aO (fT q hn),q];simp⟩
theorem Un.write (mu:pW (H x))(he:e=x\/H e=some (.own x))(k:∀ b u,b≠e->h.get? b=some u->h'.get? b=some u)(heo:∃ u,h'.get? e=some u):Un fs ex H (upd H x o) h h':=by
 have hx:∀ b,H b=none->b≠x:=fun b n z=>by subst z;rw[n] at mu;exact mu
 have hb:∀ b,H b=none->b≠e:=fun b n z=>by
  subst z;rcases he with r | r
  ·exact hx b n r
  ·rw[n] at r;cases r
 have hm:∀ b u,H b=some u->¬ pW (some u)->b≠x:=fun b u q nm z=>by subst z;rw[q] at mu;exact nm mu
 refine⟨fun b u q n _ _=>k b u (hb b n) q,fun b u q n _ _=>⟨u.slots,k b u (hb b n) q⟩,fun b u q n _=>by rw[aO (hx b n)];exact n,fun b u q _=>?_,
  fun b xs q=>by rw[aO (hm b _ q fun z=>z)];exact q,fun b u xs q=>by rw[aO (hm b _ q fun z=>z)];exact q,fun b ps q=>⟨#[],by rw[aO (hm b _ q fun z=>z),q];simp⟩⟩
 by_cases hbe:b=e
 ·subst hbe;exact heo
 ·exact⟨u,k b u hbe q⟩
end
noncomputable def trk (h:Heap)(H:Hp):List Addr:=(List.range h.objs.size).filter fun a=>(H a).isSome
noncomputable def oA (h:Heap)(H:Hp):Heap:=PySem.W.hideAll h (trk h H)
theorem uG (h:Heap)(H:Hp):(oA h H).objs.size=h.objs.size:=PySem.W.hideAll_size _ _
theorem xK {h:Heap}{H:Hp}{b:Addr}{o:Obj}(e:h.get? b=some o)(n:H b=none):(oA h H).get? b=some o :=
 gj _ e fun hm=>by
  have q:(H b).isSome=true:=(List.mem_filter.mp hm).2;rw[n] at q;simp at q
theorem zH {h:Heap}{H:Hp}{b:Addr}{o:Obj}(e:(oA h H).get? b=some o):h.get? b=some o/\H b=none:=by
 have e':h.get? b=some o:=ik (trk h H) e;refine⟨e',?_⟩;cases q:H b with
 |none=>rfl
 |some x =>
  have hm:b∈trk h H:=List.mem_filter.mpr ⟨List.mem_range.mpr (Heap.lt_size e'),by simp[q]⟩;have z:(oA h H).get? b=none:=PySem.W.hideAll_none (trk h H) hm;rw[z] at e;cases e
noncomputable def Ag (g h:Heap)(L:Addr):List (Addr×Obj):=(List.range h.objs.size).filterMap fun a=>if a=L\/(g.get? a).isSome=true then none else (h.get? a).map fun o=>(a,o)
noncomputable def rest (g h:Heap)(L d:Addr):List (Addr×Obj):=(Ag g h L).filter fun p=>decide (p.1≠d)
end L2
namespace L2
open PySem PySem.Spec PyProof.Rows
structure Mod (K:PySem.W.Frag)(mg:Str->Option Value)(base:Heap):Prop where
 kin:K.In base
 glob:base.Ns mainGlobals mg
 blt:∃ mb,base.Ns builtinsNs mb/\∀ x:Str,x≠"__name__"->mb x=bootBuiltins x
 nolimit:base.NoLimit
structure Cx where
 prog:Program
 w:World
 K:PySem.W.Frag
 mg:Str->Option Value
 base:Heap
 A:Around
 N:List Str
 s₀:Shared
 H₀:Hp
 env:Env
 outer:List Env
 stack:List Env
 ex:List Addr
 fn:Str->Bool
 calm:Bool
 pn:List (Addr×Obj)
 xe:Value->Shared->Prop
noncomputable def cQ (l:List Env):List Addr:=l.filterMap (·.frame)
noncomputable abbrev Cx.fs (X:Cx):List Addr:=cQ X.outer
def BQ (sc:Scope)(x:Str):Prop:=sc.names.lookup x=some .local\/sc.names.lookup x=some .cell\/sc.names.lookup x=some .free
def Loc (sc:Scope)(x:Str):Prop:=sc.names.lookup x=some .local\/sc.names.lookup x=some .cell
noncomputable def Look (env:Env)(h:Heap)(m:Str->Option Value)(x:Str)(u:Value):Prop :=
 (env.kindOf x=some .local/\m x=some u)\/((env.kindOf x=some .cell\/env.kindOf x=some .free)/\∃ c,env.cells.lookup x=some c/\h.IsCell c (some u))
structure Cx.Ok (X:Cx):Prop where
 mod:Mod X.K X.mg X.base
 kind:X.env.scope.kind = .function
 glob:X.env.globals=mainGlobals
 blt:X.env.builtins=builtinsNs
 above:X.s₀.heap.objs.size<=X.env.locals
 inj:∀ x y c,X.env.cells.lookup x=some c->X.env.cells.lookup y=some c->x=y
 has:∀ x,(X.env.kindOf x=some .cell\/X.env.kindOf x=some .free)->∃ c,X.env.cells.lookup x=some c
 cab:∀ x c,X.fn x=true->X.env.cells.lookup x=some c->X.s₀.heap.objs.size<=c
 hd:X.calm=true->X.A.handled=none
 frames:X.A.frames=some X.stack
 stk:X.stack=X.outer\/(X.stack=X.env::X.outer/\X.env.frame=some X.env.locals)
 exf:∀ b∈X.ex,b≠X.env.locals/\∀ x c,X.env.cells.lookup x=some c->c≠b
 bs:∀ b o,X.base.get? b=some o->X.s₀.heap.get? b=some o/\X.H₀ b=none
 bsz:X.base.objs.size<=X.s₀.heap.objs.size
 noex:∀ b o,X.base.get? b=some o->b∉X.ex
 exfs:∀ b∈X.ex,b∉X.fs
 funs:X.s₀.heap.FunFrames X.base X.outer
 frf:∀ b∈X.fs,X.H₀ b=none
structure Inv (X:Cx)(pins:List (Addr×Obj))(σ:List (Option V))(H:Hp)(s:Shared):Prop where
 ok:X.Ok
 os:s.os=X.s₀.os
 bare:AllBare s.gens
 base:Un X.fs X.ex X.H₀ H X.s₀.heap s.heap
 loc:∃ m,s.heap.Ns X.env.locals m/\∀(i:Nat) (x:Str) (v:V),X.N[i]? = some x->σ[i]? = some (some v)->BQ X.env.scope x->∃ u,RelV v u/\Look X.env s.heap m x u
 cell:∀ x c,X.env.cells.lookup x=some c->∃ v,s.heap.IsCell c v
 free:H X.env.locals=none
 freeC:∀ x c,X.env.cells.lookup x=some c->H c=none
 pin:∀ p∈X.pn++pins,s.heap.get? p.1=some p.2/\H p.1=none/\p.1≠X.env.locals/\p.1∉X.fs/\∀ v,p.2.data≠.cell v
 hok:iG X.prog X.w H s.heap
 len:σ.length=X.N.length
section
variable {X:Cx}{pins:List (Addr×Obj)}{σ:List (Option V)}{H H':Hp}{s:Shared}{h':Heap}
theorem Cx.Ok.nofr (ok:X.Ok){b:Addr}{o:Obj}(e:X.base.get? b=some o):b∉X.fs:=fun hb=>by
 have:=(ok.funs.mem hb).1;rw[e] at this;cases this
theorem Inv.bs (I:Inv X pins σ H s):∀ b o,X.base.get? b=some o->s.heap.get? b=some o/\H b=none:=fun b o e =>
 ⟨I.base.keep b o (I.ok.bs b o e).1 (I.ok.bs b o e).2 (I.ok.nofr e) (I.ok.noex b o e),I.base.free b o (I.ok.bs b o e).1 (I.ok.bs b o e).2 (I.ok.noex b o e)⟩
theorem Inv.bk (I:Inv X pins σ H s):∀ b o,X.base.get? b=some o->s.heap.get? b=some o:=fun b o e=>(I.bs b o e).1
theorem Inv.mod (I:Inv X pins σ H s):Mod X.K X.mg X.base:=I.ok.mod
theorem Inv.kIn (I:Inv X pins σ H s):X.K.In s.heap:=I.ok.mod.kin.keeps I.bk
theorem Inv.lt (I:Inv X pins σ H s):X.env.locals<s.heap.objs.size:=let ⟨_,hn,_⟩:=I.loc;hn.lt
theorem Inv.sz (I:Inv X pins σ H s):X.s₀.heap.objs.size<=s.heap.objs.size:=bj I.ok.above (Nat.le_of_lt I.lt)
theorem Inv.nofs (I:Inv X pins σ H s){a:Addr}(h:s.heap.objs.size<=a):a∉X.fs:=fun hb=>by
 obtain⟨_,o,ho,_⟩:=I.ok.funs.mem hb;exact absurd (ay (Heap.lt_size ho) (bj I.sz h)) (du _)
theorem Inv.cne (I:Inv X pins σ H s):∀ x c,X.env.cells.lookup x=some c->c≠X.env.locals:=fun x c e z=>by
 obtain⟨v,o,ho,hd⟩:=I.cell x c e;obtain⟨m,⟨o',es,ep,ho',hd',_⟩,_⟩:=I.loc;rw[z,ho'] at ho;cases ho;rw[hd'] at hd;cases hd
theorem Inv.funs (I:Inv X pins σ H s):s.heap.FunFrames X.base X.outer:=by
 have all:∀(l:List Env),(∀ b∈cQ l,b∈X.fs)->X.s₀.heap.FunFrames X.base l->s.heap.FunFrames X.base l:=by
  intro l
  induction l with
  |nil=>intro _ _;trivial
  |cons env r ih =>
   intro hs hl;obtain⟨hk,⟨L,o,hf,hn,ho,hd⟩,hr⟩:=hl;have hL:L∈X.fs:=hs L (by unfold cQ;rw[gm,hf];exact ak);obtain⟨sl,e⟩:=I.base.slot L o ho (I.ok.frf L hL) hL fun z=>I.ok.exfs L z hL
   exact⟨hk,⟨L,_,hf,hn,e,hd⟩,ih (fun b hb=>hs b (by unfold cQ;rw[gm,hf];exact ah _ hb)) hr⟩
 exact all X.outer (fun _ hb=>hb) I.ok.funs
theorem Inv.stack (I:Inv X pins σ H s):s.heap.FunFrames X.base X.stack:=by
 rcases I.ok.stk with e | ⟨e,hf⟩
 ·rw[e];exact I.funs
 ·rw[e];obtain⟨m,hn,_⟩:=I.loc;refine .cons (by rw[I.ok.kind];decide) hf hn ?_ I.funs;exact Heap.get?_none_of_le (bj I.ok.bsz I.ok.above)
theorem Inv.stkSub (I:Inv X pins σ H s):∀ b∈cQ X.stack,b∈X.env.locals::X.fs:=fun b hb=>by
 rcases I.ok.stk with e | ⟨e,hf⟩
 ·rw[e] at hb;exact ah _ hb
 ·rw[e] at hb;unfold cQ at hb;rw[gm,hf] at hb;exact hb
theorem Inv.stkFree (I:Inv X pins σ H s):∀ b∈cQ X.stack,H b=none:=fun b hb=>by
 rcases iy.mp (I.stkSub b hb) with e | hb
 ·rw[e];exact I.free
 ·obtain⟨_,o,ho,_⟩:=I.ok.funs.mem hb;exact I.base.free b o ho (I.ok.frf b hb) fun z=>I.ok.exfs b z hb
theorem Inv.step {g':Array GenState}{t':Nat}{d':Drawn}{ch:List Addr}(I:Inv X pins σ H s)
  (hch:∀ b∈ch,(b∈X.ex\/X.s₀.heap.objs.size<=b)/\b≠X.env.locals/\(∀ x c,X.env.cells.lookup x=some c->c≠b)/\∀ p∈X.pn++pins,p.1≠b)
  (keep:∀ b o,b≠X.env.locals->b∉X.fs->b∉ch->s.heap.get? b=some o->H b=none->h'.get? b=some o)
  (slot:∀ b o,b≠X.env.locals->b∈X.fs->b∉ch->s.heap.get? b=some o->H b=none->∃ sl,h'.get? b=some { o with slots:=sl }) (free:∀ b o,b∉ch->s.heap.get? b=some o->H b=none->H' b=none)
  (there:∀ b o,b∉ch->s.heap.get? b=some o->∃ o',h'.get? b=some o')
  (tups:∀ b xs,H b=some (.tup xs)->H' b=some (.tup xs)) (frzs:∀ b o u,H b=some (.frz o u)->H' b=some (.frz o u)) (tbls:∀ b ps,H b=some (.tbl ps)->∃ more,H' b=some (.tbl (ps++more)))
  (ns:∀ m,s.heap.Ns X.env.locals m->h'.Ns X.env.locals m) (hok:iG X.prog X.w H' h') (hg:AllBare g') :
  Inv X pins σ H' { s with heap:=h',gens:=g',drawn:=d',toks:=t' }:=by
 have neL:∀ b o,X.s₀.heap.get? b=some o->b≠X.env.locals:=fun b o e=>ba (ay (Heap.lt_size e) I.ok.above)
 have neC:∀ b o,X.s₀.heap.get? b=some o->b∉X.ex->b∉ch:=fun b o e hx hb=>by
  rcases (hch b hb).1 with z | z
  ·exact hx z
  ·exact absurd (ay (Heap.lt_size e) z) (du _)
 have cellK:∀ x c,X.env.cells.lookup x=some c->∀ v,s.heap.IsCell c v->h'.IsCell c v:=fun x c e v ⟨o,ho,hd⟩=>by
  have nch:c∉ch:=fun z=>(hch c z).2.2.1 x c e rfl
  by_cases hc:c∈X.fs
  ·obtain⟨sl,q⟩:=slot c o (I.cne x c e) hc nch ho (I.freeC x c e);exact⟨_,q,hd⟩
  ·exact⟨o,keep c o (I.cne x c e) hc nch ho (I.freeC x c e),hd⟩
 refine⟨I.ok,I.os,hg,⟨fun b o e n hb hx=>?_,fun b o e n hb hx=>?_,fun b o e n hx=>?_,fun b o e hx=>?_,fun b xs e=>tups b xs (I.base.tups b xs e),fun b o xs e=>frzs b o xs (I.base.frzs b o xs e),fun b ps e=>?_⟩,?_,fun x c e=>?_,?_,fun x c e=>?_,fun p hp=>?_,hok,I.len⟩
 ·exact keep b o (neL b o e) hb (neC b o e hx) (I.base.keep b o e n hb hx) (I.base.free b o e n hx)
 ·obtain⟨sl,e1⟩:=I.base.slot b o e n hb hx;obtain⟨sl',e2⟩:=slot b _ (neL b o e) hb (neC b o e hx) e1 (I.base.free b o e n hx);exact⟨sl',e2⟩
 ·obtain⟨o',e1⟩:=I.base.there b o e hx;exact free b o' (neC b o e hx) e1 (I.base.free b o e n hx)
 ·obtain⟨o',e1⟩:=I.base.there b o e hx;exact there b o' (neC b o e hx) e1
 ·obtain⟨m1,e1⟩:=I.base.tbls b ps e;obtain⟨m2,e2⟩:=tbls b _ e1;exact⟨m1++m2,by rw[e2,Array.append_assoc]⟩
 ·obtain⟨m,hn,hl⟩:=I.loc;refine⟨m,ns m hn,fun i x v e1 e2 e3=>?_⟩;obtain⟨u,r,l⟩:=hl i x v e1 e2 e3;refine⟨u,r,?_⟩;rcases l with l | ⟨k,c,e,z⟩
  ·exact .inl l
  ·exact .inr ⟨k,c,e,cellK x c e _ z⟩
 ·obtain⟨v,z⟩:=I.cell x c e;exact⟨v,cellK x c e v z⟩
 ·obtain⟨m,⟨o,_,_,ho,_⟩,_⟩:=I.loc;exact free _ o (fun z=>(hch _ z).2.1 rfl) ho I.free
 ·obtain⟨v,o,ho,hd⟩:=I.cell x c e;exact free c o (fun z=>(hch c z).2.2.1 x c e rfl) ho (I.freeC x c e)
 ·obtain⟨e,n,ne,nf,d⟩:=I.pin p hp;have nch:p.1∉ch:=fun z=>(hch p.1 z).2.2.2 p hp rfl
  exact⟨keep p.1 p.2 ne nf nch e n,free p.1 p.2 nch e n,ne,nf,d⟩
theorem Inv.un {t':Nat}(I:Inv X pins σ H s)(u:Un X.fs [] H H' s.heap h')(hok:iG X.prog X.w H' h'):Inv X pins σ H' { s with heap:=h',toks:=t' }:=by
 obtain⟨m,⟨o,es,ep,ho,r⟩,_⟩:=id I.loc;obtain⟨sl,hL⟩:=u.any ho I.free (by simp);exact I.step (g':=s.gens) (d':=s.drawn) (ch:=[]) (fun _ z=>nomatch z) (fun b o _ hb _ e n=>u.keep b o e n hb (by simp)) (fun b o _ hb _ e n=>u.slot b o e n hb (by simp)) (fun b o _ e n=>u.free b o e n (by simp)) (fun b o _ e=>u.there b o e (by simp)) u.tups u.frzs u.tbls (fun m' hm=>by
  obtain⟨o',es',ep',ho',r'⟩:=hm;rw[ho] at ho';cases ho';exact⟨_,es',ep',hL,r'⟩) hok I.bare
theorem Inv.call {g':Array GenState}{t':Nat}{d':Drawn}{ch:List Addr}(I:Inv X pins σ H s)(u:Un (cQ X.stack) ch H H' s.heap h')(hok:iG X.prog X.w H' h')(hg:AllBare g')
  (hch:∀ b∈ch,(b∈X.ex\/X.s₀.heap.objs.size<=b)/\b≠X.env.locals/\(∀ x c,X.env.cells.lookup x=some c->c≠b)/\∀ p∈X.pn++pins,p.1≠b) :
  Inv X pins σ H' { s with heap:=h',gens:=g',drawn:=d',toks:=t' }:=by
 obtain⟨m,⟨o,es,ep,ho,r⟩,_⟩:=id I.loc;obtain⟨sl,hL⟩:=u.any ho I.free fun z=>(hch _ z).2.1 rfl
 exact I.step (ch:=ch) hch (fun b o hL hb hc e n=>u.keep b o e n (fun z=>(iy.mp (I.stkSub b z)).elim hL hb) hc) (fun b o _ _ hc e n=>u.any e n hc) (fun b o hc e n=>u.free b o e n hc) (fun b o hc e=>u.there b o e hc) u.tups u.frzs u.tbls (fun m' hm=>by
  obtain⟨o',es',ep',ho',r'⟩:=hm;rw[ho] at ho';cases ho';exact⟨_,es',ep',hL,r'⟩) hok hg
theorem Inv.turned {t':Nat}{it:Addr}(I:Inv X pins σ H s)(k:∀ b o,b≠it->s.heap.get? b=some o->h'.get? b=some o)(hn:H it=none)(hL:it≠X.env.locals)
  (h1:it∈X.ex\/X.s₀.heap.objs.size<=it) (h2:∀ x c,X.env.cells.lookup x=some c->c≠it) (h3:∀ p∈X.pn++pins,p.1≠it):Inv X pins σ H { s with heap:=h',toks:=t' }:=by
 have nit:∀ b u,H b=some u->b≠it:=fun b u e z=>by rw[z,hn] at e;cases e
 refine I.step (g':=s.gens) (d':=s.drawn) (ch:=[it]) (fun b hb=>?_) (fun b o _ _ hc e _=>k b o (fun z=>hc (by simp[z])) e) (fun b o _ _ hc e _=>⟨o.slots,k b o (fun z=>hc (by simp[z])) e⟩) (fun _ _ _ _ n=>n)
  (fun b o hc e=>⟨o,k b o (fun z=>hc (by simp[z])) e⟩) (fun _ _ e=>e) (fun _ _ _ e=>e) (fun b ps e=>⟨#[],by rw[e];simp⟩) (fun m hm=>?_) (fun b u e=>?_) I.bare
 ·have e:b=it:=by simpa using hb
  subst e;exact⟨h1,hL,h2,h3⟩
 ·obtain⟨o,es,ep,ho,r⟩:=hm;exact⟨o,es,ep,k _ o (cy hL) ho,r⟩
 ·refine (I.hok b u e).stay (fun c v hc q=>k c v ?_ q) (fun _ q=>q) fun _ _ q=>q
  rcases hc with z | z
  ·rw[z];exact nit b u e
  ·exact nit c _ z
theorem Inv.tok (I:Inv X pins σ H s)(t:Nat):Inv X pins σ H { s with toks:=t }:=I.un (h':=s.heap) (t':=t) Un.refl I.hok
theorem Inv.kept {t':Nat}(I:Inv X pins σ H s)(k:∀ b u,s.heap.get? b=some u->h'.get? b=some u):Inv X pins σ H { s with heap:=h',toks:=t' }:=I.un (Un.kept k) (I.hok.kept k)
theorem Inv.laid {a:Addr}{o:HO}{t':Nat}(I:Inv X pins σ H s)(k:∀ b u,s.heap.get? b=some u->h'.get? b=some u)(hp:s.heap.objs.size<=a)(new:cJ X.prog X.w (upd H a o) h' a o) :
  Inv X pins σ (upd H a o) { s with heap:=h',toks:=t' }:=I.un (Un.laid k hp (I.hok.fresh hp)) (I.hok.laid k hp new)
theorem Inv.write {x e:Addr}{o:HO}{t':Nat}(I:Inv X pins σ H s)(mu:pW (H x))(he:e=x\/H e=some (.own x))(k:∀ b u,b≠e->s.heap.get? b=some u->h'.get? b=some u)(heo:∃ u,h'.get? e=some u)
  (new:cJ X.prog X.w (upd H x o) h' x o):Inv X pins σ (upd H x o) { s with heap:=h',toks:=t' }:=I.un (Un.write mu he k heo) (I.hok.write mu he k heo new)
theorem Inv.weak {σ':List (Option V)}(I:Inv X pins σ H s)(hl:σ'.length=σ.length)(w:∀(i:Nat) v,σ'[i]? = some (some v)->σ[i]? = some (some v)):Inv X pins σ' H s :=
 ⟨I.ok,I.os,I.bare,I.base,let ⟨m,hn,hl'⟩:=I.loc;⟨m,hn,fun i x v e1 e2 e3=>hl' i x v e1 (w i v e2) e3⟩,I.cell,I.free,I.freeC,I.pin,I.hok,hl.trans I.len⟩
theorem Inv.pins_of {pins':List (Addr×Obj)}(I:Inv X pins σ H s)(h:∀ p∈pins',s.heap.get? p.1=some p.2/\H p.1=none/\p.1≠X.env.locals/\p.1∉X.fs/\∀ v,p.2.data≠.cell v):Inv X pins' σ H s :=
 ⟨I.ok,I.os,I.bare,I.base,I.loc,I.cell,I.free,I.freeC,fun p hp=>(List.mem_append.mp hp).elim (fun z=>I.pin p (bg _ z)) (h p),I.hok,I.len⟩
theorem lD {N:List Str}(hN:N.Nodup){i j:Nat}{x:Str}(a:N[i]? = some x)(b:N[j]? = some x):i=j:=by
 obtain⟨h1,e1⟩:=List.getElem?_eq_some_iff.mp a;obtain⟨h2,e2⟩:=List.getElem?_eq_some_iff.mp b;exact (List.getElem_inj hN).mp (e1.trans e2.symm)
theorem vm {M:Model}{A:Around}{E:Value->Shared->Prop}{i:Nat}{x:Str}{v:V}{u:Value}{Q:Unit->Shared->Prop}(I:Inv X pins σ H s)(hN:X.N.Nodup)(hi:X.N[i]? = some x)(hx:Loc X.env.scope x)(r:RelV v u)
  (h:∀ s',Inv X pins (σ.set i (some v)) H s'->(∃ a,Heap.SameBut a s.heap s'.heap/\(a=X.env.locals\/X.env.cells.lookup x=some a))->Q () s') (hf:X.fn x=true\/X.env.scope.names.lookup x=some .local:=by first | exact .inl rfl | exact .inr rfl | assumption):wpAny M A (storeName X.env x u) Q E s:=by
 obtain⟨m,hn,hl⟩:=id I.loc;have hcls:(X.env.scope.kind == .class || (X.env.scope.kind == .module&&X.env.locals != X.env.globals))=false:=by rw[I.ok.kind];rfl
 have hiσ:i<σ.length:=by rw[I.len];exact (List.getElem?_eq_some_iff.mp hi).1
 have cne:=I.cne;have tracked:∀{a:Addr}{h':Heap},(∃ o,s.heap.get? a=some o/\H a=none)->Heap.SameBut a s.heap h'->iG X.prog X.w H h':=fun {a h'} ha hs b ob e=>by
  obtain⟨_,_,hfree⟩:=ha;refine (I.hok b ob e).stay (fun c w' hc q=>(hs.2 c ?_).trans q) (fun _ q=>q) fun _ _ q=>q
  rintro rfl;rcases hc with rfl | hc
  ·rw[hfree] at e;cases e
  ·rw[hfree] at hc;cases hc
 rcases hx with hk | hk
 ·refine wpAny_storeName_local hk hn (fun h' hn' hs=>?_) hcls;obtain⟨oL,_,_,hoL,_⟩:=id hn;refine h _ ⟨I.ok,I.os,I.bare,⟨fun b o e n hb hx=>?_,fun b o e n hb hx=>?_,I.base.free,fun b o e hx=>?_,I.base.tups,I.base.frzs,I.base.tbls⟩,⟨_,hn',fun j y v' e1 e2 e3=>?_⟩,fun y c e=>?_,I.free,I.freeC,fun p hp=>?_,tracked ⟨oL,hoL,I.free⟩ hs,by simpa using I.len⟩ ⟨_,hs,.inl rfl⟩
  ·exact (hs.2 b (ba (ay (Heap.lt_size e) I.ok.above))).trans (I.base.keep b o e n hb hx)
  ·obtain⟨sl,e1⟩:=I.base.slot b o e n hb hx;exact⟨sl,(hs.2 b (ba (ay (Heap.lt_size e) I.ok.above))).trans e1⟩
  ·obtain⟨o',e1⟩:=I.base.there b o e hx;exact⟨o',(hs.2 b (ba (ay (Heap.lt_size e) I.ok.above))).trans e1⟩
  ·by_cases hj:j=i
   ·subst hj;rw[hi] at e1;cases e1;rw[List.getElem?_set_self hiσ] at e2;cases e2;exact⟨u,r,.inl ⟨hk,by simp⟩⟩
   ·rw[List.getElem?_set_ne (cy hj)] at e2;obtain⟨u',r',q⟩:=hl j y v' e1 e2 e3;refine⟨u',r',?_⟩;rcases q with ⟨k,e⟩ | ⟨k,c,e,z⟩
    ·refine .inl ⟨k,?_⟩;have:y≠x:=fun e=>hj (lD hN e1 (e ▸ hi))
     simp[this,e]
    ·exact .inr ⟨k,c,e,z.sameBut hs (cne y c e)⟩
  ·obtain⟨w',z⟩:=I.cell y c e;exact⟨w',z.sameBut hs (cne y c e)⟩
  ·obtain⟨e,n,ne,nf,d⟩:=I.pin p hp;exact⟨(hs.2 p.1 ne).trans e,n,ne,nf,d⟩
 ·have hfn:X.fn x=true:=by
   rcases hf with z | z
   ·exact z
   ·rw[z] at hk;cases hk
  obtain⟨c,hc⟩:=I.ok.has x (.inl hk);obtain⟨w',z⟩:=I.cell x c hc;refine wpAny_storeName_cell I.ok.kind hk hc z (fun h' hc' hs=>?_);obtain⟨oc,hoc,hocd⟩:=id z;refine h { s with heap:=h' } ⟨I.ok,I.os,I.bare,⟨fun b o e n hb hx=>?_,fun b o e n hb hx=>?_,I.base.free,fun b o e hx=>?_,I.base.tups,I.base.frzs,I.base.tbls⟩,⟨m,hn.sameBut hs (Ne.symm (cne x c hc)),fun j y v' e1 e2 e3=>?_⟩,fun y c' e=>?_,I.free,I.freeC,fun p hp=>?_,tracked ⟨oc,hoc,I.freeC x c hc⟩ hs,by simpa using I.len⟩ ⟨c,hs,.inr hc⟩
  ·exact (hs.2 b (ba (ay (Heap.lt_size e) (I.ok.cab x c hfn hc)))).trans (I.base.keep b o e n hb hx)
  ·obtain⟨sl,e1⟩:=I.base.slot b o e n hb hx;exact⟨sl,(hs.2 b (ba (ay (Heap.lt_size e) (I.ok.cab x c hfn hc)))).trans e1⟩
  ·obtain⟨o',e1⟩:=I.base.there b o e hx;exact⟨o',(hs.2 b (ba (ay (Heap.lt_size e) (I.ok.cab x c hfn hc)))).trans e1⟩
  ·by_cases hj:j=i
   ·subst hj;rw[hi] at e1;cases e1;rw[List.getElem?_set_self hiσ] at e2;cases e2;exact⟨u,r,.inr ⟨.inl hk,c,hc,hc'⟩⟩
   ·rw[List.getElem?_set_ne (cy hj)] at e2;obtain⟨u',r',q⟩:=hl j y v' e1 e2 e3;refine⟨u',r',?_⟩;rcases q with q | ⟨k,c',e,z'⟩
    ·exact .inl q
    ·refine .inr ⟨k,c',e,z'.sameBut hs ?_⟩;rintro rfl;exact hj (lD hN e1 (I.ok.inj _ _ _ e hc ▸ hi))
  ·by_cases hcc:c'=c
   ·subst hcc;exact⟨_,hc'⟩
   ·obtain⟨w2,z2⟩:=I.cell y c' e;exact⟨w2,z2.sameBut hs hcc⟩
  ·obtain⟨e,n,ne,nf,d⟩:=I.pin p hp;refine⟨(hs.2 p.1 ?_).trans e,n,ne,nf,d⟩;intro q;rw[q,hoc] at e;have q':oc=p.2:=bu e;exact d w' (by rw[<-q'];exact hocd)
theorem gQ {M:Model}{A:Around}{E:Value->Shared->Prop}{i:Nat}{x:Str}{v:V}{u:Value}{Q:Unit->Shared->Prop}(I:Inv X pins σ H s)(hN:X.N.Nodup)(hi:X.N[i]? = some x)(hx:Loc X.env.scope x)(r:RelV v u)
  (h:∀ s',Inv X pins (σ.set i (some v)) H s'->Q () s') (hf:X.fn x=true\/X.env.scope.names.lookup x=some .local:=by first | exact .inl rfl | exact .inr rfl | assumption):wpAny M A (storeName X.env x u) Q E s :=
 vm I hN hi hx r (fun s' I' _=>h s' I') hf
theorem Inv.call' {s':Shared}{ch:List Addr}(I:Inv X pins σ H s)(ho:s'.os=s.os)(u:Un (cQ X.stack) ch H H' s.heap s'.heap)(hok:iG X.prog X.w H' s'.heap)(hg:AllBare s'.gens)
  (hch:∀ b∈ch,(b∈X.ex\/X.s₀.heap.objs.size<=b)/\b≠X.env.locals/\(∀ x c,X.env.cells.lookup x=some c->c≠b)/\∀ p∈X.pn++pins,p.1≠b):Inv X pins σ H' s':=by
 obtain⟨h',g',d',t',o'⟩:=s';have e:o'=s.os:=ho;subst e;exact I.call (g':=g') (t':=t') (d':=d') u hok hg hch
end
noncomputable abbrev XK:=Value->Option Addr->Hp->Prop
noncomputable abbrev St:=List (Option V)
noncomputable abbrev VK:=V->Hp->Prop
noncomputable abbrev TE:=St->Hp->VK->Prop
noncomputable abbrev TT:=St->Hp->(Bool->Hp->Prop)->Prop
noncomputable abbrev TA:=St->Hp->(List V->Hp->Prop)->Prop
structure Ends where
 nx:St->Hp->Prop
 rt:VK
 bk:St->Hp->Prop:=fun _ _=>False
 ct:St->Hp->Prop:=fun _ _=>False
noncomputable abbrev TS:=Ends->St->Hp->Prop
def EP (X:Cx)(pins:List (Addr×Obj))(σ:St)(Q:VK)(u:Value)(s':Shared):Prop:=∃ v H',Inv X pins σ H' s'/\RelV v u/\Q v H'
def TP (X:Cx)(pins:List (Addr×Obj))(σ:St)(Q:Bool->Hp->Prop)(b:Bool)(s':Shared):Prop:=∃ H',Inv X pins σ H' s'/\Q b H'
def AP (X:Cx)(pins:List (Addr×Obj))(σ:St)(Q:List V->Hp->Prop)(us:List Value)(s':Shared):Prop:=∃ vs H',Inv X pins σ H' s'/\aM vs us/\Q vs H'
noncomputable def SP (X:Cx)(pins:List (Addr×Obj))(D:Ends)(f:Flow)(s':Shared):Prop :=
 match f with
 |.next=>∃ σ' H',Inv X pins σ' H' s'/\D.nx σ' H'
 |.brk=>∃ σ' H',Inv X pins σ' H' s'/\D.bk σ' H'
 |.cont=>∃ σ' H',Inv X pins σ' H' s'/\D.ct σ' H'
 |.ret u=>∃ v σ' H',Inv X pins σ' H' s'/\RelV v u/\D.rt v H'
noncomputable def PE (X:Cx)(e:Expr)(t:TE):Prop :=
 ∀(pins:List (Addr×Obj)) (s:Shared) (σ:St) (H:Hp) (Q:VK),Inv X pins σ H s->t σ H Q->wpAny (model X.prog X.w) X.A (eval e X.env) (EP X pins σ Q) X.xe s
noncomputable def PT (X:Cx)(e:Expr)(t:TT):Prop :=
 ∀(pins:List (Addr×Obj)) (s:Shared) (σ:St) (H:Hp) (Q:Bool->Hp->Prop),Inv X pins σ H s->t σ H Q->wpAny (model X.prog X.w) X.A (isTrue e X.env (eval e X.env)) (TP X pins σ Q) X.xe s
noncomputable def PW (X:Cx)(e:Expr)(t:TT):Prop :=
 ∀(whole:Sem Value) (pins:List (Addr×Obj)) (s:Shared) (σ:St) (H:Hp) (Q:Bool->Hp->Prop),Inv X pins σ H s->t σ H Q->wpAny (model X.prog X.w) X.A (isTrue e X.env whole) (TP X pins σ Q) X.xe s
theorem PW.pt {X:Cx}{e:Expr}{t:TT}(h:PW X e t):PT X e t:=h _
noncomputable def PA (X:Cx)(es:List Expr)(t:TA):Prop :=
 ∀(pos:Pos) (pins:List (Addr×Obj)) (s:Shared) (σ:St) (H:Hp) (Q:List V->Hp->Prop),Inv X pins σ H s->t σ H Q->wpAny (model X.prog X.w) X.A (spliced (backTo pos (starEach es X.env))) (AP X pins σ Q) X.xe s
noncomputable def PS (X:Cx)(st:Stmt)(t:TS):Prop :=
 ∀(pins:List (Addr×Obj)) (s:Shared) (σ:St) (H:Hp) (D:Ends),Inv X pins σ H s->t D σ H->wpAny (model X.prog X.w) X.A (exec st X.env) (SP X pins D) X.xe s
noncomputable def iZ (X:Cx)(st:List Stmt)(t:TS):Prop :=
 ∀(pins:List (Addr×Obj)) (s:Shared) (σ:St) (H:Hp) (D:Ends),Inv X pins σ H s->t D σ H->wpAny (model X.prog X.w) X.A (execs st X.env) (SP X pins D) X.xe s
theorem cL {α:Type}{t:Sem α}{Q Q':α->Shared->Prop}{M:Model}{A:Around}{E:Value->Shared->Prop}{s:Shared}(h:wpAny M A t Q E s)(hQ:∀ a s,Q a s->Q' a s):wpAny M A t Q' E s:=wpAny_mono h hQ fun _ _ x=>x
end L2
namespace L2
open PySem PySem.Spec PyProof.Rows
section
variable {X:Cx}
def qJ (i:Nat):TE:=fun σ H Q=>∃ v,σ[i]? = some (some v)/\Q v H
def tC (v:V):TE:=fun _ H Q=>Q v H
theorem lG {i:Nat}{x:Str}{pos:Pos}(hN:X.N[i]? = some x)(hv:BQ X.env.scope x)(hd:(x==("__debug__" : Str))=false:=by decide) (hcd:(x==("__classdict__" : Str))=false:=by decide):PE X (.Name x pos) (qJ i):=by
 intro pins s σ H Q I h;obtain⟨v,e,h⟩:=h;obtain⟨m,hn,hl⟩:=I.loc;obtain⟨u,r,l⟩:=hl i x v hN e hv;have fin:EP X pins σ Q u s:=⟨v,H,I,r,h⟩;rcases l with ⟨hk,hm⟩ | ⟨hk,c,hc,hcell⟩
 ·exact wpAny_Name (wpAny_loadName_local I.ok.kind hk hn hm fin) hd
 ·rcases hk with hk | hk
  ·exact wpAny_Name (wpAny_loadName_cell I.ok.kind hk hc hcell fin) hd
  ·exact wpAny_Name (wpAny_loadName_free I.ok.kind hk hc hcell fin hcd) hd
theorem rM {i j pos}:PE X (.Constant (.int i) j pos) (tC (.int i)):=fun _ _ _ H _ I h=>wpAny_Constant_int ⟨.int i,H,I.tok _,⟨_,rfl⟩,h⟩
theorem yH {b j pos}:PE X (.Constant (.bool b) j pos) (tC (.bl b)):=fun _ _ _ H _ I h=>Constant_bool ⟨.bl b,H,I,rfl,h⟩
theorem rY {j pos}:PE X (.Constant .none j pos) (tC .non):=fun _ _ _ H _ I h=>Constant_none ⟨.non,H,I,rfl,h⟩
theorem qV {x j pos}:PE X (.Constant (.str x) j pos) (tC (.str x)):=fun _ _ _ H _ I h=>Calls.Constant_str ⟨.str x,H,I.tok _,⟨_,rfl⟩,h⟩
def Gl (X:Cx)(x:Str):Prop:=X.env.kindOf x=some .globalImplicit
theorem dU {E:Value->Shared->Prop}{pins:List (Addr×Obj)}{s:Shared}{σ:St}{H:Hp}{x:Str}{u:Value}{pos:Pos}{Q:Value->Shared->Prop}(I:Inv X pins σ H s)(hg:Gl X x)(hm:X.mg x=some u)(h:Q u s)
  (hd:(x==("__debug__" : Str))=false:=by decide):wpAny (model X.prog X.w) X.A (eval (.Name x pos) X.env) Q E s :=
 Calls.Name_function_global I.ok.kind hg (Calls.loadGlobal_global (by rw[I.ok.glob];exact I.mod.glob.keeps I.bk) hm h) hd
theorem mn {E:Value->Shared->Prop}{pins:List (Addr×Obj)}{s:Shared}{σ:St}{H:Hp}{x:Str}{u:Value}{pos:Pos}{Q:Value->Shared->Prop}(I:Inv X pins σ H s)(hg:Gl X x)(hm:X.mg x=none)(hv:bootBuiltins x=some u)(h:Q u s)
  (hn:x≠"__name__":=by decide) (hd:(x==("__debug__" : Str))=false:=by decide):wpAny (model X.prog X.w) X.A (eval (.Name x pos) X.env) Q E s:=by
 obtain⟨mb,h1,h2⟩:=I.mod.blt;exact Calls.Name_function_global I.ok.kind hg (Calls.loadGlobal_builtin (by rw[I.ok.glob];exact I.mod.glob.keeps I.bk) hm (by rw[I.ok.blt];exact h1.keeps I.bk) ((h2 x hn).trans hv) h) hd
theorem dS {x:Str}{v:V}{u:Value}{pos:Pos}(hg:Gl X x)(hm:X.mg x=some u)(r:RelV v u)(hd:(x==("__debug__" : Str))=false:=by decide):PE X (.Name x pos) (tC v) :=
 fun _ _ _ H _ I h=>dU I hg hm ⟨v,H,I,r,h⟩ hd
theorem uo {x:Str}{v:V}{u:Value}{pos:Pos}(hg:Gl X x)(hm:X.mg x=none)(hv:bootBuiltins x=some u)(r:RelV v u)(hn:x≠"__name__":=by decide) (hd:(x==("__debug__" : Str))=false:=by decide):PE X (.Name x pos) (tC v) :=
 fun _ _ _ H _ I h=>mn I hg hm hv ⟨v,H,I,r,h⟩ hn hd
variable {a b:Expr}{ta tb:TE}{pos:Pos}
def tB (t:TE):TT:=fun σ H Q=>t σ H fun x H1=>∃ c,x = .bl c/\Q c H1
variable {tA tB':TT}{rest:List Expr}
def tAnd (t u:TT):TT:=fun σ H Q=>t σ H fun c H1=>if c=true then u σ H1 Q else Q false H1
def tOr (t u:TT):TT:=fun σ H Q=>t σ H fun c H1=>if c=true then Q true H1 else u σ H1 Q
def tNot (t:TT):TT:=fun σ H Q=>t σ H fun c H1=>Q (!c) H1
theorem Bo (ha:PT X a tA):PW X (.BoolOp .And [a] pos) tA:=by
 intro wh pins s σ H Q I h;refine isTrue_and (cL (ha pins s σ H Q I h) fun c s1 e=>?_);cases c with
 |true=>exact isTrue_and_nil e
 |false=>exact e
theorem C8 (ha:PT X a tA):PW X (.BoolOp .Or [a] pos) tA:=by
 intro wh pins s σ H Q I h;refine isTrue_or (cL (ha pins s σ H Q I h) fun c s1 e=>?_);cases c with
 |false=>exact isTrue_or_nil e
 |true=>exact e
theorem CF (ha:PT X a tA)(hb:PW X (.BoolOp .And (b::rest) pos) tB'):PW X (.BoolOp .And (a::b::rest) pos) (tAnd tA tB'):=by
 intro wh pins s σ H Q I h;refine isTrue_and (cL (ha pins s σ H _ I h) fun c s1 ⟨H1,I1,q1⟩=>?_);cases c with
 |true=>exact hb wh pins s1 σ H1 Q I1 q1
 |false=>exact⟨H1,I1,q1⟩
theorem FU (ha:PT X a tA)(hb:PW X (.BoolOp .Or (b::rest) pos) tB'):PW X (.BoolOp .Or (a::b::rest) pos) (tOr tA tB'):=by
 intro wh pins s σ H Q I h;refine isTrue_or (cL (ha pins s σ H _ I h) fun c s1 ⟨H1,I1,q1⟩=>?_);cases c with
 |true=>exact⟨H1,I1,q1⟩
 |false=>exact hb wh pins s1 σ H1 Q I1 q1
theorem Fe (ha:PT X a tA):PT X (.UnaryOp .Not a pos) (tNot tA):=by
 intro pins s σ H Q I h;exact isTrue_not (ha pins s σ H (fun c H1=>Q (!c) H1) I h)
def xX (ta tb:TE):TE:=fun σ H Q=>ta σ H fun x H1=>∃ c,x = .bl c/\if c=true then tb σ H1 Q else Q (.bl false) H1
def tOrV (ta tb:TE):TE:=fun σ H Q=>ta σ H fun x H1=>∃ c,x = .bl c/\if c=true then Q (.bl true) H1 else tb σ H1 Q
def Ck (ta:TE):TE:=fun σ H Q=>ta σ H fun x H1=>∃ c,x = .bl c/\Q (.bl (!c)) H1
theorem vZ {op}{t:TE}(h:PE X a t):PE X (.BoolOp op [a] pos) t:=fun pins s σ H Q I hw=>BoolOp_one (h pins s σ H Q I hw)
theorem qW (ha:PE X a ta)(hb:PE X (.BoolOp .And (b::rest) pos) tb):PE X (.BoolOp .And (a::b::rest) pos) (xX ta tb):=by
 intro pins s σ H Q I h;refine BoolOp_and (cL (ha pins s σ H _ I h) fun v s1 ⟨x,H1,I1,r1,q1⟩=>?_);obtain⟨c,rfl,q1⟩:=q1;cases r1;refine wpAny_truthy_bool ?_;cases c with
 |true=>exact hb pins s1 σ H1 Q I1 q1
 |false=>exact⟨.bl false,H1,I1,rfl,q1⟩
theorem Ik (ha:PE X a ta)(hb:PE X (.BoolOp .Or (b::rest) pos) tb):PE X (.BoolOp .Or (a::b::rest) pos) (tOrV ta tb):=by
 intro pins s σ H Q I h;refine BoolOp_or (cL (ha pins s σ H _ I h) fun v s1 ⟨x,H1,I1,r1,q1⟩=>?_);obtain⟨c,rfl,q1⟩:=q1;cases r1;refine wpAny_truthy_bool ?_;cases c with
 |false=>exact hb pins s1 σ H1 Q I1 q1
 |true=>exact⟨.bl true,H1,I1,rfl,q1⟩
theorem xC (ha:PE X a ta):PE X (.UnaryOp .Not a pos) (Ck ta):=by
 intro pins s σ H Q I h;refine UnaryOp_ (cL (ha pins s σ H _ I h) fun v s1 ⟨x,H1,I1,r1,q1⟩=>?_);obtain⟨c,rfl,q1⟩:=q1;cases r1;exact not_of (wpAny_truthy_bool ⟨.bl (!c),H1,I1,rfl,q1⟩)
def tIf (t:TT)(ta tb:TE):TE:=fun σ H Q=>t σ H fun c H1=>if c=true then ta σ H1 Q else tb σ H1 Q
theorem xU {c:Expr}(hc:PT X c tA)(ha:PE X a ta)(hb:PE X b tb):PE X (.IfExp c a b pos) (tIf tA ta tb):=by
 intro pins s σ H Q I h;refine wpAny_IfExp (cL (hc pins s σ H _ I h) fun d s1 ⟨H1,I1,q1⟩=>?_);cases d with
 |true=>exact ha pins s1 σ H1 Q I1 q1
 |false=>exact hb pins s1 σ H1 Q I1 q1
end
end L2
namespace L2
open PySem PySem.Spec PyProof.Rows
noncomputable def mL (K:PySem.W.Frag)(H:Hp)(a:Addr)(xs:List V):Prop :=
 Rd H a (.lst xs) \/
  ∃(o:Obj) (its:Array Value) (n:Nat),K.lookup a=some o/\o.cls = .type "list"/\o.dict=none/\o.data = .seq its n/\its.size<=sizeLine/\aM xs its.toList
noncomputable def j8 (K:PySem.W.Frag)(H:Hp)(a:Addr)(xs:List V):Prop :=
 Rd H a (.tup xs) \/
  ∃(o:Obj) (its:Array Value) (n:Nat),K.lookup a=some o/\o.cls = .type "tuple"/\o.data = .seq its n/\its.size<=sizeLine/\aM xs its.toList
noncomputable def absV:Value->Option V
 |.none=>some .non
 |.bool b=>some (.bl b)
 |.int i _=>some (.int i)
 |.str x _=>some (.str x)
 |.bytes b _=>some (.byt b)
 |.float b _=>some (.flt b)
 |.ref a=>some (.ref a)
 |.type n=>some (.ty n)
 |_=>none
theorem RelV.abs {x:V}{u:Value}(r:RelV x u):absV u=some x:=by
 cases x with
 |non=>cases r;rfl
 |bl _=>cases r;rfl
 |int _=>obtain⟨t,rfl⟩:=r;rfl
 |str _=>obtain⟨t,rfl⟩:=r;rfl
 |byt _=>obtain⟨t,rfl⟩:=r;rfl
 |flt _=>obtain⟨t,rfl⟩:=r;rfl
 |ref _=>cases r;rfl
 |ty _=>cases r;rfl
theorem RelV.inj {x y:V}{u:Value}(r:RelV x u)(q:RelV y u):x=y:=bu (r.abs.symm.trans q.abs)
theorem aM.inj:∀{xs ys:List V}{us:List Value},aM xs us->aM ys us->xs=ys
 |_,_,_,.nil,.nil=>rfl
 |_,_,_,.cons r t,.cons r' t'=>by rw[r.inj r',aM.inj t t']
section
variable {X:Cx}{pins:List (Addr×Obj)}{σ:St}{H:Hp}{s:Shared}{a:Addr}{xs ys:List V}
theorem Inv.list (I:Inv X pins σ H s)(h:mL X.K H a xs):∃ its:List Value,aM xs its/\PlainL s.heap a its.toArray/\xs.length<=sizeLine:=by
 rcases h with h | ⟨o,its,n,hk,hc,hd,hs,hz,r⟩
 ·obtain⟨z,its,n,r,e⟩:=h.ok I.hok;exact⟨its,r,⟨_,n,e,rfl,rfl,rfl⟩,z⟩
 ·refine⟨its.toList,r,⟨o,n,I.kIn a o hk,hc,hd,by simpa using hs⟩,?_⟩;have e:=r.length;simp only[Array.length_toList] at e;omega
theorem Inv.tuple (I:Inv X pins σ H s)(h:j8 X.K H a xs):∃ its:List Value,aM xs its/\IsTup s.heap a its.toArray/\xs.length<=sizeLine:=by
 rcases h with h | ⟨o,its,n,hk,hc,hs,hz,r⟩
 ·obtain⟨z,its,r,p⟩:=h.ok I.hok;exact⟨its,r,p,z⟩
 ·refine⟨its.toList,r,⟨o,I.kIn a o hk,hc,n,by simpa using hs⟩,?_⟩;have e:=r.length;simp only[Array.length_toList] at e;omega
theorem Inv.list_inj (I:Inv X pins σ H s)(h:mL X.K H a xs)(h':mL X.K H a ys):xs=ys:=by
 obtain⟨its,r,⟨o,n,e,_,_,d⟩,_⟩:=I.list h;obtain⟨its',r',⟨o',n',e',_,_,d'⟩,_⟩:=I.list h';rw[e] at e';cases e';rw[d] at d';injection d' with d1 _
 have:its=its':=by simpa using congrArg Array.toList d1
 subst this;exact r.inj r'
theorem Inv.tuple_inj (I:Inv X pins σ H s)(h:j8 X.K H a xs)(h':j8 X.K H a ys):xs=ys:=by
 obtain⟨its,r,⟨o,e,_,n,d⟩,_⟩:=I.tuple h;obtain⟨its',r',⟨o',e',_,n',d'⟩,_⟩:=I.tuple h';rw[e] at e';cases e';rw[d] at d';injection d' with d1 _
 have:its=its':=by simpa using congrArg Array.toList d1
 subst this;exact r.inj r'
end
noncomputable abbrev Cx.wish (X:Cx)(E:Value->Shared->Prop):Cx:={ X with xe:=E }
noncomputable abbrev Cx.nox (X:Cx):Cx:=X.wish fun _ _=>False
theorem Cx.Ok.wish {X:Cx}(ok:X.Ok)(E:Value->Shared->Prop):(X.wish E).Ok :=
 ⟨ok.mod,ok.kind,ok.glob,ok.blt,ok.above,ok.inj,ok.has,ok.cab,ok.hd,ok.frames,ok.stk,ok.exf,ok.bs,ok.bsz,ok.noex,ok.exfs,ok.funs,ok.frf⟩
theorem Cx.Ok.unwish {X:Cx}{E:Value->Shared->Prop}(ok:(X.wish E).Ok):X.Ok :=
 ⟨ok.mod,ok.kind,ok.glob,ok.blt,ok.above,ok.inj,ok.has,ok.cab,ok.hd,ok.frames,ok.stk,ok.exf,ok.bs,ok.bsz,ok.noex,ok.exfs,ok.funs,ok.frf⟩
section
variable {X:Cx}{pins:List (Addr×Obj)}{σ:St}{H:Hp}{s:Shared}{E:Value->Shared->Prop}
theorem Inv.wish (I:Inv X pins σ H s)(E:Value->Shared->Prop):Inv (X.wish E) pins σ H s:=⟨I.ok.wish E,I.os,I.bare,I.base,I.loc,I.cell,I.free,I.freeC,I.pin,I.hok,I.len⟩
theorem Inv.unwish (I:Inv (X.wish E) pins σ H s):Inv X pins σ H s:=⟨I.ok.unwish,I.os,I.bare,I.base,I.loc,I.cell,I.free,I.freeC,I.pin,I.hok,I.len⟩
theorem SP.unwish {D:Ends}{f:Flow}{s':Shared}(h:SP (X.wish E) pins D f s'):SP X pins D f s':=by
 cases f with
 |next=>obtain⟨σ',H',I,q⟩:=h;exact⟨σ',H',I.unwish,q⟩
 |brk=>obtain⟨σ',H',I,q⟩:=h;exact⟨σ',H',I.unwish,q⟩
 |cont=>obtain⟨σ',H',I,q⟩:=h;exact⟨σ',H',I.unwish,q⟩
 |ret u=>obtain⟨v,σ',H',I,r,q⟩:=h;exact⟨v,σ',H',I.unwish,r,q⟩
theorem PT.nox {e:Expr}{t:TT}(h:PT X.nox e t):PT X e t:=fun pins s σ H Q I hw =>
 wpAny_mono (h pins s σ H Q (I.wish _) hw) (fun _ _ ⟨H',I',q⟩=>⟨H',I'.unwish,q⟩) fun _ _ z=>False.elim z
theorem iZ.nox {st:List Stmt}{t:TS}(h:iZ X.nox st t):iZ X st t:=fun pins s σ H D I hw =>
 wpAny_mono (h pins s σ H D (I.wish _) hw) (fun _ _ q=>q.unwish) fun _ _ z=>False.elim z
end
section
variable {X:Cx}{st:Stmt}{rest:List Stmt}{t u:TS}{e:Expr}{te:TE}{pos:Pos}
def xa:TS:=fun D σ H=>D.nx σ H
def F5 (t u:TS):TS:=fun D σ H=>t { D with nx:=u D } σ H
theorem kO:iZ X [] xa:=fun _ _ σ H _ I h=>wpAny_execs_nil ⟨σ,H,I,h⟩
theorem eP (h1:PS X st t)(h2:iZ X rest u):iZ X (st::rest) (F5 t u):=by
 intro pins s σ H D I h;refine wpAny_execs_cons (cL (h1 pins s σ H { D with nx:=u D } I h) fun f s1 q=>?_);cases f with
 |next =>
  obtain⟨σ',H',I',q⟩:=q;exact h2 pins s1 σ' H' D I' q
 |ret v=>exact q
 |brk=>exact q
 |cont=>exact q
theorem fX (h1:PS X st t):iZ X [st] t:=by
 intro pins s σ H D I h;refine wpAny_execs_cons (cL (h1 pins s σ H D I h) fun f s1 q=>?_);cases f with
 |next=>exact wpAny_execs_nil q
 |ret v=>exact q
 |brk=>exact q
 |cont=>exact q
theorem BF:PS X (.Pass pos) xa:=fun _ _ σ H _ I h=>wpAny_Pass ⟨σ,H,I,h⟩
theorem Inv.quiet {pins:List (Addr×Obj)}{σ:St}{H:Hp}{s:Shared}(I:Inv X pins σ H s):interactive X.env=false:=by simp[interactive,I.ok.kind]
theorem CC {x j pos pos'}:PS X (.Expr (.Constant (.str x) j pos) pos') xa:=fun _ s σ H _ I h=>wpAny_Expr (Calls.Constant_str (show SP X _ _ .next { s with toks:=s.toks+1 } from ⟨σ,H,I.tok _,h⟩)) I.quiet
def wo (te:TE):TS:=fun D σ H=>te σ H fun _ H1=>D.nx σ H1
theorem k7 (he:PE X e te)(hs:swapsWith e none pos.line X.env=pure false:=by rfl):PS X (.Expr e pos) (wo te):=by
 intro pins s σ H D I h;exact wpAny_Expr_any (cL (he pins s σ H _ I h) fun v s1 ⟨x,H1,I1,r1,q1⟩=>⟨σ,H1,I1,q1⟩) I.quiet hs
def tRet (te:TE):TS:=fun D σ H=>te σ H D.rt
theorem md (he:PE X e te):PS X (.Return (some e) pos) (tRet te):=by
 intro pins s σ H D I h;exact wpAny_Return_some (cL (he pins s σ H _ I h) fun v s1 ⟨x,H1,I1,r1,q1⟩=>⟨x,σ,H1,I1,r1,q1⟩)
def Ho:TS:=fun D _ H=>D.rt .non H
theorem Bh:PS X (.Return none pos) Ho:=fun _ _ σ H _ I h=>wpAny_Return_none ⟨.non,σ,H,I,rfl,h⟩
def tIfS (c:TT)(t u:TS):TS:=fun D σ H=>c σ H fun b H1=>if b=true then t D σ H1 else u D σ H1
theorem xF {c:Expr}{a b:List Stmt}{tc:TT}(hc:PT X c tc)(ha:iZ X a t)(hb:iZ X b u):PS X (.If c a b pos) (tIfS tc t u):=by
 intro pins s σ H D I h;refine wpAny_If (cL (hc pins s σ H _ I h) fun d s1 ⟨H1,I1,q1⟩=>?_);cases d with
 |true=>exact ha pins s1 σ H1 D I1 q1
 |false=>exact hb pins s1 σ H1 D I1 q1
end
noncomputable abbrev TG:=V->St->Hp->(St->Hp->Prop)->Prop
noncomputable abbrev BK:=List V->St->Hp->(St->Hp->Prop)->Prop
noncomputable def PG (X:Cx)(target:Expr)(t:TG):Prop :=
 ∀(pins:List (Addr×Obj)) (s:Shared) (σ:St) (H:Hp) (v:V) (u:Value) (Q:St->Hp->Prop),Inv X pins σ H s->RelV v u->t v σ H Q ->
  wpAny (model X.prog X.w) X.A (assign target X.env u) (fun _ s'=>∃ σ' H',Inv X pins σ' H' s'/\Q σ' H') X.xe s
noncomputable def Hr (X:Cx)(ts:List Expr)(t:BK):Prop :=
 ∀(pins:List (Addr×Obj)) (s:Shared) (σ:St) (H:Hp) (vs:List V) (us:List Value) (Q:St->Hp->Prop),Inv X pins σ H s->aM vs us->t vs σ H Q ->
  wpAny (model X.prog X.w) X.A (assignInOrder ((assignEach ts X.env).map (·.2)) us) (fun _ s'=>∃ σ' H',Inv X pins σ' H' s'/\Q σ' H') X.xe s
noncomputable abbrev D9:=V->V->V->Hp->(Hp->Prop)->Prop
noncomputable def Fy (X:Cx)(t:D9):Prop :=
 ∀(pins:List (Addr×Obj)) (s:Shared) (σ:St) (H:Hp) (o i v:V) (ov iv u:Value) (Q:Hp->Prop),Inv X pins σ H s->RelV o ov->RelV i iv->RelV v u->t o i v H Q ->
  wpAny (model X.prog X.w) X.A (setItem ov iv u) (fun _ s'=>∃ H',Inv X pins σ H' s'/\Q H') X.xe s
section
variable {X:Cx}{pos:Pos}
noncomputable def jv (i:Nat):TG:=fun v σ H Q=>Q (σ.set i (some v)) H
theorem tZ {i:Nat}{x:Str}(hN:X.N.Nodup)(hi:X.N[i]? = some x)(hx:Loc X.env.scope x)(hf:X.fn x=true\/X.env.scope.names.lookup x=some .local:=by first | exact .inl rfl | exact .inr rfl | assumption):PG X (.Name x pos) (jv i):=by
 intro pins s σ H v u Q I r h;exact wpAny_assign_Name (gQ I hN hi hx r (fun s' I'=>⟨_,H,I',h⟩) hf)
noncomputable def GD:BK:=fun vs σ H Q=>vs=[]/\Q σ H
noncomputable def BJ (t:TG)(u:BK):BK:=fun vs σ H Q=>∃ v r,vs=v::r/\t v σ H fun σ' H'=>u r σ' H' Q
theorem zJ:Hr X [] GD:=by
 intro pins s σ H vs us Q I r h;obtain⟨e,h⟩:=h;subst e;cases r;exact assignInOrder_nil ⟨σ,H,I,h⟩
theorem w4 {e:Expr}{es:List Expr}{t:TG}{u:BK}(h1:PG X e t)(h2:Hr X es u)
  (hs:(assignEach (e::es) X.env).map (·.2)=assign e X.env::(assignEach es X.env).map (·.2):=by rfl):Hr X (e::es) (BJ t u):=by
 intro pins s σ H vs us Q I r h;obtain⟨v,vr,e1,h⟩:=h;subst e1;cases r with
 |cons r rr =>
  rw[hs];refine assignInOrder_cons (cL (h1 pins s σ H _ _ _ I r h) fun _ s1 ⟨σ1,H1,I1,q1⟩=>?_);exact h2 pins s1 σ1 H1 _ _ Q I1 rr q1
noncomputable def yu (K:PySem.W.Frag)(n:Nat)(t:BK):TG:=fun v σ H Q=>∃ a xs,v = .ref a/\j8 K H a xs/\xs.length=n/\t xs σ H Q
theorem xN {es:List Expr}{k:Nat}{t:BK}{n:Nat}(hc:X.calm=true)(h:Hr X es t)
  (hn:(assignEach es X.env).length=n:=by rfl) (hst:(assignEach es X.env).findIdx? (·.1)=none:=by rfl):PG X (.Tuple es k pos) (yu X.K n t):=by
 intro pins s σ H v u Q I r hw;obtain⟨a,xs,e1,hq,hl,hw⟩:=hw;subst e1;cases r;obtain⟨its,rv,ht,hz⟩:=I.tuple hq;refine assign_Tuple_tuple (I.ok.hd hc) ht (by simp[hn,<-hl,rv.length]) hst fun h' hx=>?_
 have I1:Inv X pins σ H { s with heap:=h' }:=I.kept (t':=s.toks) fun b o e=>hx b o (ba (Heap.lt_size e)) e
 exact h pins _ σ H xs _ Q I1 (by simpa using rv) hw
noncomputable def HN (to ti:TE)(t:D9):TG:=fun v σ H Q=>to σ H fun o H1=>ti σ H1 fun i H2=>t o i v H2 fun H3=>Q σ H3
theorem DS {o i:Expr}{to ti:TE}{t:D9}(ho:PE X o to)(hi:PE X i ti)(hs:Fy X t)
  (ha:∀ v,assign (.Subscript o i pos) X.env v=(do
   let ov <- holding [v] (eval o X.env);let iv <- holding [v,ov] (eval i X.env)
   standAt pos
   holding [v,ov,iv] (setItem ov iv v)
   release [v,ov,iv] []):=by intro _;rfl):PG X (.Subscript o i pos) (HN to ti t):=by
 intro pins s σ H v u Q I r h;rw[ha];refine wpAny_bind (wpAny_holding (cL (ho pins s σ H _ I h) fun ov s1 ⟨x,H1,I1,r1,q1⟩=>?_));refine wpAny_bind (wpAny_holding (cL (hi pins s1 σ H1 _ I1 q1) fun iv s2 ⟨y,H2,I2,r2,q2⟩=>?_));refine wpAny_bind (wpAny_standAt (wpAny_bind (wpAny_holding (cL (hs pins s2 σ H2 x y v ov iv u _ I2 r1 r2 r q2) fun _ s3 ⟨H3,I3,q3⟩=>?_))));exact wpAny_release ⟨σ,H3,I3,q3⟩
def rV (te:TE)(g:TG):TS:=fun D σ H=>te σ H fun x H1=>g x σ H1 D.nx
theorem wX {tg e:Expr}{te:TE}{g:TG}(he:PE X e te)(hg:PG X tg g)(hs:swapsWithSole [tg] e pos.line X.env=pure false:=by rfl)(hw:swappedStores [tg] e X.env=pure none:=by rfl)
  (h1:(assignEach [tg] X.env).map (·.2)=[assign tg X.env]:=by rfl):PS X (.Assign [tg] e pos) (rV te g):=by
 intro pins s σ H D I h;refine wpAny_Assign_stores (cL (he pins s σ H _ I h) fun v s1 ⟨x,H1,I1,r1,q1⟩=>?_) hs hw;rw[h1];exact cL (hg pins s1 σ H1 x v _ I1 r1 q1) fun _ s2 q=>q
theorem jn {i:Nat}{x:Str}{e:Expr}{te:TE}{pos':Pos}(hN:X.N.Nodup)(hi:X.N[i]? = some x)(hx:Loc X.env.scope x)(he:PE X e te)(hs:swapsWith e (some (.Name x pos')) pos.line X.env=pure false:=by rfl)(hf:X.fn x=true\/X.env.scope.names.lookup x=some .local:=by first | exact .inl rfl | exact .inr rfl | assumption) :
  PS X (.Assign [.Name x pos'] e pos) (rV te (jv i)):=by
 intro pins s σ H D I h;refine wpAny_Assign_Name (cL (he pins s σ H _ I h) fun v s1 ⟨y,H1,I1,r1,q1⟩=>?_) hs;exact gQ I1 hN hi hx r1 (fun s2 I2=>⟨_,H1,I2,q1⟩) hf
end
section
variable {X:Cx}{pos:Pos}
def Dp (c:TT)(tb:TS):TS:=fun D σ H=>∃ W:Nat->St->Hp->Prop,(∃ m,W m σ H)/\∀ m σ H,W m σ H ->
 c σ H fun b H1=>if b=true then ∃ N:St->Hp->Prop,(∀ σ' H',N σ' H'->∃ m',m'<m/\W m' σ' H')/\tb { D with nx:=N,ct:=N,bk:=D.nx } σ H1 else D.nx σ H1
theorem xl {c:Expr}{body:List Stmt}{tc:TT}{tb:TS}(hp:PassesOwn (model X.prog X.w) X.A X.env X.xe)(hc:PT X c tc)(hb:iZ X body tb):PS X (.While c body [] pos) (Dp tc tb):=by
 intro pins s σ H D I h;obtain⟨W,⟨m0,w0⟩,turn⟩:=h;refine wpAny_While (codeAny_whileLoop (fun n s'=>∃ σ' H',Inv X pins σ' H' s'/\W n σ' H') ?_ m0 ⟨σ,H,I,w0⟩);rintro n s1 ⟨σ1,H1,I1,w1⟩;refine wpAny_passesOwn hp (cL (hc pins s1 σ1 H1 _ I1 (turn n σ1 H1 w1)) fun b s2 ⟨H2,I2,q2⟩=>?_);cases b with
 |true =>
  obtain⟨N,hN,q2⟩:=q2;rw[if_pos rfl];refine wpAny_passesOwn hp (cL (hb pins s2 σ1 H2 _ I2 q2) fun f s3 q3=>?_);cases f with
  |next =>
   obtain⟨σ3,H3,I3,n3⟩:=q3;obtain⟨m',hm,w3⟩:=hN σ3 H3 n3;exact⟨m',hm,σ3,H3,I3,w3⟩
  |cont =>
   obtain⟨σ3,H3,I3,n3⟩:=q3;obtain⟨m',hm,w3⟩:=hN σ3 H3 n3;exact⟨m',hm,σ3,H3,I3,w3⟩
  |brk=>exact q3
  |ret v=>exact q3
 |false =>
  rw[if_neg bq];exact wpAny_execs_nil ⟨σ1,H2,I2,q2⟩
end
structure It where
 go:Nat->Hp->Prop
 yld:Nat->Hp->V->Hp->Prop
 stop:Nat->Hp->Prop
noncomputable def je (X:Cx)(pins:List (Addr×Obj))(H:Hp)(b:Addr):Prop :=
 H b=none/\b≠X.env.locals/\b∉X.fs/\(b∈X.ex\/X.s₀.heap.objs.size<=b)/\(∀ x c,X.env.cells.lookup x=some c->c≠b)/\∀ p∈X.pn++pins,p.1≠b
theorem Inv.fpOk {X:Cx}{pins:List (Addr×Obj)}{σ:St}{H H':Hp}{s:Shared}{b:Addr}(I:Inv X pins σ H s)(hb:s.heap.objs.size<=b)(hn:H' b=none):je X pins H' b:=by
 refine⟨hn,Nat.ne_of_gt (ay I.lt hb),I.nofs hb,.inr (bj I.sz hb),fun x c e z=>?_,fun p hp z=>?_⟩
 ·obtain⟨v,q⟩:=I.cell x c e;exact absurd (ay q.lt (by rw[z];exact hb)) (du _)
 ·exact absurd (ay (Heap.lt_size (I.pin p hp).1) (by rw[z];exact hb)) (du _)
structure Turn (P:Program)(w:World)(K:PySem.W.Frag)(tg:Expr)(J:It)(fp:List Addr)(it:Addr)(tn:Nat->Heap->Prop):Prop where
 mem:it∈fp
 obj:∀ i h,tn i h->∀ b∈fp,∃ o,h.get? b=some o/\∀ v,o.data≠.cell v
 keep:∀ i h h',tn i h->(∀ b∈fp,∀ o,h.get? b=some o->h'.get? b=some o)->tn i h'
 item:∀(X:Cx),X.prog=P->X.w=w->X.K=K->X.calm=true->∀(i:Nat) (pins:List (Addr×Obj)) (s:Shared) (σ:St) (H:Hp) (E:Value->Shared->Prop),Inv X pins σ H s->(∀ b∈fp,je X pins H b)->tn i s.heap->J.go i H ->
  wpAny (model P w) X.A (pyNext (.ref it)) (fun r s1=>∃ u,r=some u /\
   wpAny (model P w) X.A (letOwnedTupleGo tg (.ref it) u) (fun _ s2=>∃ x H',Inv X pins σ H' s2/\RelV x u/\J.yld i H x H'/\tn (i+1) s2.heap/\∀ b∈fp,H' b=none) E s1) E s
 done:∀(X:Cx),X.prog=P->X.w=w->X.K=K->X.calm=true->∀(i:Nat) (pins:List (Addr×Obj)) (s:Shared) (σ:St) (H:Hp) (E:Value->Shared->Prop),Inv X pins σ H s->(∀ b∈fp,je X pins H b)->tn i s.heap->J.stop i H ->
  wpAny (model P w) X.A (pyNext (.ref it)) (fun r s1=>r=none/\Inv X pins σ H s1) E s
 self:∀(A:Around) (i:Nat) (s:Shared) (Q:Value->Shared->Prop) (E:Value->Shared->Prop),tn i s.heap->Q (.ref it) s->wpAny (model P w) A (pyIter (.ref it)) Q E s
noncomputable abbrev TI:=St->Hp->(It->Hp->Prop)->Prop
noncomputable def Di (X:Cx)(pins:List (Addr×Obj))(σ:St)(tg:Expr)(R:It->Hp->Prop)(itv:Value)(s2:Shared):Prop :=
 ∃(it:Addr) (fp:List Addr) (tn:Nat->Heap->Prop) (J:It) (H':Hp),itv = .ref it/\Inv X pins σ H' s2/\Turn X.prog X.w X.K tg J fp it tn/\tn 0 s2.heap/\(∀ b∈fp,je X pins H' b)/\R J H'
noncomputable def PI (X:Cx)(tg iter:Expr)(wi:TI):Prop :=
 ∀(pins:List (Addr×Obj)) (s:Shared) (σ:St) (H:Hp) (R:It->Hp->Prop),Inv X pins σ H s->wi σ H R ->
  wpAny (model X.prog X.w) X.A (eval iter X.env) (fun v s1=>wpAny (model X.prog X.w) X.A (pyIter v) (Di X pins σ tg R) X.xe s1) X.xe s
theorem tK {M:Model}{A:Around}{E:Value->Shared->Prop}{s:Shared}{tg:Expr}{it:Addr}{u:Value}{o:Obj}{n:String}{vs:Array Value}{Q:Unit->Shared->Prop}(ho:s.heap.get? it=some o)(hc:o.cls = .type n)(hd:o.data = .fields vs)
  (hn:["enumerate","zip","dict_itemiterator","dict_reverseitemiterator","odict_iterator","itertools.zip_longest","itertools.pairwise"].contains n=false) (hQ:Q () s):wpAny M A (letOwnedTupleGo tg (.ref it) u) Q E s:=by
 unfold letOwnedTupleGo;cases tg<;>first
  | exact wpAny_pure hQ
  | (cases u<;>first
    | exact wpAny_pure hQ
    | (refine wpAny_bind (wpAny_load ho ?_)
       rw[hc,hd];show wpAny M A (if (["enumerate","zip","dict_itemiterator","dict_reverseitemiterator","odict_iterator","itertools.zip_longest","itertools.pairwise"].contains n&&vs[0]?==some (rawInt _))=true then _ else _) Q E s;rw[if_neg (by intro h;rw[hn,Bool.false_and] at h;cases h)];exact wpAny_pure hQ))
noncomputable def Itl (K:PySem.W.Frag)(a:Addr):It :=
 ⟨fun i H=>∃ xs x,mL K H a xs/\xs[i]? = some x,fun i H x H'=>H'=H/\∀ xs,mL K H a xs->xs[i]? = some x,fun i H=>∃ xs,mL K H a xs/\xs.length<=i⟩
noncomputable def Itt (K:PySem.W.Frag)(a:Addr):It :=
 ⟨fun i H=>∃ xs x,j8 K H a xs/\xs[i]? = some x,fun i H x H'=>H'=H/\∀ xs,j8 K H a xs->xs[i]? = some x,fun i H=>∃ xs,j8 K H a xs/\xs.length<=i⟩
theorem vH {P:Program}{w:World}{K:PySem.W.Frag}{tg:Expr}(a it:Addr):Turn P w K tg (Itl K a) [it] it (fun i h=>h.IsListIter it a i) where
 mem:=by simp
 obj:=fun i h st b hb=>by
  have e:b=it:=by simpa using hb
  subst e;obtain⟨o,e,c,d⟩:=st;exact⟨o,e,fun v z=>by rw[d] at z;cases z⟩
 keep:=fun i h h' st k=>st.at fun o e=>k it (by simp) o e
 item:=by
  intro X hP hw hK hc i pins s σ H E I hf st hg;subst hP hw hK;obtain⟨xs,x,hq,hx⟩:=hg;obtain⟨its,rv,p,hz⟩:=I.list hq;obtain⟨u,hu,ru⟩:=rv.get hx;obtain⟨f0,f1,f2,f3,f4,f5⟩:=hf it (by simp);refine wpAny_pyNext_list_item st p.isList (x:=u) (by simpa using hu) fun h' st' sb=>?_
  have I1:Inv X pins σ H { s with heap:=h' }:=I.turned (t':=s.toks) (fun b o hb e=>(sb.2 b hb).trans e) f0 f1 f3 f4 f5;obtain⟨o,e,c,d⟩:=id st';exact⟨u,rfl,tK (s:={ s with heap:=h' }) e c d (by decide) ⟨x,H,I1,ru,⟨rfl,fun ys hy=>by rw[I.list_inj hy hq];exact hx⟩,st',fun b hb=>(hf b hb).1⟩⟩
 done:=by
  intro X hP hw hK hc i pins s σ H E I hf st hg;subst hP hw hK;obtain⟨xs,hq,hx⟩:=hg;obtain⟨its,rv,p,hz⟩:=I.list hq;obtain⟨f0,f1,f2,f3,f4,f5⟩:=hf it (by simp);have hl:=rv.length;exact wpAny_pyNext_list_end (I.ok.hd hc) st p.isList (by simp;omega) fun h' eb=>⟨rfl,I.turned (t':=s.toks) (fun b o hb e=>eb b o hb e) f0 f1 f3 f4 f5⟩
 self:=fun _ _ _ _ _ st h=>wpAny_pyIter_listiter st h
theorem rq {P:Program}{w:World}{K:PySem.W.Frag}{tg:Expr}(a it:Addr):Turn P w K tg (Itt K a) [it] it (fun i h=>h.IsTupleIter it a i) where
 mem:=by simp
 obj:=fun i h st b hb=>by
  have e:b=it:=by simpa using hb
  subst e;obtain⟨o,e,c,d⟩:=st;exact⟨o,e,fun v z=>by rw[d] at z;cases z⟩
 keep:=fun i h h' st k=>st.at fun o e=>k it (by simp) o e
 item:=by
  intro X hP hw hK hc i pins s σ H E I hf st hg;subst hP hw hK;obtain⟨xs,x,hq,hx⟩:=hg;obtain⟨its,rv,p,hz⟩:=I.tuple hq;obtain⟨u,hu,ru⟩:=rv.get hx;obtain⟨f0,f1,f2,f3,f4,f5⟩:=hf it (by simp);refine wpAny_pyNext_tuple_item st (show s.heap.IsTuple a its.toArray from p) (x:=u) (by simpa using hu) fun h' st' sb=>?_
  have I1:Inv X pins σ H { s with heap:=h' }:=I.turned (t':=s.toks) (fun b o hb e=>(sb.2 b hb).trans e) f0 f1 f3 f4 f5;obtain⟨o,e,c,d⟩:=id st';exact⟨u,rfl,tK (s:={ s with heap:=h' }) e c d (by decide) ⟨x,H,I1,ru,⟨rfl,fun ys hy=>by rw[I.tuple_inj hy hq];exact hx⟩,st',fun b hb=>(hf b hb).1⟩⟩
 done:=by
  intro X hP hw hK hc i pins s σ H E I hf st hg;subst hP hw hK;obtain⟨xs,hq,hx⟩:=hg;obtain⟨its,rv,p,hz⟩:=I.tuple hq;obtain⟨f0,f1,f2,f3,f4,f5⟩:=hf it (by simp);have hl:=rv.length;exact wpAny_pyNext_tuple_end (I.ok.hd hc) st (show s.heap.IsTuple a its.toArray from p) (by simp;omega) fun h' eb=>⟨rfl,I.turned (t':=s.toks) (fun b o hb e=>eb b o hb e) f0 f1 f3 f4 f5⟩
 self:=fun _ _ _ _ _ st h=>wpAny_pyIter_tupleiter st h
end L2
namespace L2
open PySem PySem.Spec PyProof.Rows
section
variable {X:Cx}{tg:Expr}
def tFor (wi:TI)(g:TG)(tb:TS):TS:=fun D σ H=>wi σ H fun J H1=>∃ W:Nat->Nat->St->Hp->Prop,(∃ m,W 0 m σ H1)/\∀ i m σ H,W i m σ H ->
 (J.stop i H/\D.nx σ H)\/(J.go i H/\∃ N:St->Hp->Prop,(∀ σ' H',N σ' H'->∃ m',m'<m/\W (i+1) m' σ' H')/\∀ x H',J.yld i H x H'->g x σ H' fun σ2 H2=>tb { D with nx:=N,ct:=N,bk:=D.nx } σ2 H2)
noncomputable def mq (fp:List Addr)(h:Heap):List (Addr×Obj):=fp.filterMap fun b=>(h.get? b).map fun o=>(b,o)
theorem fK {fp:List Addr}{h:Heap}{b:Addr}{o:Obj}(hb:b∈fp)(e:h.get? b=some o):(b,o)∈mq fp h:=List.mem_filterMap.mpr ⟨b,hb,by rw[e];rfl⟩
theorem vF {fp:List Addr}{h:Heap}{p:Addr×Obj}(hp:p∈mq fp h):p.1∈fp/\h.get? p.1=some p.2:=by
 obtain⟨b,hb,e⟩:=List.mem_filterMap.mp hp;cases q:h.get? b with
 |none=>rw[q] at e;cases e
 |some o =>
  rw[q] at e;have e':(b,o)=p:=bu e;subst e';exact⟨hb,q⟩
theorem Inv.pinned {pins:List (Addr×Obj)}{σ:St}{H:Hp}{s:Shared}{fp:List Addr}(I:Inv X pins σ H s)(hf:∀ b∈fp,je X pins H b)(ho:∀ b∈fp,∃ o,s.heap.get? b=some o/\∀ v,o.data≠.cell v):Inv X (pins++mq fp s.heap) σ H s :=
 I.pins_of fun p hp=>(List.mem_append.mp hp).elim (fun z=>I.pin p (aq _ z)) fun z=>by
  obtain⟨hb,e⟩:=vF z;obtain⟨f0,f1,f2,_⟩:=hf p.1 hb;obtain⟨o,e',d⟩:=ho p.1 hb;rw[e] at e';cases e';exact⟨e,f0,f1,f2,d⟩
theorem Inv.unpinned {pins pl:List (Addr×Obj)}{σ:St}{H:Hp}{s:Shared}(I:Inv X (pins++pl) σ H s):Inv X pins σ H s:=I.pins_of fun p hp=>I.pin p (aq _ (bg _ hp))
theorem y6 {iter:Expr}{body:List Stmt}{wi:TI}{g:TG}{tb:TS}{pos:Pos}(hp:PassesOwn (model X.prog X.w) X.A X.env X.xe)(hc:X.calm=true)(hi:PI X tg iter wi)(hg:PG X tg g)(hb:iZ X body tb)
  (hs:∀ x,foldedSetIterable iter X.env x=pure x:=by intro _;rfl):PS X (.For tg iter body [] pos) (tFor wi g tb):=by
 intro pins s σ H D I h;refine wpAny_For (cL (hi pins s σ H _ I h) fun v s1 h1=>cL h1 fun itv s2 h2=>?_) hs;obtain⟨it,fp,tn,J,H2,e,I2,T,st2,f2,W,⟨m0,w0⟩,turn⟩:=h2;subst e;have stat:∀{H':Hp},(∀ b∈fp,H' b=none)->∀ b∈fp,je X pins H' b:=fun hn b hb=>⟨hn b hb,(f2 b hb).2⟩
 refine codeAny_forLoop_any (fun n s'=>∃ i σ' H',Inv X pins σ' H' s'/\tn i s'.heap/\(∀ b∈fp,H' b=none)/\W i n σ' H') ?_ m0 ⟨0,σ,H2,I2,st2,fun b hb=>(f2 b hb).1,w0⟩;rintro n s3 ⟨i,σ3,H3,I3,st3,fr3,w3⟩;rcases turn i n σ3 H3 w3 with ⟨stop,qn⟩ | ⟨go,N,hN,step⟩
 ·refine wpAny_passesOwn hp (cL (T.done X rfl rfl rfl hc i pins s3 σ3 H3 X.xe I3 (stat fr3) st3 stop) fun r s4 ⟨hr,I4⟩=>?_);subst hr;exact wpAny_execs_nil ⟨σ3,H3,I4,qn⟩
 ·refine wpAny_passesOwn hp (cL (T.item X rfl rfl rfl hc i pins s3 σ3 H3 X.xe I3 (stat fr3) st3 go) fun r s4 ⟨u,hr,h4⟩=>?_);subst hr;refine wpAny_passesOwn hp (cL h4 fun _ s5 ⟨x,H5,I5,r5,y5,st5,fr5⟩=>?_);have I5':=I5.pinned (stat fr5) (T.obj _ _ st5);refine wpAny_passesOwn hp (cL (hg _ s5 σ3 H5 x u _ I5' r5 (step x H5 y5)) fun _ s6 ⟨σ6,H6,I6,q6⟩=>?_);refine wpAny_passesOwn hp (cL (hb _ s6 σ6 H6 _ I6 q6) fun f s7 q7=>?_);have again:∀{σ7:St}{H7:Hp},Inv X (pins++mq fp s5.heap) σ7 H7 s7->N σ7 H7->∃ m,m<n/\∃ i σ' H',Inv X pins σ' H' s7/\tn i s7.heap/\(∀ b∈fp,H' b=none)/\W i m σ' H':=fun {σ7 H7} I7 n7=>by
   obtain⟨m',hm,w7⟩:=hN σ7 H7 n7;refine⟨m',hm,i+1,σ7,H7,I7.unpinned,T.keep _ _ _ st5 fun b hb o e=>(I7.pin (b,o) (aq _ (aq _ (fK hb e)))).1,fun b hb=>?_,w7⟩;obtain⟨o,e,d⟩:=T.obj _ _ st5 b hb;exact (I7.pin (b,o) (aq _ (aq _ (fK hb e)))).2.1
  cases f with
  |next=>obtain⟨σ7,H7,I7,n7⟩:=q7;exact again I7 n7
  |cont=>obtain⟨σ7,H7,I7,n7⟩:=q7;exact again I7 n7
  |brk=>obtain⟨σ7,H7,I7,q7⟩:=q7;exact⟨σ7,H7,I7.unpinned,q7⟩
  |ret v=>obtain⟨x7,σ7,H7,I7,r7,q7⟩:=q7;exact⟨x7,σ7,H7,I7.unpinned,r7,q7⟩
end
end L2
namespace L2
open PySem PySem.Spec PyProof.Rows
noncomputable abbrev R2:=V->V->Hp->VK->Prop
noncomputable def iW (X:Cx)(f:Value->Value->Sem Value)(r:R2):Prop :=
 ∀(pins:List (Addr×Obj)) (s:Shared) (σ:St) (H:Hp) (x y:V) (v u:Value) (Q:VK),Inv X pins σ H s->RelV x v->RelV y u->r x y H Q ->
  wpAny (model X.prog X.w) X.A (f v u) (EP X pins σ Q) X.xe s
noncomputable def UnR (X:Cx)(f:Value->Sem Value)(r:V->Hp->VK->Prop):Prop :=
 ∀(pins:List (Addr×Obj)) (s:Shared) (σ:St) (H:Hp) (x:V) (v:Value) (Q:VK),Inv X pins σ H s->RelV x v->r x H Q ->
  wpAny (model X.prog X.w) X.A (f v) (EP X pins σ Q) X.xe s
noncomputable def fL (X:Cx)(f:Value)(r:List V->Hp->VK->Prop):Prop :=
 ∀(pins:List (Addr×Obj)) (s:Shared) (σ:St) (H:Hp) (xs:List V) (us:List Value) (Q:VK),Inv X pins σ H s->aM xs us->r xs H Q ->
  wpAny (model X.prog X.w) X.A (call f us) (EP X pins σ Q) X.xe s
noncomputable def TruR (X:Cx)(r:V->Hp->(Bool->Hp->Prop)->Prop):Prop :=
 ∀(pins:List (Addr×Obj)) (s:Shared) (σ:St) (H:Hp) (x:V) (v:Value) (Q:Bool->Hp->Prop),Inv X pins σ H s->RelV x v->r x H Q ->
  wpAny (model X.prog X.w) X.A (truthy v) (TP X pins σ Q) X.xe s
def HC (r:R2)(ta tb:TE):TE:=fun σ H Q=>ta σ H fun x H1=>tb σ H1 fun y H2=>r x y H2 Q
def tUn (r:V->Hp->VK->Prop)(ta:TE):TE:=fun σ H Q=>ta σ H fun x H1=>r x H1 Q
noncomputable def rI (C:Int->Int->Prop)(g:Int->Int->V):R2:=fun x y H Q=>∃ i j,x = .int i/\y = .int j/\C i j/\Q (g i j) H
noncomputable def vR (g:Int->Int->V):R2:=fun x y H Q=>∃ i j,x = .int i/\y = .int j/\Q (g i j) H
def rU (g:Int->V):V->Hp->VK->Prop:=fun x H Q=>∃ i,x = .int i/\Q (g i) H
section
variable {X:Cx}{a b c:Expr}{ta tb tc:TE}{pos:Pos}
theorem EA (ha:PE X a ta)(hb:PE X b tb){pins:List (Addr×Obj)}{s:Shared}{σ:St}{H:Hp}{R:V->V->Hp->Prop}(I:Inv X pins σ H s)
  (h:ta σ H fun x H1=>tb σ H1 fun y H2=>R x y H2) {Q:Value->Shared->Prop}{f:Value->Value->Sem Value}
  (hf:∀ v u s2 x y H2,Inv X pins σ H2 s2->RelV x v->RelV y u->R x y H2->wpAny (model X.prog X.w) X.A (f v u) Q X.xe s2) :
  wpAny (model X.prog X.w) X.A (eval a X.env) (fun v s₁=>wpAny (model X.prog X.w) X.A (eval b X.env) (fun u s₂=>wpAny (model X.prog X.w) X.A (f v u) Q X.xe s₂) X.xe s₁) X.xe s:=by
 refine cL (ha pins s σ H _ I h) fun v s1 ⟨x,H1,I1,r1,q1⟩=>?_
 refine cL (hb pins s1 σ H1 _ I1 q1) fun u s2 ⟨y,H2,I2,r2,q2⟩=>?_
 exact hf v u s2 x y H2 I2 r1 r2 q2
theorem Co {op:Operator}{r:R2}(ho:iW X (binaryOp op) r)(ha:PE X a ta)(hb:PE X b tb):PE X (.BinOp a op b pos) (HC r ta tb):=by
 intro pins s σ H Q I h;exact wpAny_BinOp (EA ha hb I h fun v u s2 x y H2 I2 rx ry q=>ho pins s2 σ H2 x y v u Q I2 rx ry q)
theorem Ij {op:UnaryOp}{r:V->Hp->VK->Prop}(ho:UnR X (unaryOp op) r)(ha:PE X a ta):PE X (.UnaryOp op a pos) (tUn r ta):=by
 intro pins s σ H Q I h;exact UnaryOp_ (cL (ha pins s σ H _ I h) fun v s1 ⟨x,H1,I1,r1,q1⟩=>ho pins s1 σ H1 x v Q I1 r1 q1)
theorem Fq {f:Value->Value->Sem Value}{C:Int->Int->Prop}{g:Int->Int->Int}
  (rule:∀(i j:Int) (t u:Tok) (s:Shared) (Q:Value->Shared->Prop) (E:Value->Shared->Prop),C i j->Q (.int (g i j) s.toks) { s with toks:=s.toks+1 }->wpAny (model X.prog X.w) X.A (f (.int i t) (.int j u)) Q E s) :
  iW X f (rI C fun i j=>.int (g i j)):=by
 intro pins s σ H x y v u Q I rx ry h;obtain⟨i,j,rfl,rfl,hc,q⟩:=h;obtain⟨t,rfl⟩:=rx;obtain⟨t',rfl⟩:=ry;exact rule i j t t' s _ _ hc ⟨.int (g i j),H,I.tok _,⟨_,rfl⟩,q⟩
theorem wZ {f:Value->Value->Sem Value}{g:Int->Int->Int}
  (rule:∀(i j:Int) (t u:Tok) (s:Shared) (Q:Value->Shared->Prop) (E:Value->Shared->Prop),Q (.int (g i j) s.toks) { s with toks:=s.toks+1 }->wpAny (model X.prog X.w) X.A (f (.int i t) (.int j u)) Q E s) :
  iW X f (vR fun i j=>.int (g i j)):=by
 intro pins s σ H x y v u Q I rx ry h;obtain⟨i,j,rfl,rfl,q⟩:=h;obtain⟨t,rfl⟩:=rx;obtain⟨t',rfl⟩:=ry;exact rule i j t t' s _ _ ⟨.int (g i j),H,I.tok _,⟨_,rfl⟩,q⟩
theorem z9 {f:Value->Value->Sem Value}{g:Int->Int->Bool}
  (rule:∀(i j:Int) (t u:Tok) (s:Shared) (Q:Value->Shared->Prop) (E:Value->Shared->Prop),Q (.bool (g i j)) s->wpAny (model X.prog X.w) X.A (f (.int i t) (.int j u)) Q E s) :
  iW X f (vR fun i j=>.bl (g i j)):=by
 intro pins s σ H x y v u Q I rx ry h;obtain⟨i,j,rfl,rfl,q⟩:=h;obtain⟨t,rfl⟩:=rx;obtain⟨t',rfl⟩:=ry;exact rule i j t t' s _ _ ⟨.bl (g i j),H,I,rfl,q⟩
def CDiv (i j:Int):Prop:=0<j/\j<1073741824
def G8 (i j:Int):Prop:=0<=j/\j<=1000000/\i.natAbs<2 ^ 64
def EI (i j:Int):Prop:=(-(2 ^ 64)<i/\i<2 ^ 64)\/(-(2 ^ 64)<j/\j<2 ^ 64)
theorem EI.ok {i j:Int}(h:EI i j):IntMulOk i j:=by
 rcases h with ⟨h1,h2⟩ | ⟨h1,h2⟩
 ·exact .of_left (intBits_le_64 h1 h2)
 ·exact .of_right (intBits_le_64 h1 h2)
theorem rK (k:Nat):(0:Int)<=2 ^ k:=by
 rw[two_pow_cast];exact Int.natCast_nonneg _
theorem CN:iW X (binaryOp .Add) (vR fun i j=>.int (i+j)):=wZ fun _ _ _ _ _ _ _ q=>add_int q
theorem DO:iW X (binaryOp .Sub) (vR fun i j=>.int (i - j)):=wZ fun _ _ _ _ _ _ _ q=>sub_int q
theorem Fc:iW X (binaryOp .Mult) (rI EI fun i j=>.int (i*j)):=Fq fun _ _ _ _ _ _ _ hc q=>mul_int q hc.ok
theorem AY:iW X (binaryOp .FloorDiv) (rI CDiv fun i j=>.int (i / j)):=Fq fun i j _ _ _ _ _ hc q=>by
 have h1:(0:Int)<j:=hc.1;have h2:j<1073741824:=hc.2;exact floordiv_int (by omega) (by rw[Int.fdiv_eq_ediv_of_nonneg i (by omega)];exact q) (.inl (PyProof.noPylong_small (by omega)))
theorem EF:iW X (binaryOp .Mod) (rI (fun _ j=>0<j) fun i j=>.int (i%j)):=Fq fun i j _ _ _ _ _ hc q=>by
 have h1:(0:Int)<j:=hc;exact mod_int' (by omega) (by rw[Int.fmod_eq_emod_of_nonneg i (by omega)];exact q)
theorem D5:iW X (binaryOp .Pow) (rI G8 fun i j=>.int (i ^ j.toNat)):=Fq fun _ _ _ _ _ _ _ hc q=>pow_int_small hc.1 hc.2.1 hc.2.2 q
theorem DZ:iW X (binaryOp .LShift) (rI G8 fun i j=>.int (i*2 ^ j.toNat)):=Fq fun _ _ _ _ _ _ _ hc q=>lshift_int_small hc.1 hc.2.1 hc.2.2 q
theorem Ej:iW X (binaryOp .RShift) (rI (fun _ j=>0<=j) fun i j=>.int (i / 2 ^ j.toNat)):=Fq fun i j _ _ _ _ _ hc q =>
 rshift_int hc (by rw[Int.fdiv_eq_ediv_of_nonneg i (rK _)];exact q)
theorem CQ:iW X (binaryOp .BitAnd) (vR fun i j=>.int (Builtin.bitAnd i j)):=wZ fun _ _ _ _ _ _ _ q=>and_int q
theorem HG:iW X (binaryOp .BitOr) (vR fun i j=>.int (Builtin.bitOr i j)):=wZ fun _ _ _ _ _ _ _ q=>or_int q
theorem DQ:iW X (binaryOp .BitXor) (vR fun i j=>.int (Builtin.bitXor i j)):=wZ fun _ _ _ _ _ _ _ q=>xor_int q
theorem unI {f:Value->Sem Value}{g:Int->Int}
  (rule:∀(i:Int) (t:Tok) (s:Shared) (Q:Value->Shared->Prop) (E:Value->Shared->Prop),Q (.int (g i) s.toks) { s with toks:=s.toks+1 }->wpAny (model X.prog X.w) X.A (f (.int i t)) Q E s) :
  UnR X f (rU fun i=>.int (g i)):=by
 intro pins s σ H x v Q I rx h;obtain⟨i,rfl,q⟩:=h;obtain⟨t,rfl⟩:=rx;exact rule i t s _ _ ⟨.int (g i),H,I.tok _,⟨_,rfl⟩,q⟩
theorem Dj:UnR X (unaryOp .USub) (rU fun i=>.int (-i)):=unI fun _ _ _ _ _ q=>neg_int q
end
section
variable {X:Cx}{a b c:Expr}{ta tb tc:TE}{pos:Pos}
theorem Dk {pins:List (Addr×Obj)}{σ:St}{H:Hp}{s:Shared}{Q:VK}{k k':Bool}(I:Inv X pins σ H s)(q:Q (.bl k) H)(e:k=k'):EP X pins σ Q (.bool k') s:=by
 subst e;exact⟨.bl k,H,I,rfl,q⟩
theorem Iu:iW X (compareOp .Lt) (vR fun i j=>.bl (decide (i<j))):=z9 fun _ _ _ _ _ _ _ q=>lt_int q
theorem Gm:iW X (compareOp .LtE) (vR fun i j=>.bl (decide (i<=j))):=z9 fun _ _ _ _ _ _ _ q=>le_int q
theorem Gc:iW X (compareOp .Gt) (vR fun i j=>.bl (decide (j<i))):=z9 fun _ _ _ _ _ _ _ q=>gt_int q
theorem GI:iW X (compareOp .GtE) (vR fun i j=>.bl (decide (j<=i))):=z9 fun _ _ _ _ _ _ _ q=>ge_int q
theorem vg:iW X (compareOp .In) (fun x y H Q=>∃ i j,x = .str i/\y = .str j/\Q (.bl (!(Builtin.Str.occurrences j i 0 j.length 1).isEmpty)) H):=by
 intro pins s σ H x y v u Q I rx ry h;obtain⟨i,j,rfl,rfl,q⟩:=h;obtain⟨t,rfl⟩:=rx;obtain⟨t',rfl⟩:=ry;exact in_str (Dk I q rfl)
theorem zO {op:CmpOp}{r:R2}(ho:iW X (compareOp op) r)(ha:PE X a ta)(hb:PE X b tb)(hm:behindInMarks op b=false):PE X (.Compare a [op] [b] pos) (HC r ta tb):=by
 intro pins s σ H Q I h;exact wpAny_Compare1 (EA ha hb I h fun v u s2 x y H2 I2 rx ry q=>ho pins s2 σ H2 x y v u Q I2 rx ry q) hm
def GS (t:TE):TT:=fun σ H Q=>t σ H fun x H'=>∃ k,x = .bl k/\Q k H'
theorem zS {op:CmpOp}{r:R2}(ho:iW X (compareOp op) r)(ha:PE X a ta)(hb:PE X b tb)(hm:behindInMarks op b=false):PT X (.Compare a [op] [b] pos) (GS (HC r ta tb)):=by
 intro pins s σ H Q I h;refine wpAny_isTrue_Compare1 (cL (ha pins s σ H _ I h) fun v s1 ⟨x,H1,I1,r1,q1⟩=>cL (hb pins s1 σ H1 _ I1 q1) fun u s2 ⟨y,H2,I2,r2,q2⟩ =>
  cL (ho pins s2 σ H2 x y v u _ I2 r1 r2 q2) fun c s3 ⟨z,H3,I3,r3,k,e,q3⟩=>?_) hm
 subst e;cases r3;exact wpAny_truthy_bool ⟨H3,I3,q3⟩
noncomputable def Ec (K:PySem.W.Frag)(x:V)(H:Hp)(k:Bool):Prop :=
 match x with
 |.non=>k=false
 |.bl b=>k=b
 |.int i=>k=(i != 0)
 |.str y=>y.length<=sizeLine/\k=((y.length:Int) != 0)
 |.byt y=>y.size<=sizeLine/\k=((y.size:Int) != 0)
 |.ref p=>(∃ xs,mL K H p xs/\k = !xs.isEmpty)\/(∃ xs,j8 K H p xs/\k = !xs.isEmpty)\/∃ kvs,H p=some (.dK kvs)/\k = !kvs.isEmpty
 |_=>False
theorem se {κ:Type}{kvs:List (κ×V)}{vs:List (κ×Value)}(r:KV kvs vs):(!vs.isEmpty) = !kvs.isEmpty:=by
 cases r<;>rfl
theorem lO {xs:List V}{its:List Value}(r:aM xs its):(!its.toArray.isEmpty) = !xs.isEmpty:=by
 cases r<;>simp
theorem jk:(sizeLine:Nat)<2 ^ 63:=by rw[sizeLine_eq];decide
theorem DT:TruR X (fun x H Q=>∃ k,Ec X.K x H k/\Q k H):=by
 intro pins s σ H x v Q I rx h;obtain⟨k,e,q⟩:=h;have hl:=jk;have hs:sizeLine=16777216:=sizeLine_eq;cases x with
 |non =>
  cases rx;have e':k=false:=e;subst e';exact truthy_none ⟨H,I,q⟩
 |bl b =>
  cases rx;have e':k=b:=e;subst e';exact wpAny_truthy_bool ⟨H,I,q⟩
 |int i =>
  obtain⟨t,rfl⟩:=rx;have e':k=(i != 0):=e;subst e';exact PySem.P.truthy_int ⟨H,I,q⟩
 |str y =>
  obtain⟨t,rfl⟩:=rx;obtain⟨hy,e'⟩:y.length<=sizeLine/\k=((y.length:Int) != 0):=e;subst e';exact PySem.P.truthy_str (by omega) ⟨H,I.tok _,q⟩
 |byt y =>
  obtain⟨t,rfl⟩:=rx;obtain⟨hy,e'⟩:y.size<=sizeLine/\k=((y.size:Int) != 0):=e;subst e';exact PySem.W.truthy_bytes (by omega) ⟨H,I.tok _,q⟩
 |ref p =>
  cases rx;have e':(∃ xs,mL X.K H p xs/\k = !xs.isEmpty)\/(∃ xs,j8 X.K H p xs/\k = !xs.isEmpty)\/∃ kvs,H p=some (.dK kvs)/\k = !kvs.isEmpty:=e;rcases e' with ⟨xs,hx,e'⟩ | ⟨xs,hx,e'⟩ | ⟨kvs,hx,e'⟩
  ·subst e';obtain⟨its,r,pl,hz⟩:=I.list hx;have hlen:=r.length;exact wpAny_truthy_list pl.isList (by simp only[List.size_toArray];omega) ⟨H,I.tok _,by rw[lO r];exact q⟩
  ·subst e';obtain⟨its,r,pl,hz⟩:=I.tuple hx;have hlen:=r.length;exact truthy_tuple pl (by simp only[List.size_toArray];omega) ⟨H,I.tok _,by rw[lO r];exact q⟩
  ·subst e';obtain⟨hz,hS,vs,r,m⟩:kvs.length<=sizeLine/\(p==sysModules)=false/\∃ vs,KV kvs vs/\s.heap.DictOf (bR X.prog X.w) p vs:=I.hok p _ hx;have hlen:kvs.length=vs.length:=Paired.length r;exact wpAny_truthy_dict hS m (by omega) ⟨H,I.tok _,by rw[se r];exact q⟩
 |_=>exact (show False from e).elim
theorem yn (ha:PE X a ta)(he:∀ whole,isTrue a X.env whole=(do let v <- whole;standAt a.pos;holding [v] (truthy v))) :
  PT X a (fun σ H Q=>ta σ H fun x H'=>∃ k,Ec X.K x H' k/\Q k H'):=by
 intro pins s σ H Q I h;exact isTrue_plain (cL (ha pins s σ H _ I h) fun v s1 ⟨x,H1,I1,r1,q1⟩=>DT pins s1 σ H1 x v Q I1 r1 q1) (he _)
theorem sf:iW X (binaryOp .Add) (fun x y H Q=>∃ i j,x = .str i/\y = .str j/\i.length+j.length<=sizeLine/\Q (.str (i++j)) H):=by
 intro pins s σ H x y v u Q I rx ry h;obtain⟨i,j,rfl,rfl,hz,q⟩:=h;obtain⟨t,rfl⟩:=rx;obtain⟨t',rfl⟩:=ry;exact add_str (fun t' tk=>⟨.str (i++j),H,I.tok _,⟨_,rfl⟩,q⟩) hz
theorem vals1 {x:V}{us:List Value}(r:aM [x] us):∃ u,us=[u]/\RelV x u:=by
 cases r with
 |cons r1 r2=>cases r2;exact⟨_,rfl,r1⟩
theorem vals2 {x y:V}{us:List Value}(r:aM [x,y] us):∃ u w',us=[u,w']/\RelV x u/\RelV y w':=by
 cases r with
 |cons r1 r2 =>
  cases r2 with
  |cons r3 r4=>cases r4;exact⟨_,_,rfl,r1,r3⟩
theorem u9 (hc:X.calm=true):fL X (.builtin "min") (fun xs H Q=>∃ i j,xs=[.int i,.int j]/\Q (.int (if j<i then j else i)) H):=by
 intro pins s σ H xs us Q I r h;obtain⟨i,j,rfl,q⟩:=h;obtain⟨u,w',rfl,⟨t,rfl⟩,⟨t',rfl⟩⟩:=vals2 r;refine min_two_ints (I.ok.hd hc) fun h' tk k=>⟨_,H,I.kept k,?_,q⟩
 by_cases hj:j<i
 ·rw[if_pos hj,if_pos hj];exact⟨_,rfl⟩
 ·rw[if_neg hj,if_neg hj];exact⟨_,rfl⟩
end
end L2
namespace L2
open PySem PySem.Spec PyProof.Rows
structure ObjM (h:Heap)(x dx C:Addr)(mA:Str->Option Value):Prop where
 obj:h.get? x=some (PySem.W.instObj C dx)
 ns:h.Ns1 dx mA
 ne:dx≠x
section
variable {prog:Program}{w:World}{A:Around}{E:Value->Shared->Prop}{s:Shared}{K:PySem.W.Frag}{x dx C f:Addr}{mA:Str->Option Value}{name:Str}{v:Value}
end
section
variable {P:Program}{w:World}{H H':Hp}{h h':Heap}{a C dx:Addr}{fs fs':List (Str×V)}
end
structure Cls (K:PySem.W.Frag)(C:Addr):Prop where
 pg:PySem.W.plainGet K C Str.empty=true
 hd:PySem.W.hasDictIn K C=true
 po:PySem.W.plainOver K C=true
 sa:PySem.W.findIn K (.ref C) "__setattr__" = some (some (.builtin "object.__setattr__"))
structure Con (K:PySem.W.Frag)(C:Addr)(f:Str)(v:V)(u:Value):Prop where
 at_:PySem.W.findIn K (.ref C) f=some (some u)
 rel:RelV v u
 get:PySem.W.specialIn K u "__get__" = some none
 cp:PySem.W.copiedNames.contains f=false
structure Meth (K:PySem.W.Frag)(C:Addr)(m:Str)(f:Addr):Prop where
 at_:PySem.W.findIn K (.ref C) m=some (some (.ref f))
 fn:PySem.W.isFn K (.ref f)=true
 kp:PySem.W.keepIn K (.ref f)=true
section
variable {X:Cx}{pins:List (Addr×Obj)}{σ:St}{H:Hp}{s:Shared}{a C dx:Addr}{fs:List (Str×V)}{f:Str}{v:V}{A:Around}{E:Value->Shared->Prop}
end
section
variable {X:Cx}{o e value:Expr}{f:Str}{pos pos' tpos:Pos}{ta tv:TE}
end
section
variable {X:Cx}{pins:List (Addr×Obj)}{σ:St}{H:Hp}{s:Shared}{A:Around}{E:Value->Shared->Prop}{Q:Value->Shared->Prop}{c:Value}{b:Bool}
inductive mi (K:PySem.W.Frag) (H:Hp):V->Value->Prop where
 | non:mi K H .non (.type "NoneType")
 | bl (x:Bool):mi K H (.bl x) (.type "bool")
 | int (i:Int):mi K H (.int i) (.type "int")
 | str (x:Str):mi K H (.str x) (.type "str")
 | flt (x:UInt64):mi K H (.flt x) (.type "float")
 | lst {a:Addr}{xs:List V}(e:H a=some (.lst xs)):mi K H (.ref a) (.type "list")
 | frz {a:Addr}{o:Obj}{xs:List V}(e:H a=some (.frz o (.lst xs))):mi K H (.ref a) (.type "list")
 | tup {a:Addr}{xs:List V}(e:H a=some (.tup xs)):mi K H (.ref a) (.type "tuple")
 | dK {a:Addr}{kvs:List (Key×V)}(e:H a=some (.dK kvs)):mi K H (.ref a) (.type "dict")
 | dT {a:Addr}{kvs:List (List Key×V)}(e:H a=some (.dT kvs)):mi K H (.ref a) (.type "dict")
 | ins {a C dx:Addr}{fs:List (Str×V)}(e:H a=some (.ins C dx fs)) (cl:Cls K C) (ha:PySem.W.findIn K (.ref C) "__class__" = some (some (.builtin "object.__class__")))
   (hn:PySem.W.specialIn K (.builtin "object.__class__") "__get__" = some (some (.builtin "getset_descriptor.__get__"))) (htk:PySem.W.takesIn K (.builtin "object.__class__")=some true)
   (hm:PySem.W.mroIn K C (.type "object")=some true):mi K H (.ref a) (.ref C)
end
end L2
namespace L2
open PySem PySem.Spec PyProof.Rows
structure fE (k:Nat)(A:Around):Prop where
 hd:A.handled=none
 dp:A.depth+3*k+5<recursionLimit
 un:A.units+16*k+200<cLine
theorem fE.deeper {k:Nat}{A:Around}(r:fE (k+1) A)(env:Env):fE k (A.deeper env) :=
 ⟨r.hd,by have:=r.dp;show A.depth+1+3*k+5<_;omega,by have:=r.un;show A.units+3+16*k+200<_;omega⟩
theorem fE.depth {k:Nat}{A:Around}(r:fE k A):A.depth<recursionLimit:=by have:=r.dp;omega
theorem fE.units {k:Nat}{A:Around}(r:fE k A):A.units+64<cLine:=by have:=r.un;omega
def qy:TA:=fun _ H Q=>Q [] H
def eB (ta:TE)(tr:TA):TA:=fun σ H Q=>ta σ H fun x H1=>tr σ H1 fun xs H2=>Q (x::xs) H2
section
variable {X:Cx}{e:Expr}{es:List Expr}{te:TE}{t:TA}{pos:Pos}
theorem dR:PA X [] qy:=fun _ _ _ _ H Q I h=>Calls.spliced_nil ⟨[],H,I,.nil,h⟩
theorem aT (ha:PE X e te)(hr:PA X es t)(hs:starEach (e::es) X.env=(false,eval e X.env)::starEach es X.env:=by rfl):PA X (e::es) (eB te t):=by
 intro pos pins s σ H Q I h;rw[hs];show wpAny _ _ (spliced ((false,eval e X.env)::backTo pos (starEach es X.env))) _ _ s;refine Calls.spliced_cons (cL (ha pins s σ H _ I h) fun u s1 ⟨x,H1,I1,r1,q1⟩=>?_);exact cL (hr pos pins s1 σ H1 _ I1 q1) fun us s2 ⟨xs,H2,I2,r2,q2⟩=>⟨x::xs,H2,I2,.cons r1 r2,q2⟩
def F7 (t:TA):TE:=fun σ H Q=>t σ H fun xs H1=>xs.length<=sizeLine/\∀ p,H1 p=none->Q (.ref p) (upd H1 p (.tup xs))
def tLst (t:TA):TE:=fun σ H Q=>t σ H fun xs H1=>xs.length<=sizeLine/\∀ p,H1 p=none->Q (.ref p) (upd H1 p (.lst xs))
theorem yl {x1}(h:PA X es t):PE X (.Tuple es x1 pos) (F7 t):=by
 intro pins s σ H Q I hq;refine wpAny_Tuple_spliced (cL (h pos pins s σ H _ I hq) fun us s1 ⟨xs,H1,I1,r,z,q⟩=>⟨by rw[<-r.length];exact z,?_⟩);have hf:H1 s1.heap.objs.size=none:=I1.hok.fresh (au _);refine⟨.ref s1.heap.objs.size,upd H1 s1.heap.objs.size (.tup xs),I1.laid (t':=s1.toks) (fun b u e=>Heap.get?_push_of_some _ e) (au _) ?_,rfl,q _ hf⟩;exact⟨z,us,r,⟨_,Heap.get?_push_size _ rfl,rfl,_,rfl⟩⟩
theorem rL (h:PA X es t):PE X (.List es pos) (tLst t):=by
 intro pins s σ H Q I hq;refine wpAny_List_spliced (cL (h pos pins s σ H _ I hq) fun us s1 ⟨xs,H1,I1,r,z,q⟩=>⟨by rw[<-r.length];exact z,?_⟩);have hf:H1 s1.heap.objs.size=none:=I1.hok.fresh (au _);refine⟨.ref s1.heap.objs.size,upd H1 s1.heap.objs.size (.lst xs),I1.laid (t':=s1.toks) (fun b u e=>Heap.get?_push_of_some _ e) (au _) ?_,rfl,q _ hf⟩;exact⟨z,us,0,r,Heap.get?_push_size _ rfl⟩
end
noncomputable abbrev Sp:=List V->Hp->VK->XK->Prop
noncomputable abbrev oS:=List Env->Hp->Shared->XK->Value->Shared->Prop
structure xB (P:Program)(w:World)(K:PySem.W.Frag)(mg:Str->Option Value)(base:Heap)(A:Around)(outer:List Env)(s:Shared)(H:Hp):Prop where
 frames:A.frames=some outer
 mod:Mod K mg base
 bs:∀ b o,base.get? b=some o->s.heap.get? b=some o/\H b=none
 bsz:base.objs.size<=s.heap.objs.size
 funs:s.heap.FunFrames base outer
 frf:∀ b∈cQ outer,H b=none
 hok:iG P w H s.heap
 bare:AllBare s.gens
noncomputable def CE (outer:List Env)(P:Program)(w:World)(H:Hp)(s:Shared)(Q:VK)(u:Value)(s':Shared):Prop :=
 ∃ v H',s'.os=s.os/\AllBare s'.gens/\Un (cQ outer) [] H H' s.heap s'.heap/\iG P w H' s'.heap/\RelV v u/\Q v H'
noncomputable def CR (CX:oS)(outer:List Env)(P:Program)(w:World)(H:Hp)(s:Shared)(Q:VK)(E:XK)(r:Result)(s':Shared):Prop :=
 match r with
 | .ok (.ret u)=>CE outer P w H s Q u s'
 |.ok _=>False
 |.error e=>CX outer H s E e s'
structure ki (P:Program)(w:World)(K:PySem.W.Frag)(mg:Str->Option Value)(base:Heap)(CX:oS)(k:Nat)(f:Addr)(fd:FuncData)(ps:List Str)(sp:Sp):Prop where
 len:∀ vs H Q E,sp vs H Q E->vs.length=ps.length
 run:∀(A:Around) (outer:List Env) (s:Shared) (H:Hp) (args:Args) (us:List Value) (vs:List V) (Q:VK) (E:XK),fE k A->xB P w K mg base A outer s H->BindsTo s fd args (ps.zip us)->aM vs us->sp vs H Q E ->
  codeAny (model P w) A (.call (.ref f) args) (CR CX outer P w H s Q E) s
section
variable {X:Cx}{pins:List (Addr×Obj)}{σ:St}{H:Hp}{s s':Shared}
theorem Inv.env0 (I:Inv X pins σ H s):xB X.prog X.w X.K X.mg X.base X.A X.stack s H :=
 ⟨I.ok.frames,I.ok.mod,I.bs,bj I.ok.bsz I.sz,I.stack,I.stkFree,I.hok,I.bare⟩
theorem Inv.after {Q:VK}{u:Value}(I:Inv X pins σ H s)(h:CE X.stack X.prog X.w H s Q u s'):EP X pins σ Q u s':=by
 obtain⟨v,H',os,bare,un,hok,r,q⟩:=h;obtain⟨hh,g,d,t,os'⟩:=s';obtain rfl:os'=s.os:=os;exact⟨v,H',I.call (h':=hh) (g':=g) (d':=d) (t':=t) (ch:=[]) un hok bare (fun b z=>absurd z (by simp)),r,q⟩
end
def xk (sp:Sp)(dvs:List V)(E:XK)(t:TA):TE:=fun σ H Q=>t σ H fun vs H1=>sp (vs++dvs) H1 Q E
noncomputable def Binds (K:PySem.W.Frag)(fd:FuncData)(ps:List Str)(ds:List Value):Prop :=
 ∀(s:Shared) (us:List Value),K.In s.heap->(us++ds).length=ps.length->BindsTo s fd ⟨us,[]⟩ (ps.zip (us++ds))
theorem Binds.all {K:PySem.W.Frag}{fd:FuncData}{ps:List Str}(h:∀ us:List Value,us.length=ps.length->bindArgs fd ⟨us,[]⟩=pure (ps.zip us)):Binds K fd ps []:=fun s us _ hl=>by
 rw[ax] at hl ⊢;exact .of_eq (h us hl)
def iH (CX:oS)(X:Cx)(E:XK):Prop:=∀(pins:List (Addr×Obj)) (σ:St) (H:Hp) (s:Shared) (e:Value) (s':Shared),Inv X pins σ H s->CX X.stack H s E e s'->X.xe e s'
section
variable {X:Cx}{CX:oS}{k:Nat}{f C:Addr}{fd:FuncData}{ps:List Str}{sp:Sp}{dvs:List V}{ds:List Value}{E:XK}{x m:Str}{p pos apos:Pos}{e o:Expr}{es:List Expr}{ta:TE}{t:TA}
theorem xM {pins:List (Addr×Obj)}{σ:St}{H:Hp}{s:Shared}{Q:VK}{us:List Value}{vs:List V}(F:ki X.prog X.w X.K X.mg X.base CX k f fd ps sp)(hr:fE k X.A)(hb:Binds X.K fd ps ds)(hd:aM dvs ds)(hx:iH CX X E)
  (I:Inv X pins σ H s) (r:aM vs us) (h:sp (vs++dvs) H Q E):wpAny (model X.prog X.w) X.A (call (.ref f) us) (EP X pins σ Q) X.xe s:=by
 have r2:aM (vs++dvs) (us++ds):=r.append hd;have hl:(us++ds).length=ps.length:=by rw[<-r2.length];exact F.len _ _ _ _ h
 refine wpAny_call (codeAny_mono (F.run X.A X.stack s H ⟨us,[]⟩ (us++ds) (vs++dvs) Q E hr I.env0 (hb s us I.kIn hl) r2 h) fun r s' hq=>?_);cases r with
 |error e=>exact hx pins σ H s e s' I hq
 |ok fl =>
  cases fl with
  |ret u=>exact I.after hq
  |next=>exact False.elim hq
  |brk=>exact False.elim hq
  |cont=>exact False.elim hq
theorem Ax (F:ki X.prog X.w X.K X.mg X.base CX k f fd ps sp)(hr:fE k X.A)(hg:Gl X x)(hm:X.mg x=some (.ref f))(hk:PySem.W.keepIn X.K (.ref f)=true)(hb:Binds X.K fd ps ds)(hd:aM dvs ds)(hx:iH CX X E)
  (ha:PA X (e::es) t) (hdb:(x==("__debug__" : Str))=false:=by decide) (he:starEach (e::es) X.env=(false,eval e X.env)::starEach es X.env:=by rfl) (hpl:(backTo pos (starEach es X.env)).any (·.1)=false:=by rfl) :
  PE X (.Call (.Name x p) (e::es) [] pos) (xk sp dvs E t):=by
 intro pins s σ H Q I h;refine wpAny_Call_Name_kw (dU I hg hm ?_ hdb);refine f9 (h₀:=X.base) I.ok.mod.kin hk (cL (ha pos pins s σ H _ I h) fun us s1 ⟨vs,H1,I1,r,q⟩=>⟨I1.kIn,?_⟩) he hpl;exact xM F hr hb hd hx I1 r q
theorem yy (F:ki X.prog X.w X.K X.mg X.base CX k f fd ps sp)(hr:fE k X.A)(hg:Gl X x)(hm:X.mg x=some (.ref f))(hk:PySem.W.keepIn X.K (.ref f)=true)(hb:Binds X.K fd ps ds)(hd:aM dvs ds)(hx:iH CX X E)
  (hdb:(x==("__debug__" : Str))=false:=by decide):PE X (.Call (.Name x p) [] [] pos) (xk sp dvs E qy):=by
 intro pins s σ H Q I h;refine wpAny_Call_Name_kw (dU I hg hm ?_ hdb);exact PySem.W.callWith_K0 I.kIn hk (xM (us:=[]) F hr hb hd hx I .nil h)
structure Mk (K:PySem.W.Frag)(C f:Addr):Prop where
 makes:PySem.W.makesIn K C=true
 init:PySem.W.findIn K (.ref C) "__init__" = some (some (.ref f))
 fn:PySem.W.isFn K (.ref f)=true
 kp:PySem.W.keepIn K (.ref C)=true
end
section
variable {X:Cx}{CX:oS}{k:Nat}{f C:Addr}{fd:FuncData}{ps ks:List Str}{sp:Sp}{E:XK}{x m:Str}{p pos apos kpos:Pos}{e o:Expr}{es:List Expr}{kws:List Keyword}{te ta:TE}{t tk:TA}{nm:Option Str}
structure KBinds (K:PySem.W.Frag)(fd:FuncData)(ps ks:List Str)(g:List Value->List Value->List Value)(gV:List V->List V->List V):Prop where
 to:∀(s:Shared) (us ws:List Value),K.In s.heap->(g us ws).length=ps.length->BindsTo s fd ⟨us,ks.zip ws⟩ (ps.zip (g us ws))
 rel:∀{vs:List V}{us:List Value}{zs:List V}{ws:List Value},aM vs us->aM zs ws->aM (gV vs zs) (g us ws)
variable {g:List Value->List Value->List Value}{gV:List V->List V->List V}
end
structure bW (N P:List Str)(sc:Scope):Prop where
 kind:sc.kind = .function
 co:sc.isCoroutine=false
 gen:sc.isGenerator=false
 nd:N.Nodup
 pre:N.take P.length=P
 par:∀ x∈P,sc.names.lookup x=some .local\/sc.names.lookup x=some .cell
 nofree:∀ y∈sc.names,y.2≠.free
theorem nQ {kindOf:Str->Option NameKind}{x:Str}:∀{binds:List (Str×Value)}{m:Str->Option Value},(∀ v,(x,v)∉binds)->bindL kindOf binds m x=m x
 |[],_,_=>rfl
 | (n,v)::r,m,h=>by
  unfold bindL;rw[nQ fun w hw=>h w (ah _ hw)];split
  ·have:x≠n:=by rintro rfl;exact h v ak
   simp[this]
  ·rfl
theorem nK {kindOf:Str->Option NameKind}{x:Str}:∀{binds:List (Str×Value)}{m:Str->Option Value},(∀ v,(x,v)∉binds)->bindC kindOf binds m x=m x
 |[],_,_=>rfl
 | (n,v)::r,m,h=>by
  unfold bindC;rw[nK fun w hw=>h w (ah _ hw)];split
  ·rfl
  ·have:x≠n:=by rintro rfl;exact h v ak
   simp[this]
theorem iV {kindOf:Str->Option NameKind}{x:Str}{v:Value}:∀{P:List Str}{vs:List Value}{i:Nat}{m:Str->Option Value},P.Nodup->P[i]? = some x->vs[i]? = some v->kindOf x=some .local ->
  bindL kindOf (P.zip vs) m x=some v
 |[],_,_,_,_,h,_,_=>by simp at h
 |_::_,[],_,_,_,_,h,_=>by simp at h
 | p::P,w::vs,0,m,nd,h1,h2,hk=>by
  simp at h1 h2;subst h1;subst h2;show bindL kindOf ((p,w)::P.zip vs) m p=_;unfold bindL;rw[nQ fun v hv=>(List.nodup_cons.mp nd).1 (i6 hv).1,if_pos hk];simp
 | p::P,w::vs,i+1,m,nd,h1,h2,hk=>by
  show bindL kindOf ((p,w)::P.zip vs) m x=_;unfold bindL;exact iV (i:=i) (List.nodup_cons.mp nd).2 (by simpa using h1) (by simpa using h2) hk
theorem nH {kindOf:Str->Option NameKind}{x:Str}{v:Value}:∀{P:List Str}{vs:List Value}{i:Nat}{m:Str->Option Value},P.Nodup->P[i]? = some x->vs[i]? = some v->kindOf x≠some .local ->
  bindC kindOf (P.zip vs) m x=some v
 |[],_,_,_,_,h,_,_=>by simp at h
 |_::_,[],_,_,_,_,h,_=>by simp at h
 | p::P,w::vs,0,m,nd,h1,h2,hk=>by
  simp at h1 h2;subst h1;subst h2;show bindC kindOf ((p,w)::P.zip vs) m p=_;unfold bindC;rw[nK fun v hv=>(List.nodup_cons.mp nd).1 (i6 hv).1,if_neg hk];simp
 | p::P,w::vs,i+1,m,nd,h1,h2,hk=>by
  show bindC kindOf ((p,w)::P.zip vs) m x=_;unfold bindC;exact nH (i:=i) (List.nodup_cons.mp nd).2 (by simpa using h1) (by simpa using h2) hk
noncomputable def start (N:List Str)(vs:List V):St:=vs.map some++List.replicate (N.length - vs.length) none
noncomputable def bX (CX:oS)(P:Program)(w:World)(K:PySem.W.Frag)(mg:Str->Option Value)(base:Heap)(N:List Str)(qual:Str)(scope:Scope)(f:Addr)(cd:Value)(A:Around)(outer:List Env)(s:Shared)(H:Hp)(E:XK):Cx where
 prog:=P
 w:=w
 K:=K
 mg:=mg
 base:=base
 A:=A.deeper (envOfC qual scope s.heap.objs.size f cd)
 N:=N
 s₀:=s
 H₀:=H
 env:=envOfC qual scope s.heap.objs.size f cd
 outer:=outer
 stack:=envOfC qual scope s.heap.objs.size f cd::outer
 ex:=[]
 calm:=true
 fn:=fun _=>true
 pn:=[]
 xe:=fun e s'=>wpAny (model P w) (A.deeper (envOfC qual scope s.heap.objs.size f cd)) (leaving (envOfC qual scope s.heap.objs.size f cd) e) (fun _ s''=>CX outer H s E e s'') (fun e' s''=>CX outer H s E e' s'') s'
theorem qx {sc:Scope}{n:Nat}{x:Str}(h:sc.names.lookup x=some .cell):∃ c,(cellsFrom n sc.names []).lookup x=some c:=by
 have q:=i4 sc.names n [] (.inl h);exact Option.isSome_iff_exists.mp q
theorem m5 {CX:oS}{P:Program}{w:World}{K:PySem.W.Frag}{mg:Str->Option Value}{base:Heap}{N ps:List Str}{qual:Str}{scope:Scope}{f:Addr}{cd:Value}{A:Around}{outer:List Env}{s s1:Shared}{H:Hp}{E:XK}{us:List Value}{vs:List V}
  (S:bW N ps scope) (hd:A.handled=none) (e0:xB P w K mg base A outer s H) (hl:vs.length=ps.length) (r:aM vs us)
  (x:InCallC s s.heap.objs.size (bindL (envOfC qual scope s.heap.objs.size f cd).kindOf (ps.zip us) fun _=>none) (cellsFrom (s.heap.objs.size+1) scope.names []) (bindC (envOfC qual scope s.heap.objs.size f cd).kindOf (ps.zip us) fun _=>none) s1) :
  Inv (bX CX P w K mg base N qual scope f cd A outer s H E) [] (start N vs) H s1:=by
 have hpl:ps.length<=N.length:=by have:=gx List.length S.pre;rw[bh] at this;omega
 obtain⟨h1,tk,rfl,hk⟩:=x.done;have noA:∀ b:Addr,b∉(bX CX P w K mg base N qual scope f cd A outer s H E).ex:=fun b z=>absurd (show b∈([]:List Addr) from z) (by simp)
 refine⟨⟨e0.mod,S.kind,rfl,rfl,au _,fun y z c h1 h2=>?_,fun y hy=>?_,fun y c _ h=>?_,fun _=>hd,Around.frames_deeper e0.frames,.inr ⟨rfl,rfl⟩,fun b z=>absurd z (noA b),e0.bs,e0.bsz,fun b _ _=>noA b,fun b z=>absurd z (noA b),e0.funs,e0.frf⟩,
  rfl,e0.bare,Un.kept hk,⟨_,x.toInCall.ns,fun i y v h1 h2 h3=>?_⟩,fun y c h=>⟨_,x.cell y c h⟩,e0.hok.fresh (Nat.le_refl _),fun y c h=>?_,fun p hp=>absurd (show p∈([]:List (Addr×Obj)) from hp) (by simp),e0.hok.kept hk,?_⟩
 ·exact name_of_addr x.apart (cg h1) (cg h2)
 ·have hy:scope.names.lookup y=some .cell\/scope.names.lookup y=some .free:=hy;rcases hy with hy | hy
  ·exact qx hy
  ·exact absurd rfl (S.nofree _ (cg hy))
 ·exact Nat.le_of_lt (x.above y c (cg h))
 ·have hi:i<vs.length:=by
   unfold start at h2;by_cases hi:i<vs.length
   ·exact hi
   ·rw[List.getElem?_append_right (by simpa using hi)] at h2;rw[List.getElem?_replicate] at h2;split at h2<;>cases h2
  have ha:vs[i]? = some v:=by
   unfold start at h2;rw[List.getElem?_append_left (by simpa using hi),List.getElem?_map] at h2;cases e:vs[i]? with
   |none=>rw[e] at h2;cases h2
   |some a=>rw[e] at h2;cases h2;rfl
  obtain⟨u,hu,rv⟩:=r.get ha;have hp:ps[i]? = some y:=by
   rw[<-S.pre,List.getElem?_take_of_lt (by omega)];exact h1
  have ndP:ps.Nodup:=by rw[<-S.pre];exact S.nd.sublist (List.take_sublist _ _)
  refine⟨u,rv,?_⟩;rcases S.par y (List.mem_of_getElem? hp) with k | k
  ·exact .inl ⟨k,iV ndP hp hu k⟩
  ·obtain⟨c,e⟩:=qx (n:=s.heap.objs.size+1) k;refine .inr ⟨.inl k,c,e,?_⟩;have q:=x.cell y c e;rw[nH ndP hp hu (by show scope.names.lookup y≠_;rw[k];decide)] at q;exact q
 ·exact e0.hok.fresh (Nat.le_of_lt (x.above y c (cg h)))
 ·unfold start;show _=N.length;rw[ag,ao,bo];omega
theorem FT {CX:oS}{P:Program}{w:World}{K:PySem.W.Frag}{mg:Str->Option Value}{base:Heap}{k:Nat}{f:Addr}{name qual:Str}{params:Arguments}{body:List Stmt}{scope:Scope}{dV kV doc pm cdv ct oc:Value}{an od:Option Addr}
  {osl:Array (Option Value)}{N ps:List Str}{sp:Sp}(lk:K.lookup f=some ⟨oc,od,.func (PySem.W.fnOf name qual params body scope dV kV doc pm an cdv ct),osl⟩) (hcd:PySem.W.codeIn K cdv qual=true) (S:bW N ps scope)
  (len:∀ vs H Q E,sp vs H Q E->vs.length=ps.length)
  (hbody:∀(A:Around) (outer:List Env) (s:Shared) (H:Hp) (vs:List V) (Q:VK) (E:XK),fE k (A.deeper (envOfC qual scope s.heap.objs.size f cdv))->sp vs H Q E ->
   ∃ t,iZ (bX CX P w K mg base N qual scope f cdv A outer s H E) body t/\t { nx:=fun _ H'=>Q .non H',rt:=Q } (start N vs) H) :
  ki P w K mg base CX (k+1) f (PySem.W.fnOf name qual params body scope dV kV doc pm an cdv ct) ps sp:=by
 refine⟨len,fun A outer s H args us vs Q E hr e0 hb r hsp=>?_⟩;have hl:=len _ _ _ _ hsp;have KX:K.In s.heap:=e0.mod.kin.keeps fun b o e=>(e0.bs b o e).1
 have lim:s.heap.NoLimit:=e0.mod.nolimit.keeps fun b o e=>(e0.bs b o e).1
 have hkind:∀ y∈ps.zip us,scope.names.lookup y.1=some .local\/(scope.names.lookup y.1=some .cell/\((cellsFrom (s.heap.objs.size+1) scope.names []).lookup y.1).isSome=true):=fun ⟨n,v⟩ hy=>by
  rcases S.par n (i6 hy).1 with q | q
  ·exact .inl q
  ·exact .inr ⟨q,i4 _ _ _ (.inl q)⟩
 refine codeAny_call_function hr.depth (KX _ _ lk) rfl S.co S.gen rfl (PySem.W.codeRec_of KX hcd) (hb _ _ _ _ ?_);refine wpAny_newFunctionEnv_cells S.kind hkind fun env he s1 x=>?_
 subst he;refine⟨lim.keeps x.toInCall.keep,codeAny_func ?_⟩;obtain⟨t,ht,hq⟩:=hbody A outer s H vs Q E (hr.deeper _) hsp;have I:Inv (bX CX P w K mg base N qual scope f cdv A outer s H E) [] (start N vs) H s1:=m5 S hr.hd e0 hl r x;refine wpAny_mono (ht [] s1 (start N vs) H _ I hq) (fun fl s' hs=>?_) fun e s' hs=>hs
 have fin:∀{σ':St}{H':Hp}{v:V}{u:Value},Inv (bX CX P w K mg base N qual scope f cdv A outer s H E) [] σ' H' s'->RelV v u->Q v H'->CE outer P w H s Q u s' :=
  fun {σ' H' v u} J rv q=>⟨v,H',J.os,J.bare,J.base,J.hok,rv,q⟩
 cases fl with
 |ret u =>
  obtain⟨v,σ',H',J,rv,q⟩:=hs;exact fin J rv q
 |next =>
  obtain⟨σ',H',J,q⟩:=hs;exact fin (v:=V.non) (u:=Value.none) J rfl q
 |brk =>
  obtain⟨_,_,_,q⟩:=hs;exact False.elim q
 |cont =>
  obtain⟨_,_,_,q⟩:=hs;exact False.elim q
end L2
namespace L2
open PySem PySem.Spec PyProof.Rows
section
variable {X:Cx}{x:Str}{p pos:Pos}{e:Expr}{es:List Expr}{t:TA}{id T:String}{r:List V->Hp->VK->Prop}
def DJ (r:List V->Hp->VK->Prop)(t:TA):TE:=fun σ H Q=>t σ H fun vs H1=>r vs H1 Q
theorem iL (hc:fL X (.builtin id) r)(hg:Gl X x)(hm:X.mg x=none)(hv:bootBuiltins x=some (.builtin id))(ha:PA X (e::es) t)(hn:x≠"__name__":=by decide) (hdb:(x==("__debug__" : Str))=false:=by decide)
  (he:starEach (e::es) X.env=(false,eval e X.env)::starEach es X.env:=by rfl) (hpl:(backTo pos (starEach es X.env)).any (·.1)=false:=by rfl):PE X (.Call (.Name x p) (e::es) [] pos) (DJ r t):=by
 intro pins s σ H Q I h;refine wpAny_Call_Name_kw (mn I hg hm hv ?_ hn hdb);exact PyProof.Rows.callWith_builtin1 (cL (ha pos pins s σ H _ I h) fun us s1 ⟨vs,H1,I1,r1,q1⟩=>hc pins s1 σ H1 vs us Q I1 r1 q1) he hpl
theorem uY (hc:fL X (.type T) r)(hg:Gl X x)(hm:X.mg x=none)(hv:bootBuiltins x=some (.type T))(ha:PA X (e::es) t)(hn:x≠"__name__":=by decide) (hdb:(x==("__debug__" : Str))=false:=by decide)
  (he:starEach (e::es) X.env=(false,eval e X.env)::starEach es X.env:=by rfl) (hpl:(backTo pos (starEach es X.env)).any (·.1)=false:=by rfl):PE X (.Call (.Name x p) (e::es) [] pos) (DJ r t):=by
 intro pins s σ H Q I h;refine wpAny_Call_Name_kw (mn I hg hm hv ?_ hn hdb);exact ij (cL (ha pos pins s σ H _ I h) fun us s1 ⟨vs,H1,I1,r1,q1⟩=>hc pins s1 σ H1 vs us Q I1 r1 q1) he hpl
end
end L2
namespace HT
open PySem PyProof.Rows
noncomputable def lexLt:List Int->List Int->Bool
 |[],[]=>false
 |[],_::_=>true
 |_::_,[]=>false
 |x::xs,y::ys=>if x=y then lexLt xs ys else decide (x<y)
theorem mw (x y:Int)(xs ys:List Int):lexLt (x::xs) (y::ys)=if x=y then lexLt xs ys else decide (x<y):=rfl
theorem mG:lexLt [] []=false:=rfl
theorem lq (y:Int)(ys:List Int):lexLt [] (y::ys)=true:=rfl
theorem lR (x:Int)(xs:List Int):lexLt (x::xs) []=false:=rfl
theorem xZ (A:Around)(s:Shared)(a:Int)(t:Tok)(c:Int)(u:Tok):∃ e,SeqAt.EqAt A s (.int a t) (.int c u) e/\(e=true↔a=c) :=
 ⟨(a==c),SeqAt.EqAt.int_int a t c u,by simp⟩
theorem pG (A:Around)(s:Shared)(a:Int)(t:Tok)(c:Int)(u:Tok)(prog:Program)(w:World)(E:Value->Shared->Prop)(Q:Value->Shared->Prop)(h:Q (.bool (decide (a<c))) s) :
  wpAny (model prog w) A (richCompare .Lt (.int a t) (.int c u)) Q E s :=
 (PyProof.Rows.lt_int h:wpAny (model prog w) A (compareOp .Lt (.int a t) (.int c u)) Q E s)
section
open PySem.SeqAt
open PySem.AutoSeq1 (wpAny_loadPart')
open PySem.MeetsSeq PySem.MeetsSeq2 PySem.MeetsSeq3
theorem mH (l b:Addr)(items items2:Array Value)(n n2:Nat)(dd dd2:Option Addr)(sl sl2:Array (Option Value))(ns ms:List Int)(hi:IntsAre items.toList ns)(hj:IntsAre items2.toList ms) :
  Meets (Builtin.«tuple.__lt__» ⟨[.ref l,.ref b],[]⟩)
   (fun _ R s=>s.heap.get? l=some { cls:=.type "tuple",dict:=dd,data:=.seq items n,slots:=sl }/\s.heap.get? b=some { cls:=.type "tuple",dict:=dd2,data:=.seq items2 n2,slots:=sl2 } /\
    R (.ok (.ret (.bool (lexLt ns ms)))) s) :=
 .of_wp fun prog w A R s h=>by
  obtain⟨hp,g,d,tk,os⟩:=s;obtain⟨hl,hb,h⟩:=h;have f2:=AutoSeq1.sub_tuple_tuple;have z1:items.size=ns.length:=by rw[<-hi.length];simp
  have z2:items2.size=ms.length:=by rw[<-hj.length];simp
  wp_walk using wpAny_loadPart' hl,wpAny_loadPart' hb,wpAny_forIn_list _ (fun rest b s'=>b.1=none/\s'=⟨hp,g,d,tk,os⟩/\∃(vs ws:List Value) (ns' ms':List Int),rest=vs.zip ws /\
   IntsAre vs ns'/\IntsAre ws ms'/\ns'.length+items2.size=ms'.length+items.size/\R (.ok (.ret (.bool (lexLt ns' ms')))) ⟨hp,g,d,tk,os⟩) _
  case turn =>
   rintro⟨y,x⟩ rest b s' ⟨hb',rfl,vs,ws,ns',ms',hz,hvi,hwi,hlen,hR⟩;cases hvi with
   |nil=>rw[List.zip_nil_left] at hz;cases hz
   |cons a t hvi' =>
    cases hwi with
    |nil=>rw[List.zip_nil_right] at hz;cases hz
    |cons c u hwi' =>
     rw[List.zip_cons_cons] at hz;injection hz with hyx hrest
     injection hyx with hy hx
     subst hy hx;rw[mw] at hR;simp only[List.length_cons] at hlen;obtain⟨e,he,hiff⟩:=xZ A.in1 ⟨hp,g,d,tk,os⟩ a t c u;refine wpAny_bind (he prog w _ _ ?_);cases e with
     |true =>
      rw[if_pos (hiff.mp rfl)] at hR
      wp_walk
      exact⟨rfl,rfl,_,_,_,_,hrest,hvi',hwi',by omega,hR⟩
     |false =>
      rw[if_neg (fun q=>absurd (hiff.mpr q) bq)] at hR;have hri:=pG A.in1 ⟨hp,g,d,tk,os⟩ a t c u prog w
      wp_walk using hri
      exact⟨_,rfl,by simpa using hR⟩
  case fin =>
   rintro⟨b1,b2⟩ s' ⟨hb',rfl,vs,ws,ns',ms',hz,hvi,hwi,hlen,hR⟩;simp only at hb';subst hb';have hv:lexLt ns' ms'=decide (items.size<items2.size):=by
    cases hvi with
    |nil =>
     cases hwi with
     |nil =>
      simp only[List.length_nil] at hlen;rw[mG];exact (az (by omega)).symm
     |cons c u hw =>
      simp only[List.length_nil,List.length_cons] at hlen;rw[lq];exact (cj (by omega)).symm
    |cons a t hv =>
     cases hwi with
     |nil =>
      simp only[List.length_nil,List.length_cons] at hlen;rw[lR];exact (az (by omega)).symm
     |cons c u hw =>
      rw[List.zip_cons_cons] at hz;cases hz
   rw[hv] at hR
   wp_walk
   exact⟨_,rfl,by simpa[Builtin.Tuple.tupleCompareSizes] using hR⟩
  case h =>
   exact⟨rfl,rfl,items.toList,items2.toList,ns,ms,rfl,hi,hj,by omega,h⟩
end
section
variable {prog:Program}{w:World}{A:Around}{E:Value->Shared->Prop}{s:Shared}
theorem sE {l b:Addr}{items items2:Array Value}{ns ms:List Int}{Q:Value->Shared->Prop}(hl:IsTup s.heap l items)(hb:IsTup s.heap b items2)(hi:IntsAre items.toList ns)(hj:IntsAre items2.toList ms)
  (hu:A.units<cLine) (h:Q (.bool (lexLt ns ms)) s):wpAny (model prog w) A (compareOp .Lt (.ref l) (.ref b)) Q E s:=by
 obtain⟨⟨cls,dd,data,sl⟩,ho,hc,n,hd⟩:=id hl;obtain⟨⟨cls2,dd2,data2,sl2⟩,ho2,hc2,n2,hd2⟩:=id hb;simp only at hc hd hc2 hd2;subst hc hd hc2 hd2;exact richCompare_meets_room (op:=.Lt) ⟨_,ho,rfl⟩ ⟨_,ho2,rfl⟩ PySem.F.slot_tuple_lt PySem.F.entry_tuple_lt (PySem.F.args_tuple_lt_2 _ _) (mH l b items items2 n n2 dd dd2 sl sl2 ns ms hi hj)
  ⟨ho,ho2,show Value.bool (lexLt ns ms)≠Value.notImplemented/\Q (.bool (lexLt ns ms)) s from ⟨(fun x=>nomatch x),h⟩⟩ hu
theorem Aq {t b:Addr}{vs ws:List Value}{Q:Value->Shared->Prop}(ht:IsTup s.heap t vs.toArray)(hb:IsTup s.heap b ws.toArray)(hv:vs≠[])
  (h1:ws=[]->Q (.ref t) s) (h2:ws≠[]->Q (.ref s.heap.objs.size) { s with heap:=s.heap.push { cls:=.type "tuple",data:=.seq (vs++ws).toArray } })
  (hsz:vs.length+ws.length<=sizeLine):wpAny (model prog w) A (binaryOp .Add (.ref t) (.ref b)) Q E s:=by
 obtain⟨⟨cls,dd,data,sl⟩,ho,hc,n,hd⟩:=id ht;obtain⟨⟨cls2,dd2,data2,sl2⟩,ho2,hc2,n2,hd2⟩:=id hb;simp only at hc hd hc2 hd2;subst hc hd hc2 hd2;have e:vs.toArray++ws.toArray=(vs++ws).toArray:=by simp
 by_cases hw:ws=[]
 ·exact concat_meets ⟨_,ho,rfl⟩ ⟨_,ho2,rfl⟩ noFill_tuple_add seq_tuple_add PySem.F.slot_tuple_add PySem.F.entry_tuple_add (PySem.F.args_tuple_add_2 _ _)
   (tuple_addW1 t b vs.toArray ws.toArray n n2 dd dd2 sl sl2 (by simpa using hv) (by simp[hw])) ⟨ho,ho2,h1 hw⟩
 ·refine concat_meets ⟨_,ho,rfl⟩ ⟨_,ho2,rfl⟩ noFill_tuple_add seq_tuple_add PySem.F.slot_tuple_add PySem.F.entry_tuple_add (PySem.F.args_tuple_add_2 _ _)
   (tuple_addW2 t b vs.toArray ws.toArray n n2 dd dd2 sl sl2 (by simpa using hv) (by simpa using hw) (by rw[List.size_toArray,List.size_toArray];exact hsz)) ⟨ho,ho2,?_⟩
  rw[e];exact h2 hw
noncomputable def bL (n d:Nat):Option Int->Nat
 |none=>d
 |some v=>if v<0 then (v+(n:Int)).toNat else min v.toNat n
theorem pz (n d:Nat)(hd:d<=n)(o:Option Int):bL n d o<=n:=by
 cases o with
 |none=>exact hd
 |some v =>
  show (if v<0 then (v+(n:Int)).toNat else min v.toNat n)<=n;by_cases hv:v<0
  ·rw[if_pos hv];omega
  ·rw[if_neg hv];exact gi _ _
theorem ub (v:Int)(n d:Nat):(if v<0 then max (v+(n:Int)) 0 else min v (n:Int))=((bL n d (some v):Nat):Int):=by
 show (if v<0 then max (v+(n:Int)) 0 else min v (n:Int))=(((if v<0 then (v+(n:Int)).toNat else min v.toNat n):Nat):Int);by_cases hv:v<0
 ·simp only[if_pos hv];omega
 ·simp only[if_neg hv];omega
theorem rJ (lo hi:Option Int)(n:Nat):Builtin.Slice.sliceAdjust lo hi 1 (n:Int)=(((bL n 0 lo:Nat):Int),((bL n n hi:Nat):Int)):=by
 have h1:¬ ((1:Int)<0):=by omega
 unfold Builtin.Slice.sliceAdjust;simp only[h1,if_false];refine Prod.ext ?_ ?_
 ·cases lo with
  |none=>rfl
  |some v=>exact ub v n 0
 ·cases hi with
  |none=>rfl
  |some v=>exact ub v n n
theorem rX (i j:Nat):Builtin.Slice.slicePlaces (i:Int) (j:Int) 1=j - i:=by
 unfold Builtin.Slice.slicePlaces;have h1:(1:Int) > 0:=by omega
 simp only[h1,if_true,Int.ediv_one];split<;>omega
theorem mo {v:Value}{o:Option Int}{Q:Option Int->Shared->Prop}(p:IsPart v o)(h:Q o s):wpAny (model prog w) A (Builtin.Slice.slicePartIndex v) Q E s:=by
 cases p with
 |none=>exact slicePart_none h
 |int i t=>exact slicePart_int h
theorem kf {sl:Addr}{vl vu:Value}{lo hi:Option Int}{n:Nat}{Q:Int×Int×Nat->Shared->Prop}(hs:s.heap.IsSliceOf sl vl vu .none)(pl:IsPart vl lo)(pu:IsPart vu hi)
  (h:Q (((bL n 0 lo:Nat):Int),1,bL n n hi - bL n 0 lo) s):wpAny (model prog w) A (Builtin.Slice.sliceApplied (.ref sl) (pure (n:Int))) Q E s:=by
 obtain⟨os,hos,hcs,hds⟩:=id hs;unfold Builtin.Slice.sliceApplied Builtin.Slice.sliceFields;refine wpAny_bind (wpAny_bind (wpAny_field hos hds (x:=vl) rfl (wpAny_bind (wpAny_field hos hds (x:=vu) rfl (wpAny_bind (wpAny_field hos hds (x:=.none) rfl (wpAny_pure ?_)))))));refine wpAny_bind (slicePart_none ?_);show wpAny _ _ (if ((1:Int)==0)=true then _ else _) _ _ s;rw[if_neg (by decide)];refine wpAny_bind (mo pl (wpAny_bind (mo pu (wpAny_bind (wpAny_pure ?_)))));show wpAny _ _ (match Builtin.Slice.sliceAdjust lo hi 1 (n:Int) with | (lo,hi)=>pure (lo,(1:Int),Builtin.Slice.slicePlaces lo hi 1)) _ _ s;rw[rJ lo hi n];show wpAny _ _ (pure (((bL n 0 lo:Nat):Int),(1:Int),Builtin.Slice.slicePlaces ((bL n 0 lo:Nat):Int) ((bL n n hi:Nat):Int) 1)) _ _ s;rw[rX];exact wpAny_pure h
theorem wW (xs:Array Value)(i k:Nat):((List.range k).filterMap fun (m:Nat)=>xs[((i:Int)+(m:Int)*1).toNat]?).toArray=((xs.toList.drop i).take k).toArray:=by
 have e:(fun (m:Nat)=>xs[((i:Int)+(m:Int)*1).toNat]?)=fun m=>xs[i+m]?:=by
  funext m;have:((i:Int)+(m:Int)*1).toNat=i+m:=by omega
  rw[this]
 rw[e];have:=pick_run xs i k;rw[List.filterMap_map] at this;have e2:((fun x=>xs[x]?)∘fun x=>i+x)=fun m=>xs[i+m]?:=rfl
 rw[e2] at this;rw[this]
theorem jJ {t sl:Addr}{items:Array Value}{vl vu:Value}{lo hi:Option Int}{Q:Value->Shared->Prop}(ht:IsTup s.heap t items)(hs:s.heap.IsSliceOf sl vl vu .none)(pl:IsPart vl lo)(pu:IsPart vu hi)
  (hw:¬ (bL items.size 0 lo=0/\bL items.size items.size hi=items.size))
  (h:Q (.ref s.heap.objs.size) { s with heap:=s.heap.push { cls:=.type "tuple",data:=.seq ((items.toList.drop (bL items.size 0 lo)).take (bL items.size items.size hi - bL items.size 0 lo)).toArray } })
  (hsz:items.size<=sizeLine):wpAny (model prog w) A (getItem (.ref t) (.ref sl)) Q E s:=by
 have htake:sizeOk (.seq ((items.toList.drop (bL items.size 0 lo)).take (bL items.size items.size hi - bL items.size 0 lo)).toArray):=by
  show ((items.toList.drop (bL items.size 0 lo)).take (bL items.size items.size hi - bL items.size 0 lo)).toArray.size<=sizeLine;rw[ai,bh,c9,gn];omega
 have hj:bL items.size items.size hi<=items.size:=pz _ _ (au _) hi;obtain⟨os,hos,hcs,hds⟩:=id hs;have hTs:s.TypeIs (.ref sl) "slice":=⟨os,hos,hcs⟩;unfold getItem
 try with_reducible refine wpAny_holding ?_
 first | refine wpAny_bind (wpAny_pure ?_) | skip
 refine wpAny_bind (wpAny_sequenceKey ht.typeIs (by decide) ?_);refine wpAny_bind (wpAny_callSpecial?_slot (name:=Str.ofString "__getitem__") ht.typeIs PyProof.Rows.slot_tuple_getitem
  (wpAny_call_entry PyProof.Rows.slot_tuple_getitem ht.typeIs entry_tuple_getitem ?_ (args_tuple_getitem _ _)))
 show wpAny _ _ (Builtin.Tuple.tupleItemsOf (.ref t) >>= _) _ _ s;refine wpAny_bind (tupleItemsOf_ ht ?_);refine wpAny_bind (wpAny_typeOf hTs ?_);rw[if_pos (by decide)];refine wpAny_bind (kf hs pl pu ?_);have hno:¬ ((((bL items.size 0 lo:Nat):Int)==0&&(1:Int)==1&&(bL items.size items.size hi - bL items.size 0 lo)==items.size)=true):=by
  intro q;rw[aj,aj] at q;have q1:((bL items.size 0 lo:Nat):Int)=0:=eq_of_beq q.1.1;have q2:bL items.size items.size hi - bL items.size 0 lo=items.size:=eq_of_beq q.2;exact hw ⟨by omega,by omega⟩
 show wpAny _ _ (if (((bL items.size 0 lo:Nat):Int)==0&&(1:Int)==1&&(bL items.size items.size hi - bL items.size 0 lo)==items.size)=true then _ else _) _ _ s;rw[if_neg hno,wW]
 first
  | exact wpAny_bind (m:=Builtin.Tuple.tupleExact _) (wpAny_newObj_type (wpAny_pure ⟨_,rfl,wpAny_pure h⟩) htake)
  | exact wpAny_bind (m:=Builtin.Tuple.tupleExact _) (wpAny_newObj_type (wpAny_bind (wpAny_pure (wpAny_pure ⟨_,rfl,wpAny_pure h⟩))) htake)
  | exact wpAny_bind (wpAny_bind (m:=Builtin.Tuple.tupleExact _) (wpAny_newObj_type (wpAny_pure (wpAny_pure ⟨_,rfl,wpAny_pure h⟩)) htake))
  | exact wpAny_bind (wpAny_bind (m:=Builtin.Tuple.tupleExact _) (wpAny_newObj_type (wpAny_pure ⟨_,rfl,wpAny_pure h⟩) htake))
end
end HT
namespace L2
open PySem PySem.Spec PyProof.Rows
noncomputable abbrev TO:=St->Hp->(Option Int->Hp->Prop)->Prop
noncomputable def PO (X:Cx)(e:Option Expr)(t:TO):Prop :=
 ∀(pins:List (Addr×Obj)) (s:Shared) (σ:St) (H:Hp) (Q:Option Int->Hp->Prop),Inv X pins σ H s->t σ H Q ->
  wpAny (model X.prog X.w) X.A (evalPart e X.env) (fun u s'=>∃ o H',Inv X pins σ H' s'/\IsPart u o/\Q o H') X.xe s
noncomputable def Bn:TO:=fun _ H Q=>Q none H
noncomputable def Ip (t:TE):TO:=fun σ H Q=>t σ H fun x H1=>∃ i,x = .int i/\Q (some i) H1
section
variable {X:Cx}{e:Expr}{te:TE}{lo hi:Option Expr}{tl th:TO}{pos p2:Pos}
theorem Aa:PO X none Bn:=by
 intro pins s σ H Q I h;rw[evalPart_none];exact wpAny_pure ⟨none,H,I,.none,h⟩
theorem z6 (h:PE X e te):PO X (some e) (Ip te):=by
 intro pins s σ H Q I hw;rw[evalPart_some];refine cL (h pins s σ H _ I hw) fun u s1 ⟨x,H1,I1,r1,q1⟩=>?_
 obtain⟨i,rfl,q⟩:=q1;obtain⟨t,rfl⟩:=r1;exact⟨some i,H1,I1,.int i t,q⟩
noncomputable def Cg (X:Cx)(r:V->Option Int->Option Int->Hp->VK->Prop):Prop :=
 ∀(pins:List (Addr×Obj)) (s:Shared) (σ:St) (H:Hp) (x:V) (v vl vu:Value) (lo hi:Option Int) (sl:Addr) (Q:VK),Inv X pins σ H s->RelV x v->s.heap.IsSliceOf sl vl vu .none->IsPart vl lo->IsPart vu hi->r x lo hi H Q ->
  ∃ T id,typeLookup (.type T) "__getitem__" = pure (some (.builtin id))/\s.TypeIs v T/\wpAny (model X.prog X.w) X.A (getItem v (.ref sl)) (EP X pins σ Q) X.xe s
theorem Cg.or {r r':V->Option Int->Option Int->Hp->VK->Prop}(h:Cg X r)(h':Cg X r'):Cg X (fun x lo hi H Q=>r x lo hi H Q\/r' x lo hi H Q):=by
 intro pins s σ H x v vl vu lo hi sl Q I rx hs pl pu q;rcases q with q | q
 ·exact h pins s σ H x v vl vu lo hi sl Q I rx hs pl pu q
 ·exact h' pins s σ H x v vl vu lo hi sl Q I rx hs pl pu q
def tSl (r:V->Option Int->Option Int->Hp->VK->Prop)(te:TE)(tl th:TO):TE:=fun σ H Q=>te σ H fun x H1=>tl σ H1 fun l H2=>th σ H2 fun u H3=>r x l u H3 Q
theorem xh {r:V->Option Int->Option Int->Hp->VK->Prop}(hr:Cg X r)(he:PE X e te)(hl:PO X lo tl)(hu:PO X hi th):PE X (.Subscript e (.Slice lo hi none p2) pos) (tSl r te tl th):=by
 intro pins s σ H Q I h;refine Subscript_ (cL (he pins s σ H _ I h) fun v s1 ⟨x,H1,I1,r1,q1⟩=>?_);refine wpAny_Slice (cL (hl pins s1 σ H1 _ I1 q1) fun vl s2 ⟨l,H2,I2,pl,q2⟩=>cL (hu pins s2 σ H2 _ I2 q2) fun vu s3 ⟨u,H3,I3,pu,q3⟩=>?_);rw[evalPart_none];refine wpAny_pure ?_;have I4:Inv X pins σ H3 { s3 with heap:=s3.heap.push { cls:=.type "slice",data:=.fields #[vl,vu,.none] } }:=I3.kept (t':=s3.toks) fun b ob q=>Heap.get?_push_of_some _ q
 obtain⟨T,id,hT,ht,hg⟩:=hr pins { s3 with heap:=s3.heap.push { cls:=.type "slice",data:=.fields #[vl,vu,.none] } } σ H3 x v vl vu l u s3.heap.objs.size Q I4 r1 (Heap.IsSliceOf.new ..) pl pu q3;show wpAny (model X.prog X.w) X.A (subscriptTail e (.Slice lo hi none p2) v (.ref s3.heap.objs.size)) (EP X pins σ Q) X.xe { s3 with heap:=s3.heap.push { cls:=.type "slice",data:=.fields #[vl,vu,.none] } };exact tail_any (ops:=[.ref s3.heap.objs.size,v]) ht hT hg (by with_unfolding_all rfl)
noncomputable def mD (xs:List V)(lo hi:Option Int):List V:=(xs.drop (HT.bL xs.length 0 lo)).take (HT.bL xs.length xs.length hi - HT.bL xs.length 0 lo)
theorem kB (xs:List V)(lo hi:Option Int):(mD xs lo hi).length<=xs.length:=by
 unfold mD;rw[bh,c9];omega
def rSlT (K:PySem.W.Frag):V->Option Int->Option Int->Hp->VK->Prop:=fun x lo hi H Q=>∃ a xs,x = .ref a/\j8 K H a xs /\
 ¬ (HT.bL xs.length 0 lo=0/\HT.bL xs.length xs.length hi=xs.length)/\∀ p,H p=none->Q (.ref p) (upd H p (.tup (mD xs lo hi)))
theorem Eh:Cg X (rSlT X.K):=by
 intro pins s σ H x v vl vu lo hi sl Q I rx hs pl pu h;obtain⟨a,xs,rfl,hx,hw,q⟩:=h;cases rx;obtain⟨its,r,ht,hz⟩:=I.tuple hx;have hlen:its.toArray.size=xs.length:=by rw[ai];exact r.length.symm
 refine⟨"tuple",_,PyProof.Rows.slot_tuple_getitem.lookup,ht.typeIs,?_⟩;refine HT.jJ ht hs pl pu (by rw[hlen];exact hw) ?_ (by rw[hlen];exact hz);rw[hlen];refine⟨.ref s.heap.objs.size,_,I.laid (t':=s.toks) (o:=.tup (mD xs lo hi)) (fun b ob q=>Heap.get?_push_of_some _ q) (au _) ?_,rfl,q _ (I.hok.fresh (au _))⟩;exact⟨bj (kB xs lo hi) hz,_,(r.drop (HT.bL xs.length 0 lo)).take (HT.bL xs.length xs.length hi - HT.bL xs.length 0 lo),IsTup.new _ _⟩
noncomputable def HX (K:PySem.W.Frag):R2:=fun x y H Q=>∃ a b xs ys,x = .ref a/\y = .ref b/\j8 K H a xs/\j8 K H b ys/\xs≠[]/\xs.length+ys.length<=sizeLine /\
 (ys=[]->Q (.ref a) H)/\(ys≠[]->∀ p,H p=none->Q (.ref p) (upd H p (.tup (xs++ys))))
theorem aM.nil_iff {xs:List V}{us:List Value}(r:aM xs us):us=[]↔xs=[]:=by
 cases r with
 |nil=>simp
 |cons _ _=>simp
theorem AR:iW X (binaryOp .Add) (HX X.K):=by
 intro pins s σ H x y v u Q I rx ry h;obtain⟨a,b,xs,ys,rfl,rfl,ha,hb,hx,hz,q1,q2⟩:=h;cases rx;cases ry;obtain⟨its,r1,p1,_⟩:=I.tuple ha;obtain⟨its2,r2,p2,_⟩:=I.tuple hb;refine HT.Aq p1 p2 (fun z=>hx (r1.nil_iff.mp z)) (fun z=>⟨.ref a,H,I,rfl,q1 (r2.nil_iff.mp z)⟩) (fun z=>?_) (by rw[<-r1.length,<-r2.length];exact hz);refine⟨.ref s.heap.objs.size,_,I.laid (t':=s.toks) (o:=.tup (xs++ys)) (fun b ob q=>Heap.get?_push_of_some _ q) (au _) ?_,rfl,q2 (fun w=>z (r2.nil_iff.mpr w)) _ (I.hok.fresh (au _))⟩;exact⟨by rw[ag];exact hz,_,r1.append r2,IsTup.new _ _⟩
end
end L2
namespace L2
open PySem PySem.Spec PyProof.Rows
noncomputable def kd (n:Nat)(i:Int):Option Nat:=if 0<=i then (if i<n then some i.toNat else none) else if -(n:Int)<=i then some (i+n).toNat else none
noncomputable def Fd {α:Type}(xs:List α)(i:Int):Option α:=(kd xs.length i).bind fun j=>xs[j]?
theorem uh {n:Nat}{i:Int}{j:Nat}(h:kd n i=some j):seqIndex? i n=some j/\j<n/\-(n:Int)<=i/\i<n:=by
 unfold kd at h;by_cases h0:0<=i
 ·rw[if_pos h0] at h;by_cases h1:i<n
  ·rw[if_pos h1] at h;have e:i.toNat=j:=bu h;exact⟨by rw[seqIndex_of h0 h1,e],by omega,by omega,h1⟩
  ·rw[if_neg h1] at h;cases h
 ·rw[if_neg h0] at h;by_cases h1 : -(n:Int)<=i
  ·rw[if_pos h1] at h;have e:(i+n).toNat=j:=bu h;exact⟨by rw[seqIndex_neg (by omega) h1,e],by omega,h1,by omega⟩
  ·rw[if_neg h1] at h;cases h
theorem oF {α:Type}{xs:List α}{i:Int}{v:α}(h:Fd xs i=some v):∃ j,seqIndex? i xs.length=some j/\xs[j]? = some v/\j<xs.length/\-(xs.length:Int)<=i/\i<xs.length:=by
 unfold Fd at h;cases e:kd xs.length i with
 |none=>rw[e] at h;cases h
 |some j =>
  rw[e] at h;obtain⟨h1,h2,h3,h4⟩:=uh e;exact⟨j,h1,h,h2,h3,h4⟩
def pC (b:Expr):Prop:=∀ o i,subscripted b false o i=operate [o,i] (getItem o i)
noncomputable def Fo (X:Cx)(r:R2):Prop :=
 ∀(value slice:Expr) (pins:List (Addr×Obj)) (s:Shared) (σ:St) (H:Hp) (x y:V) (v u:Value) (Q:VK),Inv X pins σ H s->RelV x v->RelV y u->r x y H Q ->
  subscripted slice false v u=operate [v,u] (getItem v u)->wpAny (model X.prog X.w) X.A (subscriptTail value slice v u) (EP X pins σ Q) X.xe s
noncomputable def Bp (X:Cx)(id:String)(r:V->List V->Hp->VK->Prop):Prop :=
 ∀(pins:List (Addr×Obj)) (s:Shared) (σ:St) (H:Hp) (x:V) (xs:List V) (v:Value) (us:List Value) (Q:VK),Inv X pins σ H s->RelV x v->aM xs us->r x xs H Q ->
  wpAny (model X.prog X.w) X.A (call (.builtin id) (v::us)) (EP X pins σ Q) X.xe s
section
variable {X:Cx}{a b:Expr}{ta tb:TE}{pos:Pos}
theorem Gp {r:R2}(hr:Fo X r)(ha:PE X a ta)(hb:PE X b tb)(hs:pC b):PE X (.Subscript a b pos) (HC r ta tb):=by
 intro pins s σ H Q I h;exact Subscript_ (EA ha hb I h fun v u s2 x y H2 I2 rx ry q=>hr a b pins s2 σ H2 x y v u Q I2 rx ry q (hs _ _))
noncomputable def rIxL (K:PySem.W.Frag):R2:=fun x y H Q=>∃ p xs i v,x = .ref p/\y = .int i/\mL K H p xs/\Fd xs i=some v/\Q v H
noncomputable def rIxT (K:PySem.W.Frag):R2:=fun x y H Q=>∃ p xs i v,x = .ref p/\y = .int i/\j8 K H p xs/\Fd xs i=some v/\Q v H
noncomputable def rIxS:R2:=fun x y H Q=>∃ z i c,x = .str z/\y = .int i/\z.length<=sizeLine/\Fd z.cps.toList i=some c/\Q (.str ⟨#[c]⟩) H
theorem Ab:Fo X (rIxL X.K):=by
 intro value slice pins s σ H x y v u Q I rx ry h hs;obtain⟨p,xs,i,z,rfl,rfl,hq,he,q⟩:=h;cases rx;obtain⟨t,rfl⟩:=ry;obtain⟨its,r,pl,hz⟩:=I.list hq;obtain⟨j,h1,h2,h3,h4,h5⟩:=oF he;obtain⟨w,ew,rw'⟩:=r.get h2;have hl:=r.length;have hn:=jk;have fin:EP X pins σ Q w s:=⟨z,H,I,rw',q⟩;by_cases h0:0<=i
 ·have hj:i.toNat=j:=by
   rw[seqIndex_of h0 h5] at h1;exact bu h1
  exact item_listR pl.isList h0 (by omega) (by rw[hj];simpa using ew) fin hs
 ·have hj:(i+(its.toArray.size:Int)).toNat=j:=by
   rw[seqIndex_neg (by omega) h4] at h1;rw[ai,<-hl];exact bu h1
  exact subscriptTail_builtinR (x:=w) pl.isList.typeIs slot_list_getitem.lookup
   (wpAny_getItem_list_neg (Q:=fun r s'=>r=w/\EP X pins σ Q r s') pl.isList (by omega) (by rw[List.size_toArray]<;>omega) (by omega) (by rw[hj];simpa using ew) ⟨rfl,fin⟩) hs
theorem CU:Fo X (rIxT X.K):=by
 intro value slice pins s σ H x y v u Q I rx ry h hs;obtain⟨p,xs,i,z,rfl,rfl,hq,he,q⟩:=h;cases rx;obtain⟨t,rfl⟩:=ry;obtain⟨its,r,pl,hz⟩:=I.tuple hq;obtain⟨j,h1,h2,h3,h4,h5⟩:=oF he;obtain⟨w,ew,rw'⟩:=r.get h2;have hl:=r.length;have hn:=jk;have fin:EP X pins σ Q w s:=⟨z,H,I,rw',q⟩;exact subscriptTail_builtinR (x:=w) pl.typeIs slot_tuple_getitem.lookup
  (getItem_tuple (j:=j) (Q:=fun r s'=>r=w/\EP X pins σ Q r s') pl (by omega) (by omega) (by rw[List.size_toArray,<-hl];exact h1) (by simpa using ew) ⟨rfl,fin⟩) hs
theorem D4:Fo X rIxS:=by
 intro value slice pins s σ H x y v u Q I rx ry h hs;obtain⟨z,i,c,rfl,rfl,hz,he,q⟩:=h;obtain⟨t,rfl⟩:=rx;obtain⟨t',rfl⟩:=ry;obtain⟨j,h1,h2,h3,h4,h5⟩:=oF he;have hl:z.cps.toList.length=z.length:=by simp[Str.length]
 rw[hl] at h1 h4 h5;have hn:=jk;exact tail_any (typeIs_str s z t) slot_str_getitem.lookup (getItem_str (c:=c) (by
  have e1:decide (i < -(2 ^ 63:Int))=false:=az (by omega);have e2:decide (i ≥ 2 ^ 63)=false:=az (by omega);rw[e1,e2,Bool.or_false]) (by rw[h1];simpa using h2) ⟨.str ⟨#[c]⟩,H,I.tok _,⟨_,rfl⟩,q⟩) hs
theorem sH (its:List Value)(n j:Nat)(u:Value):Obj.mapSeq (·.setIfInBounds j u) { cls:=.type "list",data:=.seq its.toArray n }={ cls:=.type "list",data:=.seq (its.set j u).toArray n }:=by
 simp[Obj.mapSeq]
theorem Inv.lst {pins:List (Addr×Obj)}{σ:St}{H:Hp}{s:Shared}{p:Addr}{xs:List V}(I:Inv X pins σ H s)(h:H p=some (.lst xs)) :
  ∃(its:List Value) (n:Nat),aM xs its/\s.heap.get? p=some { cls:=.type "list",data:=.seq its.toArray n }/\xs.length<=sizeLine:=by
 obtain⟨z,its,n,r,e⟩:=I.hok p _ h;exact⟨its,n,r,e,z⟩
theorem Inv.lstUpd {pins:List (Addr×Obj)}{σ:St}{H:Hp}{s:Shared}{p:Addr}{xs ys:List V}{its its':List Value}{n n':Nat}{f:Obj->Obj}(I:Inv X pins σ H s)(h:H p=some (.lst xs))
  (ho:s.heap.get? p=some { cls:=.type "list",data:=.seq its.toArray n }) (hf:f { cls:=.type "list",data:=.seq its.toArray n }={ cls:=.type "list",data:=.seq its'.toArray n' }) (r:aM ys its') (hz:ys.length<=sizeLine) (t:Nat) :
  Inv X pins σ (upd H p (.lst ys)) { s with heap:=s.heap.update p f,toks:=t }:=by
 have e:(s.heap.update p f).get? p=some { cls:=.type "list",data:=.seq its'.toArray n' }:=by
  rw[Heap.get?_update_self f ho (by rw[hf]<;>rfl),hf]
 refine I.write (x:=p) (e:=p) (by rw[h];trivial) (.inl rfl) (fun b u hb q=>(Heap.get?_update_other _ _ (cy hb)).trans q) ⟨_,e⟩ ?_;exact⟨hz,its',n',r,e⟩
def BY:V->V->V->Hp->(Hp->Prop)->Prop:=fun o i v H Q=>∃ p xs k j,o = .ref p/\i = .int k/\H p=some (.lst xs)/\kd xs.length k=some j/\Q (upd H p (.lst (xs.set j v)))
theorem set_list:Fy X BY:=by
 intro pins s σ H o i v ov iv u Q I ro ri rv h;obtain⟨p,xs,k,j,rfl,rfl,hp,hj,q⟩:=h;cases ro;obtain⟨t,rfl⟩:=ri;obtain⟨its,n,r,ho,hz⟩:=I.lst hp;obtain⟨h1,h2,h3,h4⟩:=uh hj;have hl:=r.length;have hn:=jk;have I':Inv X pins σ (upd H p (.lst (xs.set j v))) { s with heap:=s.heap.update p (Obj.mapSeq (·.setIfInBounds j u)) } :=
  I.lstUpd hp ho (sH its n j u) (r.set rv j) (by rw[gq];exact hz) s.toks
 by_cases h0:0<=k
 ·have hk:k.toNat=j:=by
   rw[seqIndex_of h0 h4] at h1;exact bu h1
  exact PySem.W.ki_setAt ho h0 (by omega) (by rw[ai,<-hl];exact h4) (by rw[hk];exact⟨_,I',q⟩)
 ·have hk:(k+(its.toArray.size:Int)).toNat=j:=by
   rw[seqIndex_neg (by omega) h3] at h1;rw[ai,<-hl];exact bu h1
  exact PySem.W.ki_setBack ho (by omega) (by rw[ai,<-hl];exact h3) (by omega) (by rw[hk];exact⟨_,I',q⟩)
theorem oH (lo hi:Option Int)(n:Nat):(sliceBounds lo hi none n).1=((HT.bL n 0 lo:Nat):Int)/\(sliceBounds lo hi none n).2.1=((HT.bL n n hi:Nat):Int)/\(sliceBounds lo hi none n).2.2=1:=by
 refine⟨?_,?_,rfl⟩
 ·cases lo with
  |none=>simp[sliceBounds,HT.bL]
  |some i =>
   simp only[sliceBounds,HT.bL,Option.getD_none,show (1:Int) > 0 by decide,if_true];by_cases h:i<0
   ·simp only[h,if_true]<;>omega
   ·simp only[h,if_false]<;>omega
 ·cases hi with
  |none=>simp[sliceBounds,HT.bL]
  |some i =>
   simp only[sliceBounds,HT.bL,Option.getD_none,show (1:Int) > 0 by decide,if_true];by_cases h:i<0
   ·simp only[h,if_true]<;>omega
   ·simp only[h,if_false]<;>omega
theorem mK (its:List Value)(lo hi:Option Int):slicePick its.toArray lo hi none=((its.drop (HT.bL its.length 0 lo)).take (HT.bL its.length its.length hi - HT.bL its.length 0 lo)).toArray:=by
 obtain⟨h1,h2,h3⟩:=oH lo hi its.toArray.size;unfold slicePick;rw[h1,h2,h3];simp only[sliceRange_one,pick_run,List.size_toArray]<;>rfl
def rSlL (K:PySem.W.Frag):V->Option Int->Option Int->Hp->VK->Prop:=fun x lo hi H Q=>∃ a xs,x = .ref a/\mL K H a xs/\∀ p,H p=none->Q (.ref p) (upd H p (.lst (mD xs lo hi)))
theorem z5:Cg X (rSlL X.K):=by
 intro pins s σ H x v vl vu lo hi sl Q I rx hs pl pu h;obtain⟨a,xs,rfl,hx,q⟩:=h;cases rx;obtain⟨its,r,ht,hz⟩:=I.list hx;have hlen:=r.length;refine⟨"list",_,slot_list_getitem.lookup,ht.isList.typeIs,?_⟩;refine wpAny_getItem_list_slice ht.isList hs pl pu .none (by simp) ?_ (by rw[List.size_toArray]<;>omega);rw[mK,<-hlen];refine⟨.ref s.heap.objs.size,_,I.laid (t':=s.toks) (o:=.lst (mD xs lo hi)) (fun b ob q=>Heap.get?_push_of_some _ q) (au _) ?_,rfl,q _ (I.hok.fresh (au _))⟩;exact⟨bj (kB xs lo hi) hz,_,0,(r.drop (HT.bL xs.length 0 lo)).take (HT.bL xs.length xs.length hi - HT.bL xs.length 0 lo),Heap.get?_push_size _ rfl⟩
theorem pj:iW X (compareOp .NotIn) (fun x y H Q=>∃ i j,x = .str i/\y = .str j/\Q (.bl (!(!(Builtin.Str.occurrences j i 0 j.length 1).isEmpty))) H):=by
 intro pins s σ H x y v u Q I rx ry h;obtain⟨i,j,rfl,rfl,q⟩:=h;obtain⟨t,rfl⟩:=rx;obtain⟨t',rfl⟩:=ry;exact notIn_str ⟨.bl _,H,I,rfl,q⟩
theorem jF:fL X (.builtin "len") (fun xs H Q=>∃ p ys,xs=[.ref p]/\(mL X.K H p ys\/j8 X.K H p ys)/\Q (.int ys.length) H):=by
 intro pins s σ H xs us Q I r h;obtain⟨p,ys,rfl,hq,q⟩:=h;obtain⟨u,rfl,rx⟩:=vals1 r;cases rx;have hn:=jk;rcases hq with hq | hq
 ·obtain⟨its,r',pl,hz⟩:=I.list hq;have hlen:=r'.length;exact Calls.call_len_list pl.isList (by simp only[List.size_toArray]<;>omega) ⟨.int ys.length,H,I.tok _,⟨s.toks+1,by rw[List.size_toArray,hlen]⟩,q⟩
 ·obtain⟨its,r',pl,hz⟩:=I.tuple hq;have hlen:=r'.length;exact len_tuple pl (by simp only[List.size_toArray]<;>omega) ⟨.int ys.length,H,I.tok _,⟨s.toks+1,by rw[List.size_toArray,hlen]⟩,q⟩
theorem oz:fL X (.builtin "len") (fun xs H Q=>∃ z,xs=[.str z]/\z.length<=sizeLine/\Q (.int z.length) H):=by
 intro pins s σ H xs us Q I r h;obtain⟨z,rfl,hz,q⟩:=h;obtain⟨u,rfl,t,rfl⟩:=vals1 r;have hn:=jk;exact len_str (by omega) ⟨.int z.length,H,I.tok _,⟨_,rfl⟩,q⟩
theorem jx:fL X (.type "list") (fun xs H Q=>∃ p ys,xs=[.ref p]/\(mL X.K H p ys\/j8 X.K H p ys)/\∀ l,H l=none->Q (.ref l) (upd H l (.lst ys))):=by
 intro pins s σ H xs us Q I r h;obtain⟨p,ys,rfl,hq,q⟩:=h;obtain⟨u,rfl,rx⟩:=vals1 r;cases rx;have fin:∀(its:List Value),aM ys its->ys.length<=sizeLine->∀(h':Heap) (c':Nat),(∀ b o',s.heap.get? b=some o'->h'.get? b=some o') ->
   h'.get? s.heap.objs.size=some { cls:=.type "list",dict:=none,data:=.seq its.toArray c',slots:=#[] }->EP X pins σ Q (.ref s.heap.objs.size) { s with heap:=h' }:=fun its r' hz h' c' kp e =>
  ⟨.ref s.heap.objs.size,_,I.laid (t':=s.toks) kp (au _) (show cJ X.prog X.w _ h' _ (.lst ys) from ⟨hz,its,c',r',e⟩),rfl,q _ (I.hok.fresh (au _))⟩
 rcases hq with hq | hq
 ·obtain⟨its,r',pl,hz⟩:=I.list hq;have hlen:=r'.length;obtain⟨o,ho,hc,n,hd⟩:=pl.isList;exact call_list_seq p (.inl rfl) ho hc hd (fun h' c' kp e=>fin its r' hz h' c' kp e) (by simp only[List.size_toArray]<;>omega)
 ·obtain⟨its,r',pl,hz⟩:=I.tuple hq;have hlen:=r'.length;obtain⟨o,ho,hc,n,hd⟩:=pl;exact call_list_seq p (.inr rfl) ho hc hd (fun h' c' kp e=>fin its r' hz h' c' kp e) (by simp only[List.size_toArray]<;>omega)
def tyV (K:PySem.W.Frag)(T:String)(x:V)(H:Hp):Prop:=match x with
 |.str _=>T = "str"
 |.int _=>T = "int"
 | .ref p=>(T = "list"/\∃ xs,mL K H p xs)\/(T = "tuple"/\∃ o,K.lookup p=some o/\o.cls = .type "tuple"/\o.dict=none) \/
   (T = "dict"/\((∃ kvs,H p=some (.dK kvs))\/∃ kvs,H p=some (.dT kvs)))\/(T = "set"/\∃ S n,H p=some (.set S n))
 |_=>False
theorem vX {pins:List (Addr×Obj)}{σ:St}{H:Hp}{s:Shared}{T:String}{x:V}{v:Value}(I:Inv X pins σ H s)(r:RelV x v)(ty:tyV X.K T x H) :
  s.TypeIs v T/\∀ a,v = .ref a->∃ ob,s.heap.get? a=some ob/\ob.dict=none:=by
 cases x with
 |str z =>
  obtain⟨t,rfl⟩:=r;cases (show T = "str" from ty);exact⟨typeIs_str s z t,fun _ e=>nomatch e⟩
 |int i =>
  obtain⟨t,rfl⟩:=r;cases (show T = "int" from ty);exact⟨typeIs_int s i t,fun _ e=>nomatch e⟩
 |ref p =>
  cases r;rcases ty with ⟨rfl,xs,hq⟩ | ⟨rfl,o,hk,hc,hd⟩ | ⟨rfl,hk⟩ | ⟨rfl,S,n,hk⟩
  ·obtain⟨its,_,pl,_⟩:=I.list hq;refine⟨pl.isList.typeIs,fun a e=>?_⟩;cases e;obtain⟨o,n,e,c,hd,_⟩:=pl;exact⟨o,e,hd⟩
  ·refine⟨⟨o,I.kIn p o hk,hc⟩,fun a e=>?_⟩;cases e;exact⟨o,I.kIn _ o hk,hd⟩
  ·have z:∃ o,s.heap.get? p=some o/\o.ExactDict:=by
    rcases hk with ⟨kvs,hk⟩ | ⟨kvs,hk⟩
    ·obtain⟨_,_,_,_,o,_,_,e,ex,_⟩:=I.hok p _ hk;exact⟨o,e,ex⟩
    ·obtain⟨_,_,_,_,o,_,_,e,ex,_⟩:=I.hok p _ hk;exact⟨o,e,ex⟩
   obtain⟨o,e,ex⟩:=z;refine⟨⟨o,e,ex.1⟩,fun a e2=>?_⟩;cases e2;exact⟨o,e,ex.2.1⟩
  ·obtain⟨o,_,_,_,e,ex,_⟩:=I.hok p _ hk;refine⟨⟨o,e,ex.1⟩,fun a e2=>?_⟩;cases e2;exact⟨o,e,ex.2.1⟩
 |_=>exact False.elim ty
def GK (K:PySem.W.Frag)(T:String)(r:V->List V->Hp->VK->Prop)(to:TE):TE:=fun σ H Q=>to σ H fun x H1=>tyV K T x H1/\r x [] H1 Q
def Ie (K:PySem.W.Frag)(T:String)(r:V->List V->Hp->VK->Prop)(to:TE)(t:TA):TE:=fun σ H Q=>to σ H fun x H1=>tyV K T x H1/\t σ H1 fun xs H2=>r x xs H2 Q
variable {o e:Expr}{es:List Expr}{to:TE}{t:TA}{name:Str}{apos cpos:Pos}{T id:String}{r:V->List V->Hp->VK->Prop}
theorem CM (pa:PlainAttrs T)(slot:Slot T name id)(hty:typeOf (.builtin id)=pure (.type "method_descriptor")) (hm:Bp X id r) (ho:PE X o to)
  (hbase:attributeBase o name X.env (eval o X.env)=eval o X.env:=by rfl) (hline:(apos.endLine==cpos.line)=true:=by rfl):PE X (.Call (.Attribute o name apos) [] [] cpos) (GK X.K T r to):=by
 intro pins s σ H Q I h;refine wpAny_Call_method0_late hbase hline (cL (ho pins s σ H _ I h) fun v s1 ⟨x,H1,I1,r1,ty,q1⟩=>?_);obtain⟨h1,h2⟩:=vX I1 r1 ty;exact⟨T,id,pa,slot,hty,h1,h2,Calls.callWith_builtin rfl (PySem.evalArgs_none (hm pins s1 σ H1 x [] v [] Q I1 r1 .nil q1))⟩
theorem qv (pa:PlainAttrs T)(slot:Slot T name id)(hty:typeOf (.builtin id)=pure (.type "method_descriptor")) (hm:Bp X id r) (ho:PE X o to) (ha:PA X (e::es) t)
  (hbase:attributeBase o name X.env (eval o X.env)=eval o X.env:=by rfl)
  (hfew:((backTo cpos (starEach (e::es) X.env)).all (fun x=>!x.1)&&(backToKw cpos (keywordEach [] X.env)).all (fun x=>x.1.isSome)
   && decide ((e::es).length+([]:List Keyword).length+(if ([]:List Keyword).isEmpty then 0 else 1)<30))=true:=by rfl)
  (hline:(apos.endLine==cpos.line)=true:=by rfl) (hs:starEach (e::es) X.env=(false,eval e X.env)::starEach es X.env:=by rfl) (hplain:(backTo cpos (starEach es X.env)).any (·.1)=false:=by rfl) :
  PE X (.Call (.Attribute o name apos) (e::es) [] cpos) (Ie X.K T r to t):=by
 intro pins s σ H Q I h;refine wpAny_Call_method_late hbase hfew hline rfl (cL (ho pins s σ H _ I h) fun v s1 ⟨x,H1,I1,r1,ty,q1⟩=>?_);obtain⟨h1,h2⟩:=vX I1 r1 ty;refine⟨T,id,pa,slot,hty,h1,h2,?_⟩;have hA:=ha cpos pins s1 σ H1 _ I1 q1;rw[hs] at hA ⊢;refine Calls.callWith_builtin (by show (false || (backTo cpos (starEach es X.env)).any (·.1))=false;rw[hplain]<;>rfl) (Calls.evalArgs_plain ?_);exact cL hA fun us s2 ⟨vs,H2,I2,r2,q2⟩=>hm pins s2 σ H2 x vs v us Q I2 r1 r2 q2
end
end L2
namespace L2
open PySem PySem.Spec PyProof.Rows
noncomputable def MtM (X:Cx)(id:String)(r:V->List V->Hp->VK->Prop):Prop :=
 ∀(pins:List (Addr×Obj)) (s:Shared) (σ:St) (H:Hp) (x:V) (xs:List V) (v:Value) (us:List Value) (Q:VK),Inv X pins σ H s->RelV x v->aM xs us->r x xs H Q ->
  wpAny (model X.prog X.w) X.A (call (.builtin id) (v::us)) (EP X pins σ Q) X.xe s
theorem aM.one:∀{x:V}{us:List Value},aM [x] us->∃ u,us=[u]/\RelV x u
 |_,_,.cons r .nil=>⟨_,rfl,r⟩
theorem aM.two:∀{x y:V}{us:List Value},aM [x,y] us->∃ u v,us=[u,v]/\RelV x u/\RelV y v
 | _,_,_,.cons r (.cons q .nil)=>⟨_,_,rfl,r,q⟩
theorem aM.rep {xs:List V}{us:List Value}(h:aM xs us):∀ k:Nat,aM (List.replicate k xs).flatten (List.replicate k us).flatten
 |0=>.nil
 | k+1=>by
  rw[dn,dn,de,de];exact aM.append h (aM.rep h k)
theorem foldl_rep (its:List Value):∀(k:Nat) (acc:List Value),
  List.foldl (fun x1 x2=>x1++x2) acc.toArray (List.replicate k its.toArray)=(acc++(List.replicate k its).flatten).toArray
 |0,acc=>by simp
 | k+1,acc=>by
  have e:acc.toArray++its.toArray=(acc++its).toArray:=by simp
  have e2:(acc++its)++(List.replicate k its).flatten=acc++(List.replicate (k+1) its).flatten:=by
   rw[dn,de,cf]
  rw[<-e2,<-foldl_rep its k (acc++its),<-e,dn,List.foldl_cons]
section
variable {X:Cx}{pins:List (Addr×Obj)}{σ:St}{H:Hp}{s:Shared}{l b:Addr}{xs ys zs:List V}
theorem Inv.lset {its its':List Value}{n:Nat}{f:Array Value->Array Value}{t':Nat}(I:Inv X pins σ H s)(hH:H l=some (.lst xs))
  (e:s.heap.get? l=some { cls:=.type "list",data:=.seq its.toArray n }) (hf:f its.toArray=its'.toArray) (hv:aM ys its') (hz:ys.length<=sizeLine) :
  Inv X pins σ (upd H l (.lst ys)) { s with heap:=s.heap.update l (Obj.mapSeq f),toks:=t' }:=by
 have q:=PySem.IsL.update e f;rw[hf] at q;refine I.write (x:=l) (e:=l) (by rw[hH];exact trivial) (.inl rfl) (fun b' u hb hu=>(Heap.get?_update_other s.heap (Obj.mapSeq f) (cy hb)).trans hu) ⟨_,q⟩ ?_;exact⟨hz,its',_,hv,q⟩
theorem Inv.lnew {its:List Value}{t':Nat}(I:Inv X pins σ H s)(hv:aM ys its)(hz:ys.length<=sizeLine) :
  Inv X pins σ (upd H s.heap.objs.size (.lst ys)) { s with heap:=s.heap.push { cls:=.type "list",data:=.seq its.toArray },toks:=t' } :=
 I.laid (fun _ _ q=>Heap.get?_push_of_some _ q) (au _) ⟨hz,its,0,hv,Heap.get?_push_size _ rfl⟩
theorem Inv.fresh (I:Inv X pins σ H s):H s.heap.objs.size=none:=I.hok.fresh (au _)
theorem Inv.lstM (I:Inv X pins σ H s)(hH:H l=some (.lst xs)):xs.length<=sizeLine/\∃(its:List Value) (n:Nat),aM xs its/\xs.length=its.length/\s.heap.get? l=some { cls:=.type "list",data:=.seq its.toArray n }:=by
 obtain⟨z,its,n,r,e⟩:=I.hok l _ hH;exact⟨z,its,n,r,r.length,e⟩
theorem qF {n:Nat}(h:n<=sizeLine):Builtin.List.listTooLong n=false:=by
 unfold Builtin.List.listTooLong;exact az (by omega)
end
section
variable {X:Cx}
def Ak:V->List V->Hp->VK->Prop:=fun x vs H Q=>∃ l xs y,x = .ref l/\vs=[y]/\H l=some (.lst xs)/\xs.length<sizeLine/\Q .non (upd H l (.lst (xs ++ [y])))
theorem nY:MtM X "list.append" Ak:=by
 intro pins s σ H x vs v us Q I rx rv h;obtain⟨l,xs,y,rfl,rfl,hH,hz,q⟩:=h;cases rx;obtain⟨u,rfl,ru⟩:=rv.one;obtain⟨z,its,n,r,hl,e⟩:=I.lstM hH;refine call_meets F.slot_list_append ⟨_,e,rfl⟩ F.entry_list_append (F.args_list_append_2 _ _) (PySem.list_append l its.toArray n u (by rw[ai];omega)) ⟨e,?_⟩;refine⟨.non,_,I.lset (its':=its ++ [u]) hH e (by simp) (r.append (.cons ru .nil)) ?_,rfl,q⟩;rw[ag,br];omega
theorem len_rep {α:Type}(xs:List α)(k:Nat):(List.replicate k xs).flatten.length=k*xs.length:=by
 induction k with
 |zero=>simp
 |succ k ih=>rw[dn,de,ag,ih,Nat.succ_mul,Nat.add_comm]
end
section
variable {prog:Program}{w:World}{A:Around}{E:Value->Shared->Prop}{s:Shared}
end
section
variable {X:Cx}
end
end L2
namespace Att
open PySem PySem.W PySem.Calls PyProof.Rows
theorem kK {P:Params}{h:Heap}:∀(ns:List Int) (vs:List Value),WellAll P h vs (ns.map WData.int)->IntsAre vs ns:=by
 intro ns
 induction ns with
 |nil =>
  intro vs w;rw[fm] at w;cases w;exact .nil
 |cons n ns ih =>
  intro vs w;rw[av] at w;cases w with
  |cons a b =>
   cases a;exact .cons _ _ (ih _ b)
theorem vd {l:OpenLaw}{n:Nat}(hn:l.most=some n){P:Params}{h:Heap}{args:List WData}{vals:List Value}
  (hpre:l.row.toRowW.claim.pre args=true) (hwl:WellAll P h vals args) :
  ∃ a vs ns,vals=[Value.ref a]/\args=[WData.list (ns.map WData.int)]/\h.get? a=some { cls:=.type "list",data:=.seq vs.toArray }/\IntsAre vs ns/\ns.length<=n:=by
 have hsh:WShape.hasAll [] args [.list .int]=true:=(pre_splitW hpre).1;have hc:l.pre.holds [] { args:=args }=true:=(pre_splitW hpre).2;obtain⟨d,r,rfl,h1,h2⟩:=hasAllW_cons hsh;obtain rfl:=hasAllW_nil h2;obtain⟨xs,rfl,h3⟩:=hasW_list h1;obtain⟨ns,rfl⟩:=items_int h3;have hlen:ns.length<=n:=by
  unfold OpenLaw.pre at hc;have h4:(WTm.not (.lt (.lit (.int (n:Int))) (.len (.arg 0)))).holds [] { args:=[.list (ns.map .int)] }=true:=by
   have h4:=(holds_andW hc).1;rw[hn] at h4;exact h4
  have h5:=condW_of h4 (w_not (w_lt w_lit (w_len_list (w_arg rfl))));rw[ao] at h5;refine iz fun q=>?_
  have q':(n:Int)<((ns.length:Nat):Int):=by omega
  first
   | (rw[cj q'] at h5;exact absurd h5 (by decide))
   | (simp at h5;omega)
 cases hwl with
 |cons w1 w2 =>
  cases w2;cases w1 with
  |list ho hall=>exact⟨_,_,ns,rfl,rfl,ho,kK ns _ hall,hlen⟩
theorem uH (l:OpenLaw)(args:List WData):l.row.toRowW.claim.post args (.bool true) args=true :=
 postW_of (r:=l.row.toRowW) (X:=(true==true))
  (show WShape.has [] (.bool true) .bool=true by first | rfl | decide | simp[WShape.has,WShape.arms,WShape.armsAll])
  (show (WTm.eq .res (.lit (.bool true))).value [] { args:=args,res:=some (.bool true),after:=args }=some (.bool (true==true)) from w_eq_bool (w_res rfl) w_lit) rfl
theorem qK {l:OpenLaw}{n:Nat}{q:Program}{loose:List Str}{XP:(Str->Option Value)->Heap->Prop}{YP:World->Heap->Prop}{d:DefRec}
  (hn:l.most=some n) (hdf:d.params.defaults=[])
  (call:∀(w:World) (s₀ s₁:Shared) (mg mb:Str->Option Value) (fa:Addr) (o:Obj) (pm cd doc:Value) (a:Addr) (vs:List Value) (ns:List Int),
   Ground q loose [] XP w s₀ mg mb s₁.heap->YP w s₁.heap ->
   s₁.heap.get? fa=some o->o.data = .func (docDef d.name d.params d.body d.scope pm cd doc)->s₁.heap.CodeRec cd d.name->mg d.name=some (.ref fa) ->
   s₁.heap.get? a=some { cls:=.type "list",data:=.seq vs.toArray }->IntsAre vs ns->ns.length<=n->s₁.gens = #[] ->
   codeAny (model l.prog w) callerA (.call (.ref fa) ⟨[.ref a],[]⟩) (fun r s'=>r = .ok (.ret (.bool true))/\OldK s₁.heap s'.heap/\s'.os=s₁.os/\AllBare s'.gens) s₁) :
  WalkO q loose XP YP l.row.toRowW d [] (fun f vs=>PySem.call f vs):=by
 intro w s₀ s₁ mg mb G Y fa o pm cd doc dV kV ho hd hcd hD hmg hg args vals as hpre hlay hrd hwl hlo;obtain rfl:dV = .none:=Dflts.none hD hdf;obtain rfl:kV = .none:=Dflts.noKw hD;obtain⟨a,vs,ns,rfl,rfl,hobj,hints,hlen⟩:=vd hn hpre hwl;refine enter_call (codeAny_mono (call w s₀ s₁ mg mb fa o pm cd doc a vs ns G Y ho (fd_plain hd) hcd hmg hobj hints hlen hg) fun r s' hq=>?_);obtain⟨rfl,h2,h3,h4⟩:=hq;exact⟨.inl ⟨.bool true,.bool true,[],rfl,fun _=>rfl,.bool true,uH l _,fun _=>⟨List.Pairwise.nil,fun _ hm=>(nomatch hm)⟩⟩,h2,h3,h4⟩
section
variable {prog:Program}{w:World}{A:Around}{E:Value->Shared->Prop}{s:Shared}{K:Frag}
noncomputable def ledger (h:Heap)(L d:Addr):List (Addr×Obj):=(List.range h.objs.size).filterMap fun a=>if a=L\/a=d then none else (h.get? a).map fun o=>(a,o)
end
end Att
namespace L2
open PySem PySem.Spec PyProof.Rows
theorem nj:∀{vs:List Value}{ns:List Int},IntsAre vs ns->aM (ns.map V.int) vs
 |_,_,.nil=>.nil
 |_,_,.cons n t h=>.cons ⟨t,rfl⟩ (nj h)
def E7 (H:Hp):Prop:=∀ b,H b=none\/∃ o xs,H b=some (.frz o (.lst xs))
theorem yO {P:Program}{w:World}{K:PySem.W.Frag}{mg mb:Str->Option Value}{CX:oS}{k:Nat}{fa a:Addr}{fd:FuncData}{x:Str}{sp:Sp}{s₁:Shared}{vs:List Value}{ns:List Int}
  (KX:K.In s₁.heap) (hns:s₁.heap.Ns mainGlobals mg) (hb:s₁.heap.Ns builtinsNs mb) (hbb:∀ x:Str,x≠"__name__"->mb x=bootBuiltins x) (hlim:s₁.heap.NoLimit) (hg:s₁.gens = #[])
  (ha:s₁.heap.get? a=some { cls:=.type "list",data:=.seq vs.toArray }) (hi:IntsAre vs ns) (hl:ns.length<=sizeLine) (hr:fE k callerA)
  (F:∀ base:Heap,K.In base->base.Ns mainGlobals mg->ki P w K mg base CX k fa fd [x] sp) (hbind:∀(s:Shared) (u:Value),BindsTo s fd ⟨[u],[]⟩ [(x,u)])
  (hsp:∀ H:Hp,E7 H->mL K H a (ns.map V.int)->sp [.ref a] H (fun v _=>v = .bl true) fun _ _ _=>False)
  (hCX:∀ H e s',CX [] H s₁ (fun _ _ _=>False) e s'->False) :
  codeAny (model P w) callerA (.call (.ref fa) ⟨[.ref a],[]⟩) (fun r s'=>r = .ok (.ret (.bool true))/\OldK s₁.heap s'.heap/\s'.os=s₁.os/\AllBare s'.gens) s₁:=by
 have rv:=nj hi;have lenV:=hi.length;have core:∀ H:Hp,E7 H->mL K H a (ns.map V.int)->iG P w H s₁.heap->(∀ b,H b≠none->b=a)->(H a≠none->K.lookup a=none) ->
   codeAny (model P w) callerA (.call (.ref fa) ⟨[.ref a],[]⟩) (fun r s'=>r = .ok (.ret (.bool true))/\OldK s₁.heap s'.heap/\s'.os=s₁.os/\AllBare s'.gens) s₁:=by
  intro H hO hS hok hA hK;have base_of:∀{b:Addr}{o:Obj},s₁.heap.get? b=some o->H b=none->(oA s₁.heap H).get? b=some o:=fun e n=>xK e n
  have noA:∀{b:Addr}{o:Obj}{es:Array DictEntry}{ep:Nat},s₁.heap.get? b=some o->o.data = .dict es ep->H b=none:=fun {b o es ep} e d=>by
   cases q:H b with
   |none=>rfl
   |some u =>
    have e':b=a:=hA b (by rw[q];simp);subst e';rw[ha] at e;cases e;have d':Data.seq vs.toArray _=Data.dict es ep:=d;cases d'
  have nsK:∀{b:Addr}{m:Str->Option Value},s₁.heap.Ns b m->(oA s₁.heap H).Ns b m:=fun {b m} ⟨o,es,ep,e,d,r⟩=>⟨o,es,ep,base_of e (noA e d),d,r⟩
  have hKb:K.In (oA s₁.heap H):=fun b o e=>base_of (KX b o e) (by
   cases q:H b with
   |none=>rfl
   |some u =>
    have e':b=a:=hA b (by rw[q];simp);subst e';rw[hK (by rw[q];simp)] at e;cases e)
  have hM:Mod K mg (oA s₁.heap H):=⟨hKb,nsK hns,⟨mb,nsK hb,hbb⟩,let ⟨mc,h1,h2⟩:=hlim;⟨mc,nsK h1,h2⟩⟩;have e0:xB P w K mg (oA s₁.heap H) callerA [] s₁ H:=⟨rfl,hM,fun b o e=>zH e,Nat.le_of_eq (uG _ _),trivial,fun b hb=>absurd (show b∈([]:List Addr) from hb) (by simp),hok,.of_eq hg⟩;refine codeAny_mono ((F _ hKb (nsK hns)).run callerA [] s₁ H ⟨[.ref a],[]⟩ [.ref a] [.ref a] _ _ hr e0 (hbind s₁ (.ref a)) (.cons rfl .nil) (hsp H hO hS)) fun r s' h=>?_
  cases r with
  |error e=>exact (hCX H e s' h).elim
  |ok fl =>
   cases fl with
   |next=>exact False.elim h
   |brk=>exact False.elim h
   |cont=>exact False.elim h
   |ret u =>
    obtain⟨v,H',os,bare,un,hok',r',q⟩:=h;have q':v = .bl true:=q;subst q';obtain rfl:u=Value.bool true:=r';refine⟨rfl,OldK.of_keep fun b o e=>?_,os,bare⟩;cases q:H b with
    |none=>exact un.keep b o e q (by intro z;exact absurd (show b∈([]:List Addr) from z) (by simp)) (by simp)
    |some u =>
     rcases hO b with z | ⟨ob,xs,z⟩
     ·rw[q] at z;cases z
     ·have z2:=un.frzs b ob _ z;obtain⟨e1,_⟩:=hok b _ z;obtain⟨e2,_⟩:=hok' b _ z2;rw[e] at e1;cases e1;exact e2
 cases hk:K.lookup a with
 |some o =>
  have e:=KX a o hk;rw[ha] at e;cases e;refine core (fun _=>none) (fun _=>.inl rfl) (.inr ⟨_,vs.toArray,_,hk,rfl,rfl,rfl,by rw[List.size_toArray,lenV];exact hl,by simpa using rv⟩) (fun b u z=>by have z':(none:Option HO)=some u:=z;cases z') (fun b z=>absurd rfl z) fun z=>absurd rfl z
 |none =>
  refine core (fun b=>if b=a then some (.frz { cls:=.type "list",data:=.seq vs.toArray } (.lst (ns.map V.int))) else none) (fun b=>?_) (.inl (.inr ⟨{ cls:=.type "list",data:=.seq vs.toArray },if_pos rfl⟩)) (fun b u z=>?_) (fun b z=>?_) fun _=>hk
  ·by_cases hb:b=a
   ·exact .inr ⟨_,_,if_pos hb⟩
   ·exact .inl (if_neg hb)
  ·by_cases hb:b=a
   ·have z':=(if_pos hb).symm.trans z;cases z';subst hb;exact⟨ha,by rw[ao];exact hl,vs,_,rv,ha⟩
   ·have z':=(if_neg hb).symm.trans z;cases z'
  ·by_cases hb:b=a
   ·exact hb
   ·exact absurd (if_neg hb) z
end L2
namespace L2
open PySem PySem.Spec PyProof.Rows
theorem Au {l:PySem.W.OpenLaw}{n k:Nat}{q:Program}{loose:List Str}{XP:(Str->Option Value)->Heap->Prop}{YP:World->Heap->Prop}{d:DefRec}{K:Params->PySem.W.Frag}{CX:World->oS}{sp:World->Sp}{x:Str}
  (hn:l.most=some n) (hn2:n<=sizeLine) (hdf:d.params.defaults=[]) (hr:fE k callerA)
  (hY:∀(w:World) (h:Heap),YP w h->(K w.params).In h)
  (F:∀(w:World) (mg:Str->Option Value) (fa:Addr) (h:Heap),(K w.params).In h->h.Ns mainGlobals mg->mg d.name=some (.ref fa) ->
   ∃ fd:FuncData,(∀(s:Shared) (u:Value),BindsTo s fd ⟨[u],[]⟩ [(x,u)]) /\
    ∀ base:Heap,(K w.params).In base->base.Ns mainGlobals mg->ki l.prog w (K w.params) mg base (CX w) k fa fd [x] (sp w))
  (hsp:∀(w:World) (H:Hp) (a:Addr) (ns:List Int),ns.length<=n->E7 H->mL (K w.params) H a (ns.map V.int)->sp w [.ref a] H (fun v _=>v = .bl true) fun _ _ _=>False)
  (hCX:∀(w:World) (H:Hp) (s:Shared) (e:Value) (s':Shared),CX w [] H s (fun _ _ _=>False) e s'->False) :
  PySem.W.WalkO q loose XP YP l.row.toRowW d [] (fun f vs=>PySem.call f vs):=by
 refine Att.qK hn hdf fun w s₀ s₁ mg mb fa o pm cd doc a vs ns G Y ho hd hcd hmg hobj hints hlen hg=>?_
 have KX:=hY w _ Y;obtain⟨fd,hb,hF⟩:=F w mg fa _ KX G.T.g hmg;exact yO KX G.T.g G.T.b G.T.builtins G.T.nolimit hg hobj hints (bj hlen hn2) hr hF hb (fun H hO hS=>hsp w H a ns hlen hO hS) fun H e s'=>hCX w H s₁ e s'
end L2
namespace L2
open PySem PySem.Spec PyProof.Rows
noncomputable abbrev vB:oS:=fun _ _ _ _ _ _=>False
noncomputable abbrev E0:XK:=fun _ _ _=>False
theorem Cu {X:Cx}:iH vB X E0:=fun _ _ _ _ _ _ _ h=>h.elim
structure m8 (K:PySem.W.Frag)(x qual:Str)(st:Stmt)(f:Addr)(fd:FuncData):Prop where
 ex:∃(oc:Value) (od:Option Addr) (kV doc pm:Value) (an:Option Addr) (cdv ct:Value) (osl:Array (Option Value)),
  fd=PySem.W.fnOf x qual (dY st) (aW st) (aE st) .none kV doc pm an cdv ct/\K.lookup f=some ⟨oc,od,.func fd,osl⟩/\PySem.W.codeIn K cdv qual=true
 kp:PySem.W.keepIn K (.ref f)=true
section
variable {P:Program}{w:World}{K:PySem.W.Frag}{mg:Str->Option Value}{base:Heap}
theorem m8.ok {x qual:Str}{st:Stmt}{f:Addr}{fd:FuncData}{N ps:List Str}{k:Nat}{sp:Sp}(F:m8 K x qual st f fd)(S:bW N ps (aE st))(len:∀ vs H Q E,sp vs H Q E->vs.length=ps.length)
  (hbody:∀(cdv:Value) (A:Around) (outer:List Env) (s:Shared) (H:Hp) (vs:List V) (Q:VK) (E:XK),fE k (A.deeper (envOfC qual (aE st) s.heap.objs.size f cdv))->sp vs H Q E ->
   ∃ t,iZ (bX vB P w K mg base N qual (aE st) f cdv A outer s H E).nox (aW st) t/\t { nx:=fun _ H'=>Q .non H',rt:=Q } (start N vs) H):ki P w K mg base vB (k+1) f fd ps sp:=by
 obtain⟨oc,od,kV,doc,pm,an,cdv,ct,osl,rfl,lk,hcd⟩:=F.ex;refine FT lk hcd S len fun A outer s H vs Q E hr hsp=>?_
 obtain⟨t,h,q⟩:=hbody cdv A outer s H vs Q E hr hsp;exact⟨t,h.nox,q⟩
theorem m8.binds {x qual:Str}{st:Stmt}{f:Addr}{fd:FuncData}{ps:List Str}(F:m8 K x qual st f fd)
  (h:∀(kV doc pm:Value) (an:Option Addr) (cdv ct:Value) (us:List Value),us.length=ps.length->bindArgs (PySem.W.fnOf x qual (dY st) (aW st) (aE st) .none kV doc pm an cdv ct) ⟨us,[]⟩=pure (ps.zip us)):Binds K fd ps []:=by
 obtain⟨oc,od,kV,doc,pm,an,cdv,ct,osl,rfl,lk,hcd⟩:=F.ex;exact .all (h kV doc pm an cdv ct)
theorem ES {x qual:Str}{st:Stmt}{f:Addr}{oc:Value}{od an:Option Addr}{osl:Array (Option Value)}{kV doc pm cdv ct:Value}(l:K.lookup f=some ⟨oc,od,.func (PySem.W.fnOf x qual (dY st) (aW st) (aE st) .none kV doc pm an cdv ct),osl⟩)
  (c:PySem.W.codeIn K cdv qual=true) (k:PySem.W.keepIn K (.ref f)=true):m8 K x qual st f (PySem.W.fnOf x qual (dY st) (aW st) (aE st) .none kV doc pm an cdv ct):=⟨⟨oc,od,kV,doc,pm,an,cdv,ct,osl,rfl,l,c⟩,k⟩
end
section
variable {X:Cx}
theorem pv (i:Nat){x:Str}{pos:Pos}(hN:X.N[i]? = some x:=by rfl)(hv:BQ X.env.scope x:=by first | exact Or.inl rfl | exact Or.inr (Or.inl rfl) | exact Or.inr (Or.inr rfl))(hd:(x==("__debug__" : Str))=false:=by decide)
  (hcd:(x==("__classdict__" : Str))=false:=by decide):PE X (.Name x pos) (qJ i):=lG hN hv hd hcd
end
def aJ (H H':Hp):Prop:=∀ b o,H b=some o->H' b=some o
theorem aJ.refl (H:Hp):aJ H H:=fun _ _ h=>h
theorem aJ.trans {H H1 H2:Hp}(a:aJ H H1)(b:aJ H1 H2):aJ H H2:=fun c o h=>b c o (a c o h)
section
variable {κ:Type}[DecidableEq κ]
noncomputable def oW (kvs:List (κ×V))(k:κ):Option V:=(kvs.find? fun kv=>decide (kv.1=k)).map (·.2)
noncomputable def putK (kvs:List (κ×V))(k:κ)(v:V):List (κ×V) :=
 if (kvs.any fun kv=>decide (kv.1=k))=true then kvs.map (fun kv=>if kv.1=k then (kv.1,v) else kv) else kvs ++ [(k,v)]
theorem jt {p:κ×V}{r:List (κ×V)}{k:κ}(e:p.1=k):oW (p::r) k=some p.2:=by simp[oW,List.find?_cons,e]
theorem jw {p:κ×V}{r:List (κ×V)}{k:κ}(e:¬ p.1=k):oW (p::r) k=oW r k:=by simp[oW,List.find?_cons,e]
theorem pS (k:κ):∀ kvs:List (κ×V),(kvs.any fun kv=>decide (kv.1=k))=(oW kvs k).isSome
 |[]=>rfl
 | p::r=>by
  rw[ic];by_cases e:p.1=k
  ·simp only[jt e,decide_eq_true e,Bool.true_or,Option.isSome_some]
  ·rw[jw e,az e,Bool.false_or];exact pS k r
theorem iI (kvs:List (κ×V))(k:κ)(v:V):(putK kvs k v).length<=kvs.length+1:=by
 unfold putK;split
 ·rw[ao];omega
 ·rw[ag,aw,bz];omega
theorem ve.isSome_eq {o:Option V}{u:Option Value}(r:ve o u):o.isSome=u.isSome:=by
 cases o with
 |none=>cases u with
  |none=>rfl
  |some _=>exact (show False from r).elim
 |some _=>cases u with
  |none=>exact (show False from r).elim
  |some _=>rfl
theorem KV.val {kvs:List (κ×V)}{vs:List (κ×Value)}(r:KV kvs vs)(k:κ):ve (oW kvs k) (valueAt vs k):=by
 unfold KV at r
 induction r with
 |nil=>exact True.intro
 |@cons p q ps qs h t ih =>
  obtain⟨h1,h2⟩:=h;by_cases e:p.1=k
  ·have e':q.1=k:=h1.symm.trans e;have b:valueAt (q::qs) k=some q.2:=by simp[valueAt,List.find?_cons,e']
   rw[jt e,b];exact h2
  ·have e':¬ q.1=k:=fun z=>e (h1.trans z)
   have b:valueAt (q::qs) k=valueAt qs k:=by simp[valueAt,List.find?_cons,e']
   rw[jw e,b];exact ih
theorem KV.any {kvs:List (κ×V)}{vs:List (κ×Value)}(r:KV kvs vs)(k:κ):(kvs.any fun kv=>decide (kv.1=k))=vs.any fun kv=>decide (kv.1=k):=by
 unfold KV at r
 induction r with
 |nil=>rfl
 |cons h t ih=>rw[ic,ic,ih,h.1]
theorem KV.repl {kvs:List (κ×V)}{vs:List (κ×Value)}(r:KV kvs vs)(k:κ){y:V}{u:Value}(ry:RelV y u) :
  KV (kvs.map fun kv=>if kv.1=k then (kv.1,y) else kv) (vs.map fun kv=>if kv.1=k then (kv.1,u) else kv):=by
 unfold KV at r ⊢
 induction r with
 |nil=>exact .nil
 |@cons p q ps qs h t ih =>
  rw[av,av];refine .cons ?_ ih;obtain⟨h1,h2⟩:=h;by_cases e:p.1=k
  ·rw[if_pos e,if_pos (h1.symm.trans e)];exact⟨h1,ry⟩
  ·rw[if_neg e,if_neg (fun z=>e (h1.trans z))];exact⟨h1,h2⟩
theorem KV.put {kvs:List (κ×V)}{vs:List (κ×Value)}(r:KV kvs vs)(k:κ){y:V}{u:Value}(ry:RelV y u):KV (putK kvs k y) (stored vs k u):=by
 unfold putK stored;rw[r.any k];by_cases e:(vs.any fun kv=>decide (kv.1=k))=true
 ·rw[if_pos e,if_pos e];exact r.repl k ry
 ·rw[if_neg e,if_neg e];exact Paired.snoc r ⟨rfl,ry⟩
theorem KV.keys {kvs:List (κ×V)}{vs:List (κ×Value)}(r:KV kvs vs):kvs.map (·.1)=vs.map (·.1):=by
 unfold KV at r
 induction r with
 |nil=>rfl
 |cons h t ih=>rw[av,av,ih,h.1]
theorem KV.length {kvs:List (κ×V)}{vs:List (κ×Value)}(r:KV kvs vs):kvs.length=vs.length:=Paired.length r
end
theorem xW {P:Program}{w:World}{k:Key}{u:Value}(r:RelV (kV k) u):(bR P w).is k u=true:=by
 cases k with
 |inl i=>obtain⟨t,e⟩:=(show ∃ t,u=Value.int i t from r);subst e;exact km P w i t
 |inr x=>obtain⟨t,e⟩:=(show ∃ t,u=Value.str x t from r);subst e;exact qf P w x t
theorem m6 {P:Program}{w:World}:∀{ks:List Key}{us:List Value},aM (ks.map kV) us->ItemsAre (bR P w) ks us
 |[],_,r=>by rw[fm] at r;cases r;exact .nil
 | k::ks,_,r=>by
  rw[av] at r;cases r with
  |cons h t=>exact .cons (xW h) (m6 t)
noncomputable abbrev KT (H:Hp):List (List Key×V)->List (List Key×Addr×Value)->Prop:=Paired fun p q=>p.1=q.1/\H q.2.1=some (.tup (p.1.map kV))/\RelV p.2 q.2.2
theorem KT.val {H:Hp}{kvs:List (List Key×V)}{xs:List (List Key×Addr×Value)}(r:KT H kvs xs)(k:List Key):ve (oW kvs k) ((atKey xs k).map (·.2)):=by
 induction r with
 |nil=>exact True.intro
 |@cons p q ps qs h t ih =>
  obtain⟨h1,_,h2⟩:=h;by_cases e:p.1=k
  ·have e':q.1=k:=h1.symm.trans e;have b:atKey (q::qs) k=some q.2:=by simp[atKey,List.find?_cons,e']
   rw[jt e,b];exact h2
  ·have e':¬ q.1=k:=fun z=>e (h1.trans z)
   have b:atKey (q::qs) k=atKey qs k:=by simp[atKey,List.find?_cons,e']
   rw[jw e,b];exact ih
theorem KT.repl {H:Hp}{kvs:List (List Key×V)}{xs:List (List Key×Addr×Value)}(r:KT H kvs xs)(k:List Key){y:V}{u:Value}(ry:RelV y u) :
  KT H (kvs.map fun kv=>if kv.1=k then (kv.1,y) else kv) (xs.map (putAt k u)):=by
 induction r with
 |nil=>exact .nil
 |@cons p q ps qs h t ih =>
  rw[av,av];refine .cons ?_ ih;obtain⟨h1,h2,h3⟩:=h;unfold putAt;by_cases e:p.1=k
  ·rw[if_pos e,if_pos (h1.symm.trans e)];exact⟨h1,h2,ry⟩
  ·rw[if_neg e,if_neg (fun z=>e (h1.trans z))];exact⟨h1,h2,h3⟩
theorem KT.put {H:Hp}{kvs:List (List Key×V)}{xs:List (List Key×Addr×Value)}(r:KT H kvs xs)(k:List Key){b:Addr}{y:V}{u:Value}(hb:H b=some (.tup (k.map kV)))(ry:RelV y u) :
  KT H (putK kvs k y) (storedH xs k b u):=by
 have e:(kvs.any fun kv=>decide (kv.1=k))=(atKey xs k).isSome:=by
  rw[pS,(r.val k).isSome_eq,Option.isSome_map]
 unfold putK storedH;rw[e];by_cases q:(atKey xs k).isSome=true
 ·rw[if_pos q,if_pos q];exact r.repl k ry
 ·rw[if_neg q,if_neg q];exact Paired.snoc r ⟨rfl,hb,ry⟩
theorem KT.keeps {H H':Hp}{kvs:List (List Key×V)}{xs:List (List Key×Addr×Value)}(r:KT H kvs xs)(ht:∀ b ys,H b=some (.tup ys)->H' b=some (.tup ys)):KT H' kvs xs :=
 Paired.mapP r fun _ _ z=>⟨z.1,ht _ _ z.2.1,z.2.2⟩
section
variable {P:Program}{w:World}{H:Hp}{h:Heap}{a:Addr}
theorem BN {u:HO}(ok:iG P w H h)(e:Rd H a u):cJ P w H h a u:=e.ok ok
theorem sU {kvs:List (Key×V)}(ok:iG P w H h)(e:Rd H a (.dK kvs)):kvs.length<=sizeLine/\(a==sysModules)=false/\∃ vs,KV kvs vs/\h.DictOf (bR P w) a vs :=
 show cJ P w H h a (.dK kvs) from BN ok e
theorem wb {kvs:List (Key×V)}(ok:iG P w H h)(e:H a=some (.dK kvs)):kvs.length<=sizeLine/\(a==sysModules)=false/\∃ vs,KV kvs vs/\h.DictOf (bR P w) a vs:=sU ok (.inl e)
theorem yJ {ks:List Key}(ok:iG P w H h)(e:H a=some (.tup (ks.map kV))):(tupleKind (bR P w)).is h ks a:=by
 obtain⟨_,its,r,o,h1,h2,n,h3⟩:=(show cJ P w H h a (.tup (ks.map kV)) from ok a _ e);exact⟨o,its.toArray,n,h1,h2,h3,by simpa using m6 r⟩
theorem Fw {kvs:List (List Key×V)}(ok:iG P w H h)(e:Rd H a (.dT kvs)):kvs.length<=sizeLine/\(a==sysModules)=false /\
  ∃ xs,KT H kvs xs/\h.DictOfH (tupleKind (bR P w)) a xs:=by
 obtain⟨z,y,xs,r,o,es,ep,h1,h2,h3,h4,h5⟩:=(show cJ P w H h a (.dT kvs) from BN ok e);refine⟨z,y,xs,r,o,es,ep,h1,h2,h3,h4,fun x hx=>?_,h5⟩;have all:∀{l:List (List Key×V)}{m:List (List Key×Addr×Value)},KT H l m->∀ x∈m,(tupleKind (bR P w)).is h x.1 x.2.1:=by
  intro l m q
  induction q with
  |nil=>intro x hx;exact nomatch hx
  |@cons p q ps qs hq t ih =>
   intro x hx;rcases iy.mp hx with e | hx
   ·subst e;exact yJ ok (by rw[<-hq.1];exact hq.2.1)
   ·exact ih x hx
 exact all r x hx
theorem HW {kvs:List (List Key×V)}(ok:iG P w H h)(e:H a=some (.dT kvs)):kvs.length<=sizeLine/\(a==sysModules)=false /\
  ∃ xs,KT H kvs xs/\h.DictOfH (tupleKind (bR P w)) a xs:=Fw ok (.inl e)
end
noncomputable def pV (H:Hp)(a:Addr)(y v:V)(H':Hp):Prop :=
 (∃ kvs k,H a=some (.dK kvs)/\y=kV k/\kvs.length<sizeLine/\H'=upd H a (.dK (putK kvs k v))) \/
 ∃ kvs k b,H a=some (.dT kvs)/\y = .ref b/\H b=some (.tup (k.map kV))/\kvs.length<sizeLine/\H'=upd H a (.dT (putK kvs k v))
theorem pV.k {H:Hp}{a:Addr}{kvs:List (Key×V)}{k:Key}{v:V}(e:H a=some (.dK kvs))(hl:kvs.length<sizeLine):pV H a (kV k) v (upd H a (.dK (putK kvs k v))):=.inl ⟨kvs,k,e,rfl,hl,rfl⟩
theorem pV.t {H:Hp}{a b:Addr}{kvs:List (List Key×V)}{k:List Key}{v:V}(e:H a=some (.dT kvs))(eb:H b=some (.tup (k.map kV)))(hl:kvs.length<sizeLine) :
  pV H a (.ref b) v (upd H a (.dT (putK kvs k v))):=.inr ⟨kvs,k,b,e,rfl,eb,hl,rfl⟩
section
variable {X:Cx}{pins:List (Addr×Obj)}{σ:St}{H:Hp}{s:Shared}{a:Addr}{y v:V}{u r:Value}{o:Option V}{A:Around}{E:Value->Shared->Prop}
theorem Inv.big (I:Inv X pins σ H s):sysModules<s.heap.objs.size:=by
 have h:mainGlobals<s.heap.objs.size:=(I.mod.glob.keeps I.bk).lt;exact Nat.lt_trans (by decide) h
theorem kM {h':Heap}{t':Nat}{ob:HO}(I:Inv X pins σ H s)(mu:pW (H a))(hs:Heap.SameBut a s.heap h')(he:∃ q,h'.get? a=some q)(new:cJ X.prog X.w (upd H a ob) h' a ob) :
  Inv X pins σ (upd H a ob) { s with heap:=h',toks:=t' } :=
 I.write (x:=a) (e:=a) mu (.inl rfl) (fun b q hb z=>(hs.2 b hb).trans z) he new
theorem xv {P:Program}{w:World}{H':Hp}{h':Heap}{kvs:List (Key×V)}{vs:List (Key×Value)}(z:kvs.length<=sizeLine)(hd:(a==sysModules)=false)(rel:KV kvs vs)(dd:h'.DictOf (bR P w) a vs) :
  cJ P w H' h' a (.dK kvs):=⟨z,hd,vs,rel,dd⟩
theorem mR {H':Hp}{Q:Unit->Shared->Prop}(hu:A.units+1<cLine)(I:Inv X pins σ H s)(g:pV H a y v H')(ry:RelV y u)(rv:RelV v r)(h:∀ s',Inv X pins σ H' s'->Q () s') :
  wpAny (model X.prog X.w) A (setItem (.ref a) u r) Q E s:=by
 rcases g with ⟨kvs,k,e,ey,l,eH⟩ | ⟨kvs,k,b,e,ey,eb,l,eH⟩
 ·subst ey eH;obtain⟨z,hd,vs,rel,dd⟩:=wb I.hok e;have hz:vs.length<=sizeLine:=by rw[<-rel.length];exact z
  have hl:(putK kvs k v).length<=sizeLine:=by have:=iI kvs k v;omega
  refine wpAny_setItem_pairs (hsz:=hz) (xW ry) dd fun h' dd' hs=>h _ ?_
  have he:∃ q,h'.get? a=some q:=let ⟨q,_,_,hq,_⟩:=dd';⟨q,hq⟩;exact kM I (by rw[e];exact True.intro) hs he (xv hl hd (rel.put k rv) dd')
 ·subst ey eH;cases (show u=Value.ref b from ry);obtain⟨z,hd,xs,rel,dd⟩:=HW I.hok e;have hz:xs.length<=sizeLine:=by rw[<-Paired.length rel];exact z
  have hl:(putK kvs k v).length<=sizeLine:=by have:=iI kvs k v;omega
  refine wpAny_setItem_heap (hsz:=hz) (tupleKind_room_in1 hu) (yJ I.hok eb) dd fun h' dd' hs=>h _ ?_
  obtain⟨q,es,ep,hq,h2,h3,h4,_,h5⟩:=dd';refine kM I (by rw[e];exact True.intro) hs ⟨q,hq⟩ ⟨hl,hd,_,(rel.put k eb rv).keeps fun c ys ec=>?_,q,es,ep,hq,h2,h3,h4,h5⟩;rw[aO (GR ec e (fun z=>nomatch z))];exact ec
end
section
variable {X:Cx}{pins:List (Addr×Obj)}{σ:St}{H:Hp}{s:Shared}{a:Addr}{kvs:List (Key×V)}{k:Key}{u:Value}{A:Around}{E:Value->Shared->Prop}
end
section
variable {X:Cx}{o i e value:Expr}{pos pos' tpos:Pos}{td ty tv:TE}
end
theorem yR {P:Program}{w:World}{H:Hp}(h:Heap)(hb:sysModules<h.objs.size):cJ P w H (h.push { cls:=.type "dict",data:=.dict #[] }) h.objs.size (.dK []) :=
 ⟨dk _,ig.mpr (cy (ba hb)),[],.nil,Heap.DictOf.new h⟩
section
variable {X:Cx}{pos:Pos}
end
noncomputable def lE:List (TE×TE)->St->Hp->(List (V×V)->Hp->Prop)->Prop
 |[],_,H,Q=>Q [] H
 | (tk,tv)::r,σ,H,Q=>tk σ H fun x H1=>tv σ H1 fun y H2=>lE r σ H2 fun ps H3=>Q ((x,y)::ps) H3
noncomputable abbrev VV:List (V×V)->List (Value×Value)->Prop:=Paired fun p q=>RelV p.1 q.1/\RelV p.2 q.2
noncomputable def Hg (X:Cx)(pos:Pos)(keys:List (Option Expr))(values:List Expr)(trs:List (TE×TE)):Prop :=
 ∀(pins:List (Addr×Obj)) (s:Shared) (σ:St) (H:Hp) (Q:List (V×V)->Hp->Prop),Inv X pins σ H s->lE trs σ H Q ->
  wpAny (model X.prog X.w) X.A (evalPairs (pairTrees keys values X.env pos)) (fun vs s'=>∃ ps H',Inv X pins σ H' s'/\VV ps vs/\Q ps H') X.xe s
theorem zG {X:Cx}{pos:Pos}:Hg X pos [] [] []:=fun pins s σ H Q I h=>pairTrees_nil_walk ⟨[],H,I,.nil,h⟩
theorem x8 {X:Cx}{pos:Pos}{k v:Expr}{ks:List (Option Expr)}{vs:List Expr}{tk tv:TE}{trs:List (TE×TE)}(hk:PE X k tk)(hv:PE X v tv)(hr:Hg X pos ks vs trs) :
  Hg X pos (some k::ks) (v::vs) ((tk,tv)::trs):=fun pins s σ H Q I h =>
 pairTrees_cons_walk (cL (hk pins s σ H _ I h) fun u s1 ⟨x,H1,I1,rx,q1⟩=>cL (hv pins s1 σ H1 _ I1 q1) fun w2 s2 ⟨y,H2,I2,ry,q2⟩ =>
  cL (hr pins s2 σ H2 _ I2 q2) fun ws s3 ⟨ps,H3,I3,rel,q3⟩=>⟨(x,y)::ps,H3,I3,.cons ⟨rx,ry⟩ rel,q3⟩)
noncomputable def gY (kvs more:List (Key×V)):List (Key×V):=more.foldl (fun acc kv=>putK acc kv.1 kv.2) kvs
theorem KV.merge:∀{more:List (Key×V)}{rs:List (Key×Value)}{kvs:List (Key×V)}{vs:List (Key×Value)},KV more rs->KV kvs vs->KV (gY kvs more) (merged vs rs):=by
 intro more rs kvs vs r;unfold KV at r
 induction r generalizing kvs vs with
 |nil=>intro q;exact q
 |@cons p q ps qs h t ih =>
  intro r0;have e:KV (putK kvs p.1 p.2) (stored vs q.1 q.2):=by
   have:=r0.put p.1 h.2;rw[<-h.1];exact this
  exact ih e
theorem jf:∀(more kvs:List (Key×V)),(gY kvs more).length<=kvs.length+more.length
 |[],kvs=>by show kvs.length<=kvs.length+0;omega
 | p::r,kvs=>by
  have h1:=jf r (putK kvs p.1 p.2);have h2:=iI kvs p.1 p.2;show (gY (putK kvs p.1 p.2) r).length<=_;rw[aw];omega
theorem lV {P:Program}{w:World}:∀{kvs:List (Key×V)}{ws:List (Value×Value)},VV (kvs.map fun kv=>(kV kv.1,kv.2)) ws->∃ rs,Carries (bR P w) ws rs/\KV kvs rs
 |[],_,r=>by rw[fm] at r;cases r;exact⟨[],True.intro,.nil⟩
 | p::kvs,_,r=>by
  rw[av] at r;cases r with
  |@cons a b as bs h t =>
   obtain⟨rs,c,q⟩:=lV (P:=P) (w:=w) t;obtain⟨b1,b2⟩:=b;exact⟨(p.1,b2)::rs,⟨xW h.1,rfl,c⟩,.cons ⟨rfl,h.2⟩ q⟩
def FW (trs:List (TE×TE)):TE:=fun σ H Q=>∀ p,H p=none->lE trs σ (upd H p (.dK [])) fun ps H2=>H2 p=some (.dK [])/\∃ kvs:List (Key×V),ps=kvs.map (fun kv=>(kV kv.1,kv.2))/\kvs.length<=15/\Q (.ref p) (upd H2 p (.dK (gY [] kvs)))
theorem AE {X:Cx}{pos:Pos}{keys:List (Option Expr)}{values:List Expr}{trs:List (TE×TE)}(h:Hg X pos keys values trs)(hall:keys.all (·.isSome)=true)(hl:keys.length=values.length)(h0:keys≠[])
  (h15:keys.length<=15):PE X (.Dict keys values pos) (FW trs):=by
 intro pins s σ H Q I q;have hn:=I.hok.fresh (au s.heap.objs.size);have I1:=I.laid (a:=s.heap.objs.size) (o:=.dK []) (h':=s.heap.push { cls:=.type "dict",data:=.dict #[] }) (t':=s.toks) (fun _ _ q=>Heap.get?_push_of_some _ q) (au _) (yR s.heap I.big);refine wpAny_Dict_walk (knd:=bR X.prog X.w) hall hl h0 h15 (cL (h pins _ σ _ _ I1 (q _ hn)) fun ws s2 ⟨ps,H2,I2,rel,e,kvs,ep,lk,q2⟩=>?_);subst ep;obtain⟨rs,c,rk⟩:=lV (P:=X.prog) (w:=X.w) rel;obtain⟨z,hd,vs0,r0,dd⟩:=wb I2.hok e;cases r0;refine⟨rs,c,dd,fun h' dd' hs=>⟨.ref s.heap.objs.size,_,?_,rfl,q2⟩⟩;have hz:(gY [] kvs).length<=sizeLine:=by
  have h1:=jf kvs [];rw[bz] at h1;rw[sizeLine_eq];omega
 have he:∃ q,h'.get? s.heap.objs.size=some q:=let ⟨q,_,_,hq,_⟩:=dd';⟨q,hq⟩;exact kM I2 (by rw[e];exact True.intro) hs he (xv hz hd (rk.merge .nil) dd')
end L2
end
section
namespace Pc
open PySem
inductive MV where
 | tr | int (i:Int) | tup (is:List Int)
deriving Inhabited,DecidableEq
inductive D where
 | non | bl (b:Bool) | int (i:Int) | str (s:Str) | lst (xs:List D) | tup (xs:List D)
 | dct (kvs:List ((Int ⊕ Str)×Option Int))
 | mpi (ks:List (Int×MV)) | mpt (ks:List (List Int))
 | mpz (ks:List (Int×MV))
deriving Inhabited
mutual
noncomputable def D.flat:D->Bool
 |.lst _=>false
 |.tup xs=>D.flats xs
 |.non=>true
 |.bl _=>true
 |.int _=>true
 |.str _=>true
 |.dct _=>true
 |.mpi _=>false
 |.mpt _=>false
 |.mpz _=>true
noncomputable def D.flats:List D->Bool
 |[]=>true
 |x::xs=>D.flat x&&D.flats xs
end
noncomputable def qR (f:D->D->Option Bool):List D->List D->Option Bool
 |[],[]=>some true
 |x::xs,y::ys=>(f x y).bind fun a=>(qR f xs ys).map fun b=>a&&b
 |_,_=>none
noncomputable def D.eqf:Nat->D->D->Option Bool
 |0,_,_=>none
 |_+1,.non,.non=>some true
 |_+1,.bl a,.bl b=>some (a==b)
 |_+1,.int a,.int b=>some (a==b)
 |_+1,.str a,.str b=>some (a==b)
 |n+1,.lst a,.lst b=>if a.length=b.length then qR (D.eqf n) a b else some false
 |n+1,.tup a,.tup b=>if a.length=b.length then qR (D.eqf n) a b else none
 |_+1,_,_=>none
structure Exc where
 cls:Str
 fs:List (Str×D)
deriving Inhabited
inductive Rs (α:Type) where
 | ok (a:α) | exc (e:Exc) | bad
noncomputable def Rs.bind {α β:Type}(x:Rs α)(f:α->Rs β):Rs β:=match x with
 |.ok a=>f a
 |.exc e=>.exc e
 |.bad=>.bad
inductive Rt where
 | mv (R:List Nat)
 | sh (R:List Nat)
noncomputable def Rt.roots:Rt->List Nat
 |.mv R=>R
 |.sh R=>R
inductive Tg where
 | own | lk | sh (R:List Nat)
noncomputable abbrev Slot:=Option (D×Tg)
noncomputable abbrev En:=List Slot
noncomputable def lim:Nat:=1000000
inductive kG where
 | nm (i:Nat) | tp (is:List Nat)
inductive D0 where
 | len | list | tuple | int | str | abs | min2 | max2 | all | any | sum | isi (T:String) | sorted | bool | lrev | lrng | divm | maxd
inductive Fj where
 | sfind | sindex | sjoin | ssplit | lindex | lcount | szfill | scount | sstarts
inductive pW where
 | append | extend | insert | pop | wQ | reverse | clear
mutual
inductive Ex where
 | var (i:Nat)
 | cst (d:D)
 | glb (k:Nat)
 | bin (op:Operator) (a b:Ex)
 | neg (a:Ex)
 | cmp (op:CmpOp) (a b:Ex)
 | chn (op op':CmpOp) (a b c:Ex)
 | and (a b:Ex)
 | or (a b:Ex)
 | not (a:Ex)
 | ite (c a b:Ex)
 | lst (es:kZ)
 | tup (es:kZ)
 | ix (a i:Ex)
 | sl (a:Ex) (lo hi:l9)
 | call (f:Nat) (es:kZ)
 | blt (b:D0) (es:kZ)
 | mth (m:Fj) (o:Ex) (es:kZ)
 | comp (own:Nat) (pick:List Nat) (t:kG) (it:qS) (c:l9) (e:Ex)
 | dnew
 | ddsp (l:List (Nat×Int))
 | snoc (a b:Ex)
 | app (g:List D->Option D) (es:kZ)
inductive kZ where
 | nil | cons (e:Ex) (es:kZ)
inductive l9 where
 | none | some (e:Ex)
inductive qS where
 | seq (e:Ex) | rng1 (a:Ex) | rng2 (a b:Ex) | rng3 (a b c:Ex) | enum (e:Ex) | zip (a b:Ex) | rev (e:Ex)
end
mutual
inductive St where
 | asg (t:kG) (e:Ex) (mv:Bool)
 | mut (x:Nat) (path:l9) (m:pW) (es:kZ)
 | setix (x:Nat) (path:l9) (i:Ex) (e:Ex)
 | putd (x:Nat) (i v:Ex)
 | aug (x:Nat) (op:Operator) (e:Ex)
 | popa (y x:Nat) (es:kZ)
 | apop (y x:Nat) (es:kZ)
 | frzd (x:Nat) (s:St)
 | expr (e:Ex)
 | ite (c:Ex) (a b:bJ)
 | forr (t:kG) (it:qS) (b:bJ)
 | forw (x:Nat) (e:Ex) (b:bJ)
 | whl (c:Ex) (b:bJ)
 | ret (e:Ex)
 | retN | brk | cnt | pass
inductive bJ where
 | nil | cons (s:St) (r:bJ)
end
noncomputable def ck (n:Nat)(d:D):Option D:=if n<=lim then some d else none
noncomputable def small (i:Int):Bool:=decide (-(2 ^ 64)<i/\i<2 ^ 64)
noncomputable def binI:Operator->Int->Int->Option Int
 |.Add,i,j=>some (i+j)
 |.Sub,i,j=>some (i - j)
 |.Mult,i,j=>if small i || small j then some (i*j) else none
 |.FloorDiv,i,j=>if 0<j/\j<1073741824 then some (i / j) else none
 |.Mod,i,j=>if 0<j then some (i%j) else none
 |.Pow,i,j=>if 0<=j/\j<=1000000/\i.natAbs<2 ^ 64 then some (i ^ j.toNat) else none
 |.LShift,i,j=>if 0<=j/\j<=1000000/\i.natAbs<2 ^ 64 then some (i*2 ^ j.toNat) else none
 |.RShift,i,j=>if 0<=j then some (i / 2 ^ j.toNat) else none
 |.BitAnd,i,j=>some (Builtin.bitAnd i j)
 |.BitOr,i,j=>some (Builtin.bitOr i j)
 |.BitXor,i,j=>some (Builtin.bitXor i j)
 |_,_,_=>none
noncomputable def qI (a:Str)(k:Nat):Str:=⟨(List.replicate k a.cps).foldl (fun x y=>x++y) #[]⟩
noncomputable def mM:Operator->D->D->Option D
 |op,.int i,.int j=>(binI op i j).map .int
 |.Add,.str a,.str b=>ck (a.length+b.length) (.str (a++b))
 |.Add,.lst a,.lst b=>ck (a.length+b.length) (.lst (a++b))
 |.Mult,.str a,.int k=>if 1<k/\k<=1000/\0<a.length/\a.length<=1000 then some (.str (qI a k.toNat)) else none
 |.Add,.tup a,.tup b=>if a.isEmpty then none else ck (a.length+b.length) (.tup (a++b))
 |.Mult,.lst a,.int k=>if -(2 ^ 63)<=k/\k<2 ^ 63 then (if D.flats a then ck (a.length*k.toNat) (.lst (List.replicate k.toNat a).flatten) else none) else none
 |_,_,_=>none
noncomputable def qQ (x y:Str):Bool:=!(Builtin.Str.occurrences y x 0 y.length 1).isEmpty
noncomputable def ou (kvs:List (Int×MV))(k:Int)(m:MV):List (Int×MV):=if (kvs.any fun q=>decide (q.1=k))=true then kvs.map (fun q=>if q.1=k then (q.1,m) else q) else kvs ++ [(k,m)]
noncomputable def jc:List D->Option (List Int)
 |[]=>some []
 |.int i::r=>(jc r).map (i :: ·)
 |_::_=>none
noncomputable def mvD:MV->D
 |.tr=>.bl true
 |.int i=>.int i
 |.tup is=>.tup (is.map .int)
noncomputable def xS:D->Option MV
 |.bl true=>some .tr
 |.int i=>some (.int i)
 |.tup xs=>(jc xs).map .tup
 |_=>none
noncomputable def oj (gl:Nat->D):List (Nat×Int)->List (Int×MV)->Option (List (Int×MV))
 |[],ks=>some ks
 |q::r,ks=>match gl q.1 with
  |.int i=>oj gl r (ou ks i (.int q.2))
  |_=>none
noncomputable def FY (i j:Int):Bool:=!(i==42&&j==21)
noncomputable def Aw:D->D->D->Option D
 |.mpi ks,.int k,v=>if ks.length<lim then (xS v).map fun m=>.mpi (ou ks k m) else none
 |_,_,_=>none
noncomputable def inD (x:D):D->Option Bool
 |.str y=>match x with
  |.str z=>some (qQ z y)
  |_=>none
 |_=>none
noncomputable def jo:CmpOp->D->D->Option Bool
 |.Lt,.int i,.int j=>some (decide (i<j))
 |.LtE,.int i,.int j=>some (decide (i<=j))
 |.Gt,.int i,.int j=>some (decide (j<i))
 |.GtE,.int i,.int j=>some (decide (j<=i))
 |.Eq,x,y=>D.eqf 40 x y
 |.NotEq,x,y=>(D.eqf 40 x y).map (!·)
 |.In,x,y=>inD x y
 |.NotIn,x,y=>(inD x y).map (!·)
 |_,_,_=>none
noncomputable def truth:D->Option Bool
 |.bl b=>some b
 |.int i=>some (i != 0)
 |.str s=>if s.length<=lim then some ((s.length:Int) != 0) else none
 |.lst xs=>some (!xs.isEmpty)
 |.tup xs=>some (!xs.isEmpty)
 |.non=>some false
 |.dct _=>none
 |.mpi _=>none
 |.mpt _=>none
 |.mpz _=>none
noncomputable def kd (n:Nat)(i:Int):Option Nat:=if 0<=i then (if i<n then some i.toNat else none) else if -(n:Int)<=i then some (i+n).toNat else none
noncomputable def bL (n d:Nat):Option Int->Nat
 |none=>d
 |some v=>if v<0 then (v+(n:Int)).toNat else min v.toNat n
noncomputable def cut {α:Type}(xs:List α)(lo hi:Option Int):List α :=
 let a:=bL xs.length 0 lo
 (xs.drop a).take (bL xs.length xs.length hi - a)
noncomputable def B0:D->D->Option D
 |.lst xs,.int i=>(kd xs.length i).bind fun j=>xs[j]?
 |.tup xs,.int i=>(kd xs.length i).bind fun j=>xs[j]?
 |.str s,.int i=>if s.length<=lim then ((kd s.cps.toList.length i).bind fun j=>s.cps.toList[j]?).map fun c=>.str ⟨#[c]⟩ else none
 |.mpi ks,.int k=>(ks.find? fun q=>decide (q.1=k)).map fun q=>mvD q.2
 |_,_=>none
noncomputable def FD:D->Option Int->Option Int->Option D
 |.lst xs,lo,hi=>some (.lst (cut xs lo hi))
 |.tup xs,lo,hi=>if bL xs.length 0 lo=0/\bL xs.length xs.length hi=xs.length then none else some (.tup (cut xs lo hi))
 |.str s,lo,hi=>if s.length<=lim then some (.str ⟨(cut s.cps.toList lo hi).toArray⟩) else none
 |_,_,_=>none
noncomputable def D.inner:D->Bool
 |.lst xs=>D.flats xs
 |.tup xs=>D.flats xs
 |_=>true
noncomputable def iA (d:D)(R:List Nat):Rt:=if d.inner then .mv [] else .sh R
noncomputable def n9 (d:D)(r:Rt):Rt:=if d.flat then .mv [] else .sh r.roots
noncomputable def eC:List Rt->Option (List Nat)
 |[]=>some []
 |.mv R::r=>(eC r).map (R ++ ·)
 |.sh _::_=>none
noncomputable def aS (l:List Rt):List Nat:=(l.map Rt.roots).flatten
noncomputable def Cq:D->D->Rt->Option D
 |.lst xs,y,.mv []=>if D.flats xs&&decide (xs.length+1<=lim) then some (.lst (xs ++ [y])) else none
 |_,_,_=>none
noncomputable def ph (l:List Rt):Rt:=match eC l with
 |some R=>if R.Nodup then .mv R else .sh R
 |none=>.sh (aS l)
noncomputable def wM (T:String):D->Bool
 |.non=>T == "NoneType"
 |.bl _=>T == "bool" || T == "int"
 |.int _=>T == "int"
 |.str _=>T == "str"
 |.lst _=>T == "list"
 |.tup _=>T == "tuple"
 |.dct _=>false
 |.mpi _=>false
 |.mpt _=>false
 |.mpz _=>false
noncomputable def D.isBl:D->Bool
 |.bl _=>true
 |_=>false
noncomputable def allB:List D->Option Bool
 |[]=>some true
 |.bl b::r=>if b then allB r else some false
 |_::_=>none
noncomputable def anyB:List D->Option Bool
 |[]=>some false
 |.bl b::r=>if b then some true else anyB r
 |_::_=>none
noncomputable def Ir:Int->List D->Option Int
 |a,[]=>some a
 |a,.int i::r=>Ir (a+i) r
 |_,_::_=>none
noncomputable def Cm:Int->List D->Option Int
 |a,[]=>some a
 |a,.int i::r=>Cm (if i > a then i else a) r
 |_,_::_=>none
noncomputable def aQ:Int->Int->Nat->List D
 |_,_,0=>[]
 |a,s,n+1=>.int a::aQ (a+s) s n
noncomputable def eZ (i:Int):Bool:=decide (-(2 ^ 62)<=i/\i<2 ^ 62)
noncomputable def ky:List D->Option (List (List Int))
 |[]=>some []
 |.tup xs::r=>(jc xs).bind fun k=>if k.isEmpty then none else (ky r).map (k :: ·)
 |_::_=>none
noncomputable def qB:List Int->List Int->Bool
 |[],[]=>false
 |[],_::_=>true
 |_::_,[]=>false
 |a::x,b::y=>if a==b then qB x y else decide (a<b)
noncomputable def GQ {α:Type}(f:Nat->Nat->Option Bool):PySem.W.KasT α->Option α
 |.ret a=>some a
 |.ask i j k=>(f i j).bind fun b=>GQ f (k b)
noncomputable def Gk (xs:List D):Option (List D):=if 2<=xs.length/\xs.length<64 then (ky xs).bind fun ks =>
  (GQ (fun i j=>(ks[i]?).bind fun a=>(ks[j]?).map fun b=>qB a b) (PySem.W.kas_sort xs.length)).bind fun p =>
   if p.size<=64 then some (p.toList.map fun i=>xs.getD i .non) else none
 else none
noncomputable def insI (a:Int):List Int->List Int
 |[]=>[a]
 |b::l=>if a<=b then a::b::l else b::insI a l
noncomputable def xT:List Int->List Int
 |[]=>[]
 |a::l=>insI a (xT l)
noncomputable def zh:List D->Option D
 |[.lst xs]=>match jc xs with
  |some ns=>if ns.length<64 then some (.lst ((xT ns).map .int)) else none
  |none=>(Gk xs).map .lst
 |_=>none
noncomputable def Ic:List D->Option D
 |[.lst xs]=>some (.int xs.length)
 |[.tup xs]=>some (.int xs.length)
 |[.str s]=>if s.length<=lim then some (.int s.length) else none
 |_=>none
noncomputable def DR:List D->Option D
 |[.lst xs]=>some (.lst xs)
 |[.tup xs]=>some (.lst xs)
 |[.mpi ks]=>if ks.length<=lim then some (.lst (ks.map fun q=>.int q.1)) else none
 |_=>none
noncomputable def z8:List D->Option D
 |[.lst xs]=>some (.tup xs)
 |_=>none
noncomputable def GO:List D->Option D
 |[.int i]=>some (.int (if i<0 then -i else i))
 |_=>none
noncomputable def dJ (lt:Nat->Nat->Bool):Nat->Nat->Nat->Nat
 |0,_,m=>m
 |k+1,j,m=>dJ lt k (j+1) (if lt j m then j else m)
noncomputable def minD (xs:List D):Option D:=if xs.isEmpty then none else match jc xs with
 |some ns=>xs[dJ (fun i j=>decide (ns.getD i 0<ns.getD j 0)) (xs.length - 1) 1 0]?
 |none=>(ky xs).bind fun ks=>xs[dJ (fun i j=>qB (ks.getD i []) (ks.getD j [])) (xs.length - 1) 1 0]?
noncomputable def CW:List D->Option D
 |[.int i,.int j]=>some (.int (if j<i then j else i))
 |[.lst xs]=>minD xs
 |_=>none
noncomputable def E8:List D->Option D
 |[.int i,.int j]=>some (.int (if j > i then j else i))
 |_=>none
noncomputable def HI:List D->Option D
 |[.lst xs]=>if xs.all D.isBl then (allB xs).map .bl else none
 |_=>none
noncomputable def HS:List D->Option D
 |[.lst xs]=>if xs.all D.isBl then (anyB xs).map .bl else none
 |_=>none
noncomputable def FJ:List D->Option D
 |[.lst xs]=>(Ir 0 xs).map .int
 |_=>none
noncomputable def FP (T:String):List D->Option D
 |[.dct _]=>none
 |[.mpi _]=>none
 |[.mpt _]=>none
 |[.mpz _]=>none
 |[d]=>some (.bl (wM T d))
 |_=>none
noncomputable def Em:List D->Option D
 |[.lst xs]=>some (.lst xs.reverse)
 |_=>none
noncomputable def DX:List D->Option D
 |[.int n]=>if eZ n=true/\n<=1000000 then some (.lst (aQ 0 1 n.toNat)) else none
 |[.int a,.int b]=>if eZ a=true/\eZ b=true/\b - a<=1000000 then some (.lst (aQ a 1 (b - a).toNat)) else none
 |_=>none
noncomputable def He:List D->Option D
 |[.str s]=>if s.length<=640 then (PySem.intText? s).map .int else none
 |[.int i]=>some (.int i)
 |[.bl b]=>some (.int (if b then 1 else 0))
 |_=>none
noncomputable def C6:List D->Option D
 |[.int i,.int j]=>if 0<j/\j<1073741824 then some (.tup [.int (i / j),.int (i%j)]) else none
 |_=>none
noncomputable def Dh:List D->Option D
 |[.lst [],.int d]=>some (.int d)
 | [.lst (.int i::r),.int _]=>(Cm i r).map .int
 |_=>none
noncomputable def kH:D0->List D->Option D
 |.sorted,ds=>zh ds
 |.len,ds=>Ic ds
 |.list,ds=>DR ds
 |.tuple,ds=>z8 ds
 |.abs,ds=>GO ds
 |.min2,ds=>CW ds
 |.max2,ds=>E8 ds
 |.all,ds=>HI ds
 |.any,ds=>HS ds
 |.sum,ds=>FJ ds
 |.isi T,ds=>FP T ds
 |.lrev,ds=>Em ds
 |.lrng,ds=>DX ds
 |.int,ds=>He ds
 |.divm,ds=>C6 ds
 |.maxd,ds=>Dh ds
 |_,_=>none
noncomputable def FL (k:Int):List D->Option Nat
 |[]=>some 0
 |.int i::r=>(FL k r).map fun c=>if i==k then c+1 else c
 |_::_=>none
noncomputable def v9:List D->Option (List Str)
 |[]=>some []
 |.str s::r=>(v9 r).map (s :: ·)
 |_::_=>none
noncomputable def D6 (x y:Str):List Str :=
 if (decide (x.length<y.length) || decide (Builtin.Str.strKind x<Builtin.Str.strKind y))=true then [x] else
 if (Builtin.Str.occurrences x y 0 x.length (x.length+1)).isEmpty=true then [x] else Builtin.Str.partsBetween x (Builtin.Str.occurrences x y 0 x.length (x.length+1)) y.length
noncomputable def qh:Fj->D->List D->Option D
 |.sfind,.str x,[.str y]=>some (.int (match Builtin.Str.occurrences x y 0 x.length 1 with
  |i::_=>(i:Int)
  |[]=>-1))
 |.sindex,.str x,[.str y]=>match Builtin.Str.occurrences x y 0 x.length 1 with
  |i::_=>some (.int (i:Int))
  |[]=>none
 |.sindex,.lst xs,[.int k]=>(jc xs).bind fun ns=>if k∈ns/\ns.length<=lim then some (.int ((ns.idxOf k:Nat):Int)) else none
 |.sjoin,.str x,[.lst xs]=>(v9 xs).bind fun ys=>if (ys.map (·.length)).sum+ys.length*x.length<=lim then some (.str (PySem.Str.join x ys)) else none
 |.ssplit,.str x,[.str y]=>if 0<y.length/\x.length<=lim then some (.lst ((D6 x y).map .str)) else none
 |.lcount,.lst xs,[.int k]=>(FL k xs).map fun (c:Nat)=>.int (c:Int)
 |_,_,_=>none
noncomputable def Tg.drop (i:Nat):Tg->Tg
 |.sh R=>.sh (R.filter (· != i))
 |t=>t
noncomputable def aU (d:D)(R:List Nat):Tg:=if d.flat then .own else .sh R
noncomputable def put (env:En)(i:Nat)(d:D)(t:Tg):En:=(env.map fun (s:Slot)=>s.map fun (p:D×Tg)=>(p.1,p.2.drop i)).set i (some (d,t))
noncomputable def iY (R:List Nat):Tg->Bool
 |.sh Q=>Q.any fun q=>R.contains q
 |_=>false
noncomputable def kill (R:List Nat)(env:En):En:=env.mapIdx fun i (s:Slot)=>match s with
 | some (d,t)=>if R.contains i || iY R t then none else some (d,t)
 |none=>none
noncomputable def gF (env:En)(R:List Nat):Bool:=R.all fun i=>match env[i]? with
 | some (some (_,.own))=>true
 |_=>false
noncomputable def bindM (f:D->Tg):List Nat->List D->En->Option En
 |[],[],env=>some env
 |i::is,d::ds,env=>if i<env.length then bindM f is ds (put env i d (f d)) else none
 |_,_,_=>none
noncomputable def aZ (R:List Nat):kG->D->En->Option En
 |.nm i,d,env=>if i<env.length then some (put env i d (aU d R)) else none
 |.tp is,.tup ds,env=>bindM (fun d=>aU d R) is ds env
 |_,_,_=>none
structure Tb where
 cl:Nat->List D->Rs (D×Bool)
 gl:Nat->D
 fuel:Nat
noncomputable def gN {α:Type}:Option α->Rs α
 |some a=>.ok a
 |none=>.bad
noncomputable def rm:D->Option (List D)
 |.lst xs=>some xs
 |.tup xs=>some xs
 |.str s=>if s.length<=lim then some (s.cps.toList.map fun c=>.str ⟨#[c]⟩) else none
 |.mpz ks=>some (ks.map fun q=>.int q.1)
 |_=>none
noncomputable def Cp:D->Option (List D)
 |.lst xs=>some xs
 |_=>none
noncomputable def sO:D->Option (List D)
 |.lst xs=>some xs
 |.str s=>some (s.cps.toList.map fun c=>.str ⟨#[c]⟩)
 |_=>none
noncomputable def fR (f:D->Rs (Option (D×Rt))):List D->Rs (List (D×Rt))
 |[]=>.ok []
 |d::r=>(f d).bind fun o=>(fR f r).bind fun l=>.ok (match o with
  |some p=>p::l
  |none=>l)
noncomputable def dC (o:Option En)(c:En->Rs Bool)(e:En->Rs (D×Rt)):Rs (Option (D×Rt)):=match o with
 |none=>.bad
 |some env=>(c env).bind fun k=>if k then (e env).bind fun q=>.ok (some q) else .ok none
noncomputable def jQ:Rt->Bool
 |.mv []=>true
 |_=>false
noncomputable def bE (i:Nat):Tg->List Nat
 |.own=>[i]
 |.lk=>[i]
 |.sh R=>R
noncomputable def nL (env:En)(pick:List Nat):List Nat:=(pick.map fun j=>match env[j]? with
 | some (some (_,t))=>bE j t
 |_=>[]).flatten
noncomputable def dA (env:En)(own:Nat)(pick:List Nat):En:=List.replicate own none++pick.map fun i=>match env[i]? with
 | some (some (d,_))=>some (d,.sh [])
 |_=>none
mutual
noncomputable def ev (T:Tb):Ex->En->Rs (D×Rt)
 |.var i,env=>match env[i]? with
  | some (some (d,t))=>.ok (d,if d.flat then .mv [] else match t with
   |.own=>.mv [i]
   |.lk=>.mv [i]
   |.sh R=>.sh R)
  |_=>.bad
 |.cst d,_=>.ok (d,.mv [])
 |.glb k,_=>.ok (T.gl k,.mv [])
 |.bin op a b,env=>(ev T a env).bind fun p=>(ev T b env).bind fun q=>(gN (mM op p.1 q.1)).bind fun d=>.ok (d,iA d (p.2.roots++q.2.roots))
 |.neg a,env=>(ev T a env).bind fun p=>match p.1 with
  |.int i=>.ok (.int (-i),.mv [])
  |_=>.bad
 |.cmp op a b,env=>(ev T a env).bind fun p=>(ev T b env).bind fun q=>(gN (jo op p.1 q.1)).bind fun c=>.ok (.bl c,.mv [])
 |.chn op op' a b c,env=>(ev T a env).bind fun p=>(ev T b env).bind fun q=>(gN (jo op p.1 q.1)).bind fun k =>
   if k then (ev T c env).bind fun r=>(gN (jo op' q.1 r.1)).bind fun k'=>.ok (.bl k',.mv []) else .ok (.bl false,.mv [])
 |.and a b,env=>(ev T a env).bind fun p=>match p.1 with
  |.bl true=>ev T b env
  |.bl false=>.ok (.bl false,.mv [])
  |_=>.bad
 |.or a b,env=>(ev T a env).bind fun p=>match p.1 with
  |.bl true=>.ok (.bl true,.mv [])
  |.bl false=>ev T b env
  |_=>.bad
 |.not a,env=>(ev T a env).bind fun p=>match p.1 with
  |.bl k=>.ok (.bl (!k),.mv [])
  |_=>.bad
 |.ite c a b,env=>(ev T c env).bind fun p=>(gN (truth p.1)).bind fun k=>if k then ev T a env else ev T b env
 |.lst es,env=>(aX T es env).bind fun l=>if l.length<=lim then .ok (.lst (l.map (·.1)),ph (l.map (·.2))) else .bad
 |.tup es,env=>(aX T es env).bind fun l=>if l.length<=lim then .ok (.tup (l.map (·.1)),ph (l.map (·.2))) else .bad
 |.ix a i,env=>(ev T a env).bind fun p=>(ev T i env).bind fun q=>(gN (B0 p.1 q.1)).bind fun d=>.ok (d,n9 d p.2)
 |.sl a lo hi,env=>(ev T a env).bind fun p=>(jB T lo env).bind fun l=>(jB T hi env).bind fun h=>(gN (FD p.1 l h)).bind fun d=>.ok (d,iA d p.2.roots)
 |.call f es,env=>(aX T es env).bind fun l=>(T.cl f (l.map (·.1))).bind fun r=>.ok (r.1,if r.2 then .mv [] else .sh (aS (l.map (·.2))))
 |.blt b es,env=>(aX T es env).bind fun l=>(gN (kH b (l.map (·.1)))).bind fun d=>.ok (d,iA d (aS (l.map (·.2))))
 |.mth m o es,env=>(ev T o env).bind fun p=>(aX T es env).bind fun l=>(gN (qh m p.1 (l.map (·.1)))).bind fun d=>.ok (d,iA d (p.2.roots++aS (l.map (·.2))))
 |.comp own pick t it c e,env=>(eX T it env).bind fun p=>(fR (fun d=>dC (aZ [] t d (dA env own pick)) (vU T c) (ev T e)) p.1).bind fun l =>
    if p.1.length<=lim then .ok (.lst (l.map (·.1)),if l.all (fun q=>q.1.flat || jQ q.2) then .mv [] else .sh (p.2++nL env pick)) else .bad
 |.dnew,_=>.ok (.mpi [],.mv [])
 |.ddsp l,_=>(gN (oj T.gl l [])).bind fun ks=>.ok (.mpi ks,.mv [])
 |.snoc a b,env=>(ev T a env).bind fun p=>(ev T b env).bind fun q=>(gN (Cq p.1 q.1 q.2)).bind fun d=>.ok (d,.mv [])
 |.app g es,env=>(aX T es env).bind fun l=>(gN (g (l.map (·.1)))).bind fun d=>.ok (d,.mv [])
noncomputable def aX (T:Tb):kZ->En->Rs (List (D×Rt))
 |.nil,_=>.ok []
 |.cons e es,env=>(ev T e env).bind fun p=>(aX T es env).bind fun l=>.ok (p::l)
noncomputable def jB (T:Tb):l9->En->Rs (Option Int)
 |.none,_=>.ok none
 |.some e,env=>(ev T e env).bind fun p=>match p.1 with
  |.int i=>.ok (some i)
  |_=>.bad
noncomputable def vU (T:Tb):l9->En->Rs Bool
 |.none,_=>.ok true
 |.some e,env=>(ev T e env).bind fun p=>gN (truth p.1)
noncomputable def eX (T:Tb):qS->En->Rs (List D×List Nat)
 |.seq e,env=>(ev T e env).bind fun p=>(gN (rm p.1)).bind fun l=>.ok (l,p.2.roots)
 |.rng1 a,env=>(ev T a env).bind fun p=>match p.1 with
  |.int j=>if eZ j then .ok (aQ 0 1 j.toNat,[]) else .bad
  |_=>.bad
 |.rng2 a b,env=>(ev T a env).bind fun p=>(ev T b env).bind fun q=>match p.1,q.1 with
  |.int i,.int j=>if eZ i&&eZ j then .ok (aQ i 1 (j - i).toNat,[]) else .bad
  |_,_=>.bad
 |.rng3 a b c,env=>(ev T a env).bind fun p=>(ev T b env).bind fun q=>(ev T c env).bind fun r=>match p.1,q.1,r.1 with
  |.int i,.int j,.int k=>if eZ i&&eZ j&&k != 0&&decide (k.natAbs<1073741824) then .ok (aQ i k (Builtin.Range.rangeSize i j k).toNat,[]) else .bad
  |_,_,_=>.bad
 |.enum e,env=>(ev T e env).bind fun p=>(gN (sO p.1)).bind fun l=>.ok (l.zipIdx.map fun q=>.tup [.int q.2,q.1],p.2.roots)
 |.zip a b,env=>(ev T a env).bind fun p=>(ev T b env).bind fun q=>(gN (Cp p.1)).bind fun l=>(gN (sO q.1)).bind fun m=>.ok ((l.zip m).map fun z=>.tup [z.1,z.2],p.2.roots++q.2.roots)
 |.rev e,env=>(ev T e env).bind fun p=>(gN (Cp p.1)).bind fun l=>.ok (l.reverse,p.2.roots)
end
noncomputable def D.at1:D->Option Int->Option (List D)
 |.lst xs,none=>some xs
 |_,_=>none
noncomputable def D.set1:D->Option Int->List D->D
 |.lst _,none,n=>.lst n
 |d,_,_=>d
noncomputable def yN:pW->List D->List D->Option (List D)
 |.append,xs,[d]=>some (xs ++ [d])
 |.extend,xs,[.lst ys]=>if D.flats ys then some (xs++ys) else none
 |.insert,xs,[.int i,d]=>if -(2 ^ 63)<=i/\i<2 ^ 63 then some (xs.take (bL xs.length 0 (some i))++d::xs.drop (bL xs.length 0 (some i))) else none
 |.pop,xs,[]=>if xs.isEmpty then none else some xs.dropLast
 |.reverse,xs,[]=>some xs.reverse
 |.clear,_,[]=>some []
 |_,_,_=>none
noncomputable def wQ (xs:List D)(j:Nat):Option (D×List D):=match xs[j]? with
 |some r=>if r.flat then some (r,xs.eraseIdx j) else none
 |none=>none
noncomputable def GZ (xs:List D):List D->Option (D×List D)
 |[]=>wQ xs (xs.length - 1)
 |[.int i]=>if -(2 ^ 63)<=i/\i<2 ^ 63 then (kd xs.length i).bind (wQ xs) else none
 |_=>none
inductive Fl where
 | nx (env:En) | rt (d:D) (fr:Bool) | bk (env:En) | ct (env:En) | xc (e:Exc) (env:En) | bad
noncomputable def AD:Option En->Fl
 |some env=>.nx env
 |none=>.bad
noncomputable def uI (t:kG)(mv:Bool)(env:En)(p:D×Rt):Fl:=match t with
 |.nm i=>if i<env.length then (match p.2 with
  |.mv []=>.nx (put env i p.1 .own)
  |.mv R=>if mv then (if gF env R then .nx (put (kill R env) i p.1 .own) else .bad) else .nx (put env i p.1 (.sh (R.filter (· != i))))
  |.sh R=>.nx (put env i p.1 (.sh (R.filter (· != i))))) else .bad
 |.tp is=>match p.1 with
  |.tup ds=>match p.2 with
   |.mv []=>AD (bindM (fun _=>.own) is ds env)
   |r=>if is.all (fun i=>!r.roots.contains i) then AD (bindM (fun d=>aU d r.roots) is ds env) else .bad
  |_=>.bad
noncomputable def Fl.andThen (f:Fl)(k:En->Fl):Fl:=match f with
 |.nx env=>k env
 |x=>x
noncomputable def gO {α:Type}(env:En)(x:Rs α)(k:α->Fl):Fl:=match x with
 |.ok a=>k a
 |.exc e=>.xc e env
 |.bad=>.bad
noncomputable def bU (t:kG)(R:List Nat)(b:En->Fl):List D->En->Fl
 |[],env=>.nx env
 |d::r,env=>match aZ R t d env with
  |none=>.bad
  |some env'=>match b env' with
   |.nx e=>bU t R b r e
   |.ct e=>bU t R b r e
   |.bk e=>.nx e
   |x=>x
noncomputable def B6 (x:Nat)(b:En->Fl):List D->En->Fl
 |[],env=>.nx env
 |d::r,env=>if x<env.length then (match b (put env x d .own) with
  |.nx e=>B6 x b r e
  |_=>.bad) else .bad
noncomputable def fW (c:En->Rs Bool)(b:En->Fl):Nat->En->Fl
 |0,_=>.bad
 |n+1,env=>gO env (c env) fun k=>if k then (match b env with
   |.nx e=>fW c b n e
   |.ct e=>fW c b n e
   |.bk e=>.nx e
   |x=>x) else .nx env
noncomputable def lock (R:List Nat)(env:En):En:=env.mapIdx fun i (s:Slot)=>match s with
 | some (d,.own)=>if R.contains i then some (d,.lk) else some (d,.own)
 |s=>s
noncomputable def unlock (R:List Nat)(env0 env:En):En:=env.mapIdx fun i (s:Slot)=>match s with
 | some (d,.lk)=>match env0[i]? with
  | some (some (_,.own))=>if R.contains i then some (d,.own) else some (d,.lk)
  |_=>some (d,.lk)
 |s=>s
noncomputable def pW.copies:pW->Bool
 |.extend=>true
 |_=>false
noncomputable def iB (x:Nat)(path:Option Int)(env:En)(d:D)(ys:List D)(rs:List Rt):Fl:=match eC rs with
 |none=>.bad
 |some R=>if R.Nodup&&gF env R && !R.contains x&&decide (ys.length<=lim) then .nx ((kill (x::R) env).set x (some (d.set1 path ys,.own))) else .bad
noncomputable def ownAt (env:En)(x:Nat):Option D:=match env[x]? with
 | some (some (d,.own))=>some d
 |_=>none
noncomputable def Ii (env:En)(x:Nat):En:=match ownAt env x with
 | some (.mpi ks)=>(kill [x] env).set x (some (.mpz ks,.own))
 |_=>env
noncomputable def augI:Operator->Int->Int->Option Int
 |.Add,i,j=>some (i+j)
 |.Sub,i,j=>some (i - j)
 |_,_,_=>none
noncomputable def augE (op:Operator)(x:Nat)(a:Int)(env:En)(p:D×Rt):Fl:=match p.1 with
 |.int b=>(match augI op a b with
  |some c=>uI (.nm x) false env (.int c,.mv [])
  |none=>.bad)
 |_=>.bad
noncomputable def intAt (env:En)(x:Nat):Option Int:=match env[x]? with
 | some (some (.int a,_))=>some a
 |_=>none
mutual
noncomputable def aV (T:Tb):St->En->Fl
 |.asg t e mv,env=>gO env (ev T e env) (uI t mv env)
 |.mut x path m es,env=>match ownAt env x with
  |none=>.bad
  |some d=>gO env (jB T path env) fun p=>match d.at1 p with
   |none=>.bad
   |some xs=>gO env (aX T es env) fun l=>match yN m xs (l.map (·.1)) with
    |none=>.bad
    |some ys=>if (aS (l.map (·.2))).contains x then .bad else iB x p env d ys (if m.copies then [] else l.map (·.2))
 |.putd x i v,env=>match ownAt env x with
  |none=>.bad
  |some d=>gO env (ev T v env) fun u=>gO env (ev T i env) fun q=>match Aw d q.1 u.1 with
   |none=>.bad
   |some d'=>.nx ((kill [x] env).set x (some (d',.own)))
 |.setix x path i e,env=>match ownAt env x with
  |none=>.bad
  |some d=>gO env (ev T e env) fun v=>gO env (jB T path env) fun p=>match d.at1 p with
   |none=>.bad
   |some xs=>gO env (ev T i env) fun q=>match q.1 with
    |.int i=>(match kd xs.length i with
     |none=>.bad
     |some j=>iB x p env d (xs.set j v.1) [v.2])
    |_=>.bad
 |.aug x op e,env=>match intAt env x with
  |none=>.bad
  |some a=>gO env (ev T e env) (augE op x a env)
 |.popa y x es,env=>match ownAt env x with
  |none=>.bad
  |some d=>(match d.at1 none with
   |none=>.bad
   |some xs=>gO env (aX T es env) fun l=>match GZ xs (l.map (·.1)) with
    |none=>.bad
    |some q=>(iB x none env d q.2 []).andThen fun e=>uI (.nm y) false e (q.1,.mv []))
 |.apop y x es,env=>if y=x then .bad else match ownAt env x with
  |none=>.bad
  |some d=>(match d.at1 none with
   |none=>.bad
   |some xs=>gO env (aX T es env) fun l=>match GZ xs (l.map (·.1)) with
    |none=>.bad
    |some q=>(iB x none env d q.2 []).andThen fun e=>match ownAt e y with
     |none=>.bad
     |some dy=>(match dy.at1 none with
      |none=>.bad
      |some ys=>iB y none e dy (ys ++ [q.1]) []))
 |.frzd x s,env=>aV T s (Ii env x)
 |.expr e,env=>gO env (ev T e env) fun _=>.nx env
 |.ite c a b,env=>gO env (ev T c env) fun p=>match truth p.1 with
  |some true=>aF T a env
  |some false=>aF T b env
  |none=>.bad
 |.forr t it b,env=>gO env (eX T it env) fun p=>(match bU t p.2 (aF T b) p.1 (lock p.2 env) with
  |.nx e=>.nx (unlock p.2 env e)
  |x=>x)
 |.forw x e b,env=>gO env (ev T e env) fun p=>match p with
  | (.lst xs,.mv [])=>B6 x (aF T b) xs env
  |_=>.bad
 |.whl c b,env=>fW (fun env=>(ev T c env).bind fun p=>gN (truth p.1)) (aF T b) T.fuel env
 |.ret e,env=>gO env (ev T e env) fun p=>.rt p.1 (match p.2 with
  |.mv R=>gF env R
  |.sh _=>false)
 |.retN,_=>.rt .non true
 |.brk,env=>.bk env
 |.cnt,env=>.ct env
 |.pass,env=>.nx env
noncomputable def aF (T:Tb):bJ->En->Fl
 |.nil,env=>.nx env
 |.cons s r,env=>(aV T s env).andThen (aF T r)
end
structure Fn where
 ps:Nat
 slots:Nat
 body:bJ
noncomputable def aG (ds:List D)(n:Nat):En:=ds.map (fun d=>some (d,aU d []))++List.replicate (n - ds.length) none
noncomputable def run (fns:List Fn)(gl:Nat->D)(fuel:Nat):Nat->Nat->List D->Rs (D×Bool)
 |0,_,_=>.bad
 |n+1,f,ds=>match fns[f]? with
  |none=>.bad
  |some F=>if ds.length=F.ps then (match aF ⟨run fns gl fuel n,gl,fuel⟩ F.body (aG ds F.slots) with
   |.rt d fr=>.ok (d,fr)
   |.nx _=>.ok (.non,true)
   |.xc e _=>.exc e
   |_=>.bad) else .bad
end Pc
end
section
namespace Pc
open PySem L2
noncomputable abbrev Frag:=PySem.W.Frag
inductive rE:List DictEntry->List (Key×Option Int)->Prop where
 | nil:rE [] []
 | cons {e:DictEntry}{es:List DictEntry}{k v:Int}{kvs:List (Key×Option Int)}{t u:Tok}(hh:e.hash=hashInt k) (hk:e.key = .int k t) (hv:e.val = .int v u) (r:rE es kvs):rE (e::es) ((.inl k,some v)::kvs)
 | si {e:DictEntry}{es:List DictEntry}{k:Str}{v:Int}{kvs:List (Key×Option Int)}{t u:Tok}(hk:e.key = .str k t) (hv:e.val = .int v u) (r:rE es kvs):rE (e::es) ((.inr k,some v)::kvs)
 | sn {e:DictEntry}{es:List DictEntry}{k:Str}{kvs:List (Key×Option Int)}{t:Tok}(hk:e.key = .str k t) (hv:e.val = .none) (r:rE es kvs):rE (e::es) ((.inr k,none)::kvs)
def vP (K:Frag)(a:Addr)(kvs:List (Key×Option Int)):Prop:=False
def vT (w:World)(K:Frag):Prop:=True
inductive ML where
 | l (vs:List V) | k (kvs:List (Key×V)) | t (kvs:List (List Key×V))
noncomputable def ML.o:ML->HO
 |.l vs=>.lst vs
 |.k kvs=>.dK kvs
 |.t kvs=>.dT kvs
noncomputable def HF (ks:List (List Int)):List (List Key×V):=ks.map fun k=>(k.map .inl,.bl true)
noncomputable def zi:List V->Bool
 |[.int i,.int j]=>FY i j
 |_=>false
noncomputable def kE (K:Frag)(H:Hp)(a:Addr)(xs:List V):Prop :=
 H a=some (.tup xs) \/
  zi xs=false/\∃(o:Obj) (its:Array Value) (n:Nat),K.lookup a=some o/\o.cls = .type "tuple"/\o.data = .seq its n/\its.size<=sizeLine/\aM xs its.toList
noncomputable def qP (K:Frag)(H:Hp):MV->V->Prop
 |.tr,v=>v = .bl true
 |.int i,v=>v = .int i
 |.tup is,v=>∃ b,v = .ref b/\kE K H b (is.map .int)
noncomputable def jd (K:Frag)(H:Hp):List (Int×MV)->List (Key×V)->Prop
 |[],[]=>True
 |q::r,p::s=>p.1 = .inl q.1/\qP K H q.2 p.2/\jd K H r s
 |_,_=>False
theorem qP.keep {K:Frag}{H H':Hp}(t:∀ b vs,kE K H b vs->kE K H' b vs):∀{m:MV}{v:V},qP K H m v->qP K H' m v
 |.tr,_,h=>h
 |.int _,_,h=>h
 |.tup _,_,⟨b,e,h⟩=>⟨b,e,t _ _ h⟩
theorem jd.keep {K:Frag}{H H':Hp}(t:∀ b vs,kE K H b vs->kE K H' b vs):∀{q:List (Int×MV)}{x:List (Key×V)},jd K H q x->jd K H' q x
 |[],[],h=>h
 |_::_,_::_,⟨a,b,c⟩=>⟨a,b.keep t,c.keep t⟩
 |[],_::_,h=>h.elim
 |_::_,[],h=>h.elim
theorem jd.len {K:Frag}{H:Hp}:∀{q:List (Int×MV)}{x:List (Key×V)},jd K H q x->x.length=q.length
 |[],[],_=>rfl
 |_::_,_::_,⟨_,_,c⟩=>by rw[aw,aw,c.len]
 |[],_::_,h=>h.elim
 |_::_,[],h=>h.elim
theorem kE.sq {K:Frag}{H:Hp}{a:Addr}{xs:List V}(h:kE K H a xs):j8 K H a xs:=h.imp .inl And.right
mutual
inductive Rep (K:Frag) (H:Hp):D->V->List Addr->Prop where
 | non:Rep K H .non .non []
 | bl (b:Bool):Rep K H (.bl b) (.bl b) []
 | int (i:Int):Rep K H (.int i) (.int i) []
 | str (s:Str):Rep K H (.str s) (.str s) []
 | lst {p:Addr}{vs:List V}{ds:List D}{G:List Addr}(h:Rd H p (.lst vs)) (r:aI K H ds vs G):Rep K H (.lst ds) (.ref p) (p::G)
 | tup {p:Addr}{vs:List V}{ds:List D}{G:List Addr}(h:kE K H p vs) (r:aI K H ds vs G):Rep K H (.tup ds) (.ref p) G
 | dct {p:Addr}{kvs:List (Key×Option Int)}(h:vP K p kvs):Rep K H (.dct kvs) (.ref p) []
 | mpi {p:Addr}{ks:List (Int×MV)}{xs:List (Key×V)}(h:H p=some (.dK xs)) (r:jd K H ks xs):Rep K H (.mpi ks) (.ref p) [p]
 | mpt {p:Addr}{ks:List (List Int)}(h:Rd H p (.dT (HF ks))):Rep K H (.mpt ks) (.ref p) [p]
 | mpz {p:Addr}{ks:List (Int×MV)}{xs:List (Key×V)}{o:Obj}(h:H p=some (.frz o (.dK xs))) (r:jd K H ks xs):Rep K H (.mpz ks) (.ref p) []
inductive aI (K:Frag) (H:Hp):List D->List V->List Addr->Prop where
 | nil:aI K H [] [] []
 | cons {d:D}{v:V}{ds:List D}{vs:List V}{G G':List Addr}(h:Rep K H d v G) (r:aI K H ds vs G'):aI K H (d::ds) (v::vs) (G++G')
end
theorem uy {H H':Hp}{b:Addr}(k:∀ u:HO,H b=some u->H' b=some u){o:HO}(h:Rd H b o):Rd H' b o:=by
 rcases h with h | ⟨u,h⟩
 ·exact .inl (k _ h)
 ·exact .inr ⟨u,k _ h⟩
def Hh (H H':Hp):Prop:=∀ b o u,H b=some (.frz o u)->H' b=some (.frz o u)
section
variable {K:Frag}{H H':Hp}
theorem Rep.keep (t:∀ b vs,kE K H b vs->kE K H' b vs)(z:Hh H H'){d:D}{v:V}{G:List Addr}(h:Rep K H d v G):(∀ b∈G,∀ u:HO,H b=some u->H' b=some u)->Rep K H' d v G :=
 Rep.rec (motive_1:=fun d v G _=>(∀ b∈G,∀ u:HO,H b=some u->H' b=some u)->Rep K H' d v G) (motive_2:=fun ds vs G _=>(∀ b∈G,∀ u:HO,H b=some u->H' b=some u)->aI K H' ds vs G)
  (fun _=>.non) (fun b _=>.bl b) (fun i _=>.int i) (fun s _=>.str s) (fun h _ ih k=>.lst (uy (k _ ak) h) (ih fun b hb=>k b (ah _ hb)))
  (fun h _ ih k=>.tup (t _ _ h) (ih k)) (fun h _=>.dct h) (fun h r k=>.mpi (k _ ak _ h) (r.keep t)) (fun h k=>.mpt (uy (k _ ak) h)) (fun h r _=>.mpz (z _ _ _ h) (r.keep t))
  (fun _=>.nil) (fun _ _ i1 i2 k=>.cons (i1 fun b hb=>k b (bg _ hb)) (i2 fun b hb=>k b (aq _ hb))) h
theorem aI.keep (t:∀ b vs,kE K H b vs->kE K H' b vs)(z:Hh H H'){ds:List D}{vs:List V}{G:List Addr}(h:aI K H ds vs G):(∀ b∈G,∀ u:HO,H b=some u->H' b=some u)->aI K H' ds vs G :=
 aI.rec (motive_1:=fun d v G _=>True) (motive_2:=fun ds vs G _=>(∀ b∈G,∀ u:HO,H b=some u->H' b=some u)->aI K H' ds vs G)
  trivial (fun _=>trivial) (fun _=>trivial) (fun _=>trivial) (fun _ _ _=>trivial) (fun _ _ _=>trivial) (fun _=>trivial) (fun _ _=>trivial) (fun _=>trivial) (fun _ _=>trivial)
  (fun _=>.nil) (fun h _ _ i2 k=>.cons (Rep.keep t z h fun b hb=>k b (bg _ hb)) (i2 fun b hb=>k b (aq _ hb))) h
theorem aJ.rd (e:aJ H H'){b:Addr}{o:HO}(h:Rd H b o):Rd H' b o:=by
 rcases h with h | ⟨u,h⟩
 ·exact .inl (e _ _ h)
 ·exact .inr ⟨u,e _ _ h⟩
theorem aJ.tqT (e:aJ H H'){b:Addr}{vs:List V}(h:kE K H b vs):kE K H' b vs:=by
 rcases h with h | h
 ·exact .inl (e _ _ h)
 ·exact .inr h
theorem Rep.same (e:aJ H H'){d:D}{v:V}{G:List Addr}(h:Rep K H d v G):Rep K H' d v G:=h.keep (fun _ _=>aJ.tqT e) (fun _ _ _ h=>e _ _ h) fun _ _ _ h=>e _ _ h
theorem aI.same (e:aJ H H'){d:List D}{v:List V}{G:List Addr}(h:aI K H d v G):aI K H' d v G:=h.keep (fun _ _=>aJ.tqT e) (fun _ _ _ h=>e _ _ h) fun _ _ _ h=>e _ _ h
theorem Rep.flat {d:D}{v:V}{G:List Addr}(h:Rep K H d v G):d.flat=true->G=[] :=
 Rep.rec (motive_1:=fun d v G _=>d.flat=true->G=[]) (motive_2:=fun ds vs G _=>D.flats ds=true->G=[])
  (fun _=>rfl) (fun _ _=>rfl) (fun _ _=>rfl) (fun _ _=>rfl) (fun _ _ _ f=>by simp[D.flat] at f) (fun _ _ ih f=>ih (by simpa[D.flat] using f)) (fun _ _=>rfl) (fun _ _ f=>by simp[D.flat] at f) (fun _ f=>by simp[D.flat] at f) (fun _ _ _=>rfl)
  (fun _=>rfl) (fun _ _ i1 i2 f=>by
   simp only[D.flats,Bool.and_eq_true] at f;rw[i1 f.1,i2 f.2];rfl) h
theorem aI.flat {ds:List D}{vs:List V}{G:List Addr}(h:aI K H ds vs G):D.flats ds=true->G=[] :=
 aI.rec (motive_1:=fun d v G _=>True) (motive_2:=fun ds vs G _=>D.flats ds=true->G=[])
  trivial (fun _=>trivial) (fun _=>trivial) (fun _=>trivial) (fun _ _ _=>trivial) (fun _ _ _=>trivial) (fun _=>trivial) (fun _ _=>trivial) (fun _=>trivial) (fun _ _=>trivial)
  (fun _=>rfl) (fun h _ _ i2 f=>by
   simp only[D.flats,Bool.and_eq_true] at f;rw[Rep.flat h f.1,i2 f.2];rfl) h
theorem Rep.live {d:D}{v:V}{G:List Addr}(h:Rep K H d v G):∀ a∈G,∃ vs:ML,Rd H a vs.o :=
 Rep.rec (motive_1:=fun d v G _=>∀ a∈G,∃ vs:ML,Rd H a vs.o) (motive_2:=fun ds vs G _=>∀ a∈G,∃ vs:ML,Rd H a vs.o)
  (fun _ h=>(nomatch h)) (fun _ _ h=>(nomatch h)) (fun _ _ h=>(nomatch h)) (fun _ _ h=>(nomatch h)) (fun h _ ih a m=>(iy.mp m).elim (fun e=>e ▸ ⟨.l _,h⟩) (ih a)) (fun _ _ ih=>ih) (fun _ _ h=>(nomatch h))
  (fun h _ a m=>(ir.mp m) ▸ ⟨.k _,.inl h⟩) (fun h a m=>(ir.mp m) ▸ ⟨.t _,h⟩) (fun _ _ _ h=>(nomatch h))
  (fun _ h=>(nomatch h)) (fun _ _ i1 i2 a m=>(List.mem_append.mp m).elim (i1 a) (i2 a)) h
theorem aI.live {ds:List D}{vs:List V}{G:List Addr}(h:aI K H ds vs G):∀ a∈G,∃ vs:ML,Rd H a vs.o :=
 aI.rec (motive_1:=fun d v G _=>True) (motive_2:=fun ds vs G _=>∀ a∈G,∃ vs:ML,Rd H a vs.o)
  trivial (fun _=>trivial) (fun _=>trivial) (fun _=>trivial) (fun _ _ _=>trivial) (fun _ _ _=>trivial) (fun _=>trivial) (fun _ _=>trivial) (fun _=>trivial) (fun _ _=>trivial)
  (fun _ h=>(nomatch h)) (fun h _ _ i2 a m=>(List.mem_append.mp m).elim (Rep.live h a) (i2 a)) h
theorem Rd.ne_none {a:Addr}{u:HO}(h:Rd H a u):H a≠none:=by
 rcases h with h | ⟨o,h⟩<;>rw[h]<;>simp
theorem Rep.nn {d:D}{v:V}{G:List Addr}(h:Rep K H d v G){a:Addr}(m:a∈G):H a≠none:=let ⟨_,q⟩:=h.live a m;Rd.ne_none q
theorem aI.nn {d:List D}{v:List V}{G:List Addr}(h:aI K H d v G){a:Addr}(m:a∈G):H a≠none:=let ⟨_,q⟩:=h.live a m;Rd.ne_none q
theorem aI.len:∀{ds:List D}{vs:List V}{G:List Addr},aI K H ds vs G->ds.length=vs.length
 |_,_,_,.nil=>rfl
 |_,_,_,.cons _ r=>by simp[aI.len r]
theorem aI.get:∀{ds:List D}{vs:List V}{G:List Addr}{i:Nat}{d:D},aI K H ds vs G->ds[i]? = some d->∃ v G',vs[i]? = some v/\Rep K H d v G'/\G'.Sublist G
 |_,_,_,_,_,.nil,e=>by simp at e
 | _,_,_,0,_,.cons h r,e=>by
  simp at e;subst e;exact⟨_,_,rfl,h,List.sublist_append_left _ _⟩
 | _,_,_,i+1,d,.cons h r,e=>by
  obtain⟨v,G',a,b,c⟩:=aI.get (i:=i) (d:=d) r (by simpa using e);exact⟨v,G',by simpa using a,b,c.trans (List.sublist_append_right _ _)⟩
theorem aI.append:∀{ds es:List D}{vs us:List V}{G G':List Addr},aI K H ds vs G->aI K H es us G'->aI K H (ds++es) (vs++us) (G++G')
 |_,_,_,_,_,_,.nil,s=>s
 | _,_,_,_,_,_,.cons h r,s=>by
  rw[cf];exact .cons h (aI.append r s)
theorem aI.take:∀{ds:List D}{vs:List V}{G:List Addr}(n:Nat),aI K H ds vs G->∃ G',aI K H (ds.take n) (vs.take n) G'/\G'.Sublist G
 |_,_,_,0,_=>⟨[],by simpa using .nil,by simp⟩
 |_,_,_,_+1,.nil=>⟨[],by simpa using .nil,by simp⟩
 | _,_,_,n+1,.cons h r=>by
  obtain⟨G',a,b⟩:=aI.take n r;exact⟨_,by simpa using .cons h a,List.Sublist.append (List.Sublist.refl _) b⟩
theorem aI.drop:∀{ds:List D}{vs:List V}{G:List Addr}(n:Nat),aI K H ds vs G->∃ G',aI K H (ds.drop n) (vs.drop n) G'/\G'.Sublist G
 |_,_,_,0,r=>⟨_,by simpa using r,List.Sublist.refl _⟩
 |_,_,_,_+1,.nil=>⟨[],by simpa using .nil,by simp⟩
 | _,_,_,n+1,.cons h r=>by
  obtain⟨G',a,b⟩:=aI.drop n r;exact⟨_,by simpa using a,b.trans (List.sublist_append_right _ _)⟩
theorem aI.split:∀{ds:List D}{vs:List V}{G:List Addr}{i:Nat}{d:D},aI K H ds vs G->ds[i]? = some d->∃ v G1 G' G2,vs[i]? = some v/\G=G1++(G'++G2)/\Rep K H d v G' /\
  ∀(H':Hp) (d':D) (v':V) (N:List Addr),(∀ b vs,kE K H b vs->kE K H' b vs)->Hh H H'->(∀ b∈G1++G2,∀ u:HO,H b=some u->H' b=some u)->Rep K H' d' v' N->aI K H' (ds.set i d') (vs.set i v') (G1++(N++G2))
 |_,_,_,_,_,.nil,e=>by simp at e
 | _,_,_,0,_,.cons (G:=G) (G':=G') h r,e=>by
  simp at e;subst e;refine⟨_,[],_,_,rfl,rfl,h,fun H' d' v' N t z k n=>?_⟩;show aI K H' (_::_) (_::_) (N++G');exact .cons n (r.keep t z fun b hb=>k b (by simpa using hb))
 | _,_,_,i+1,d,.cons (G:=G) (G':=G') h r,e=>by
  obtain⟨v,G1,Gi,G2,a,b,c,f⟩:=aI.split (i:=i) (d:=d) r (by simpa using e);refine⟨v,G++G1,Gi,G2,by simpa using a,by rw[b];simp,c,fun H' d' v' N t z k n=>?_⟩;have q:=aI.cons (h.keep t z fun b hb=>k b (by simp[hb])) (f H' d' v' N t z (fun b hb=>k b (by simp at hb ⊢;exact Or.inr hb)) n);rw[<-cf] at q;exact q
end
noncomputable def bD:Tg->Bool
 |.own=>true
 |.lk=>true
 |.sh _=>false
structure RE (K:Frag)(P:Addr->Prop)(env:En)(σ:L2.St)(H:Hp)(F:Nat->List Addr):Prop where
 len:env.length=σ.length
 val:∀ i d t,env[i]? = some (some (d,t))->∃ v,σ[i]? = some (some v)/\Rep K H d v (F i)
 emp:∀ i,(∀ d t,env[i]?≠some (some (d,t)))->F i=[]
 one:∀ i d t,env[i]? = some (some (d,t))->bD t=true->(F i).Nodup/\(∀ a∈F i,∃ vs:ML,H a=some vs.o) /\
  ∀ a∈F i,∀ j d' t',env[j]? = some (some (d',t'))->a∈F j->i∈bE j t'
 wr:∀ i d,env[i]? = some (some (d,.own))->∀ a∈F i,¬ P a
 pl:∀ a,P a->H a≠none
structure bV (env:En)(F:Nat->List Addr)(H:Hp)(r:Rt)(H':Hp)(G:List Addr):Prop where
 cont:∀ a∈G,H a=none\/∃ i d t,a∈F i/\env[i]? = some (some (d,t))/\∀ q∈bE i t,q∈r.roots
 mv:∀ R,r = .mv R->G.Nodup/\(∀ a∈G,∃ vs:ML,H' a=some vs.o)/\∀ a∈G,H a=none\/∃ i d t,i∈R/\a∈F i/\env[i]? = some (some (d,t))/\bD t=true
theorem bV.nil {env:En}{F:Nat->List Addr}{H H':Hp}{r:Rt}:bV env F H r H' []:=⟨fun _ h=>(nomatch h),fun _ _=>⟨bt,fun _ h=>(nomatch h),fun _ h=>(nomatch h)⟩⟩
theorem RE.same {K:Frag}{P:Addr->Prop}{env:En}{σ:L2.St}{H H':Hp}{F:Nat->List Addr}(r:RE K P env σ H F)(e:aJ H H'):RE K P env σ H' F where
 len:=r.len
 val:=fun i d t h=>let ⟨v,a,b⟩:=r.val i d t h;⟨v,a,b.same e⟩
 emp:=r.emp
 one:=fun i d t h o=>let ⟨a,b,c⟩:=r.one i d t h o;⟨a,fun x hx=>let ⟨vs,q⟩:=b x hx;⟨vs,e _ _ q⟩,c⟩
 wr:=r.wr
 pl:=fun a h z=>by
  cases q:H a with
  |none=>exact r.pl a h q
  |some o=>rw[e _ _ q] at z;cases z
theorem aJ.no {H H':Hp}(e:aJ H H'){a:Addr}(h:H' a=none):H a=none:=by
 cases q:H a with
 |none=>rfl
 |some o=>rw[e _ _ q] at h;cases h
theorem bV.back {env:En}{F:Nat->List Addr}{H H1 H':Hp}{r:Rt}{G:List Addr}(h:bV env F H1 r H' G)(e:aJ H H1):bV env F H r H' G where
 cont:=fun a ha=>(h.cont a ha).imp (aJ.no e) id
 mv:=fun R hr=>let ⟨a,b,c⟩:=h.mv R hr;⟨a,b,fun x hx=>(c x hx).imp (aJ.no e) id⟩
theorem bV.later {env:En}{F:Nat->List Addr}{H H1 H':Hp}{r:Rt}{G:List Addr}(h:bV env F H r H1 G)(e:aJ H1 H'):bV env F H r H' G where
 cont:=h.cont
 mv:=fun R hr=>let ⟨a,b,c⟩:=h.mv R hr;⟨a,fun x hx=>let ⟨vs,q⟩:=b x hx;⟨vs,e _ _ q⟩,c⟩
theorem bV.part {env:En}{F:Nat->List Addr}{H H':Hp}{r r':Rt}{G G':List Addr}(h:bV env F H r H' G)(hs:∀ a∈G',a∈G)(hr:∀ q∈r.roots,q∈r'.roots)(hn:∀ R,r'≠.mv R):bV env F H r' H' G' where
 cont:=fun a ha=>(h.cont a (hs a ha)).imp id fun ⟨i,d,t,x,y,z⟩=>⟨i,d,t,x,y,fun q hq=>hr q (z q hq)⟩
 mv:=fun R e=>absurd e (hn R)
noncomputable def pM (F:Nat->List Addr)(i:Nat)(G:List Addr):Nat->List Addr:=fun j=>if j=i then G else F j
theorem eE {F:Nat->List Addr}{i:Nat}{G:List Addr}:pM F i G i=G:=if_pos rfl
theorem dZ {F:Nat->List Addr}{i j:Nat}{G:List Addr}(h:j≠i):pM F i G j=F j:=if_neg h
theorem rZ (env:En)(i:Nat)(d:D)(t:Tg):(put env i d t).length=env.length:=by simp[put]
theorem dN {env:En}{i:Nat}{d:D}{t:Tg}(h:i<env.length):(put env i d t)[i]? = some (some (d,t)):=by
 unfold put;rw[List.getElem?_set_self (by simpa using h)]
theorem wy {env:En}{i j:Nat}{d:D}{t:Tg}(h:j≠i):(put env i d t)[j]? = (env[j]?).map fun s=>s.map fun p=>(p.1,p.2.drop i):=by
 unfold put;rw[List.getElem?_set_ne (cy h),List.getElem?_map]
theorem gX {env:En}{i j:Nat}{d d':D}{t t':Tg}(h:j≠i)(e:(put env i d t)[j]? = some (some (d',t'))):∃ t0,env[j]? = some (some (d',t0))/\t'=t0.drop i:=by
 rw[wy h] at e;cases q:env[j]? with
 |none=>rw[q] at e;cases e
 |some s =>
  rw[q] at e;cases s with
  |none=>cases e
  |some p =>
   obtain⟨a,b⟩:=p;simp only[Option.map_some,Option.some.injEq,Prod.mk.injEq] at e;obtain⟨rfl,rfl⟩:=e;exact⟨b,rfl,rfl⟩
theorem kD (t:Tg)(i:Nat):bD (t.drop i)=bD t:=by cases t<;>rfl
theorem kL {t:Tg}{i j k:Nat}(h:k∈bE j t)(hk:k≠i):k∈bE j (t.drop i):=by
 cases t with
 |own=>exact h
 |lk=>exact h
 |sh R =>
  simp only[bE,Tg.drop,List.mem_filter] at h ⊢;exact⟨h,by simpa using hk⟩
section
variable {K:Frag}{P:Addr->Prop}{env:En}{σ:L2.St}{H:Hp}{F:Nat->List Addr}
theorem RE.nn (re:RE K P env σ H F){j:Nat}{d:D}{t:Tg}(h:env[j]? = some (some (d,t))){a:Addr}(m:a∈F j):H a≠none:=let ⟨_,_,r⟩:=re.val j d t h;r.nn m
theorem RE.at' (re:RE K P env σ H F){j:Nat}{a:Addr}(m:a∈F j):∃ d t,env[j]? = some (some (d,t)):=by
 by_cases h:∃ d t,env[j]? = some (some (d,t))
 ·exact h
 ·rw[re.emp j fun d t e=>h ⟨d,t,e⟩] at m;cases m
theorem RE.put (re:RE K P env σ H F){i:Nat}{d:D}{v:V}{G:List Addr}{t:Tg}(hi:i<env.length)(rp:Rep K H d v G)
  (ho:bD t=true->G.Nodup/\(∀ a∈G,∃ vs:ML,H a=some vs.o)/\∀ a∈G,∀ j,j≠i->a∉F j) (hw:t = .own->∀ a∈G,¬ P a)
  (hs:∀ a∈G,∀ j d' t',j≠i->env[j]? = some (some (d',t'))->bD t'=true->a∈F j->j∈bE i t):RE K P (put env i d t) (σ.set i (some v)) H (pM F i G) where
 len:=by rw[rZ,gq];exact re.len
 val:=fun j d' t' e=>by
  by_cases h:j=i
  ·subst h;rw[dN hi] at e;cases e;exact⟨v,List.getElem?_set_self (by rw[<-re.len];exact hi),by rw[eE];exact rp⟩
  ·obtain⟨t0,e0,rfl⟩:=gX h e;obtain⟨u,a,b⟩:=re.val j d' t0 e0;exact⟨u,by rw[List.getElem?_set_ne (cy h)];exact a,by rw[dZ h];exact b⟩
 emp:=fun j h=>by
  by_cases hj:j=i
  ·subst hj;exact absurd (dN hi) (h d t)
  ·rw[dZ hj];refine re.emp j fun d' t' e=>h d' (t'.drop i) ?_
   rw[wy hj,e];rfl
 one:=fun j d' t' e o=>by
  by_cases h:j=i
  ·subst h;rw[dN hi] at e;cases e;obtain⟨a,b,c⟩:=ho o;rw[eE];refine⟨a,b,fun x hx k d2 t2 e2 m=>?_⟩;by_cases hk:k=j
   ·subst hk;rw[dN hi] at e2;cases e2;cases t<;>simp_all [bE,bD]
   ·rw[dZ hk] at m;exact absurd m (c x hx k hk)
  ·obtain⟨t0,e0,rfl⟩:=gX h e;rw[kD] at o;obtain⟨a,b,c⟩:=re.one j d' t0 e0 o;rw[dZ h];refine⟨a,b,fun x hx k d2 t2 e2 m=>?_⟩;by_cases hk:k=i
   ·subst hk;rw[dN hi] at e2;cases e2;rw[eE] at m;exact hs x m j d' t0 h e0 o hx
   ·rw[dZ hk] at m;obtain⟨t3,e3,rfl⟩:=gX hk e2;exact kL (c x hx k d2 t3 e3 m) h
 wr:=fun j d' e=>by
  by_cases h:j=i
  ·subst h;rw[dN hi] at e;cases e;rw[eE];exact hw rfl
  ·obtain⟨t0,e0,q⟩:=gX h e;rw[dZ h];cases t0 with
   |own=>exact re.wr j d' e0
   |lk=>cases q
   |sh R=>cases q
 pl:=re.pl
theorem RE.forget (re:RE K P env σ H F){env':En}(hl:env'.length=env.length)(he:∀(i:Nat) (d:D) (t:Tg),env'[i]? = some (some (d,t))->env[i]? = some (some (d,t))) :
  RE K P env' σ H (fun i=>match env'[i]? with | some (some _)=>F i | _=>[]) where
 len:=hl.trans re.len
 val:=fun i d t e=>by rw[e];exact re.val i d t (he i d t e)
 emp:=fun i h=>by
  split
  ·rename_i p q;exact absurd q (h p.1 p.2)
  ·rfl
 one:=fun i d t e o=>by
  rw[e];obtain⟨a,b,c⟩:=re.one i d t (he i d t e) o;refine⟨a,b,fun x hx k d2 t2 e2 m=>?_⟩;rw[e2] at m;exact c x hx k d2 t2 (he k d2 t2 e2) m
 wr:=fun i d e=>by rw[e];exact re.wr i d (he i d _ e)
 pl:=re.pl
end
theorem cX (R:List Nat)(env:En):(kill R env).length=env.length:=by simp[kill]
theorem cH {R:List Nat}{env:En}{i:Nat}{d:D}{t:Tg}(e:(kill R env)[i]? = some (some (d,t))):env[i]? = some (some (d,t))/\i∉R/\∀ q∈R,q∉bE i t:=by
 unfold kill at e;rw[List.getElem?_mapIdx] at e;cases q:env[i]? with
 |none=>rw[q] at e;cases e
 |some s =>
  rw[q] at e;cases s with
  |none=>cases e
  |some p =>
   obtain⟨a,b⟩:=p;simp only[Option.map_some,Option.some.injEq] at e;by_cases h:(R.contains i || iY R b)=true
   ·rw[if_pos h] at e;cases e
   ·rw[if_neg h] at e;cases e;rw[gu,not_or] at h;have h1:i∉R:=fun z=>h.1 (by simpa using z)
    refine⟨rfl,h1,fun r hq z=>?_⟩;cases t with
    |own=>simp only[bE,List.mem_singleton] at z;subst z;exact h1 hq
    |lk=>simp only[bE,List.mem_singleton] at z;subst z;exact h1 hq
    |sh Q =>
     apply h.2;simp only[iY,List.any_eq_true];exact⟨r,z,by simpa using hq⟩
section
variable {K:Frag}{P:Addr->Prop}{env:En}{σ:L2.St}{H:Hp}{F:Nat->List Addr}
theorem oy {p b:Addr}{ws vs:List V}{o:HO}(hp:H p=some (.lst ws))(h:kE K H b vs):kE K (upd H p o) b vs:=by
 rcases h with h | h
 ·exact .inl (by rw[aO];exact h;intro z;subst z;rw[hp] at h;cases h)
 ·exact .inr h
theorem zb {p b:Addr}{ws:ML}{vs:List V}{o:HO}(hp:H p=some ws.o)(h:kE K H b vs):kE K (upd H p o) b vs:=by
 rcases h with h | h
 ·exact .inl (by rw[aO];exact h;intro z;subst z;rw[hp] at h;cases ws<;>cases h)
 ·exact .inr h
theorem jW {H:Hp}{p:Addr}{ws:ML}{o:HO}(hp:H p=some ws.o):Hh H (L2.upd H p o):=fun b ob u h=>by
 rw[aO fun e=>?_]
 ·exact h
 ·subst e;rw[hp] at h;cases ws<;>cases h
theorem Rep.upd {p:Addr}{ws:List V}{o:HO}{d:D}{v:V}{G:List Addr}(hp:H p=some (.lst ws))(h:Rep K H d v G)(hn:p∉G):Rep K (upd H p o) d v G :=
 h.keep (fun _ _=>oy hp) (jW (ws:=.l _) hp) fun b hb _ h=>(aO (fun (z:b=p)=>hn (z ▸ hb))).trans h
theorem Rep.updM {p:Addr}{ws:ML}{o:HO}{d:D}{v:V}{G:List Addr}(hp:H p=some ws.o)(h:Rep K H d v G)(hn:p∉G):Rep K (L2.upd H p o) d v G :=
 h.keep (fun _ _=>zb hp) (jW hp) fun b hb _ h=>(aO (fun (z:b=p)=>hn (z ▸ hb))).trans h
theorem aI.upd {p:Addr}{ws:List V}{o:HO}{d:List D}{v:List V}{G:List Addr}(hp:H p=some (.lst ws))(h:aI K H d v G)(hn:p∉G):aI K (upd H p o) d v G :=
 h.keep (fun _ _=>oy hp) (jW (ws:=.l _) hp) fun b hb _ h=>(aO (fun (z:b=p)=>hn (z ▸ hb))).trans h
noncomputable def mI (F:Nat->List Addr)(env:En)(x:Nat)(R:List Nat)(G:List Addr):Nat->List Addr:=fun j=>if j=x then G else match (kill (x::R) env)[j]? with
 | some (some _)=>F j
 |_=>[]
theorem RE.mutateM (re:RE K P env σ H F){x:Nat}{d d':D}{v:V}{p:Addr}{vs:ML}{R:List Nat}{N G:List Addr}(hx:env[x]? = some (some (d,.own)))(hv:σ[x]? = some (some v))(hp:p∈F x)
  (rp:Rep K (upd H p vs.o) d' v G) (nd:G.Nodup) (sub:∀ a∈G,a∈F x\/a∈N)
  (hN:∀ a∈N,(∃ vs:ML,H a=some vs.o)/\¬ P a/\∀(j:Nat) (d:D) (t:Tg),env[j]? = some (some (d,t))->a∈F j->∃ q∈x::R,q∈bE j t) :
  RE K P ((kill (x::R) env).set x (some (d',.own))) σ (upd H p vs.o) (mI F env x R G):=by
 obtain⟨ndx,lsx,onx⟩:=re.one x d .own hx rfl;obtain⟨ws,hpl⟩:=lsx p hp;have hxl:x<(kill (x::R) env).length:=by
  rw[cX];exact (List.getElem?_eq_some_iff.mp hx).1
 have other:∀{j:Nat}{d2:D}{t2:Tg},j≠x->((kill (x::R) env).set x (some (d',.own)))[j]? = some (some (d2,t2))->(kill (x::R) env)[j]? = some (some (d2,t2)):=fun {j d2 t2} hj e=>by
  rw[List.getElem?_set_ne (cy hj)] at e;exact e
 have live:∀ a,(∃ vs:ML,H a=some vs.o)->∃ ws:ML,upd H p vs.o a=some ws.o:=fun a ⟨ws,h⟩=>by
  by_cases z:a=p
  ·subst z;exact⟨vs,aP⟩
  ·exact⟨ws,by rw[aO z];exact h⟩
 have apart:∀{j:Nat}{d2:D}{t2:Tg},j≠x->(kill (x::R) env)[j]? = some (some (d2,t2))->∀ a∈F x,a∉F j:=fun {j d2 t2} hj e a ha hb=>by
  obtain⟨e0,_,h3⟩:=cH e;exact h3 x ak (onx a ha j d2 t2 e0 hb)
 have fj:∀{j:Nat}{d2:D}{t2:Tg},j≠x->(kill (x::R) env)[j]? = some (some (d2,t2))->mI F env x R G j=F j:=fun {j d2 t2} hj e=>by
  unfold mI;rw[if_neg hj,e]
 have fx:mI F env x R G x=G:=if_pos rfl;refine⟨?_,fun j d2 t2 e=>?_,fun j h=>?_,fun j d2 t2 e o=>?_,fun j d2 e=>?_,fun a h=>?_⟩
 ·rw[gq,cX];exact re.len
 ·by_cases hj:j=x
  ·subst hj;rw[List.getElem?_set_self hxl] at e;cases e;exact⟨v,hv,by rw[fx];exact rp⟩
  ·have e1:=other hj e;obtain⟨e0,_,_⟩:=cH e1;obtain⟨u,h1,h2⟩:=re.val j d2 t2 e0;exact⟨u,h1,by rw[fj hj e1];exact h2.updM hpl (apart hj e1 p hp)⟩
 ·by_cases hj:j=x
  ·subst hj;exact absurd (List.getElem?_set_self hxl) (h d' .own)
  ·unfold mI;rw[if_neg hj];split
   ·rename_i q e;exact absurd (by rw[List.getElem?_set_ne (cy hj)];exact e) (h q.1 q.2)
   ·rfl
 ·by_cases hj:j=x
  ·subst hj;rw[List.getElem?_set_self hxl] at e;cases e;rw[fx];refine⟨nd,fun a ha=>live a ?_,fun a ha k d3 t3 e3 m=>?_⟩
   ·rcases sub a ha with q | q
    ·exact lsx a q
    ·exact (hN a q).1
   ·by_cases hk:k=j
    ·subst hk;rw[List.getElem?_set_self hxl] at e3;cases e3;simp[bE]
    ·have e4:=other hk e3;rw[fj hk e4] at m;rcases sub a ha with q | q
     ·exact absurd m (apart hk e4 a q)
     ·obtain⟨e0,_,h3⟩:=cH e4;obtain⟨r,r1,r2⟩:=(hN a q).2.2 k d3 t3 e0 m;exact absurd r2 (h3 r r1)
  ·have e1:=other hj e;obtain⟨e0,_,_⟩:=cH e1;obtain⟨a,b,c⟩:=re.one j d2 t2 e0 o;rw[fj hj e1];refine⟨a,fun y hy=>live y (b y hy),fun y hy k d3 t3 e3 m=>?_⟩;by_cases hk:k=x
   ·subst hk;rw[List.getElem?_set_self hxl] at e3;cases e3;rw[fx] at m;rcases sub y m with q | q
    ·exact absurd hy (apart hj e1 y q)
    ·obtain⟨_,_,h3⟩:=cH e1;obtain⟨r,r1,r2⟩:=(hN y q).2.2 j d2 t2 e0 hy;exact absurd r2 (h3 r r1)
   ·have e4:=other hk e3;rw[fj hk e4] at m;exact c y hy k d3 t3 (cH e4).1 m
 ·by_cases hj:j=x
  ·subst hj;rw[fx];intro a ha;rcases sub a ha with q | q
   ·exact re.wr j d hx a q
   ·exact (hN a q).2.1
  ·have e1:=other hj e;rw[fj hj e1];exact re.wr j d2 (cH e1).1
 ·intro z;by_cases q:a=p
  ·subst q;rw[aP] at z;cases z
  ·rw[aO q] at z;exact re.pl a h z
theorem RE.mutate (re:RE K P env σ H F){x:Nat}{d d':D}{v:V}{p:Addr}{vs:List V}{R:List Nat}{N G:List Addr}(hx:env[x]? = some (some (d,.own)))(hv:σ[x]? = some (some v))(hp:p∈F x)
  (rp:Rep K (upd H p (.lst vs)) d' v G) (nd:G.Nodup) (sub:∀ a∈G,a∈F x\/a∈N)
  (hN:∀ a∈N,(∃ vs:ML,H a=some vs.o)/\¬ P a/\∀(j:Nat) (d:D) (t:Tg),env[j]? = some (some (d,t))->a∈F j->∃ q∈x::R,q∈bE j t) :
  RE K P ((kill (x::R) env).set x (some (d',.own))) σ (upd H p (.lst vs)) (mI F env x R G):=re.mutateM (vs:=.l vs) hx hv hp rp nd sub hN
inductive PV (K:Frag) (H:Hp):V->Option Int->Addr->Prop where
 | top (p:Addr):PV K H (.ref p) none p
 | item {q p:Addr}{ws:List V}{i:Int}{j:Nat}(h:Rd H q (.lst ws)\/j8 K H q ws) (hj:kd ws.length i=some j) (e:ws[j]? = some (.ref p)):PV K H (.ref q) (some i) p
theorem Dw {n:Nat}{i:Int}{j:Nat}(h:kd n i=some j):j<n:=by
 unfold kd at h;split at h
 ·split at h
  ·cases h;omega
  ·cases h
 ·split at h
  ·cases h;omega
  ·cases h
theorem Rep.lst_inv {ds:List D}{v:V}{G:List Addr}(h:Rep K H (.lst ds) v G):∃ p vs G',v = .ref p/\G=p::G'/\Rd H p (.lst vs)/\aI K H ds vs G':=by
 cases h with
 |lst a b=>exact⟨_,_,_,rfl,rfl,a,b⟩
theorem vi {d:D}{v:V}{G:List Addr}{path:Option Int}{xs:List D}(rp:Rep K H d v G)(nd:G.Nodup)(h:d.at1 path=some xs):∃ p,PV K H v path p/\∀ H',aJ H H'->(∀ a∈G,∃ vs:ML,H' a=some vs.o) ->
  ∃ vs Gx,H' p=some (.lst vs)/\aI K H' xs vs Gx/\p∈G/\(∀ a∈Gx,a∈G)/\Gx.Nodup/\p∉Gx /\
   ∀ ys us Gy,aI K (upd H' p (.lst us)) ys us Gy->Gy.Nodup->p∉Gy->(∀ a∈Gy,a∈Gx\/a∉G)->∃ G',Rep K (upd H' p (.lst us)) (d.set1 path ys) v G'/\G'.Nodup/\∀ a∈G',a∈G\/a∈Gy:=by
 have rdl:∀{H':Hp}{p:Addr}{vs:List V},(∀ a∈G,∃ vs:ML,H' a=some vs.o)->p∈G->Rd H' p (.lst vs)->H' p=some (.lst vs):=fun {H' p vs} hl hp r=>by
  obtain⟨ws,q⟩:=hl p hp;rcases r with r | ⟨o,r⟩
  ·exact r
  ·rw[q] at r;cases ws<;>cases r
 cases path with
 |none =>
  cases rp with
  |lst hr r =>
   rename_i p vs ds G0;have h:some _=some xs:=h;cases h;obtain⟨n1,n2⟩:=List.nodup_cons.mp nd;refine⟨p,.top p,fun H' e hl=>⟨vs,G0,rdl hl ak (aJ.rd e hr),r.same e,ak,fun a ha=>ah _ ha,n2,n1,fun ys us Gy ry ny hy hs=>?_⟩⟩;exact⟨p::Gy,.lst (.inl aP) ry,List.nodup_cons.mpr ⟨hy,ny⟩,fun a ha=>(List.mem_cons.mp ha).imp (fun z=>by simp[z]) id⟩
  |_=>cases h
 |some i=>cases rp<;>cases h
end
end Pc
end
section
namespace Pc
open PySem PySem.Spec PyProof.Rows L2
theorem Rs.bind_ok {α β:Type}{x:Rs α}{f:α->Rs β}{b:β}(h:x.bind f = .ok b):∃ a,x = .ok a/\f a = .ok b:=by
 cases x with
 |ok a=>exact⟨a,rfl,h⟩
 |exc e=>cases h
 |bad=>cases h
theorem cU {α:Type}{o:Option α}{a:α}(h:gN o = .ok a):o=some a:=by
 cases o with
 |none=>cases h
 |some b=>cases h;rfl
theorem aJ.new {H:Hp}{p:Addr}{o:HO}(h:H p=none):aJ H (upd H p o):=fun b u e=>by
 rw[aO];exact e;intro z;subst z;rw[h] at e;cases e
theorem sD:lim<=sizeLine:=by decide
theorem fN {n:Nat}(h:n<=lim):n<=sizeLine:=bj h sD
inductive Args (K:Frag) (env:En) (F:Nat->List Addr):Hp->Hp->List (D×Rt)->List V->List Addr->Prop where
 | nil {H H':Hp}(e:aJ H H'):Args K env F H H' [] [] []
 | cons {H H1 H':Hp}{p:D×Rt}{v:V}{G G':List Addr}{l:List (D×Rt)}{vs:List V}(e:aJ H H1) (r:Rep K H1 p.1 v G) (t:bV env F H p.2 H1 G) (s:Args K env F H1 H' l vs G'):Args K env F H H' (p::l) (v::vs) (G++G')
section
variable {K:Frag}{env:En}{F:Nat->List Addr}
theorem Args.same:∀{H H':Hp}{l:List (D×Rt)}{vs:List V}{G:List Addr},Args K env F H H' l vs G->aJ H H'
 |_,_,_,_,_,.nil e=>e
 |_,_,_,_,_,.cons e _ _ s=>e.trans s.same
theorem Args.reps:∀{H H':Hp}{l:List (D×Rt)}{vs:List V}{G:List Addr},Args K env F H H' l vs G->aI K H' (l.map (·.1)) vs G
 |_,_,_,_,_,.nil _=>.nil
 |_,_,_,_,_,.cons _ r _ s=>.cons (r.same s.same) s.reps
theorem Args.cont:∀{H H':Hp}{l:List (D×Rt)}{vs:List V}{G:List Addr},Args K env F H H' l vs G->∀ a∈G,H a=none\/∃ i d t,a∈F i/\env[i]? = some (some (d,t))/\∀ q∈bE i t,q∈aS (l.map (·.2))
 |_,_,_,_,_,.nil _,a,h=>by cases h
 | _,_,_,_,_,.cons (p:=p) (l:=l) e r t s,a,h=>by
  have e1:aS ((p::l).map (·.2))=p.2.roots++aS (l.map (·.2)):=by simp[aS]
  rw[e1];rcases List.mem_append.mp h with h | h
  ·exact (t.cont a h).imp id fun ⟨i,d,t,x,y,z⟩=>⟨i,d,t,x,y,fun q hq=>bg _ (z q hq)⟩
  ·exact (s.cont a h).imp (aJ.no e) fun ⟨i,d,t,x,y,z⟩=>⟨i,d,t,x,y,fun q hq=>aq _ (z q hq)⟩
theorem Args.two {H H':Hp}{p q:D×Rt}{x y:V}{G:List Addr}(ar:Args K env F H H' [p,q] [x,y] G) :
  ∃ H1 G1 G2,G=G1++G2/\aJ H H1/\Rep K H1 p.1 x G1/\bV env F H p.2 H1 G1/\aJ H1 H'/\Rep K H' q.1 y G2:=by
 cases ar with
 |cons e r t s =>
  cases s with
  |cons e' r' t' s' =>
   cases s' with
   |nil e''=>exact⟨_,_,_,by rw[ax],e,r,t,e'.trans e'',r'.same e''⟩
theorem Args.mv {P:Addr->Prop}{σ:L2.St}:∀{H H':Hp}{l:List (D×Rt)}{vs:List V}{G:List Addr}{R:List Nat},RE K P env σ H F->Args K env F H H' l vs G->eC (l.map (·.2))=some R->R.Nodup ->
  G.Nodup/\(∀ a∈G,∃ vs:ML,H' a=some vs.o)/\∀ a∈G,H a=none\/∃ i d t,i∈R/\a∈F i/\env[i]? = some (some (d,t))/\bD t=true
 |_,_,_,_,_,_,_,.nil _,_,_=>⟨bt,fun _ h=>(nomatch h),fun _ h=>(nomatch h)⟩
 | H,_,_,_,_,_,re,.cons (p:=p) (l:=l) (G:=G) (G':=G') e r t s,hm,nd=>by
  obtain⟨d,rt⟩:=p;cases rt with
  |sh Q=>simp[eC] at hm
  |mv R1 =>
   simp only[List.map_cons,eC,Option.map_eq_some_iff] at hm;obtain⟨R2,h2,rfl⟩:=hm;obtain⟨n1,n2,n12⟩:=List.nodup_append.mp nd;obtain⟨a1,b1,c1⟩:=t.mv R1 rfl;obtain⟨a2,b2,c2⟩:=Args.mv (re.same e) s h2 n2;refine⟨List.nodup_append.mpr ⟨a1,a2,fun x hx y hy z=>?_⟩,fun x hx=>?_,fun x hx=>?_⟩
   ·subst z;rcases c2 x hy with q | ⟨i2,d2,t2,m2,f2,e2,o2⟩
    ·exact r.nn hx q
    ·rcases c1 x hx with q | ⟨i1,d1,t1,m1,f1,e1,o1⟩
     ·obtain⟨v,_,rp⟩:=re.val i2 d2 t2 e2;exact rp.nn f2 q
     ·have q:=(re.one i1 d1 t1 e1 o1).2.2 x f1 i2 d2 t2 e2 f2;have q':i1=i2:=by cases t2<;>simp_all [bE,bD]
      exact n12 i1 m1 i2 m2 q'
   ·rcases List.mem_append.mp hx with hx | hx
    ·obtain⟨vs,q⟩:=b1 x hx;exact⟨vs,s.same _ _ q⟩
    ·exact b2 x hx
   ·rcases List.mem_append.mp hx with hx | hx
    ·exact (c1 x hx).imp id fun ⟨i,d,t,m,z⟩=>⟨i,d,t,bg _ m,z⟩
    ·exact (c2 x hx).imp (aJ.no e) fun ⟨i,d,t,m,z⟩=>⟨i,d,t,aq _ m,z⟩
theorem Args.comb {P:Addr->Prop}{σ:L2.St}{H H':Hp}{l:List (D×Rt)}{vs:List V}{G:List Addr}(re:RE K P env σ H F)(ar:Args K env F H H' l vs G):bV env F H (ph (l.map (·.2))) H' G:=by
 unfold ph;cases hm:eC (l.map (·.2)) with
 |none=>exact⟨ar.cont,fun R e=>by cases e⟩
 |some R =>
  have er:∀(l:List Rt) (R:List Nat),eC l=some R->aS l=R:=by
   intro l
   induction l with
   |nil=>intro R h;simp[eC] at h;subst h;rfl
   |cons x r ih =>
    intro R h;cases x with
    |sh Q=>simp[eC] at h
    |mv Q =>
     simp only[eC,Option.map_eq_some_iff] at h;obtain⟨R2,h2,rfl⟩:=h;have:=ih R2 h2;simp only[aS,List.map_cons,List.flatten_cons,Rt.roots] at this ⊢;rw[this]
  have er:=er _ R hm;by_cases nd:R.Nodup
  ·simp only[nd,if_true];obtain⟨a,b,c⟩:=ar.mv re hm nd;refine⟨fun x hx=>?_,fun R' e=>by cases e;exact⟨a,b,c⟩⟩;rcases c x hx with q | ⟨i,d,t,m,f,e,o⟩
   ·exact .inl q
   ·exact .inr ⟨i,d,t,f,e,fun q hq=>by cases t<;>simp_all [bE,bD,Rt.roots]⟩
  ·simp only[nd,if_false];exact⟨fun x hx=>by have:=ar.cont x hx;rw[er] at this;exact this,fun R' e=>by cases e⟩
end
structure gM (H H':Hp)(G0:List Addr)(d:D)(G:List Addr):Prop where
 same:aJ H H'
 sub:∀ a∈G,H a=none\/a∈G0
 new:d.inner=true->G.Nodup/\∀ a∈G,H a=none/\∃ vs:ML,H' a=some vs.o
section
variable {K:Frag}{H:Hp}{G0:List Addr}
theorem gM.nil {d:D}:gM H H G0 d []:=⟨aJ.refl _,fun _ h=>(nomatch h),fun _=>⟨bt,fun _ h=>(nomatch h)⟩⟩
theorem jZ {ds:List D}{vs:List V}{G:List Addr}{p:Addr}(r:aI K H ds vs G)(hs:∀ a∈G,a∈G0)(hp:H p=none) :
  Rep K (upd H p (.lst vs)) (.lst ds) (.ref p) (p::G)/\gM H (upd H p (.lst vs)) G0 (.lst ds) (p::G):=by
 have e:=aJ.new (o:=.lst vs) hp;refine⟨.lst (.inl aP) (r.same e),e,fun a ha=>?_,fun f=>?_⟩
 ·rcases iy.mp ha with rfl | ha
  ·exact .inl hp
  ·exact .inr (hs a ha)
 ·have:G=[]:=r.flat f;subst this;exact⟨by simp,fun a ha=>by
   have:a=p:=by simpa using ha
   subst this;exact⟨hp,.l _,aP⟩⟩
theorem wj {ds:List D}{vs:List V}{G:List Addr}{p:Addr}(r:aI K H ds vs G)(hs:∀ a∈G,a∈G0)(hp:H p=none) :
  Rep K (upd H p (.tup vs)) (.tup ds) (.ref p) G/\gM H (upd H p (.tup vs)) G0 (.tup ds) G:=by
 have e:=aJ.new (o:=.tup vs) hp;refine⟨.tup (.inl aP) (r.same e),e,fun a ha=>.inr (hs a ha),fun f=>?_⟩;have:G=[]:=r.flat f;subst this;exact⟨by simp,fun a ha=>(nomatch ha)⟩
theorem bV.new {env:En}{F:Nat->List Addr}{H1 H':Hp}{l:List (D×Rt)}{vs:List V}{G:List Addr}{d:D}{R:List Nat}(ar:Args K env F H H1 l vs G0)(nv:gM H1 H' G0 d G)(hR:∀ q∈aS (l.map (·.2)),q∈R):bV env F H (iA d R) H' G:=by
 unfold iA;cases hi:d.inner with
 |true =>
  obtain⟨a,b⟩:=nv.new hi;have c:∀ x∈G,H x=none:=fun x hx=>aJ.no ar.same (b x hx).1
  exact⟨fun x hx=>.inl (c x hx),fun R' e=>⟨a,fun x hx=>(b x hx).2,fun x hx=>.inl (c x hx)⟩⟩
 |false =>
  refine⟨fun x hx=>?_,fun R' e=>by cases e⟩;rcases nv.sub x hx with q | q
  ·exact .inl (aJ.no ar.same q)
  ·exact (ar.cont x q).imp id fun ⟨i,d,t,f,e,z⟩=>⟨i,d,t,f,e,fun q hq=>hR q (z q hq)⟩
end
section
variable {X:Cx}
theorem bS {e:Expr}{t t':TE}(h:PE X e t)(k:∀ σ H Q,t' σ H Q->t σ H Q):PE X e t':=fun pins s σ H Q I q=>h pins s σ H Q I (k σ H Q q)
theorem sC {e:Expr}{t t':TT}(h:PT X e t)(k:∀ σ H Q,t' σ H Q->t σ H Q):PT X e t':=fun pins s σ H Q I q=>h pins s σ H Q I (k σ H Q q)
theorem wG {e:List Expr}{t t':TA}(h:PA X e t)(k:∀ σ H Q,t' σ H Q->t σ H Q):PA X e t':=fun pos pins s σ H Q I q=>h pos pins s σ H Q I (k σ H Q q)
theorem cY {e:Stmt}{t t':TS}(h:PS X e t)(k:∀ D σ H,t' D σ H->t D σ H):PS X e t':=fun pins s σ H D I q=>h pins s σ H D I (k D σ H q)
theorem i8 {e:List Stmt}{t t':TS}(h:iZ X e t)(k:∀ D σ H,t' D σ H->t D σ H):iZ X e t':=fun pins s σ H D I q=>h pins s σ H D I (k D σ H q)
end
def tE (K:Frag)(T:Tb)(c:Ex):TE:=fun σ H Q=>∃ P env F,RE K P env σ H F/\∃ p,ev T c env = .ok p/\∀ v H' G,aJ H H'->Rep K H' p.1 v G->bV env F H p.2 H' G->Q v H'
def rj (K:Frag)(T:Tb)(cs:kZ):TA:=fun σ H Q=>∃ P env F,RE K P env σ H F/\∃ l,aX T cs env = .ok l/\∀ vs H' G,Args K env F H H' l vs G->Q vs H'
def nZ (K:Frag)(T:Tb)(c:Ex):TT:=fun σ H Q=>∃ P env F,RE K P env σ H F/\∃ p b,ev T c env = .ok p/\truth p.1=some b/\∀ H',aJ H H'->Q b H'
section
variable {K:Frag}{T:Tb}{P:Addr->Prop}{env:En}{F:Nat->List Addr}{σ:L2.St}{H:Hp}
theorem two {ca cb:Ex}{r:R2}{Q:VK}{p q:D×Rt}(re:RE K P env σ H F)(h1:ev T ca env = .ok p)(h2:ev T cb env = .ok q)(k:∀ x y H2 G,Args K env F H H2 [p,q] [x,y] G->r x y H2 Q):HC r (tE K T ca) (tE K T cb) σ H Q :=
 ⟨P,env,F,re,p,h1,fun v1 H1 G1 s1 rp1 rt1=>⟨P,env,F,re.same s1,q,h2,fun v2 H2 G2 s2 rp2 rt2=>k v1 v2 H2 _ (.cons s1 rp1 rt1 (.cons s2 rp2 rt2 (.nil (aJ.refl _))))⟩⟩
end
noncomputable def AX (K:Frag)(f:D->D->Option D):R2:=fun x y H Q=>∃ d1 d2 d G,aI K H [d1,d2] [x,y] G/\f d1 d2=some d/\∀ v H' G',Rep K H' d v G'->gM H H' G d G'->Q v H'
noncomputable def Iq (K:Frag):R2:=fun x y H Q=>∃ d1 d2 d G,aI K H [d1,d2] [x,y] G/\B0 d1 d2=some d/\∀ v G',Rep K H d v G'->G'.Sublist G->Q v H
section
variable {X:Cx}{T:Tb}{a b c:Expr}{ca cb cc:Ex}{pos:Pos}
theorem Eg {op:Operator}(ho:iW X (binaryOp op) (AX X.K (mM op)))(ha:PE X a (tE X.K T ca))(hb:PE X b (tE X.K T cb)):PE X (.BinOp a op b pos) (tE X.K T (.bin op ca cb)):=by
 refine bS (Co ho ha hb) fun σ H Q ⟨P,env,F,re,p0,hev,k⟩=>?_
 unfold ev at hev;obtain⟨p,h1,hev⟩:=Rs.bind_ok hev;obtain⟨q,h2,hev⟩:=Rs.bind_ok hev;obtain⟨d,h3,hev⟩:=Rs.bind_ok hev;have h3:=cU h3;cases hev;refine two re h1 h2 fun x y H2 G ar=>⟨p.1,q.1,d,G,ar.reps,h3,fun v H' G' rp nv=>k v H' G' (ar.same.trans nv.same) rp (bV.new ar nv fun z hz=>by simpa[aS] using hz)⟩
theorem CI {op:CmpOp}(ho:iW X (compareOp op) (AX X.K fun x y=>(jo op x y).map .bl))(ha:PE X a (tE X.K T ca))(hb:PE X b (tE X.K T cb))(hm:behindInMarks op b=false):PE X (.Compare a [op] [b] pos) (tE X.K T (.cmp op ca cb)):=by
 refine bS (zO ho ha hb hm) fun σ H Q ⟨P,env,F,re,p0,hev,k⟩=>?_
 unfold ev at hev;obtain⟨p,h1,hev⟩:=Rs.bind_ok hev;obtain⟨q,h2,hev⟩:=Rs.bind_ok hev;obtain⟨d,h3,hev⟩:=Rs.bind_ok hev;have h3:=cU h3;cases hev;refine two re h1 h2 fun x y H2 G ar=>⟨p.1,q.1,.bl d,G,ar.reps,by simp[h3],fun v H' G' rp nv=>k v H' G' (ar.same.trans nv.same) rp ?_⟩
 have:G'=[]:=rp.flat rfl;subst this;exact bV.nil
theorem Ha (ho:Fo X (Iq X.K))(ha:PE X a (tE X.K T ca))(hb:PE X b (tE X.K T cb))(hs:pC b):PE X (.Subscript a b pos) (tE X.K T (.ix ca cb)):=by
 refine bS (Gp ho ha hb hs) fun σ H Q ⟨P,env,F,re,p0,hev,k⟩=>?_
 unfold ev at hev;obtain⟨p,h1,hev⟩:=Rs.bind_ok hev;obtain⟨q,h2,hev⟩:=Rs.bind_ok hev;obtain⟨d,h3,hev⟩:=Rs.bind_ok hev;have h3:=cU h3;cases hev;refine two re h1 h2 fun x y H2 G ar=>⟨p.1,q.1,d,G,ar.reps,h3,fun v G' rp sl=>k v H2 G' ar.same rp ?_⟩
 unfold n9;cases hf:d.flat with
 |true =>
  have:G'=[]:=rp.flat hf;subst this;exact bV.nil
 |false =>
  obtain⟨H1,g1,g2,e1,s1,_,rt1,s2,rp2⟩:=ar.two;have hq:q.1.flat=true:=by
   revert h3;intro h3;cases hq:q.1 with
   |int _=>rfl
   |str _=>rfl
   |_=>rw[hq] at h3;revert h3;cases p.1<;>exact fun h3=>nomatch h3
  have rp2:=rp2.flat hq;have rp1:=rt1.later s2;subst rp2;rw[ax] at e1;subst e1;refine⟨fun z hz=>?_,fun R e=>by cases e⟩;exact rp1.cont z (sl.subset hz)
end
end Pc
end
section
namespace Pc
open PySem L2
structure jq (P:Addr->Prop)(H H':Hp):Prop where
 keep:∀ a,P a->H' a=H a
 tup:∀ b xs,H b=some (.tup xs)->H' b=some (.tup xs)
 fz:Hh H H'
theorem jq.refl {P:Addr->Prop}(H:Hp):jq P H H:=⟨fun _ _=>rfl,fun _ _ h=>h,fun _ _ _ h=>h⟩
theorem jq.trans {P:Addr->Prop}{H H1 H2:Hp}(a:jq P H H1)(b:jq P H1 H2):jq P H H2:=⟨fun x h=>(b.keep x h).trans (a.keep x h),fun x xs h=>b.tup x xs (a.tup x xs h),fun x o u h=>b.fz x o u (a.fz x o u h)⟩
theorem jq.of_same {P:Addr->Prop}{H H':Hp}(pl:∀ a,P a->H a≠none)(e:aJ H H'):jq P H H':=⟨fun a h=>by
 cases q:H a with
 |none=>exact absurd q (pl a h)
 |some o=>exact e _ _ q,fun _ _=>e _ _,fun _ _ _ h=>e _ _ h⟩
theorem jq.weak {P P':Addr->Prop}{H H':Hp}(h:∀ a,P a->P' a)(e:jq P' H H'):jq P H H':=⟨fun a x=>e.keep a (h a x),e.tup,e.fz⟩
theorem jq.tqT {K:Frag}{P:Addr->Prop}{H H':Hp}(e:jq P H H'){b:Addr}{vs:List V}(h:kE K H b vs):kE K H' b vs:=by
 rcases h with h | h
 ·exact .inl (e.tup b vs h)
 ·exact .inr h
theorem jq.reps {K:Frag}{P:Addr->Prop}{H H':Hp}(e:jq P H H'){ds:List D}{vs:List V}{G:List Addr}(h:aI K H ds vs G)(hp:∀ a∈G,P a):aI K H' ds vs G :=
 h.keep (fun _ _=>e.tqT) e.fz fun b hb _ r=>(e.keep b (hp b hb)).trans r
def sA (env:En)(F:Nat->List Addr)(env':En)(F':Nat->List Addr):Prop:=∀(i:Nat) (d:D),env'[i]? = some (some (d,.lk))->env[i]? = some (some (d,.lk))/\F' i=F i
theorem sA.refl (env:En)(F:Nat->List Addr):sA env F env F:=fun _ _ h=>⟨h,rfl⟩
theorem sA.trans {e1 e2 e3:En}{F1 F2 F3:Nat->List Addr}(a:sA e1 F1 e2 F2)(b:sA e2 F2 e3 F3):sA e1 F1 e3 F3:=fun i d h=>by
 obtain⟨h1,h2⟩:=b i d h;obtain⟨h3,h4⟩:=a i d h1;exact⟨h3,h2.trans h4⟩
structure After (K:Frag)(P Z:Addr->Prop)(env:En)(F:Nat->List Addr)(H:Hp)(env':En)(σ':L2.St)(H':Hp)(F':Nat->List Addr):Prop where
 re:RE K P env' σ' H' F'
 z:∀ i,∀ a∈F' i,Z a
 ev:jq P H H'
 lk:sA env F env' F'
theorem After.trans {K:Frag}{P Z:Addr->Prop}{e1 e2 e3:En}{F1 F2 F3:Nat->List Addr}{H1 H2 H3:Hp}{σ2 σ3:L2.St}(a:After K P Z e1 F1 H1 e2 σ2 H2 F2)(b:After K P Z e2 F2 H2 e3 σ3 H3 F3):After K P Z e1 F1 H1 e3 σ3 H3 F3 :=
 ⟨b.re,b.z,a.ev.trans b.ev,a.lk.trans b.lk⟩
noncomputable def post (K:Frag)(P Z:Addr->Prop)(env:En)(F:Nat->List Addr)(H:Hp)(D:Ends):Fl->Prop
 |.nx env'=>∀ σ' H' F',After K P Z env F H env' σ' H' F'->D.nx σ' H'
 |.bk env'=>∀ σ' H' F',After K P Z env F H env' σ' H' F'->D.bk σ' H'
 |.ct env'=>∀ σ' H' F',After K P Z env F H env' σ' H' F'->D.ct σ' H'
 |.rt d fr=>∀ v H' G,Rep K H' d v G->jq P H H'->(∀ a∈G,Z a)->(fr=true->G.Nodup/\∀ a∈G,¬ P a/\∃ vs:ML,H' a=some vs.o)->D.rt v H'
 |.xc _ _=>False
 |.bad=>False
theorem post.trans {K:Frag}{P Z:Addr->Prop}{e1 e2:En}{F1 F2:Nat->List Addr}{H1 H2:Hp}{σ2:L2.St}{D:Ends}(a:After K P Z e1 F1 H1 e2 σ2 H2 F2):∀{f:Fl},post K P Z e1 F1 H1 D f->post K P Z e2 F2 H2 D f
 |.nx _,h=>fun σ' H' F' b=>h σ' H' F' (a.trans b)
 |.bk _,h=>fun σ' H' F' b=>h σ' H' F' (a.trans b)
 |.ct _,h=>fun σ' H' F' b=>h σ' H' F' (a.trans b)
 |.rt _ _,h=>fun v H' G r e z f=>h v H' G r (a.ev.trans e) z f
 |.xc _ _,h=>h
 |.bad,h=>h
section
variable {K:Frag}{P Z:Addr->Prop}{env:En}{σ:L2.St}{H:Hp}{F:Nat->List Addr}
theorem lB {i:Nat}{d:D}{t:Tg}{G:List Addr}(hi:i<env.length)(ht:t≠.lk):sA env F (put env i d t) (pM F i G):=fun j d' e=>by
 by_cases h:j=i
 ·subst h;rw[dN hi] at e;cases e;exact absurd rfl ht
 ·obtain⟨t0,e0,q⟩:=gX h e;cases t0 with
  |lk=>exact⟨e0,dZ h⟩
  |own=>cases q
  |sh R=>cases q
theorem nS {i:Nat}{G:List Addr}(hz:∀ i,∀ a∈F i,Z a)(hg:∀ a∈G,Z a):∀ j,∀ a∈pM F i G j,Z a:=fun j a ha=>by
 by_cases h:j=i
 ·subst h;rw[eE] at ha;exact hg a ha
 ·rw[dZ h] at ha;exact hz j a ha
theorem yT {H':Hp}{D:Ends}{i:Nat}{mv:Bool}{p:Pc.D×Rt}{v:V}{G:List Addr}(re:RE K P env σ H F)(hz:∀ i,∀ a∈F i,Z a)(zp:∀ a,¬ P a->Z a)(e:aJ H H')(rp:Rep K H' p.1 v G)(rt:bV env F H p.2 H' G)
  (h:post K P Z env F H D (uI (.nm i) mv env p)):D.nx (σ.set i (some v)) H':=by
 have re':=re.same e;have ez:∀ a∈G,Z a:=fun a ha=>by
  rcases rt.cont a ha with q | ⟨j,_,_,f,_⟩
  ·exact zp a fun z=>re.pl a z q
  ·exact hz j a f
 have jB:=jq.of_same (P:=P) re.pl e;unfold uI at h;by_cases hi:i<env.length
 ·simp only[hi,if_true] at h;have shared:∀ R,p.2.roots=R->post K P Z env F H D (.nx (put env i p.1 (.sh (R.filter (· != i)))))->D.nx (σ.set i (some v)) H':=fun R hR h=>by
   refine h _ H' (pM F i G) ⟨re'.put hi rp (fun o=>by cases o) (fun o=>by cases o) fun a ha j d' t' hj ej o m=>?_,nS hz ez,jB,lB hi (by intro z;cases z)⟩;rcases rt.cont a ha with q | ⟨k,d2,t2,f,e2,s⟩
   ·exact absurd q (re.nn ej m)
   ·have:=s j ((re.one j d' t' ej o).2.2 a m k d2 t2 e2 f);rw[hR] at this;simp only[bE,List.mem_filter];exact⟨this,by simpa using hj⟩
  cases hr:p.2 with
  |sh R=>rw[hr] at h;exact shared R (by rw[hr];rfl) h
  |mv R =>
   rw[hr] at h;obtain⟨m1,m2,m3⟩:=rt.mv R hr;cases R with
   |nil =>
    have fresh:∀ a∈G,H a=none:=fun a ha=>by
     rcases m3 a ha with q | ⟨_,_,_,q,_⟩
     ·exact q
     ·cases q
    refine h _ H' (pM F i G) ⟨re'.put hi rp (fun _=>⟨m1,m2,fun a ha j _ m=>?_⟩) (fun _ a ha z=>re.pl a z (fresh a ha)) fun a ha j d' t' hj ej o m=>?_,nS hz ez,jB,lB hi (by intro z;cases z)⟩
    ·obtain⟨d2,t2,e2⟩:=re.at' m;exact re.nn e2 m (fresh a ha)
    ·exact absurd (fresh a ha) (re.nn ej m)
   |cons r0 R0 =>
    cases mv with
    |false=>exact shared _ (by rw[hr];rfl) h
    |true =>
     simp only[if_true] at h;by_cases ho:gF env (r0::R0)=true
     ·rw[if_pos ho] at h;have fg:=re'.forget (env':=kill (r0::R0) env) (cX _ _) fun j d' t' ej=>(cH ej).1
      have ow:∀ k∈r0::R0,∃ d',env[k]? = some (some (d',.own)):=fun k hk=>by
       have:=cw.mp ho k hk;split at this
       ·rename_i d' q;exact⟨d',q⟩
       ·cases this
      have apart:∀ a∈G,∀ j,j≠i->a∉(match (kill (r0::R0) env)[j]? with | some (some _)=>F j | _=>[]):=fun a ha j hj m=>by
       split at m
       ·rename_i q ej;obtain⟨dj,tj⟩:=q;obtain⟨e0,h1,h2⟩:=cH ej;rcases m3 a ha with q | ⟨k,d2,t2,hk,f,e2,o2⟩
        ·exact re.nn e0 m q
        ·exact h2 k hk ((re.one k d2 t2 e2 o2).2.2 a f j dj tj e0 m)
       ·cases m
      refine h _ H' _ ⟨fg.put (by rw[cX];exact hi) rp (fun _=>⟨m1,m2,apart⟩) (fun _ a ha z=>?_) fun a ha j d' t' hj ej o m=>absurd m (apart a ha j hj),nS (fun j a ha=>?_) ez,jB,fun j d' ej=>?_⟩
      ·rcases m3 a ha with q | ⟨k,d2,t2,hk,f,e2,o2⟩
       ·exact re.pl a z q
       ·obtain⟨d3,e3⟩:=ow k hk;exact re.wr k d3 e3 a f z
      ·split at ha
       ·exact hz j a ha
       ·cases ha
      ·by_cases hj:j=i
       ·subst hj;rw[dN (by rw[cX];exact hi)] at ej;cases ej
       ·obtain⟨t0,e0,q⟩:=gX hj ej;cases t0 with
        |lk =>
         refine⟨(cH e0).1,?_⟩;rw[dZ hj,e0]
        |own=>cases q
        |sh R=>cases q
     ·rw[if_neg ho] at h;exact h.elim
 ·simp only[hi,if_false] at h;exact h.elim
noncomputable def setM:List Nat->List V->L2.St->L2.St
 |i::is,v::vs,σ=>setM is vs (σ.set i (some v))
 |_,_,σ=>σ
theorem m9:∀{is:List Nat}{ds:List D}{vs:List V}{G:List Addr}{env env':En}{σ:L2.St}{F:Nat->List Addr},RE K P env σ H F->(∀ i,∀ a∈F i,Z a)->aI K H ds vs G->G.Nodup->(∀ a∈G,∃ vs:ML,H a=some vs.o)->(∀ a∈G,¬ P a)->(∀ a∈G,Z a) ->
  (∀ a∈G,∀ j,a∉F j)->bindM (fun _=>.own) is ds env=some env'->∃ F',RE K P env' (setM is vs σ) H F'/\(∀ i,∀ a∈F' i,Z a)/\sA env F env' F'/\is.length=vs.length
 | [],_,_,_,env,env',σ,F,re,hz,.nil,_,_,_,_,_,h=>by
  simp only[bindM,Option.some.injEq] at h;subst h;exact⟨F,re,hz,sA.refl _ _,rfl⟩
 | i::is,_,_,_,env,env',σ,F,re,hz,.cons (G:=G1) (G':=G2) r rs,nd,ll,np,gz,ap,h=>by
  simp only[bindM] at h;by_cases hi:i<env.length
  ·rw[if_pos hi] at h;obtain⟨n1,n2,n12⟩:=List.nodup_append.mp nd;have re1:=re.put (t:=.own) hi r (fun _=>⟨n1,fun a ha=>ll a (bg _ ha),fun a ha j _=>ap a (bg _ ha) j⟩) (fun _ a ha=>np a (bg _ ha)) fun a ha j _ _ _ _ _ m=>absurd m (ap a (bg _ ha) j)
   obtain⟨F',a1,a2,a3,a4⟩:=m9 re1 (nS hz fun a ha=>gz a (bg _ ha)) rs n2 (fun a ha=>ll a (aq _ ha)) (fun a ha=>np a (aq _ ha)) (fun a ha=>gz a (aq _ ha)) (fun a ha j m=>by
    by_cases hj:j=i
    ·subst hj;rw[eE] at m;exact n12 a m a ha rfl
    ·rw[dZ hj] at m;exact ap a (aq _ ha) j m) h
   exact⟨F',a1,a2,(lB hi (by intro z;cases z)).trans a3,by simp[a4]⟩
  ·rw[if_neg hi] at h;cases h
 |[],_,_,_,_,_,_,_,_,_,.cons _ _,_,_,_,_,_,h=>by simp[bindM] at h
 |_::_,_,_,_,_,_,_,_,_,_,.nil,_,_,_,_,_,h=>by simp[bindM] at h
theorem qk {d:D}{R:List Nat}:aU d R≠.lk:=by unfold aU;split<;>intro z<;>cases z
theorem tH {i:Nat}{d:D}{v:V}{G:List Addr}{R:List Nat}(re:RE K P env σ H F)(hi:i<env.length)(rp:Rep K H d v G)(hs:∀ a∈G,∀(j:Nat) (d':D) (t':Tg),env[j]? = some (some (d',t'))->bD t'=true->a∈F j->j∈R) :
  RE K P (put env i d (aU d R)) (σ.set i (some v)) H (pM F i G):=by
 unfold aU;cases hf:d.flat with
 |true =>
  have:G=[]:=rp.flat hf;subst this;simp only[if_true];exact re.put hi rp (fun _=>⟨bt,fun _ h=>(nomatch h),fun _ h=>(nomatch h)⟩) (fun _ _ h=>(nomatch h)) fun _ h=>(nomatch h)
 |false =>
  simp only[Bool.false_eq_true,if_false];exact re.put hi rp (fun o=>by cases o) (fun o=>by cases o) fun a ha j d' t' hj ej o m=>hs a ha j d' t' ej o m
theorem lQ {R:List Nat}:∀{is:List Nat}{ds:List D}{vs:List V}{G:List Addr}{env env':En}{σ:L2.St}{F:Nat->List Addr},RE K P env σ H F->(∀ i,∀ a∈F i,Z a)->aI K H ds vs G->(∀ a∈G,Z a) ->
  (∀ a∈G,∀(j:Nat) (d':D) (t':Tg),env[j]? = some (some (d',t'))->bD t'=true->a∈F j->j∈R)->bindM (fun d=>aU d R) is ds env=some env'->∃ F',RE K P env' (setM is vs σ) H F'/\(∀ i,∀ a∈F' i,Z a)/\sA env F env' F'/\is.length=vs.length
 | [],_,_,_,env,env',σ,F,re,hz,.nil,_,_,h=>by
  simp only[bindM,Option.some.injEq] at h;subst h;exact⟨F,re,hz,sA.refl _ _,rfl⟩
 | i::is,_,_,_,env,env',σ,F,re,hz,.cons (d:=d) (G:=G1) (G':=G2) r rs,gz,hs,h=>by
  simp only[bindM] at h;by_cases hi:i<env.length
  ·rw[if_pos hi] at h;have re1:=tH re hi r fun a ha=>hs a (bg _ ha)
   obtain⟨F',a1,a2,a3,a4⟩:=lQ re1 (nS hz fun a ha=>gz a (bg _ ha)) rs (fun a ha=>gz a (aq _ ha)) (fun a ha j d' t' ej o m=>by
    by_cases hj:j=i
    ·subst hj;rw[dN hi] at ej;simp only[Option.some.injEq,Prod.mk.injEq] at ej;obtain⟨rfl,rfl⟩:=ej;rw[eE] at m;cases hf:d.flat with
     |true=>rw[r.flat hf] at m;cases m
     |false=>simp[aU,hf,bD] at o
    ·rw[dZ hj] at m;obtain⟨t0,e0,rfl⟩:=gX hj ej;rw[kD] at o;exact hs a (aq _ ha) j d' t0 e0 o m) h
   exact⟨F',a1,a2,(lB hi qk).trans a3,by simp[a4]⟩
  ·rw[if_neg hi] at h;cases h
 |[],_,_,_,_,_,_,_,_,_,.cons _ _,_,_,h=>by simp[bindM] at h
 |_::_,_,_,_,_,_,_,_,_,_,.nil,_,_,h=>by simp[bindM] at h
theorem pJ (R:List Nat)(env:En):(lock R env).length=env.length:=by simp[lock]
theorem lM {R:List Nat}{env:En}{i:Nat}{d:D}{t:Tg}(e:(lock R env)[i]? = some (some (d,t))) :
  (env[i]? = some (some (d,t))/\(t = .own->i∉R))\/(t = .lk/\i∈R/\env[i]? = some (some (d,.own))):=by
 unfold lock at e;rw[List.getElem?_mapIdx] at e;cases q:env[i]? with
 |none=>rw[q] at e;cases e
 |some s =>
  rw[q] at e;cases s with
  |none=>cases e
  |some p =>
   obtain⟨a,b⟩:=p;simp only[Option.map_some,Option.some.injEq] at e;cases b with
   |own =>
    simp only at e;by_cases h:R.contains i=true
    ·rw[if_pos h] at e;cases e;exact .inr ⟨rfl,by simpa using h,rfl⟩
    ·rw[if_neg h] at e;cases e;exact .inl ⟨rfl,fun _ z=>h (by simpa using z)⟩
   |lk=>cases e;exact .inl ⟨rfl,fun z=>by cases z⟩
   |sh Q=>cases e;exact .inl ⟨rfl,fun z=>by cases z⟩
theorem xG {R:List Nat}{env:En}{i:Nat}{d:D}{t:Tg}(e:env[i]? = some (some (d,t))):∃ t',(lock R env)[i]? = some (some (d,t'))/\bD t'=bD t/\bE i t'=bE i t:=by
 unfold lock;rw[List.getElem?_mapIdx,e];cases t with
 |own =>
  simp only[Option.map_some];by_cases h:R.contains i=true
  ·exact⟨.lk,by rw[if_pos h],rfl,rfl⟩
  ·exact⟨.own,by rw[if_neg h],rfl,rfl⟩
 |lk=>exact⟨.lk,rfl,rfl,rfl⟩
 |sh Q=>exact⟨.sh Q,rfl,rfl,rfl⟩
theorem eO {R:List Nat}{env:En}{i:Nat}{d:D}{t:Tg}(e:(lock R env)[i]? = some (some (d,t))):∃ t0,env[i]? = some (some (d,t0))/\bD t0=bD t/\bE i t0=bE i t:=by
 rcases lM e with ⟨h,_⟩ | ⟨rfl,_,h⟩
 ·exact⟨t,h,rfl,rfl⟩
 ·exact⟨.own,h,rfl,rfl⟩
theorem RE.locked (re:RE K P env σ H F){R:List Nat}{G:List Addr}(hg:∀ a∈G,H a≠none)(hc:∀ a∈G,∀(i:Nat) (d:D) (t:Tg),env[i]? = some (some (d,t))->bD t=true->a∈F i->i∈R) :
  RE K (fun a=>P a\/a∈G) (lock R env) σ H F where
 len:=(pJ R env).trans re.len
 val:=fun i d t e=>let ⟨t0,e0,_⟩:=eO e;re.val i d t0 e0
 emp:=fun i h=>re.emp i fun d t e=>by
  obtain⟨t',e',_⟩:=xG (R:=R) e;exact h d t' e'
 one:=fun i d t e o=>by
  obtain⟨t0,e0,o0,_⟩:=eO e;obtain⟨a,b,c⟩:=re.one i d t0 e0 (o0.trans o);refine⟨a,b,fun x hx j d' t' ej m=>?_⟩;obtain⟨t1,e1,_,s1⟩:=eO ej;rw[<-s1];exact c x hx j d' t1 e1 m
 wr:=fun i d e a ha z=>by
  rcases lM e with ⟨h,hn⟩ | ⟨q,_⟩
  ·rcases z with z | z
   ·exact re.wr i d h a ha z
   ·exact hn rfl (hc a z i d .own h rfl ha)
  ·cases q
 pl:=fun a h=>h.elim (re.pl a) (hg a)
theorem mE (R:List Nat)(env0 env:En):(unlock R env0 env).length=env.length:=by simp[unlock]
theorem jj {R:List Nat}{env0 env:En}{i:Nat}{d:D}{t:Tg}(e:(unlock R env0 env)[i]? = some (some (d,t))) :
  (env[i]? = some (some (d,t))/\(t = .lk->¬ (i∈R/\∃ d0,env0[i]? = some (some (d0,.own)))))\/(t = .own/\i∈R/\env[i]? = some (some (d,.lk))/\∃ d0,env0[i]? = some (some (d0,.own))):=by
 unfold unlock at e;rw[List.getElem?_mapIdx] at e;cases q:env[i]? with
 |none=>rw[q] at e;cases e
 |some s =>
  rw[q] at e;cases s with
  |none=>cases e
  |some p =>
   obtain⟨a,b⟩:=p;simp only[Option.map_some,Option.some.injEq] at e;cases b with
   |own=>cases e;exact .inl ⟨rfl,fun z=>by cases z⟩
   |sh Q=>cases e;exact .inl ⟨rfl,fun z=>by cases z⟩
   |lk =>
    simp only at e;split at e
    ·rename_i d0 q0;by_cases h:R.contains i=true
     ·rw[if_pos h] at e;cases e;exact .inr ⟨rfl,by simpa using h,rfl,d0,q0⟩
     ·rw[if_neg h] at e;cases e;exact .inl ⟨rfl,fun _ z=>h (by simpa using z.1)⟩
    ·rename_i nq;cases e;exact .inl ⟨rfl,fun _ ⟨_,d0,q0⟩=>nq d0 q0⟩
theorem gI {R:List Nat}{env0 env:En}{i:Nat}{d:D}{t:Tg}(e:(unlock R env0 env)[i]? = some (some (d,t))):∃ t0,env[i]? = some (some (d,t0))/\bD t0=bD t/\bE i t0=bE i t:=by
 rcases jj e with ⟨h,_⟩ | ⟨rfl,_,h,_⟩
 ·exact⟨t,h,rfl,rfl⟩
 ·exact⟨.lk,h,rfl,rfl⟩
theorem rO {R:List Nat}{env0 env:En}{i:Nat}{d:D}{t:Tg}(e:env[i]? = some (some (d,t))):∃ t',(unlock R env0 env)[i]? = some (some (d,t')):=by
 unfold unlock;rw[List.getElem?_mapIdx,e];cases t with
 |own=>exact⟨.own,rfl⟩
 |sh Q=>exact⟨.sh Q,rfl⟩
 |lk =>
  simp only[Option.map_some];split
  ·by_cases h:R.contains i=true
   ·exact⟨.own,by rw[if_pos h]⟩
   ·exact⟨.lk,by rw[if_neg h]⟩
  ·exact⟨.lk,rfl⟩
theorem After.unlocked {R:List Nat}{G:List Addr}{env':En}{σ':L2.St}{H':Hp}{F':Nat->List Addr}(re:RE K P env σ H F)(a:After K (fun a=>P a\/a∈G) Z (lock R env) F H env' σ' H' F'):After K P Z env F H (unlock R env env') σ' H' F' where
 re:={
  len:=(mE R env env').trans a.re.len
  val:=fun i d t e=>let ⟨t0,e0,_⟩:=gI e;a.re.val i d t0 e0
  emp:=fun i h=>a.re.emp i fun d t e=>by
   obtain⟨t',e'⟩:=rO (R:=R) (env0:=env) e;exact h d t' e'
  one:=fun i d t e o=>by
   obtain⟨t0,e0,o0,_⟩:=gI e;obtain⟨x,y,c⟩:=a.re.one i d t0 e0 (o0.trans o);refine⟨x,y,fun z hz j d' t' ej m=>?_⟩;obtain⟨t1,e1,_,s1⟩:=gI ej;rw[<-s1];exact c z hz j d' t1 e1 m
  wr:=fun i d e b hb z=>by
   rcases jj e with ⟨h,_⟩ | ⟨_,hR,h,d0,h0⟩
   ·exact a.re.wr i d h b hb (.inl z)
   ·obtain⟨h1,h2⟩:=a.lk i d h;rw[h2] at hb;exact re.wr i d0 h0 b hb z
  pl:=fun b h=>a.re.pl b (.inl h) }
 z:=a.z
 ev:=a.ev.weak fun _ h=>.inl h
 lk:=fun i d e=>by
  rcases jj e with ⟨h,hn⟩ | ⟨q,_⟩
  ·obtain⟨h1,h2⟩:=a.lk i d h;rcases lM h1 with ⟨h3,_⟩ | ⟨_,hR,h3⟩
   ·exact⟨h3,h2⟩
   ·exact absurd ⟨hR,d,h3⟩ (hn rfl)
  ·cases q
end
section
variable {K:Frag}{P Z:Addr->Prop}{env:En}{σ:L2.St}{H:Hp}{F:Nat->List Addr}
theorem fQ {x:Nat}{d:D}(h:ownAt env x=some d):env[x]? = some (some (d,.own)):=by
 unfold ownAt at h;split at h
 ·rename_i d' q;cases h;exact q
 ·cases h
theorem m4 (re:RE K P env σ H F){x:Nat}{d:D}{path:Option Int}{xs:List D}{v:V}(hx:ownAt env x=some d)(hv:σ[x]? = some (some v))(h:d.at1 path=some xs) :
  ∃ p,PV K H v path p/\∀ H',aJ H H'->∃ ws Gx,H' p=some (.lst ws)/\aI K H' xs ws Gx/\p∈F x/\(∀ a∈Gx,a∈F x)/\Gx.Nodup/\p∉Gx /\
   ∀ ys us Gy,aI K (upd H' p (.lst us)) ys us Gy->Gy.Nodup->p∉Gy->(∀ a∈Gy,a∈Gx\/a∉F x)->∃ G',Rep K (upd H' p (.lst us)) (d.set1 path ys) v G'/\G'.Nodup/\∀ a∈G',a∈F x\/a∈Gy:=by
 have hx':=fQ hx;obtain⟨u,e,rp⟩:=re.val x d .own hx';rw[hv] at e;cases e;obtain⟨a,b,_⟩:=re.one x d .own hx' rfl;obtain⟨p,pv,f⟩:=vi rp a h;exact⟨p,pv,fun H' e=>f H' e fun y hy=>let ⟨ws,q⟩:=b y hy;⟨ws,e _ _ q⟩⟩
theorem uF {D:Ends}{x:Nat}{d:Pc.D}{path:Option Int}{ys:List Pc.D}{rs:List Rt}(h:post K P Z env F H D (iB x path env d ys rs)):ys.length<=lim:=by
 unfold iB at h;cases hR:eC rs with
 |none=>rw[hR] at h;exact h.elim
 |some R =>
  rw[hR] at h;simp only at h;by_cases hc:(decide R.Nodup&&gF env R && !R.contains x&&decide (ys.length<=lim))=true
  ·simp only[Bool.and_eq_true,decide_eq_true_eq] at hc;exact hc.2
  ·rw[if_neg hc] at h;exact h.elim
theorem qH {H1:Hp}{D:Ends}{x:Nat}{d:Pc.D}{path:Option Int}{ys:List Pc.D}{rs:List Rt}{v:V}{p:Addr}{us:List V}{N:List Addr}
  (re:RE K P env σ H F) (hz:∀ i,∀ a∈F i,Z a) (zp:∀ a,¬ P a->Z a) (e:aJ H H1) (hx:ownAt env x=some d) (hv:σ[x]? = some (some v)) (hp:p∈F x)
  (hN:∀ R,eC rs=some R->R.Nodup->N.Nodup/\(∀ a∈N,∃ vs:ML,H1 a=some vs.o)/\∀ a∈N,H a=none\/∃ i d t,i∈R/\a∈F i/\env[i]? = some (some (d,t))/\bD t=true)
  (hset:(∀ a∈N,a∉F x)->N.Nodup->∃ G',Rep K (upd H1 p (.lst us)) (d.set1 path ys) v G'/\G'.Nodup/\∀ a∈G',a∈F x\/a∈N)
  (h:post K P Z env F H D (iB x path env d ys rs)):D.nx σ (upd H1 p (.lst us)):=by
 unfold iB at h;cases hR:eC rs with
 |none=>rw[hR] at h;exact h.elim
 |some R =>
  rw[hR] at h;simp only at h;by_cases hc:(decide R.Nodup&&gF env R && !R.contains x&&decide (ys.length<=lim))=true
  ·rw[if_pos hc] at h;simp only[Bool.and_eq_true,decide_eq_true_eq,Bool.not_eq_true'] at hc;obtain⟨⟨⟨hc1,hc2⟩,hc3⟩,hc4⟩:=hc;have hxR:x∉R:=fun z=>by
    have:R.contains x=true:=by simpa using z
    rw[this] at hc3;cases hc3
   obtain⟨n1,n2,n3⟩:=hN R hR hc1;have hx':=fQ hx;have ow:∀ k∈R,∃ d',env[k]? = some (some (d',.own)):=fun k hk=>by
    have:=cw.mp hc2 k hk;split at this
    ·rename_i d' q;exact⟨d',q⟩
    ·cases this
   have notx:∀ a∈N,a∉F x:=fun a ha m=>by
    rcases n3 a ha with q | ⟨i,d2,t2,hi,f,e2,o2⟩
    ·exact re.nn hx' m q
    ·have:=(re.one i d2 t2 e2 o2).2.2 a f x d .own hx' m;simp only[bE,List.mem_singleton] at this;subst this;exact hxR hi
   obtain⟨G',g1,g2,g3⟩:=hset notx n1;have re1:=re.same e;have pP:∀ a∈N,¬ P a:=fun a ha z=>by
    rcases n3 a ha with q | ⟨i,d2,t2,hi,f,e2,o2⟩
    ·exact re.pl a z q
    ·obtain⟨d3,e3⟩:=ow i hi;exact re.wr i d3 e3 a f z
   have re2:=re1.mutate (R:=R) (N:=N) hx' hv hp g1 g2 g3 fun a ha=>⟨n2 a ha,pP a ha,fun j dj tj ej m=>by
    rcases n3 a ha with q | ⟨i,d2,t2,hi,f,e2,o2⟩
    ·exact absurd q (re.nn ej m)
    ·exact⟨i,ah _ hi,(re.one i d2 t2 e2 o2).2.2 a f j dj tj ej m⟩⟩
   obtain⟨_,lsx,_⟩:=re1.one x d .own hx' rfl;obtain⟨ws,hpl⟩:=lsx p hp;have nPp:¬ P p:=re.wr x d hx' p hp;refine h σ _ _ ⟨re2,fun j a ha=>?_,(jq.of_same re.pl e).trans ⟨fun a z=>aO (fun q=>nPp (q ▸ z)),fun b xs r=>?_,jW hpl⟩,fun j dj ej=>?_⟩
   ·unfold mI at ha;split at ha
    ·rcases g3 a ha with q | q
     ·exact hz x a q
     ·exact zp a (pP a q)
    ·split at ha
     ·exact hz j a ha
     ·cases ha
   ·refine (aO (fun q=>?_)).trans r;subst q;rw[hpl] at r;cases ws<;>cases r
   ·by_cases hj:j=x
    ·subst hj;rw[List.getElem?_set_self (by rw[cX];exact (List.getElem?_eq_some_iff.mp hx').1)] at ej;cases ej
    ·rw[List.getElem?_set_ne (cy hj)] at ej;refine⟨(cH ej).1,?_⟩;unfold mI;rw[if_neg hj,ej]
  ·rw[if_neg hc] at h;exact h.elim
end
end Pc
end
section
namespace Pc
open PySem PySem.Spec PyProof.Rows L2
section
variable {K:Frag}{H:Hp}
theorem aI.inv2 {d e:D}{x y:V}{G:List Addr}(h:aI K H [d,e] [x,y] G):∃ G1 G2,Rep K H d x G1/\Rep K H e y G2/\G=G1++G2:=by
 cases h with
 |cons r s =>
  cases s with
  |cons r' s'=>cases s';exact⟨_,_,r,r',by rw[ax]⟩
theorem Rep.int_inv {i:Int}{v:V}{G:List Addr}(h:Rep K H (.int i) v G):v = .int i/\G=[]:=by cases h;exact⟨rfl,rfl⟩
theorem Rep.bl_inv {i:Bool}{v:V}{G:List Addr}(h:Rep K H (.bl i) v G):v = .bl i/\G=[]:=by cases h;exact⟨rfl,rfl⟩
theorem Rep.str_inv {i:Str}{v:V}{G:List Addr}(h:Rep K H (.str i) v G):v = .str i/\G=[]:=by cases h;exact⟨rfl,rfl⟩
theorem Rep.non_inv {v:V}{G:List Addr}(h:Rep K H .non v G):v = .non/\G=[]:=by cases h;exact⟨rfl,rfl⟩
theorem Rep.tup_inv {ds:List D}{v:V}{G:List Addr}(h:Rep K H (.tup ds) v G):∃ p vs,v = .ref p/\j8 K H p vs/\aI K H ds vs G:=by
 cases h with
 |tup a b=>exact⟨_,_,rfl,a.sq,b⟩
theorem Rep.tup_invT {ds:List D}{v:V}{G:List Addr}(h:Rep K H (.tup ds) v G):∃ p vs,v = .ref p/\kE K H p vs/\aI K H ds vs G:=by
 cases h with
 |tup a b=>exact⟨_,_,rfl,a,b⟩
end
section
variable {X:Cx}
theorem Inv.lstR {pins:List (Addr×Obj)}{σ:L2.St}{H:Hp}{s:Shared}{l:Addr}{xs:List V}(I:Inv X pins σ H s)(hH:Rd H l (.lst xs)):xs.length<=sizeLine/\∃(its:List Value) (n:Nat),aM xs its/\xs.length=its.length/\s.heap.get? l=some { cls:=.type "list",data:=.seq its.toArray n }:=by
 obtain⟨z,its,n,r,e⟩:=hH.ok I.hok;exact⟨z,its,n,r,r.length,e⟩
noncomputable def Hb:R2:=fun x y H Q=>∃ l b xs zs,x = .ref l/\y = .ref b/\Rd H l (.lst xs)/\Rd H b (.lst zs)/\xs.length+zs.length<=sizeLine/\∀ p,H p=none->Q (.ref p) (upd H p (.lst (xs++zs)))
theorem tY:iW X (binaryOp .Add) Hb:=by
 intro pins s σ H x y v u Q I rx ry h;obtain⟨l,b,xs,zs,rfl,rfl,hH,hB,hz,q⟩:=h;cases rx;cases ry;obtain⟨z,its,n,r,hl,e⟩:=Inv.lstR I hH;obtain⟨z2,its2,n2,r2,hl2,e2⟩:=Inv.lstR I hB;refine PySem.P.add_list e e2 ?_ (by rw[ai,ai];omega);have ea:its.toArray++its2.toArray=(its++its2).toArray:=by simp
 rw[ea];exact⟨.ref _,_,I.lnew (t':=s.toks) (r.append r2) (by rw[ag];omega),rfl,q _ I.fresh⟩
noncomputable def F8:R2:=fun x y H Q=>∃ l k xs,x = .ref l/\y = .int k/\Rd H l (.lst xs)/\-(2 ^ 63)<=k/\k<2 ^ 63/\xs.length*k.toNat<=sizeLine /\
 ∀ p,H p=none->Q (.ref p) (upd H p (.lst (List.replicate k.toNat xs).flatten))
theorem zQ:iW X (binaryOp .Mult) F8:=by
 intro pins s σ H x y v u Q I rx ry h;obtain⟨l,k,xs,rfl,rfl,hH,h1,h2,hz,q⟩:=h;cases rx;obtain⟨t,rfl⟩:=ry;obtain⟨z,its,n,r,hl,e⟩:=Inv.lstR I hH;have hlen:its.toArray.size*k.toNat<=sizeLine:=by rw[ai,<-hl];exact hz
 have hcap:¬ its.toArray.size*k.toNat > (2 ^ 63 - 1) / 8:=by
  have:(sizeLine:Nat)<=(2 ^ 63 - 1) / 8:=by decide
  omega
 have hfit:¬ (!Builtin.List.listFitsIndex k)=true:=by
  rw[fitsIndex_both h1 h2];exact bq
 have hlong:¬ Builtin.List.listTooLong (its.toArray.size*k.toNat)=true:=by
  rw[qF hlen];exact bq
 have hnew:List.foldl (fun x1 x2=>x1++x2) #[] (List.replicate (if its.toArray.isEmpty=true then 0 else k.toNat) its.toArray)=(List.replicate k.toNat its).flatten.toArray:=by
  have f0:∀ m:Nat,List.foldl (fun x1 x2=>x1++x2) #[] (List.replicate m its.toArray)=(List.replicate m its).flatten.toArray:=fun m=>by
   have:=foldl_rep its m [];rw[cz] at this;exact this
  rw[f0];cases its with
  |nil=>simp
  |cons a r'=>rw[if_neg (by simp)]
 refine wpAny_binaryOp_repeat_ref (T:="list") (U:="int") (by decide) ⟨_,e,rfl⟩ (fun s'=>typeIs_int s' k t) noFill_list_mul F.fills_int_mul F.slot_int_rmul repeat_list F.slot_int_index.lookup
  (call_meets F.slot_int_rmul (typeIs_int s k t) F.entry_int_rmul (F.args_int_rmul_2 _ _) (int___rmul___int_list k t l its.toArray n)
   ⟨e,rfl,⟨_,e,rfl⟩,call_meets F.slot_list_mul ⟨_,e,rfl⟩ F.entry_list_mul (F.args_list_mul_2 _ _) (AutoListH.list___mul___list_int_3 l its.toArray n k t hfit hcap hlong) ⟨e,?_⟩⟩)
 rw[hnew];exact⟨.ref _,_,I.lnew (t':=s.toks) (r.rep k.toNat) (by rw[len_rep,Nat.mul_comm];exact hz),rfl,q _ I.fresh⟩
theorem aI.rep {K:Frag}{H:Hp}{ds:List D}{vs:List V}(h:aI K H ds vs []):∀ n:Nat,aI K H (List.replicate n ds).flatten (List.replicate n vs).flatten []
 |0=>.nil
 | n+1=>by
  rw[dn,dn,de,de];exact h.append (h.rep n)
theorem kY {n:Nat}{d e:D}(h:ck n d=some e):n<=lim/\e=d:=by
 unfold ck at h;split at h
 ·cases h;exact⟨‹_›,rfl⟩
 ·cases h
theorem mY {i:Int}:small i=true↔(-(2 ^ 64)<i/\i<2 ^ 64):=by unfold small;exact decide_eq_true_iff
theorem AF {op:Operator}{i j k:Int}(h:binI op i j=some k):iW X (binaryOp op) (fun x y H Q=>x = .int i/\y = .int j/\Q (.int k) H):=by
 intro pins s σ H x y v u Q I rx ry q;obtain⟨rfl,rfl,q⟩:=q;cases op with
 |Add=>cases h;exact CN pins s σ H _ _ v u Q I rx ry ⟨i,j,rfl,rfl,q⟩
 |Sub=>cases h;exact DO pins s σ H _ _ v u Q I rx ry ⟨i,j,rfl,rfl,q⟩
 |Mult =>
  have h:(if small i || small j then some (i*j) else none)=some k:=h;by_cases hc:(small i || small j)=true
  ·rw[if_pos hc] at h;cases h;refine Fc pins s σ H _ _ v u Q I rx ry ⟨i,j,rfl,rfl,?_,q⟩;rw[gu,mY,mY] at hc;exact hc
  ·rw[if_neg hc] at h;cases h
 |FloorDiv =>
  have h:(if 0<j/\j<1073741824 then some (i / j) else none)=some k:=h;by_cases hc:0<j/\j<1073741824
  ·rw[if_pos hc] at h;cases h;exact AY pins s σ H _ _ v u Q I rx ry ⟨i,j,rfl,rfl,hc,q⟩
  ·rw[if_neg hc] at h;cases h
 |Mod =>
  have h:(if 0<j then some (i%j) else none)=some k:=h;by_cases hc:0<j
  ·rw[if_pos hc] at h;cases h;exact EF pins s σ H _ _ v u Q I rx ry ⟨i,j,rfl,rfl,hc,q⟩
  ·rw[if_neg hc] at h;cases h
 |Pow =>
  have h:(if 0<=j/\j<=1000000/\i.natAbs<2 ^ 64 then some (i ^ j.toNat) else none)=some k:=h;by_cases hc:0<=j/\j<=1000000/\i.natAbs<2 ^ 64
  ·rw[if_pos hc] at h;cases h;exact D5 pins s σ H _ _ v u Q I rx ry ⟨i,j,rfl,rfl,hc,q⟩
  ·rw[if_neg hc] at h;cases h
 |LShift =>
  have h:(if 0<=j/\j<=1000000/\i.natAbs<2 ^ 64 then some (i*2 ^ j.toNat) else none)=some k:=h;by_cases hc:0<=j/\j<=1000000/\i.natAbs<2 ^ 64
  ·rw[if_pos hc] at h;cases h;exact DZ pins s σ H _ _ v u Q I rx ry ⟨i,j,rfl,rfl,hc,q⟩
  ·rw[if_neg hc] at h;cases h
 |RShift =>
  have h:(if 0<=j then some (i / 2 ^ j.toNat) else none)=some k:=h;by_cases hc:0<=j
  ·rw[if_pos hc] at h;cases h;exact Ej pins s σ H _ _ v u Q I rx ry ⟨i,j,rfl,rfl,hc,q⟩
  ·rw[if_neg hc] at h;cases h
 |BitAnd=>cases h;exact CQ pins s σ H _ _ v u Q I rx ry ⟨i,j,rfl,rfl,q⟩
 |BitOr=>cases h;exact HG pins s σ H _ _ v u Q I rx ry ⟨i,j,rfl,rfl,q⟩
 |BitXor=>cases h;exact DQ pins s σ H _ _ v u Q I rx ry ⟨i,j,rfl,rfl,q⟩
 |_=>cases h
theorem nu (c:Array Nat):∀(k:Nat) (acc:Array Nat),((List.replicate k c).foldl (fun x y=>x++y) acc).size=acc.size+c.size*k
 |0,acc=>rfl
 | k+1,acc=>by
  rw[dn,List.foldl_cons,nu c k,Array.size_append,Nat.mul_succ];omega
theorem xE (a:Str)(k:Nat):(qI a k).length=a.length*k:=by
 have:=nu a.cps k #[];rw[show (#[]:Array Nat).size=0 from rfl,gh] at this;exact this
theorem r9:iW X (binaryOp .Mult) (fun x y H Q=>∃(a:Str) (n:Int),x = .str a/\y = .int n/\(1<n/\n<=1000/\0<a.length/\a.length<=1000)/\Q (.str (qI a n.toNat)) H):=by
 intro pins s σ H x y v u Q I rx ry h;obtain⟨a,n,rfl,rfl,⟨h1,h2,h3,h4⟩,q⟩:=h;obtain⟨t,rfl⟩:=rx;obtain⟨t',rfl⟩:=ry;have hn1:¬ n<1:=by omega
 have hn2:(n==1 || a.length==0)=false:=by
  rw[Bool.or_eq_false_iff];exact⟨beq_false_of_ne (by omega),beq_false_of_ne (by omega)⟩
 have hm:a.length*n.toNat<=1000000:=bj (Nat.mul_le_mul h4 (show n.toNat<=1000 by omega)) (by decide);refine PySem.P.mul_str (by rw[az (by omega),az (by omega)];rfl) (fun _ _=>?_) (fun _ _=>?_) ?_
 ·have:(1000:Int)<=(2 ^ 63 - 1) / n:=by
   rw[Int.le_ediv_iff_mul_le (by omega)];omega
  omega
 ·unfold Builtin.Str.tooLong;rw[az];rw[sizeLine_eq];omega
 ·rw[if_neg hn1,if_neg (by rw[hn2];exact bq)];simp only[Made.post];refine⟨?_,.str (qI a n.toNat),H,I.tok _,⟨_,rfl⟩,q⟩;show (qI a n.toNat).length<=sizeLine;rw[xE,sizeLine_eq];omega
theorem A1 (op:Operator):iW X (binaryOp op) (AX X.K (mM op)):=by
 intro pins s σ H x y v u Q I rx ry h;obtain⟨d1,d2,d,G,rs,hd,k⟩:=h;obtain⟨G1,G2,r1,r2,rfl⟩:=rs.inv2;cases d1 with
 |int i =>
  cases d2 with
  |int j =>
   obtain⟨rfl,rfl⟩:=r1.int_inv;obtain⟨rfl,rfl⟩:=r2.int_inv;have:mM op (.int i) (.int j)=(binI op i j).map .int:=rfl;rw[this,aa] at hd;obtain⟨z,hz,rfl⟩:=hd;exact AF hz pins s σ H _ _ v u Q I rx ry ⟨rfl,rfl,k _ H [] (.int z) gM.nil⟩
  |_=>cases hd
 |str a =>
  cases d2 with
  |str b =>
   cases op with
   |Add =>
    obtain⟨hl,rfl⟩:=kY hd;obtain⟨rfl,rfl⟩:=r1.str_inv;obtain⟨rfl,rfl⟩:=r2.str_inv;exact sf pins s σ H _ _ v u Q I rx ry ⟨a,b,rfl,rfl,fN hl,k _ H [] (.str _) gM.nil⟩
   |_=>cases hd
  |int n =>
   cases op with
   |Mult =>
    have hd:(if 1<n/\n<=1000/\0<a.length/\a.length<=1000 then some (D.str (qI a n.toNat)) else none)=some d:=hd;by_cases hc:1<n/\n<=1000/\0<a.length/\a.length<=1000
    ·rw[if_pos hc] at hd;cases hd;obtain⟨rfl,rfl⟩:=r1.str_inv;obtain⟨rfl,rfl⟩:=r2.int_inv;exact r9 pins s σ H _ _ v u Q I rx ry ⟨a,n,rfl,rfl,hc,k _ H [] (.str _) gM.nil⟩
    ·rw[if_neg hc] at hd;cases hd
   |_=>cases hd
  |_=>cases op<;>cases hd
 |lst a =>
  obtain⟨p,vs,G',rfl,rfl,h1,h2⟩:=r1.lst_inv;cases d2 with
  |lst b =>
   cases op with
   |Add =>
    obtain⟨hl,rfl⟩:=kY hd;obtain⟨p',vs',G'',rfl,rfl,h1',h2'⟩:=r2.lst_inv;refine tY pins s σ H _ _ v u Q I rx ry ⟨p,p',vs,vs',rfl,rfl,h1,h1',by rw[<-h2.len,<-h2'.len];exact fN hl,fun q hq=>?_⟩;obtain⟨n1,n2⟩:=jZ (G0:=p::G'++p'::G'') (h2.append h2') (fun a ha=>by simp at ha ⊢;rcases ha with ha | ha<;>simp[ha]) hq;exact k _ _ _ n1 n2
   |_=>cases hd
  |int n =>
   cases op with
   |Mult =>
    have hd:(if -(2 ^ 63)<=n/\n<2 ^ 63 then (if D.flats a then ck (a.length*n.toNat) (.lst (List.replicate n.toNat a).flatten) else none) else none)=some d:=hd;by_cases hc : -(2 ^ 63)<=n/\n<2 ^ 63
    ·rw[if_pos hc] at hd;by_cases hf:D.flats a=true
     ·rw[if_pos hf] at hd;obtain⟨hl,rfl⟩:=kY hd;obtain⟨rfl,rfl⟩:=r2.int_inv;have eG:G'=[]:=h2.flat hf;subst eG;refine zQ pins s σ H _ _ v u Q I rx ry ⟨p,n,vs,rfl,rfl,h1,hc.1,hc.2,by rw[<-h2.len];exact fN hl,fun q hq=>?_⟩;obtain⟨n1,n2⟩:=jZ (G0:=[p] ++ []) (h2.rep n.toNat) (fun a ha=>(nomatch ha)) hq;exact k _ _ _ n1 n2
     ·rw[if_neg hf] at hd;cases hd
    ·rw[if_neg hc] at hd;cases hd
   |_=>cases hd
  |_=>cases op<;>cases hd
 |tup a =>
  obtain⟨p,vs,rfl,h1,h2⟩:=r1.tup_invT;cases d2 with
  |tup b =>
   cases op with
   |Add =>
    have hd:(if a.isEmpty then none else ck (a.length+b.length) (.tup (a++b)))=some d:=hd;by_cases hc:a.isEmpty=true
    ·rw[if_pos hc] at hd;cases hd
    ·rw[if_neg hc] at hd;obtain⟨hl,rfl⟩:=kY hd;obtain⟨p',vs',rfl,h1',h2'⟩:=r2.tup_inv;refine AR pins s σ H _ _ v u Q I rx ry ⟨p,p',vs,vs',rfl,rfl,h1.sq,h1',?_,by rw[<-h2.len,<-h2'.len];exact fN hl,fun hy=>?_,fun _ q hq=>?_⟩
     ·intro z;have:=h2.len;rw[z] at this;cases a with
      |nil=>exact hc rfl
      |cons _ _=>simp at this
     ·subst hy;cases h2' with
      |nil =>
       simp only[List.append_nil] at k;refine k _ H G1 (.tup h1 h2) ⟨aJ.refl _,fun a ha=>.inr ha,fun f=>?_⟩;have:G1=[]:=h2.flat (by simpa[D.inner] using f);subst this;exact⟨bt,fun _ h=>(nomatch h)⟩
     ·obtain⟨n1,n2⟩:=wj (G0:=G1++G2) (h2.append h2') (fun a ha=>ha) hq;exact k _ _ _ n1 n2
   |_=>cases hd
  |_=>cases op<;>cases hd
 |_=>cases hd
open SeqAt in
theorem iS {f:D->D->Option Bool}:∀{xs ys:List D}{b:Bool},qR f xs ys=some b->xs.length=ys.length/\∃ e:Nat->Bool,(∀ j x y,xs[j]? = some x->ys[j]? = some y->f x y=some (e j))/\b=(List.range xs.length).all e
 |[],[],b,h=>by cases h;exact⟨rfl,fun _=>true,fun j x y hx=>by simp at hx,rfl⟩
 | x::xs,y::ys,b,h=>by
  simp only[qR,Option.bind_eq_some_iff,Option.map_eq_some_iff] at h;obtain⟨a,h1,c,h2,rfl⟩:=h;obtain⟨hl,e,he,rfl⟩:=iS h2;refine⟨by simp[hl],fun j=>match j with | 0=>a | j+1=>e j,fun j x' y' hx hy=>?_,?_⟩
  ·cases j with
   |zero=>simp at hx hy;subst hx;subst hy;exact h1
   |succ j=>exact he j x' y' (by simpa using hx) (by simpa using hy)
  ·rw[aw,gc,List.all_cons,List.all_map];rfl
 |[],_::_,b,h=>by cases h
 |_::_,[],b,h=>by cases h
theorem jI:∀(n:Nat) (d:D) (b:Bool),D.eqf n d d=some b->b=true
 |0,_,_,h=>by cases h
 |n+1,.non,b,h=>by cases h;rfl
 | n+1,.bl x,b,h=>by
  have h:some (x==x)=some b:=h;rw[cu] at h;cases h;rfl
 | n+1,.int x,b,h=>by
  have h:some (x==x)=some b:=h;rw[cu] at h;cases h;rfl
 | n+1,.str x,b,h=>by
  have h:some (x==x)=some b:=h;rw[cu] at h;cases h;rfl
 | n+1,.lst xs,b,h=>by
  have h:(if xs.length=xs.length then qR (D.eqf n) xs xs else some false)=some b:=h;rw[if_pos rfl] at h;obtain⟨_,e,he,rfl⟩:=iS h;rw[cw];intro j hj;have hj:j<xs.length:=by simpa using hj
  exact jI n xs[j] _ (he j _ _ (by simp[hj]) (by simp[hj]))
 |n+1,.dct _,b,h=>by cases h
 |n+1,.mpi _,b,h=>by cases h
 |n+1,.mpt _,b,h=>by cases h
 |n+1,.mpz _,b,h=>by cases h
 | n+1,.tup xs,b,h=>by
  have h:(if xs.length=xs.length then qR (D.eqf n) xs xs else none)=some b:=h;rw[if_pos rfl] at h;obtain⟨_,e,he,rfl⟩:=iS h;rw[cw];intro j hj;have hj:j<xs.length:=by simpa using hj
  exact jI n xs[j] _ (he j _ _ (by simp[hj]) (by simp[hj]))
section
variable {pins:List (Addr×Obj)}{σ:L2.St}{H:Hp}{s:Shared}
theorem vP.inj {K:Frag}{a:Addr}{kvs kvs':List (Key×Option Int)}(h:vP K a kvs)(h':vP K a kvs'):kvs=kvs':=h.elim
theorem kQ (I:L2.Inv X pins σ H s){a:Addr}{kvs:List (Key×Option Int)}(h:vP X.K a kvs):∃ o,s.heap.get? a=some o/\o.cls = .type "dict"/\o.ExactDict:=h.elim
noncomputable def nf:HO->Bool
 |.frz _ _=>false
 |_=>true
noncomputable def nt:HO->Bool
 |.tup _=>false
 |_=>true
theorem eW {H:Hp}{a:Addr}{u u':HO}(h:Rd H a u)(h':Rd H a u')(hu:nf u=true:=by rfl)(hu':nf u'=true:=by rfl):u=u':=by
 rcases h with h | ⟨o,h⟩<;>rcases h' with h' | ⟨o',h'⟩<;>rw[h] at h'
 ·exact bu h'
 ·rw[bu h'] at hu;cases hu
 ·rw[<-bu h'] at hu';cases hu'
 ·cases h';rfl
theorem HZ (I:L2.Inv X pins σ H s){a:Addr}{o:Obj}(h:X.K.lookup a=some o):H a=none:=(I.bs a o (I.ok.mod.kin a o h)).2
theorem tR:∀{a b:List Int},a.map (Sum.inl (β:=Str))=b.map Sum.inl->a=b
 |[],[],_=>rfl
 |[],_::_,h=>by cases h
 |_::_,[],h=>by cases h
 | x::a,y::b,h=>by
  have h:(Sum.inl x:Key)::a.map Sum.inl=Sum.inl y::b.map Sum.inl:=h;injection h with h1 h2
  injection h1 with h1
  rw[h1,tR h2]
theorem uw:∀{a b:List (List Int)},HF a=HF b->a=b
 |[],[],_=>rfl
 |[],_::_,h=>by cases h
 |_::_,[],h=>by cases h
 | x::a,y::b,h=>by
  have h:(x.map Sum.inl,V.bl true)::HF a=(y.map Sum.inl,V.bl true)::HF b:=h;injection h with h1 h2
  injection h1 with h1 _
  rw[tR h1,uw h2]
theorem j8.not_rd (I:L2.Inv X pins σ H s){a:Addr}{vs:List V}{u:HO}(h:j8 X.K H a vs)(h':Rd H a u)(hu:nf u=true:=by rfl)(ht:nt u=true:=by rfl):False:=by
 rcases h with h | h
 ·rw[eW h' h hu] at ht;cases ht
 ·obtain⟨o,_,_,h1,_⟩:=h;exact Rd.ne_none h' (HZ I h1)
theorem qe:∀{a b:List Int},a.map V.int=b.map V.int->a=b
 |[],[],_=>rfl
 |[],_::_,h=>by cases h
 |_::_,[],h=>by cases h
 | x::a,y::b,h=>by
  injection h with h1 h2
  injection h1 with h1
  rw[h1,qe h2]
theorem qP.inj (I:Inv X pins σ H s):∀{m m':MV}{v:V},qP X.K H m v->qP X.K H m' v->m=m'
 |.tr,.tr,_,_,_=>rfl
 |.int i,.int j,_,h,h'=>by cases h;cases h';rfl
 | .tup a,.tup b,_,⟨p,e,h⟩,⟨p',e',h'⟩=>by
  subst e;cases e';rw[qe (I.tuple_inj h.sq h'.sq)]
 |.tr,.int _,_,h,h'=>by cases h;cases h'
 |.int _,.tr,_,h,h'=>by cases h;cases h'
 |.tr,.tup _,_,h,⟨_,e,_⟩=>by cases h;cases e
 |.tup _,.tr,_,⟨_,e,_⟩,h=>by cases h;cases e
 |.int _,.tup _,_,h,⟨_,e,_⟩=>by cases h;cases e
 |.tup _,.int _,_,⟨_,e,_⟩,h=>by cases h;cases e
theorem jd.inj (I:Inv X pins σ H s):∀{a b:List (Int×MV)}{xs:List (Key×V)},jd X.K H a xs->jd X.K H b xs->a=b
 |[],[],_,_,_=>rfl
 |[],_::_,[],_,h=>h.elim
 |_::_,[],[],h,_=>h.elim
 |[],_::_,_::_,h,_=>h.elim
 |_::_,[],_::_,_,h=>h.elim
 |_::_,_::_,[],h,_=>h.elim
 | (k,m)::a,(k',m')::b,x::xs,⟨h1,h2,h3⟩,⟨g1,g2,g3⟩=>by
  rw[h1] at g1;injection g1 with g1
  have g1:k=k':=g1;rw[g1,show m=m' from qP.inj I h2 g2,jd.inj I h3 g3]
theorem Rep.inj (I:Inv X pins σ H s){d:D}{v:V}{G:List Addr}(h:Rep X.K H d v G):∀{e:D}{G':List Addr},Rep X.K H e v G'->d=e:=by
 refine Rep.rec (motive_1:=fun d v G _=>∀{e:D}{G':List Addr},Rep X.K H e v G'->d=e) (motive_2:=fun ds vs G _=>∀{es:List D}{G':List Addr},aI X.K H es vs G'->ds=es) ?non ?bl ?int ?str ?lst ?tup ?dct ?mpi ?mpt ?mpz ?nil ?cons h
 case non =>
  intro e' G' h;cases h;rfl
 case bl =>
  intro _ e' G' h;cases h;rfl
 case int =>
  intro _ e' G' h;cases h;rfl
 case str =>
  intro _ e' G' h;cases h;rfl
 case mpi =>
  intro p0 ks0 xs0 h r0 e' G' q;cases q with
  |mpi h' r'=>
   rw[h] at h';cases h';rw[jd.inj I r0 r']
  |mpz h' r'=>rw[h] at h';cases h'
  |mpt h'=>exact nomatch eW (.inl h) h'
  |lst h' _=>exact nomatch eW (.inl h) h'
  |tup h' _=>exact (j8.not_rd I h'.sq (.inl h)).elim
  |dct h' =>
   exact h'.elim
 case mpz =>
  intro p0 ks0 xs0 o0 h r0 e' G' q;cases q with
  |mpz h' r'=>
   rw[h] at h';cases h';rw[jd.inj I r0 r']
  |mpi h' r'=>rw[h] at h';cases h'
  |mpt h'=>exact nomatch eW (.inr ⟨_,h⟩) h'
  |lst h' _=>exact nomatch eW (.inr ⟨_,h⟩) h'
  |tup h' _=>exact (j8.not_rd I h'.sq (.inr ⟨_,h⟩)).elim
  |dct h' =>
   exact h'.elim
 case mpt =>
  intro p0 ks0 h e' G' q;cases q with
  |mpt h'=>
   have:=eW h h';injection this with this
   rw[uw this]
  |mpi h' _=>exact nomatch eW h (.inl h')
  |mpz h' _=>exact nomatch eW h (.inr ⟨_,h'⟩)
  |lst h' _=>exact nomatch eW h h'
  |tup h' _=>exact (j8.not_rd I h'.sq h).elim
  |dct h' =>
   exact h'.elim
 case lst =>
  intro p0 vs0 ds0 G0 h r ih e' G' q;cases q with
  |mpi h' _=>exact nomatch eW h (.inl h')
  |mpz h' _=>exact nomatch eW h (.inr ⟨_,h'⟩)
  |mpt h'=>exact nomatch eW h h'
  |lst h' r' =>
   have e:=I.list_inj (.inl h) (.inl h');subst e;rw[ih r']
  |dct h' =>
   obtain⟨its,_,pl,_⟩:=I.list (.inl h);obtain⟨o,ho,hc,_⟩:=pl.isList;obtain⟨o',ho',hc',_⟩:=kQ I h';rw[ho] at ho';cases ho';rw[hc] at hc';injection hc' with z;exact absurd z (by decide)
  |tup h' r' =>
   obtain⟨its,_,pl,_⟩:=I.list (.inl h);obtain⟨its',_,pt,_⟩:=I.tuple h'.sq;obtain⟨o,ho,hc,_⟩:=pl.isList;obtain⟨o',ho',hc',_⟩:=pt;rw[ho] at ho';cases ho';rw[hc] at hc';injection hc' with z;exact absurd z (by decide)
 case tup =>
  intro p0 vs0 ds0 G0 h r ih e' G' q;cases q with
  |mpi h' _=>exact (j8.not_rd I h.sq (.inl h')).elim
  |mpz h' _=>exact (j8.not_rd I h.sq (.inr ⟨_,h'⟩)).elim
  |mpt h'=>exact (j8.not_rd I h.sq h').elim
  |tup h' r' =>
   have e:=I.tuple_inj h.sq h'.sq;subst e;rw[ih r']
  |dct h' =>
   obtain⟨its',_,pt,_⟩:=I.tuple h.sq;obtain⟨o,ho,hc,_⟩:=pt;obtain⟨o',ho',hc',_⟩:=kQ I h';rw[ho] at ho';cases ho';rw[hc] at hc';injection hc' with z;exact absurd z (by decide)
  |lst h' r' =>
   obtain⟨its,_,pl,_⟩:=I.list (.inl h');obtain⟨its',_,pt,_⟩:=I.tuple h.sq;obtain⟨o,ho,hc,_⟩:=pl.isList;obtain⟨o',ho',hc',_⟩:=pt;rw[ho] at ho';cases ho';rw[hc] at hc';injection hc' with z;exact absurd z (by decide)
 case dct =>
  intro p0 ks0 h e' G' q;cases q with
  |mpi h' _ =>
   exact h.elim
  |mpz h' _ =>
   exact h.elim
  |mpt h' =>
   exact h.elim
  |dct h'=>rw[vP.inj h h']
  |lst h' r' =>
   obtain⟨its,_,pl,_⟩:=I.list (.inl h');obtain⟨o,ho,hc,_⟩:=pl.isList;obtain⟨o',ho',hc',_⟩:=kQ I h;rw[ho] at ho';cases ho';rw[hc] at hc';injection hc' with z;exact absurd z (by decide)
  |tup h' r' =>
   obtain⟨its',_,pt,_⟩:=I.tuple h'.sq;obtain⟨o,ho,hc,_⟩:=pt;obtain⟨o',ho',hc',_⟩:=kQ I h;rw[ho] at ho';cases ho';rw[hc] at hc';injection hc' with z;exact absurd z (by decide)
 case nil=>intro e' G' h;cases h;rfl
 case cons =>
  intro d0 v0 ds0 vs0 G0 G1 h r i1 i2 e' G' q;cases q with
  |cons h' r'=>rw[i1 h',i2 r']
open SeqAt in
theorem xI (I:Inv X pins σ H s):∀(n:Nat) (A:Around) (d e:D) (v w:V) (G G':List Addr) (u u':Value) (b:Bool),A.units+n<cLine->Rep X.K H d v G->Rep X.K H e w G'->RelV v u->RelV w u'->D.eqf n d e=some b->RcAt A s u u' b/\EqAt A s u u' b
 |0,_,_,_,_,_,_,_,_,_,_,_,_,_,_,_,h=>by cases h
 | n+1,A,d,e,v,w,G,G',u,u',b,hu,r1,r2,q1,q2,h=>by
  have hu1:A.in1.units+n<cLine:=by show A.units+1+n<cLine;omega
  have hu0:A.units<cLine:=by omega
  have items:∀{xs ys:List D}{vs ws:List V}{G1 G2:List Addr}{its its':List Value}{c:Bool},aI X.K H xs vs G1->aI X.K H ys ws G2->aM vs its->aM ws its'->qR (D.eqf n) xs ys=some c ->
    its.toArray.size=its'.toArray.size/\∃ ee:Nat->Bool,c=(List.range its.toArray.size).all ee/\∀ j (h1:j<its.toArray.size) (h2:j<its'.toArray.size),EqAt A.in1 s its.toArray[j] its'.toArray[j] (ee j):=by
   intro xs ys vs ws G1 G2 its its' c a1 a2 b1 b2 hc;obtain⟨hl,ee,he,rfl⟩:=iS hc;have l1:=a1.len;have l2:=a2.len;have l3:=b1.length;have l4:=b2.length;have sz:its.toArray.size=xs.length:=by rw[ai];omega
   refine⟨by rw[ai,ai];omega,ee,by rw[sz],fun j h1 h2=>?_⟩;have j1:j<xs.length:=by rw[<-sz];exact h1
   have j2:j<ys.length:=by omega
   obtain⟨v1,g1,e1,p1,_⟩:=a1.get (i:=j) (d:=xs[j]) (by simp[j1]);obtain⟨v2,g2,e2,p2,_⟩:=a2.get (i:=j) (d:=ys[j]) (by simp[j2]);obtain⟨u1,f1,t1⟩:=b1.get e1;obtain⟨u2,f2,t2⟩:=b2.get e2;have x1:its.toArray[j]=u1:=by
    have:=List.getElem?_eq_some_iff.mp f1;simpa using this.2
   have x2:its'.toArray[j]=u2:=by
    have:=List.getElem?_eq_some_iff.mp f2;simpa using this.2
   rw[x1,x2];exact (xI I n A.in1 _ _ _ _ _ _ _ _ _ hu1 p1 p2 t1 t2 (he j _ _ (by simp[j1]) (by simp[j2]))).2
  have refs:∀{l m:Addr}{c:Bool},(l=m->c=true)->RcAt A s (.ref l) (.ref m) c->RcAt A s (.ref l) (.ref m) c/\EqAt A s (.ref l) (.ref m) c:=fun {l m c} hs hr=>⟨hr,by
   by_cases z:l=m
   ·subst z;rw[hs rfl];exact EqAt.same _
   ·exact EqAt.of_refs z hr⟩
  cases d with
  |dct _=>cases e<;>cases h
  |mpi _=>cases e<;>cases h
  |mpt _=>cases e<;>cases h
  |mpz _=>cases e<;>cases h
  |non =>
   obtain⟨rfl,rfl⟩:=r1.non_inv;cases q1;cases e with
   |non=>obtain⟨rfl,rfl⟩:=r2.non_inv;cases q2;cases h;exact⟨RcAt.none_none,EqAt.same _⟩
   |_=>cases h
  |bl a =>
   obtain⟨rfl,rfl⟩:=r1.bl_inv;cases q1;cases e with
   |bl c=>obtain⟨rfl,rfl⟩:=r2.bl_inv;cases q2;cases h;exact⟨RcAt.bool_bool a c,EqAt.bool_bool a c⟩
   |_=>cases h
  |int a =>
   obtain⟨rfl,rfl⟩:=r1.int_inv;obtain⟨t0,rfl⟩:=q1;cases e with
   |int i=>obtain⟨rfl,rfl⟩:=r2.int_inv;obtain⟨t,rfl⟩:=q2;cases h;exact⟨RcAt.int_int a t0 i t,EqAt.int_int a t0 i t⟩
   |_=>cases h
  |str a =>
   obtain⟨rfl,rfl⟩:=r1.str_inv;obtain⟨t0,rfl⟩:=q1;cases e with
   |str x=>obtain⟨rfl,rfl⟩:=r2.str_inv;obtain⟨t,rfl⟩:=q2;cases h;exact⟨RcAt.str_str a t0 x t,EqAt.str_str a t0 x t⟩
   |_=>cases h
  |lst xs =>
   obtain⟨l,vs,g,rfl,rfl,a1,a2⟩:=r1.lst_inv;cases q1;obtain⟨its,rv,pl,_⟩:=I.list (.inl a1);cases e with
   |lst ys =>
    obtain⟨m,ws,g',rfl,rfl,b1,b2⟩:=r2.lst_inv;cases q2;obtain⟨its',rv',pl',_⟩:=I.list (.inl b1);have same:l=m->b=true:=fun z=>by
     subst z;have e0:=Rep.inj I r1 r2;rw[e0] at h;exact jI _ _ _ h
    have h:(if xs.length=ys.length then qR (D.eqf n) xs ys else some false)=some b:=h;by_cases hl:xs.length=ys.length
    ·rw[if_pos hl] at h;obtain⟨hz,ee,rfl,he⟩:=items a2 b2 rv rv' h;exact refs same (RcAt.lists pl.isList pl'.isList hz hu0 he)
    ·rw[if_neg hl] at h;cases h;have hz:(its.toArray.size != its'.toArray.size)=true:=by
      have l1:=a2.len;have l2:=b2.len;have l3:=rv.length;have l4:=rv'.length;simp only[bne_iff_ne,ne_eq,List.size_toArray];omega
     exact refs same (RcAt.lists_lengths pl.isList pl'.isList hz hu0)
   |_=>cases h
  |tup xs =>
   obtain⟨l,vs,rfl,a1,a2⟩:=r1.tup_inv;cases q1;obtain⟨its,rv,pl,_⟩:=I.tuple a1;cases e with
   |tup ys =>
    obtain⟨m,ws,rfl,b1,b2⟩:=r2.tup_inv;cases q2;obtain⟨its',rv',pl',_⟩:=I.tuple b1;have same:l=m->b=true:=fun z=>by
     subst z;have e0:=Rep.inj I r1 r2;rw[e0] at h;exact jI _ _ _ h
    have h:(if xs.length=ys.length then qR (D.eqf n) xs ys else none)=some b:=h;by_cases hl:xs.length=ys.length
    ·rw[if_pos hl] at h;obtain⟨hz,ee,rfl,he⟩:=items a2 b2 rv rv' h;have q:=RcAt.tuples (e:=ee) pl pl' hu0 he;rw[<-hz,Nat.min_self,cu,Bool.and_true] at q;exact refs same q
    ·rw[if_neg hl] at h;cases h
   |_=>cases h
end
end
section
open PySem.SeqAt
open PySem.AutoSeq1 (wpAny_loadPart')
open PySem.MeetsSeq PySem.MeetsSeq2 PySem.MeetsSeq3
end
section
open PySem.SeqAt
open PySem.AutoSeq1 (wpAny_loadPart')
open PySem.MeetsSeq PySem.MeetsSeq2 PySem.MeetsSeq3
end
section
variable {X:Cx}{pins:List (Addr×Obj)}{σ:L2.St}{H:Hp}{s:Shared}
end
section
variable {X:Cx}{pins:List (Addr×Obj)}{σ:L2.St}{H:Hp}{s:Shared}
open SeqAt in
theorem Gq (I:Inv X pins σ H s)(n:Nat)(A:Around)(d e:D)(v w:V)(G G':List Addr)(u u':Value)(b:Bool)(hu:A.units+n<cLine)(r1:Rep X.K H d v G)(r2:Rep X.K H e w G')(q1:RelV v u)(q2:RelV w u')(h:D.eqf n d e=some b):RcNeAt A s u u' (!b):=by
 cases n with
 |zero=>cases h
 |succ n =>
  have hu1:A.in1.units+n<cLine:=by show A.units+1+n<cLine;omega
  have hu0:A.units<cLine:=by omega
  have items:∀{xs ys:List D}{vs ws:List V}{G1 G2:List Addr}{its its':List Value}{c:Bool},aI X.K H xs vs G1->aI X.K H ys ws G2->aM vs its->aM ws its'->qR (D.eqf n) xs ys=some c ->
    its.toArray.size=its'.toArray.size/\∃ ee:Nat->Bool,c=(List.range its.toArray.size).all ee/\∀ j (h1:j<its.toArray.size) (h2:j<its'.toArray.size),EqAt A.in1 s its.toArray[j] its'.toArray[j] (ee j):=by
   intro xs ys vs ws G1 G2 its its' c a1 a2 b1 b2 hc;obtain⟨hl,ee,he,rfl⟩:=iS hc;have l1:=a1.len;have l2:=a2.len;have l3:=b1.length;have l4:=b2.length;have sz:its.toArray.size=xs.length:=by rw[ai];omega
   refine⟨by rw[ai,ai];omega,ee,by rw[sz],fun j h1 h2=>?_⟩;have j1:j<xs.length:=by rw[<-sz];exact h1
   have j2:j<ys.length:=by omega
   obtain⟨v1,g1,e1,p1,_⟩:=a1.get (i:=j) (d:=xs[j]) (by simp[j1]);obtain⟨v2,g2,e2,p2,_⟩:=a2.get (i:=j) (d:=ys[j]) (by simp[j2]);obtain⟨u1,f1,t1⟩:=b1.get e1;obtain⟨u2,f2,t2⟩:=b2.get e2;have x1:its.toArray[j]=u1:=by
    have:=List.getElem?_eq_some_iff.mp f1;simpa using this.2
   have x2:its'.toArray[j]=u2:=by
    have:=List.getElem?_eq_some_iff.mp f2;simpa using this.2
   rw[x1,x2];exact (xI I n A.in1 _ _ _ _ _ _ _ _ _ hu1 p1 p2 t1 t2 (he j _ _ (by simp[j1]) (by simp[j2]))).2
  have lsti:∀{ys:List D}{w:V}{g:List Addr}{u:Value},Rep X.K H (.lst ys) w g->RelV w u->∃ m its vs g',u = .ref m/\s.heap.IsList m its.toArray/\aM vs its/\aI X.K H ys vs g':=fun {ys w g u} r q=>by
   obtain⟨m,ws,g',rfl,rfl,a1,a2⟩:=r.lst_inv;cases q;obtain⟨its,rv,pl,_⟩:=I.list (.inl a1);exact⟨m,its,ws,g',rfl,pl.isList,rv,a2⟩
  have tupi:∀{ys:List D}{w:V}{g:List Addr}{u:Value},Rep X.K H (.tup ys) w g->RelV w u->∃ m its vs,u = .ref m/\s.heap.IsTuple m its.toArray/\aM vs its/\aI X.K H ys vs g:=fun {ys w g u} r q=>by
   obtain⟨m,ws,rfl,a1,a2⟩:=r.tup_inv;cases q;obtain⟨its,rv,pl,_⟩:=I.tuple a1;exact⟨m,its,ws,rfl,pl,rv,a2⟩
  cases d with
  |dct _=>cases e<;>cases h
  |mpi _=>cases e<;>cases h
  |mpt _=>cases e<;>cases h
  |mpz _=>cases e<;>cases h
  |non =>
   obtain⟨rfl,rfl⟩:=r1.non_inv;cases q1;cases e with
   |non=>obtain⟨rfl,rfl⟩:=r2.non_inv;cases q2;cases h;exact RcNeAt.none_none
   |_=>cases h
  |bl a =>
   obtain⟨rfl,rfl⟩:=r1.bl_inv;cases q1;cases e with
   |bl c=>obtain⟨rfl,rfl⟩:=r2.bl_inv;cases q2;cases h;exact RcNeAt.bool_bool a c
   |_=>cases h
  |int a =>
   obtain⟨rfl,rfl⟩:=r1.int_inv;obtain⟨t0,rfl⟩:=q1;cases e with
   |int i=>obtain⟨rfl,rfl⟩:=r2.int_inv;obtain⟨t,rfl⟩:=q2;cases h;exact RcNeAt.int_int a t0 i t
   |_=>cases h
  |str a =>
   obtain⟨rfl,rfl⟩:=r1.str_inv;obtain⟨t0,rfl⟩:=q1;cases e with
   |str x=>obtain⟨rfl,rfl⟩:=r2.str_inv;obtain⟨t,rfl⟩:=q2;cases h;exact RcNeAt.str_str a t0 x t
   |_=>cases h
  |lst xs =>
   obtain⟨l,its,vs,g1,rfl,pl,rv,a2⟩:=lsti r1 q1;cases e with
   |lst ys =>
    obtain⟨m,its',ws,g2,rfl,pl',rv',b2⟩:=lsti r2 q2;have h:(if xs.length=ys.length then qR (D.eqf n) xs ys else some false)=some b:=h;by_cases hl:xs.length=ys.length
    ·rw[if_pos hl] at h;obtain⟨hz,ee,rfl,he⟩:=items a2 b2 rv rv' h;exact RcNeAt.lists pl pl' hz hu0 he
    ·rw[if_neg hl] at h;cases h;have hz:(its.toArray.size != its'.toArray.size)=true:=by
      have l1:=a2.len;have l2:=b2.len;have l3:=rv.length;have l4:=rv'.length;simp only[bne_iff_ne,ne_eq,List.size_toArray];omega
     exact RcNeAt.lists_lengths pl pl' hz hu0
   |_=>cases h
  |tup xs =>
   obtain⟨l,its,vs,rfl,pl,rv,a2⟩:=tupi r1 q1;cases e with
   |tup ys =>
    obtain⟨m,its',ws,rfl,pl',rv',b2⟩:=tupi r2 q2;have h:(if xs.length=ys.length then qR (D.eqf n) xs ys else none)=some b:=h;by_cases hl:xs.length=ys.length
    ·rw[if_pos hl] at h;obtain⟨hz,ee,rfl,he⟩:=items a2 b2 rv rv' h;have q:=RcNeAt.tuples (e:=ee) pl pl' hu0 he;rw[<-hz,Nat.min_self,cu,Bool.and_true] at q;exact q
    ·rw[if_neg hl] at h;cases h
   |_=>cases h
end
section
variable {X:Cx}
theorem jd.any {K:Frag}{H:Hp}(n:Int):∀{q:List (Int×MV)}{x:List (Key×V)},jd K H q x->(x.any fun kv=>decide (kv.1=Sum.inl n))=q.any fun kv=>decide (kv.1=n)
 |[],[],_=>rfl
 | (k,m)::q,p::x,⟨a,_,c⟩=>by
  rw[ic,ic,c.any n,a];congr 1;exact decide_eq_decide.mpr ⟨fun e=>by injection e,fun e=>by rw[e]⟩
 |[],_::_,h=>h.elim
 |_::_,[],h=>h.elim
theorem jd.val {K:Frag}{H:Hp}(n:Int):∀{q:List (Int×MV)}{x:List (Key×V)}{e:Int×MV},jd K H q x->(q.find? fun kv=>decide (kv.1=n))=some e->∃ v,oW x (.inl n)=some v/\qP K H e.2 v
 |[],[],_,_,h=>by cases h
 | (k,m)::q,p::x,e,⟨a,b,c⟩,h=>by
  by_cases hk:k=n
  ·rw[List.find?_cons_of_pos (by simpa using hk)] at h;cases h;exact⟨p.2,jt (by rw[a,hk]),b⟩
  ·rw[List.find?_cons_of_neg (by simpa using hk)] at h;rw[jw (by rw[a];exact fun z=>hk (by injection z))];exact c.val n h
 |[],_::_,_,h,_=>h.elim
 |_::_,[],_,h,_=>h.elim
theorem nE {K:Frag}{H:Hp}:∀ ks:List Int,aI K H (ks.map D.int) (ks.map V.int) []
 |[]=>.nil
 |k::ks=>.cons (G:=[]) (G':=[]) (.int k) (nE ks)
theorem qP.rep {K:Frag}{H:Hp}:∀{m:MV}{v:V},qP K H m v->Rep K H (mvD m) v []
 |.tr,_,h=>by cases h;exact .bl true
 |.int i,_,h=>by cases h;exact .int i
 |.tup is,_,⟨b,e,h⟩=>by subst e;exact .tup h (nE is)
theorem i7:∀{xs:List D}{k:List Int},jc xs=some k->xs=k.map D.int
 |[],k,h=>by cases h;rfl
 | .int i::r,k,h=>by
  have h:(jc r).map (i :: ·)=some k:=h;rw[aa] at h;obtain⟨k',h1,rfl⟩:=h;rw[i7 h1];rfl
theorem oX {K:Frag}{H:Hp}:∀{ns:List Int}{vs:List V}{G:List Addr}{us:List Value},aI K H (ns.map D.int) vs G->aM vs us->IntsAre us ns
 |[],_,_,_,.nil,.nil=>.nil
 | n::ns,_,_,_,.cons h r,.cons x y=>by
  obtain⟨rfl,_⟩:=h.int_inv;obtain⟨t,rfl⟩:=x;exact .cons _ _ (oX r y)
theorem uq (op:CmpOp)(hx:X.A.units+40<cLine/\vT X.w X.K):iW X (compareOp op) (AX X.K fun x y=>(jo op x y).map .bl):=by
 have hu:=hx.1;intro pins s σ H x y v u Q I rx ry h;obtain⟨d1,d2,d,G,rs,hd,k⟩:=h;obtain⟨G1,G2,r1,r2,rfl⟩:=rs.inv2;rw[aa] at hd;obtain⟨b,hb,rfl⟩:=hd;have fin:Q (.bl b) H:=k _ H [] (.bl b) gM.nil;have ep:∀ c,c=b->EP X pins σ Q (.bool c) s:=fun c e=>⟨.bl b,H,I,by rw[e];rfl,fin⟩
 have onInts:∀{f:Int->Int->Bool},(∀ i j,jo op (.int i) (.int j)=some (f i j))->(∀ d1 d2,(∀ i j,¬ (d1 = .int i/\d2 = .int j))->jo op d1 d2=none)->iW X (compareOp op) (vR fun i j=>.bl (f i j))->wpAny (model X.prog X.w) X.A (compareOp op v u) (EP X pins σ Q) X.xe s:=by
  intro f h1 h2 ho;by_cases hi:∃ i j,d1 = .int i/\d2 = .int j
  ·obtain⟨i,j,rfl,rfl⟩:=hi;rw[h1] at hb;cases hb;obtain⟨rfl,rfl⟩:=r1.int_inv;obtain⟨rfl,rfl⟩:=r2.int_inv;exact ho pins s σ H _ _ v u Q I rx ry ⟨i,j,rfl,rfl,fin⟩
  ·rw[h2 d1 d2 fun i j z=>hi ⟨i,j,z⟩] at hb;cases hb
 have nope:∀(op:CmpOp),(op = .Gt\/op = .GtE)->∀ d1 d2:D,(∀ i j,¬ (d1 = .int i/\d2 = .int j))->jo op d1 d2=none:=by
  intro op ho d1 d2 hn;cases d1 with
  |int i =>
   cases d2 with
   |int j=>exact absurd ⟨rfl,rfl⟩ (hn i j)
   |_=>rcases ho with rfl | rfl<;>rfl
  |_=>rcases ho with rfl | rfl<;>rfl
 cases op with
 |Lt =>
  cases d1 with
  |int i =>
   cases d2 with
   |int j =>
    cases hb;obtain⟨rfl,rfl⟩:=r1.int_inv;obtain⟨rfl,rfl⟩:=r2.int_inv;exact Iu pins s σ H _ _ v u Q I rx ry ⟨i,j,rfl,rfl,fin⟩
   |_=>cases hb
  |_=>cases hb
 |LtE =>
  cases d1 with
  |int i =>
   cases d2 with
   |int j =>
    cases hb;obtain⟨rfl,rfl⟩:=r1.int_inv;obtain⟨rfl,rfl⟩:=r2.int_inv;exact Gm pins s σ H _ _ v u Q I rx ry ⟨i,j,rfl,rfl,fin⟩
   |_=>cases hb
  |_=>cases hb
 |Gt=>exact onInts (fun _ _=>rfl) (nope .Gt (.inl rfl)) Gc
 |GtE=>exact onInts (fun _ _=>rfl) (nope .GtE (.inr rfl)) GI
 |Eq =>
  have hb:D.eqf 40 d1 d2=some b:=hb;exact (xI I 40 X.A d1 d2 x y G1 G2 v u b hu r1 r2 rx ry hb).1 _ _ _ _ (ep b rfl)
 |NotEq =>
  have hb:(D.eqf 40 d1 d2).map (!·)=some b:=hb;rw[aa] at hb;obtain⟨c,hc,rfl⟩:=hb;exact Gq I 40 X.A d1 d2 x y G1 G2 v u c hu r1 r2 rx ry hc _ _ _ _ (ep _ rfl)
 |Is=>cases hb
 |IsNot=>cases hb
 |In =>
  have hb:inD d1 d2=some b:=hb;cases d2 with
  |str z =>
   cases d1 with
   |str w =>
    cases hb;obtain⟨rfl,rfl⟩:=r1.str_inv;obtain⟨rfl,rfl⟩:=r2.str_inv;exact vg pins s σ H _ _ v u Q I rx ry ⟨w,z,rfl,rfl,fin⟩
   |_=>cases hb
  |_=>cases hb
 |NotIn =>
  have hb:(inD d1 d2).map (!·)=some b:=hb;rw[aa] at hb;obtain⟨c,hi,rfl⟩:=hb;clear hb;cases d2 with
  |str z =>
   cases d1 with
   |str w =>
    cases hi;obtain⟨rfl,rfl⟩:=r1.str_inv;obtain⟨rfl,rfl⟩:=r2.str_inv;exact pj pins s σ H _ _ v u Q I rx ry ⟨w,z,rfl,rfl,fin⟩
   |_=>cases hi
  |_=>cases hi
theorem Dc (n:Nat)(i:Int):Pc.kd n i=L2.kd n i:=rfl
theorem A3 (hx:vT X.w X.K):Fo X (Iq X.K):=by
 intro value slice pins s σ H x y v u Q I rx ry h hs;obtain⟨d1,d2,d,G,rs,hd,k⟩:=h;obtain⟨G1,G2,r1,r2,rfl⟩:=rs.inv2;cases d2 with
 |int i =>
  obtain⟨rfl,rfl⟩:=r2.int_inv;rw[ax] at k;have seq:∀{xs:List D}{vs:List V}{g:List Addr},aI X.K H xs vs g->((kd xs.length i).bind fun j=>xs[j]?)=some d->∃ w g',Fd vs i=some w/\Rep X.K H d w g'/\g'.Sublist g:=fun {xs vs g} r e=>by
   rw[ae] at e;obtain⟨j,e1,e2⟩:=e;obtain⟨w,g',a,b,c⟩:=r.get e2;refine⟨w,g',?_,b,c⟩;unfold Fd;rw[<-r.len,<-Dc,e1];exact a
  cases d1 with
  |lst xs =>
   obtain⟨p,vs,g,rfl,rfl,a1,a2⟩:=r1.lst_inv;obtain⟨w,g',e1,e2,e3⟩:=seq a2 hd;exact Ab value slice pins s σ H _ _ v u Q I rx ry ⟨p,vs,i,w,rfl,rfl,.inl a1,e1,k w g' e2 (e3.trans (List.sublist_cons_self _ _))⟩ hs
  |tup xs =>
   obtain⟨p,vs,rfl,a1,a2⟩:=r1.tup_inv;obtain⟨w,g',e1,e2,e3⟩:=seq a2 hd;exact CU value slice pins s σ H _ _ v u Q I rx ry ⟨p,vs,i,w,rfl,rfl,a1,e1,k w g' e2 e3⟩ hs
  |str z =>
   obtain⟨rfl,rfl⟩:=r1.str_inv;have hd:(if z.length<=lim then ((Pc.kd z.cps.toList.length i).bind fun j=>z.cps.toList[j]?).map (fun c=>D.str ⟨#[c]⟩) else none)=some d:=hd;by_cases hl:z.length<=lim
   ·rw[if_pos hl,aa] at hd;obtain⟨c,hc,rfl⟩:=hd;exact D4 value slice pins s σ H _ _ v u Q I rx ry ⟨z,i,c,rfl,rfl,fN hl,hc,k _ [] (.str _) (List.nil_sublist _)⟩ hs
   ·rw[if_neg hl] at hd;cases hd
  |mpi ks =>
   cases r1 with
   |@mpi p _ xs hr kr =>
    have hd:(ks.find? fun q=>decide (q.1=i)).map (fun q=>mvD q.2)=some d:=hd;rw[aa] at hd;obtain⟨e,he,rfl⟩:=hd;obtain⟨v',hv',mr⟩:=kr.val i he;cases rx;obtain⟨t,rfl⟩:=ry;obtain⟨z,lo,vs,rel,dd⟩:=sU I.hok (.inl hr);obtain⟨u',hu,ru⟩:∃ u',valueAt vs (.inl i)=some u'/\RelV v' u':=by
     have:=rel.val (.inl i);rw[hv'] at this;cases q:valueAt vs (.inl i) with
     |none=>rw[q] at this;exact this.elim
     |some u'=>rw[q] at this;exact⟨u',rfl,this⟩
    have fin:EP X pins σ Q u' { s with toks:=s.toks+1 }:=⟨v',H,I.tok _,ru,k _ [] mr.rep (List.nil_sublist _)⟩;exact subscriptTail_builtinR (x:=u') dd.mapOf.typeIs slot_dict_getitem.lookup (wpAny_getItem_of (Q:=fun r s'=>r=u'/\EP X pins σ Q r s') (km X.prog X.w i t) dd.mapOf hu ⟨rfl,fin⟩) hs
  |_=>cases hd
 |_=>cases d1<;>cases hd
end
section
variable {X:Cx}{T:Tb}{a b c:Expr}{ca cb cc:Ex}{pos:Pos}
theorem Dz {i:Nat}{x:Str}(hN:X.N[i]? = some x)(hv:BQ X.env.scope x)(hd:(x==("__debug__" : Str))=false) (hcd:(x==("__classdict__" : Str))=false):PE X (.Name x pos) (tE X.K T (.var i)):=by
 refine bS (lG hN hv hd hcd) fun σ H Q ⟨P,env,F,re,p,hev,k⟩=>?_
 unfold ev at hev;cases hs:env[i]? with
 |none=>rw[hs] at hev;cases hev
 |some o =>
  cases o with
  |none=>rw[hs] at hev;cases hev
  |some q =>
   obtain⟨d,t⟩:=q;rw[hs] at hev;simp only[Rs.ok.injEq] at hev;subst hev;obtain⟨v,e1,rp⟩:=re.val i d t hs;refine⟨v,e1,k v H (F i) (aJ.refl _) rp ?_⟩;cases hf:d.flat with
   |true =>
    rw[rp.flat hf];exact bV.nil
   |false =>
    simp only[Bool.false_eq_true,if_false];have ow:bD t=true->bV env F H (.mv [i]) H (F i):=fun o=>by
     obtain⟨n1,n2,n3⟩:=re.one i d t hs o;refine⟨fun a ha=>.inr ⟨i,d,t,ha,hs,fun q hq=>by cases t<;>simp_all [bE,bD,Rt.roots]⟩,fun R e=>?_⟩;cases e;exact⟨n1,n2,fun a ha=>.inr ⟨i,d,t,by simp,ha,hs,o⟩⟩
    cases t with
    |own=>exact ow rfl
    |lk=>exact ow rfl
    |sh R=>exact⟨fun a ha=>.inr ⟨i,d,.sh R,ha,hs,fun q hq=>hq⟩,fun R' e=>by cases e⟩
theorem iU {e:Expr}{d:D}{v:V}(h:PE X e (tC v))(hr:∀ H,Rep X.K H d v []):PE X e (tE X.K T (.cst d)):=by
 refine bS h fun σ H Q ⟨P,env,F,re,p,hev,k⟩=>?_
 unfold ev at hev;cases hev;exact k v H [] (aJ.refl _) (hr H) bV.nil
theorem EH {e:Expr}{i:Nat}{v:V}(h:PE X e (tC v))(hr:∀ H,Rep X.K H (T.gl i) v []):PE X e (tE X.K T (.glb i)):=by
 refine bS h fun σ H Q ⟨P,env,F,re,p,hev,k⟩=>?_
 unfold ev at hev;cases hev;exact k v H [] (aJ.refl _) (hr H) bV.nil
theorem E6 (ha:PE X a (tE X.K T ca)):PE X (.UnaryOp .USub a pos) (tE X.K T (.neg ca)):=by
 refine bS (Ij Dj ha) fun σ H Q ⟨P,env,F,re,p,hev,k⟩=>?_
 unfold ev at hev;obtain⟨q,h1,hev⟩:=Rs.bind_ok hev;refine⟨P,env,F,re,q,h1,fun v H1 G s rp rt=>?_⟩;cases hq:q.1 with
 |int i =>
  rw[hq] at hev rp;cases hev;obtain⟨rfl,rfl⟩:=rp.int_inv;exact⟨i,rfl,k _ H1 [] s (.int _) bV.nil⟩
 |_=>rw[hq] at hev;cases hev
theorem EU {op:CmpOp}(hu:X.A.units+40<cLine/\vT X.w X.K)(ha:PE X a (tE X.K T ca))(hb:PE X b (tE X.K T cb))(hm:behindInMarks op b=false):PT X (.Compare a [op] [b] pos) (nZ X.K T (.cmp op ca cb)):=by
 refine sC (zS (uq op hu) ha hb hm) fun σ H Q ⟨P,env,F,re,p0,bb,hev,ht,k⟩=>?_
 unfold ev at hev;obtain⟨p,h1,hev⟩:=Rs.bind_ok hev;obtain⟨q,h2,hev⟩:=Rs.bind_ok hev;obtain⟨d,h3,hev⟩:=Rs.bind_ok hev;have h3:=cU h3;cases hev;obtain rfl:d=bb:=bu ht;refine two re h1 h2 fun x y H2 G ar=>⟨p.1,q.1,.bl d,G,ar.reps,by simp[h3],fun v H' G' rp nv=>?_⟩
 obtain⟨rfl,_⟩:=rp.bl_inv;exact⟨d,rfl,k H' (ar.same.trans nv.same)⟩
variable {rest:List Expr}
theorem CL (ha:PE X a (tE X.K T ca))(hb:PE X (.BoolOp .And (b::rest) pos) (tE X.K T cb)):PE X (.BoolOp .And (a::b::rest) pos) (tE X.K T (.and ca cb)):=by
 refine bS (qW ha hb) fun σ H Q ⟨P,env,F,re,p,hev,k⟩=>?_
 unfold ev at hev;obtain⟨q,h1,hev⟩:=Rs.bind_ok hev;refine⟨P,env,F,re,q,h1,fun v H1 G s rp rt=>?_⟩;cases hq:q.1 with
 |bl kb =>
  rw[hq] at hev rp;obtain⟨rfl,rfl⟩:=rp.bl_inv;cases kb with
  |true=>exact⟨true,rfl,by rw[if_pos rfl];exact⟨P,env,F,re.same s,p,hev,fun v H' G s' rp' rt'=>k v H' G (s.trans s') rp' (rt'.back s)⟩⟩
  |false =>
   cases hev;exact⟨false,rfl,by rw[if_neg bq];exact k _ H1 [] s (.bl _) bV.nil⟩
 |_=>rw[hq] at hev;cases hev
theorem FV (ha:PE X a (tE X.K T ca))(hb:PE X (.BoolOp .Or (b::rest) pos) (tE X.K T cb)):PE X (.BoolOp .Or (a::b::rest) pos) (tE X.K T (.or ca cb)):=by
 refine bS (Ik ha hb) fun σ H Q ⟨P,env,F,re,p,hev,k⟩=>?_
 unfold ev at hev;obtain⟨q,h1,hev⟩:=Rs.bind_ok hev;refine⟨P,env,F,re,q,h1,fun v H1 G s rp rt=>?_⟩;cases hq:q.1 with
 |bl kb =>
  rw[hq] at hev rp;obtain⟨rfl,rfl⟩:=rp.bl_inv;cases kb with
  |false=>exact⟨false,rfl,by rw[if_neg bq];exact⟨P,env,F,re.same s,p,hev,fun v H' G s' rp' rt'=>k v H' G (s.trans s') rp' (rt'.back s)⟩⟩
  |true =>
   cases hev;exact⟨true,rfl,by rw[if_pos rfl];exact k _ H1 [] s (.bl _) bV.nil⟩
 |_=>rw[hq] at hev;cases hev
theorem C4 (ha:PE X a (tE X.K T ca)):PE X (.UnaryOp .Not a pos) (tE X.K T (.not ca)):=by
 refine bS (xC ha) fun σ H Q ⟨P,env,F,re,p,hev,k⟩=>?_
 unfold ev at hev;obtain⟨q,h1,hev⟩:=Rs.bind_ok hev;refine⟨P,env,F,re,q,h1,fun v H1 G s rp rt=>?_⟩;cases hq:q.1 with
 |bl kb =>
  rw[hq] at hev rp;obtain⟨rfl,rfl⟩:=rp.bl_inv;cases hev;exact⟨kb,rfl,k _ H1 [] s (.bl _) bV.nil⟩
 |_=>rw[hq] at hev;cases hev
theorem DW (ha:PT X a (nZ X.K T ca))(hb:PW X (.BoolOp .And (b::rest) pos) (nZ X.K T cb)):PW X (.BoolOp .And (a::b::rest) pos) (nZ X.K T (.and ca cb)):=by
 intro wh pins s σ H Q I h;refine CF ha hb wh pins s σ H Q I ?_;obtain⟨P,env,F,re,p,bb,hev,ht,k⟩:=h;unfold ev at hev;obtain⟨q,h1,hev⟩:=Rs.bind_ok hev;cases hq:q.1 with
 |bl kb =>
  rw[hq] at hev;cases kb with
  |true=>exact⟨P,env,F,re,q,true,h1,by rw[hq];rfl,fun H' s=>by show if true=true then _ else _;rw[if_pos rfl];exact⟨P,env,F,re.same s,p,bb,hev,ht,fun H2 s2=>k H2 (s.trans s2)⟩⟩
  |false =>
   cases hev;cases ht;exact⟨P,env,F,re,q,false,h1,by rw[hq];rfl,fun H' s=>by show if false=true then _ else _;rw[if_neg bq];exact k H' s⟩
 |_=>rw[hq] at hev;cases hev
theorem GW (ha:PT X a (nZ X.K T ca))(hb:PW X (.BoolOp .Or (b::rest) pos) (nZ X.K T cb)):PW X (.BoolOp .Or (a::b::rest) pos) (nZ X.K T (.or ca cb)):=by
 intro wh pins s σ H Q I h;refine FU ha hb wh pins s σ H Q I ?_;obtain⟨P,env,F,re,p,bb,hev,ht,k⟩:=h;unfold ev at hev;obtain⟨q,h1,hev⟩:=Rs.bind_ok hev;cases hq:q.1 with
 |bl kb =>
  rw[hq] at hev;cases kb with
  |false=>exact⟨P,env,F,re,q,false,h1,by rw[hq];rfl,fun H' s=>by show if false=true then _ else _;rw[if_neg bq];exact⟨P,env,F,re.same s,p,bb,hev,ht,fun H2 s2=>k H2 (s.trans s2)⟩⟩
  |true =>
   cases hev;cases ht;exact⟨P,env,F,re,q,true,h1,by rw[hq];rfl,fun H' s=>by show if true=true then _ else _;rw[if_pos rfl];exact k H' s⟩
 |_=>rw[hq] at hev;cases hev
theorem DK (ha:PT X a (nZ X.K T ca)):PT X (.UnaryOp .Not a pos) (nZ X.K T (.not ca)):=by
 refine sC (Fe ha) fun σ H Q ⟨P,env,F,re,p,bb,hev,ht,k⟩=>?_
 unfold ev at hev;obtain⟨q,h1,hev⟩:=Rs.bind_ok hev;cases hq:q.1 with
 |bl kb =>
  rw[hq] at hev;cases hev;cases ht;exact⟨P,env,F,re,q,kb,h1,by rw[hq];rfl,fun H' s=>k H' s⟩
 |_=>rw[hq] at hev;cases hev
theorem BB {K:Frag}{H:Hp}{d:D}{v:V}{G:List Addr}{b:Bool}(rp:Rep K H d v G)(h:truth d=some b):Ec K v H b:=by
 cases rp with
 |dct _=>cases h
 |mpi _=>cases h
 |mpt _=>cases h
 |mpz _=>cases h
 |non=>cases h;rfl
 |bl c=>cases h;rfl
 |int i=>cases h;rfl
 |str z =>
  simp only[truth] at h;by_cases hl:z.length<=lim
  ·rw[if_pos hl] at h;cases h;exact⟨fN hl,rfl⟩
  ·rw[if_neg hl] at h;cases h
 |lst a r =>
  rename_i vs ds g;cases h;refine .inl ⟨vs,.inl a,?_⟩;have:=r.len;cases ds<;>cases vs<;>simp_all
 |tup a r =>
  rename_i vs ds;cases h;refine .inr (.inl ⟨vs,a.sq,?_⟩);have:=r.len;cases ds<;>cases vs<;>simp_all
theorem cN {e:Expr}(h:PE X e (tE X.K T ca))(he:∀ whole,isTrue e X.env whole=(do let v <- whole;standAt e.pos;holding [v] (truthy v))):PT X e (nZ X.K T ca):=by
 refine sC (yn h he) fun σ H Q ⟨P,env,F,re,p,bb,hev,ht,k⟩=>?_
 exact⟨P,env,F,re,p,hev,fun v H' G s rp rt=>⟨bb,BB rp ht,k H' s⟩⟩
theorem Er (hc:PT X c (nZ X.K T cc))(ha:PE X a (tE X.K T ca))(hb:PE X b (tE X.K T cb)):PE X (.IfExp c a b pos) (tE X.K T (.ite cc ca cb)):=by
 refine bS (xU hc ha hb) fun σ H Q ⟨P,env,F,re,p,hev,k⟩=>?_
 unfold ev at hev;obtain⟨q,h1,hev⟩:=Rs.bind_ok hev;obtain⟨kb,h2,hev⟩:=Rs.bind_ok hev;refine⟨P,env,F,re,q,kb,h1,cU h2,fun H' s=>?_⟩;cases kb with
 |true=>rw[if_pos rfl];exact⟨P,env,F,re.same s,p,hev,fun v H2 G s' rp' rt'=>k v H2 G (s.trans s') rp' (rt'.back s)⟩
 |false=>rw[if_neg bq];exact⟨P,env,F,re.same s,p,hev,fun v H2 G s' rp' rt'=>k v H2 G (s.trans s') rp' (rt'.back s)⟩
variable {es:List Expr}{cs:kZ}
theorem xi:PA X [] (rj X.K T .nil):=by
 refine wG dR fun σ H Q ⟨P,env,F,re,l,hev,k⟩=>?_
 unfold aX at hev;cases hev;exact k [] H [] (.nil (aJ.refl _))
theorem tT (ha:PE X a (tE X.K T ca))(hr:PA X es (rj X.K T cs))(hs:starEach (a::es) X.env=(false,eval a X.env)::starEach es X.env):PA X (a::es) (rj X.K T (.cons ca cs)):=by
 refine wG (aT ha hr hs) fun σ H Q ⟨P,env,F,re,l,hev,k⟩=>?_
 unfold aX at hev;obtain⟨p,h1,hev⟩:=Rs.bind_ok hev;obtain⟨q,h2,hev⟩:=Rs.bind_ok hev;cases hev;exact⟨P,env,F,re,p,h1,fun v H1 G s rp rt=>⟨P,env,F,re.same s,q,h2,fun vs H2 G' ar=>k (v::vs) H2 _ (.cons s rp rt ar)⟩⟩
theorem bV.addNew {env:En}{F:Nat->List Addr}{H H1:Hp}{r:Rt}{G:List Addr}{p:Addr}{vs:List V}(h:bV env F H r H1 G)(e:aJ H H1)(hp:H1 p=none)(hl:∀ a∈G,H1 a≠none):bV env F H r (upd H1 p (.lst vs)) (p::G) where
 cont:=fun a ha=>by
  rcases iy.mp ha with rfl | ha
  ·exact .inl (aJ.no e hp)
  ·exact h.cont a ha
 mv:=fun R hr=>by
  obtain⟨a,b,c⟩:=h.mv R hr;refine⟨List.nodup_cons.mpr ⟨fun z=>hl p z hp,a⟩,fun x hx=>?_,fun x hx=>?_⟩
  ·rcases iy.mp hx with rfl | hx
   ·exact⟨.l _,aP⟩
   ·obtain⟨ws,q⟩:=b x hx;exact⟨ws,aJ.new hp _ _ q⟩
  ·rcases iy.mp hx with rfl | hx
   ·exact .inl (aJ.no e hp)
   ·exact c x hx
theorem Dd (h:PA X es (rj X.K T cs)):PE X (.List es pos) (tE X.K T (.lst cs)):=by
 refine bS (rL h) fun σ H Q ⟨P,env,F,re,p,hev,k⟩=>?_
 unfold ev at hev;obtain⟨l,h1,hev⟩:=Rs.bind_ok hev;by_cases hl:l.length<=lim
 ·rw[if_pos hl] at hev;cases hev;refine⟨P,env,F,re,l,h1,fun vs H1 G ar=>?_⟩;have rs:=ar.reps;have hlen:=rs.len;rw[ao] at hlen;refine⟨by rw[<-hlen];exact fN hl,fun q hq=>?_⟩;have e:=aJ.new (o:=.lst vs) hq;exact k _ _ (q::G) (ar.same.trans e) (.lst (.inl aP) (rs.same e)) ((ar.comb re).addNew ar.same hq fun a ha=>rs.nn ha)
 ·rw[if_neg hl] at hev;cases hev
theorem Ef {x1:Nat}(h:PA X es (rj X.K T cs)):PE X (.Tuple es x1 pos) (tE X.K T (.tup cs)):=by
 refine bS (yl h) fun σ H Q ⟨P,env,F,re,p,hev,k⟩=>?_
 unfold ev at hev;obtain⟨l,h1,hev⟩:=Rs.bind_ok hev;by_cases hl:l.length<=lim
 ·rw[if_pos hl] at hev;cases hev;refine⟨P,env,F,re,l,h1,fun vs H1 G ar=>?_⟩;have rs:=ar.reps;have hlen:=rs.len;rw[ao] at hlen;refine⟨by rw[<-hlen];exact fN hl,fun q hq=>?_⟩;have e:=aJ.new (o:=.tup vs) hq;exact k _ _ G (ar.same.trans e) (.tup (.inl aP) (rs.same e)) ((ar.comb re).later e)
 ·rw[if_neg hl] at hev;cases hev
def Cv (K:Frag)(n:Nat)(f:List D->Rs (D×Bool)):Sp:=fun vs H Q E=>∃ ds G,ds.length=n/\aI K H ds vs G/\∃ r,f ds = .ok r/\∀ v H' G',aJ H H'->Rep K H' r.1 v G'->(∀ a∈G',H a=none\/a∈G)->(r.2=true->G'.Nodup/\∀ a∈G',H a=none/\∃ vs:ML,H' a=some vs.o)->Q v H'
theorem jO {K:Frag}{n:Nat}{f:List D->Rs (D×Bool)}{vs:List V}{H:Hp}{Q:VK}{E:XK}(h:Cv K n f vs H Q E):vs.length=n:=by
 obtain⟨ds,G,h1,h2,_⟩:=h;rw[<-h1,h2.len]
theorem nF {f:Nat}{n:Nat}{σ:L2.St}{H:Hp}{Q:VK}(hn:∀ ds r,T.cl f ds = .ok r->ds.length=n)(h:tE X.K T (.call f cs) σ H Q):xk (Cv X.K n (T.cl f)) [] E0 (rj X.K T cs) σ H Q:=by
 obtain⟨P,env,F,re,p,hev,k⟩:=h;unfold ev at hev;obtain⟨l,h1,hev⟩:=Rs.bind_ok hev;obtain⟨r,h2,hev⟩:=Rs.bind_ok hev;cases hev;refine⟨P,env,F,re,l,h1,fun vs H1 G ar=>?_⟩;show Cv X.K n (T.cl f) (vs ++ []) H1 Q E0;rw[ax];refine⟨l.map (·.1),G,hn _ _ h2,ar.reps,r,h2,fun v H' G' s rp sub fr=>k v H' G' (ar.same.trans s) rp ?_⟩;cases hr:r.2 with
 |true =>
  obtain⟨a,b⟩:=fr hr;have c:∀ x∈G',H x=none:=fun x hx=>aJ.no ar.same (b x hx).1
  exact⟨fun x hx=>.inl (c x hx),fun R e=>⟨a,fun x hx=>(b x hx).2,fun x hx=>.inl (c x hx)⟩⟩
 |false =>
  refine⟨fun x hx=>?_,fun R e=>by cases e⟩;rcases sub x hx with q | q
  ·exact .inl (aJ.no ar.same q)
  ·exact ar.cont x q
end
def sJ (K:Frag)(b:D0):List V->Hp->VK->Prop:=fun xs H Q=>∃ ds d G,aI K H ds xs G/\kH b ds=some d/\∀ v H' G',Rep K H' d v G'->gM H H' G d G'->Q v H'
section
variable {X:Cx}{T:Tb}
theorem qc {b:D0}{cs:kZ}{σ:L2.St}{H:Hp}{Q:VK}(h:tE X.K T (.blt b cs) σ H Q):DJ (sJ X.K b) (rj X.K T cs) σ H Q:=by
 obtain⟨P,env,F,re,p,hev,k⟩:=h;unfold ev at hev;obtain⟨l,h1,hev⟩:=Rs.bind_ok hev;obtain⟨d,h2,hev⟩:=Rs.bind_ok hev;cases hev;exact⟨P,env,F,re,l,h1,fun vs H1 G ar=>⟨l.map (·.1),d,G,ar.reps,cU h2,fun v H' G' rp nv=>k v H' G' (ar.same.trans nv.same) rp (bV.new ar nv fun _ z=>z)⟩⟩
theorem aI.of1 {K:Frag}{H:Hp}{d:D}{xs:List V}{G:List Addr}(h:aI K H [d] xs G):∃ x,xs=[x]/\Rep K H d x G:=by
 cases h with
 |cons r s=>cases s;exact⟨_,rfl,by rw[ax];exact r⟩
theorem aI.of2 {K:Frag}{H:Hp}{d e:D}{xs:List V}{G:List Addr}(h:aI K H [d,e] xs G):∃ x y G1 G2,xs=[x,y]/\Rep K H d x G1/\Rep K H e y G2:=by
 cases h with
 |cons r s =>
  cases s with
  |cons r' s'=>cases s';exact⟨_,_,_,_,rfl,r,r'⟩
theorem uL:fL X (.builtin "len") (sJ X.K .len):=by
 intro pins s σ H xs us Q I r h;obtain⟨ds,d,G,rs,hd,k⟩:=h
 match ds,hd with
 |[.lst ys],hd =>
  cases hd;obtain⟨x,rfl,rp⟩:=rs.of1;obtain⟨p,vs,g,rfl,rfl,a1,a2⟩:=rp.lst_inv;exact jF pins s σ H _ us Q I r ⟨p,vs,rfl,.inl (.inl a1),by rw[<-a2.len];exact k _ H [] (.int _) gM.nil⟩
 |[.tup ys],hd =>
  cases hd;obtain⟨x,rfl,rp⟩:=rs.of1;obtain⟨p,vs,rfl,a1,a2⟩:=rp.tup_inv;exact jF pins s σ H _ us Q I r ⟨p,vs,rfl,.inr a1,by rw[<-a2.len];exact k _ H [] (.int _) gM.nil⟩
 |[.str z],hd =>
  have hd:(if z.length<=lim then some (D.int (z.length:Int)) else none)=some d:=hd;by_cases hl:z.length<=lim
  ·rw[if_pos hl] at hd;cases hd;obtain⟨x,rfl,rp⟩:=rs.of1;obtain⟨rfl,rfl⟩:=rp.str_inv;exact oz pins s σ H _ us Q I r ⟨z,rfl,fN hl,k _ H [] (.int _) gM.nil⟩
  ·rw[if_neg hl] at hd;cases hd
theorem qj {pins:List (Addr×Obj)}{s:Shared}{σ:L2.St}{H:Hp}{xs:List V}{us:List Value}{Q:VK}(I:Inv X pins σ H s)(r:aM xs us){ds:List D}{d:D}{G:List Addr}(rs:aI X.K H ds xs G)(hd:kH .list ds=some d)(k:∀ v H' G',Rep X.K H' d v G'->gM H H' G d G'->Q v H')(hn:∀ ks,ds≠[.mpi ks]):wpAny (model X.prog X.w) X.A (call (.type "list") us) (EP X pins σ Q) X.xe s:=by
 match ds,hd with
 |[.mpi ks],hd=>exact absurd rfl (hn ks)
 |[.lst ys],hd =>
  cases hd;obtain⟨x,rfl,rp⟩:=rs.of1;obtain⟨p,vs,g,rfl,rfl,a1,a2⟩:=rp.lst_inv;refine jx pins s σ H _ us Q I r ⟨p,vs,rfl,.inl (.inl a1),fun l hl=>?_⟩;obtain⟨n1,n2⟩:=jZ (G0:=p::g) a2 (fun a ha=>ah _ ha) hl;exact k _ _ _ n1 n2
 |[.tup ys],hd =>
  cases hd;obtain⟨x,rfl,rp⟩:=rs.of1;obtain⟨p,vs,rfl,a1,a2⟩:=rp.tup_inv;refine jx pins s σ H _ us Q I r ⟨p,vs,rfl,.inr a1,fun l hl=>?_⟩;obtain⟨n1,n2⟩:=jZ (G0:=G) a2 (fun a ha=>ha) hl;exact k _ _ _ n1 n2
end
def jm (K:Frag)(P:Addr->Prop)(H0:Hp)(J:It)(ds:List D)(G:List Addr):Prop:=∀ H,jq P H0 H->(∀(i:Nat) (d:D),ds[i]? = some d->J.go i H/\∀ x H',J.yld i H x H'->aJ H H'/\∃ G',Rep K H' d x G'/\∀ a∈G',a∈G)/\J.stop ds.length H
noncomputable def tI (K:Frag)(T:Tb)(it:qS):TI:=fun σ H R=>∃ P env F,RE K P env σ H F/\∃ p,eX T it env = .ok p/\∀ J H' G,aJ H H'->bV env F H (.sh p.2) H' G->(∀ a∈G,H' a≠none)->(∀ P',(∀ a∈G,P' a)->jm K P' H' J p.1 G)->R J H'
theorem vG {K:Frag}{P:Addr->Prop}{H0:Hp}{p:Addr}{vs:List V}{ds:List D}{G:List Addr}(h1:Rd H0 p (.lst vs))(h2:aI K H0 ds vs G)(hp:∀ a∈p::G,P a):jm K P H0 (Itl K p) ds (p::G):=fun H e=>by
 have ep:=e.keep p (hp p ak);have h1':Rd H p (.lst vs):=by
  rcases h1 with q | ⟨o,q⟩
  ·exact .inl (ep.trans q)
  ·exact .inr ⟨o,ep.trans q⟩
 have h2':=e.reps h2 fun a ha=>hp a (ah _ ha)
 refine⟨fun i d hd=>?_,⟨vs,.inl h1',by rw[h2.len];exact au _⟩⟩;obtain⟨v,G',a,b,c⟩:=h2'.get hd;refine⟨⟨vs,v,.inl h1',a⟩,fun x H' ⟨e1,e2⟩=>?_⟩;subst e1;have:=e2 vs (.inl h1');rw[a] at this;cases this;exact⟨aJ.refl _,G',b,fun z hz=>ah _ (c.subset hz)⟩
theorem y3 {K:Frag}{P:Addr->Prop}{H0:Hp}{p:Addr}{vs:List V}{ds:List D}{G:List Addr}(h1:kE K H0 p vs)(h2:aI K H0 ds vs G)(hp:∀ a∈G,P a):jm K P H0 (Itt K p) ds G:=fun H e=>by
 have h1':=e.tqT h1;have h2':=e.reps h2 hp;refine⟨fun i d hd=>?_,⟨vs,h1'.sq,by rw[h2.len];exact au _⟩⟩;obtain⟨v,G',a,b,c⟩:=h2'.get hd;refine⟨⟨vs,v,h1'.sq,a⟩,fun x H' ⟨e1,e2⟩=>?_⟩;subst e1;have:=e2 vs h1'.sq;rw[a] at this;cases this;exact⟨aJ.refl _,G',b,fun z hz=>c.subset hz⟩
noncomputable def Hf (xs:List V):It:=⟨fun i _=>i<xs.length,fun i H x H'=>H'=H/\xs[i]? = some x,fun i _=>xs.length<=i⟩
theorem mW {K:Frag}{P:Addr->Prop}{H0:Hp}{vs:List V}{ds:List D}(hr:∀ H,aI K H ds vs []):jm K P H0 (Hf vs) ds []:=fun H e=>by
 have hl:=(hr H).len;refine⟨fun i d hd=>?_,by show vs.length<=ds.length;omega⟩;obtain⟨v,G',a,b,c⟩:=(hr H).get hd;refine⟨by show i<vs.length;rw[<-hl];exact (List.getElem?_eq_some_iff.mp hd).1,fun x H' ⟨e1,e2⟩=>?_⟩;subst e1;rw[a] at e2;cases e2;exact⟨aJ.refl _,G',b,fun z hz=>c.subset hz⟩
theorem mQ {P:Program}{w:World}{K:Frag}{tg:Expr}{it:Addr}{xs:List V}{Pv:Nat->Value->Prop}{St:Nat->Heap->Prop}(W:∀ A:Around,A.handled=none->Walks P w A it [it] [it] xs.length Pv St)(hP:∀ i v,Pv i v->∃ x,xs[i]? = some x/\RelV x v)
  (ob:∀ i h,St i h->∃ o n vs,h.get? it=some o/\o.cls = .type n/\o.data = .fields vs/\["enumerate","zip","dict_itemiterator","dict_reverseitemiterator","odict_iterator","itertools.zip_longest","itertools.pairwise"].contains n=false)
  (fr:∀ i h h',St i h->(∀ o,h.get? it=some o->h'.get? it=some o)->St i h') (le:∀ i h,St i h->i<=xs.length) (slf:∀(A:Around) (i:Nat) (s:Shared) (Q E:Value->Shared->Prop),St i s.heap->Q (.ref it) s->wpAny (model P w) A (pyIter (.ref it)) Q E s):Turn P w K tg (Hf xs) [it] it St where
 mem:=by simp
 obj:=fun i h st b hb=>by
  have e:b=it:=by simpa using hb
  subst e;obtain⟨o,n,vs,h1,h2,h3,_⟩:=ob i h st;exact⟨o,h1,fun v z=>by rw[h3] at z;cases z⟩
 keep:=fun i h h' st k=>fr i h h' st fun o e=>k it (by simp) o e
 item:=by
  intro X hp hw hK hc i pins s σ H E I hf st hg;subst hp hw hK;obtain⟨f0,f1,f2,f3,f4,f5⟩:=hf it (by simp);refine (W X.A (I.ok.hd hc)).item i s _ _ hg st fun v h' tk hv st' kk=>?_
  obtain⟨x,ex,rx⟩:=hP i v hv;have I1:Inv X pins σ H { s with heap:=h',toks:=tk }:=I.turned (fun b o hb e=>kk b o (by simpa using hb) e) f0 f1 f3 f4 f5;obtain⟨o,n,vs,h1,h2,h3,h4⟩:=ob (i+1) h' st';exact⟨v,rfl,tK (s:={ s with heap:=h',toks:=tk }) (n:=n) h1 h2 h3 h4 ⟨x,H,I1,rx,⟨rfl,ex⟩,st',fun b hb=>(hf b hb).1⟩⟩
 done:=by
  intro X hp hw hK hc i pins s σ H E I hf st hg;subst hp hw hK;obtain⟨f0,f1,f2,f3,f4,f5⟩:=hf it (by simp);have hi:i=xs.length:=Nat.le_antisymm (le i _ st) hg;subst hi;exact (W X.A (I.ok.hd hc)).done s _ _ st fun h' tk kk=>⟨rfl,I.turned (fun b o hb e=>kk b o (by simpa using hb) e) f0 f1 f3 f4 f5⟩
 self:=fun A i s Q E st h=>slf A i s Q E st h
noncomputable def hJ (a c:Int)(n:Nat):List V:=(List.range n).map fun (i:Nat)=>.int (a+(i:Int)*c)
theorem lI (a c:Int)(n:Nat):(hJ a c n).length=n:=by simp[hJ]
theorem my {K:Frag}{H:Hp}(c:Int):∀(n:Nat) (a:Int),aI K H (aQ a c n) (hJ a c n) []
 |0,a=>.nil
 | n+1,a=>by
  have e:hJ a c (n+1) = .int a::hJ (a+c) c n:=by
   unfold hJ;rw[gc,av,fq];congr 1
   ·simp
   ·refine dq fun i _=>?_
    simp only[Function.comp_apply,V.int.injEq,Nat.succ_eq_add_one]
    push_cast
    rw[Int.add_mul];omega
  rw[e];show aI K H (.int a::aQ (a+c) c n) _ ([] ++ []);exact .cons (.int a) (my c n (a+c))
theorem jD (a b c:Int)(hc:c≠0):0<=Builtin.Range.rangeSize a b c:=by
 unfold Builtin.Range.rangeSize;split
 ·rename_i h;split
  ·have:0<=(b - a - 1) / c:=Int.ediv_nonneg (by omega) (by omega);omega
  ·omega
 ·split
  ·have:0<=(a - b - 1) / (-c):=Int.ediv_nonneg (by omega) (by omega);omega
  ·omega
theorem ql {a b c:Int}(ha:eZ a=true)(hb:eZ b=true)(hc:c≠0)(hs:c.natAbs<1073741824):Builtin.Range.small a b c=true:=by
 unfold eZ at ha hb;have ha:=iu ha;have hb:=iu hb;have hn:=jD a b c hc;have hu:Builtin.Range.rangeSize a b c<2 ^ 63:=by
  unfold Builtin.Range.rangeSize;split
  ·split
   ·have:=Int.ediv_le_self (b:=c) (a:=b - a - 1) (by omega);omega
   ·decide
  ·split
   ·have:=Int.ediv_le_self (b:=-c) (a:=a - b - 1) (by omega);omega
   ·decide
 unfold Builtin.Range.small;simp only[Builtin.Range.rangeFitsLong,Bool.and_eq_true,Bool.or_eq_true,decide_eq_true_eq,beq_iff_eq];refine⟨⟨⟨⟨⟨by omega,by omega⟩,by omega,by omega⟩,by omega,by omega⟩,by omega,hu⟩,.inr ?_⟩;split<;>simp only[Bool.and_eq_true,decide_eq_true_eq]<;>omega
section
variable {X:Cx}{tg:Expr}
theorem j9 {pins:List (Addr×Obj)}{σ:L2.St}{H:Hp}{s:Shared}{R:It->Hp->Prop}{E:Value->Shared->Prop}{lo hi c:Int}{t u v:Tok}{tk:Nat}(I:Inv X pins σ H s)(h1:eZ lo=true)(h2:eZ hi=true)(h3:c≠0)(h4:c.natAbs<1073741824)
  (q:R (Hf (hJ lo c (Builtin.Range.rangeSize lo hi c).toNat)) H):wpAny (model X.prog X.w) X.A (pyIter (.ref s.heap.objs.size)) (Di X pins σ tg R) E { s with heap:=s.heap.push { cls:=.type "range",data:=.fields #[.int lo t,.int hi u,.int c v] },toks:=tk }:=by
 refine wpAny_pyIter_range (IsRange.new ..) (ql h1 h2 h3 h4) ?_;have I1:Inv X pins σ H { s with heap:=s.heap.push { cls:=.type "range",data:=.fields #[.int lo t,.int hi u,.int c v] },toks:=tk }:=I.kept fun b o e=>Heap.get?_push_of_some _ e
 have hn:=jD lo hi c h3;let n:=(Builtin.Range.rangeSize lo hi c).toNat;refine⟨(s.heap.push { cls:=.type "range",data:=.fields #[.int lo t,.int hi u,.int c v] }).objs.size,[(s.heap.push { cls:=.type "range",data:=.fields #[.int lo t,.int hi u,.int c v] }).objs.size],
  (fun i h=>i<=n/\IsRangeIter h (s.heap.push { cls:=.type "range",data:=.fields #[.int lo t,.int hi u,.int c v] }).objs.size (lo+(i:Nat)*c) ((n:Int) - (i:Nat)) c),_,H,rfl,
  I1.kept (t':=tk) fun b o e=>Heap.get?_push_of_some _ e,mQ (Pv:=fun i v=>i<n/\∃ t,v = .int (lo+i*c) t) (fun A hA=>?_) (fun i v hv=>?_) (fun i h st=>?_) (fun i h h' st k=>⟨st.1,k _ st.2⟩) (fun i h st=>by rw[lI];exact st.1) (fun A i s Q E st h=>wpAny_pyIter_rangeiter st.2 h),?_,fun b hb=>?_,q⟩
 ·rw[lI];have W:=Walks.range (prog:=X.prog) (w:=X.w) hA (s.heap.push { cls:=.type "range",data:=.fields #[.int lo t,.int hi u,.int c v] }).objs.size lo c n;exact⟨W.sub,fun i h h' st k=>⟨st.1,W.frame i h h' st.2 k⟩,fun i s Q E hi st hQ=>W.item i s Q E hi st.2 fun v h' tk hv st' kk=>hQ v h' tk ⟨hi,hv⟩ ⟨hi,st'⟩ kk,fun s Q E st hQ=>W.done s Q E st.2 hQ,fun i s Q E st h=>W.self i s Q E st.2 h⟩
 ·obtain⟨hi',t',rfl⟩:=hv;exact⟨.int (lo+i*c),by unfold hJ;rw[List.getElem?_map,List.getElem?_range hi'];rfl,t',rfl⟩
 ·exact⟨_,_,_,st.2,rfl,rfl,by decide⟩
 ·refine⟨dk _,?_⟩;have e1:lo+((0:Nat):Int)*c=lo:=by simp
  have e2:((n:Nat):Int) - ((0:Nat):Int)=Builtin.Range.rangeSize lo hi c:=by omega
  rw[e1,e2];exact Heap.get?_push_size _ rfl
 ·have e:b=(s.heap.push { cls:=.type "range",data:=.fields #[.int lo t,.int hi u,.int c v] }).objs.size:=by simpa using hb
  subst e;exact I1.fpOk (au _) (I1.hok.fresh (au _))
end
section
variable {X:Cx}{tg:Expr}{T:Tb}{pins:List (Addr×Obj)}{σ:L2.St}{H:Hp}{s:Shared}{R:It->Hp->Prop}{E:Value->Shared->Prop}
theorem zA {a:Addr}{xs:List V}(I:Inv X pins σ H s)(hq:mL X.K H a xs)(q:R (Itl X.K a) H):wpAny (model X.prog X.w) X.A (pyIter (.ref a)) (Di X pins σ tg R) E s:=by
 obtain⟨its,rv,p,hz⟩:=I.list hq;refine wpAny_pyIter_list p.isList ?_;refine⟨s.heap.objs.size,[s.heap.objs.size],_,_,H,rfl,I.kept (t':=s.toks) fun b o e=>Heap.get?_push_of_some _ e,vH a _,⟨_,Heap.get?_push_size _ rfl,rfl,rfl⟩,fun b hb=>?_,q⟩;have e:b=s.heap.objs.size:=by simpa using hb
 subst e;exact I.fpOk (au _) (I.hok.fresh (au _))
theorem wH {a:Addr}{xs:List V}(I:Inv X pins σ H s)(hq:j8 X.K H a xs)(q:R (Itt X.K a) H):wpAny (model X.prog X.w) X.A (pyIter (.ref a)) (Di X pins σ tg R) E s:=by
 obtain⟨its,rv,p,hz⟩:=I.tuple hq;refine wpAny_pyIter_tuple (show s.heap.IsTuple a its.toArray from p) ?_;refine⟨s.heap.objs.size,[s.heap.objs.size],_,_,H,rfl,I.kept (t':=s.toks) fun b o e=>Heap.get?_push_of_some _ e,rq a _,⟨_,Heap.get?_push_size _ rfl,rfl,rfl⟩,fun b hb=>?_,q⟩;have e:b=s.heap.objs.size:=by simpa using hb
 subst e;exact I.fpOk (au _) (I.hok.fresh (au _))
noncomputable def ItZ (d:Addr)(o:Obj)(xs:List (Key×V)):It:=⟨fun i H=>H d=some (.frz o (.dK xs))/\i<xs.length,fun i H x H'=>H'=H/\∃ kv,xs[i]? = some kv/\x=kV kv.1,fun i H=>H d=some (.frz o (.dK xs))/\xs.length<=i⟩
theorem vz {P:Program}{w:World}{K:Frag}{tg:Expr}{it d:Addr}{o:Obj}{xs:List (Key×V)}{vs:List (Key×Value)}{ep:Nat}(hne:d≠it)(rel:KV xs vs)(hat:∀ h:Heap,h.get? d=some o->h.DictAt (bR P w) d vs ep):Turn P w K tg (ItZ d o xs) [it] it (fun i h=>i<=vs.length/\h.IsKeyIter it d i vs.length ep) where
 mem:=by simp
 obj:=fun i h st b hb=>by
  have e:b=it:=by simpa using hb
  subst e;obtain⟨_,o',h1,h2,h3⟩:=st;exact⟨o',h1,fun v z=>by rw[h3] at z;cases z⟩
 keep:=fun i h h' st k=>⟨st.1,st.2.at fun o e=>k it (by simp) o e⟩
 item:=by
  intro X hp hw hK hc i pins s σ H E I hf st hg;subst hp hw hK;obtain⟨f0,f1,f2,f3,f4,f5⟩:=hf it (by simp);obtain⟨hz,hlt⟩:=hg;have ho:s.heap.get? d=some o:=(I.hok d _ hz).1;have hl:=rel.length;refine (Walks.dictKeys (I.ok.hd hc) it d hne vs ep).item i s _ _ (by omega) ⟨st.2,hat _ ho⟩ fun v h' tk hv st' kk=>?_
  obtain⟨k,x,hx,hk⟩:=hv;have I1:Inv X pins σ H { s with heap:=h',toks:=tk }:=I.turned (fun b o hb e=>kk b o (by simpa using hb) e) f0 f1 f3 f4 f5;obtain⟨oi,h1,h2,h3⟩:=st'.1;obtain⟨kv,e1⟩:∃ kv,xs[i]? = some kv:=⟨xs[i],List.getElem?_eq_getElem hlt⟩;have ek:kv.1=k:=by
   have:=gx (fun l:List Key=>l[i]?) rel.keys;simp only[List.getElem?_map,e1,hx,Option.map_some,Option.some.injEq] at this;exact this
  have rx:RelV (kV kv.1) v:=by
   rw[ek];rcases bH (show kF k v=true from hk) with ⟨i,t,rfl,rfl⟩ | ⟨x,t,rfl,rfl⟩
   ·exact⟨t,rfl⟩
   ·exact⟨t,rfl⟩
  exact⟨v,rfl,tK (s:={ s with heap:=h',toks:=tk }) (n:="dict_keyiterator") h1 h2 h3 (by decide) ⟨kV kv.1,H,I1,rx,⟨rfl,kv,e1,rfl⟩,⟨by omega,st'.1⟩,fun b hb=>(hf b hb).1⟩⟩
 done:=by
  intro X hp hw hK hc i pins s σ H E I hf st hg;subst hp hw hK;obtain⟨f0,f1,f2,f3,f4,f5⟩:=hf it (by simp);obtain⟨hz,hge⟩:=hg;have ho:s.heap.get? d=some o:=(I.hok d _ hz).1;have hl:=rel.length;have hi:i=vs.length:=by have:=st.1;omega
  subst hi;exact (Walks.dictKeys (I.ok.hd hc) it d hne vs ep).done s _ _ ⟨st.2,hat _ ho⟩ fun h' tk kk=>⟨rfl,I.turned (fun b o hb e=>kk b o (by simpa using hb) e) f0 f1 f3 f4 f5⟩
 self:=fun A i s Q E st h=>wpAny_pyIter_keyiter st.2 h
theorem Ba {a:Addr}{o:Obj}{xs:List (Key×V)}(I:Inv X pins σ H s)(hq:H a=some (.frz o (.dK xs)))(q:R (ItZ a o xs) H):wpAny (model X.prog X.w) X.A (pyIter (.ref a)) (Di X pins σ tg R) E s:=by
 have ho:s.heap.get? a=some o:=(I.hok a _ hq).1;obtain⟨z,lo,vs,rel,dd⟩:=sU I.hok (.inr ⟨_,hq⟩);obtain⟨ep,o',es,h1,h2⟩:=dd.dictAt;rw[ho] at h1;cases h1;refine wpAny_pyIter_dict lo ⟨o,es,ho,h2⟩ ?_;refine⟨s.heap.objs.size,[s.heap.objs.size],_,_,H,rfl,I.kept (t':=s.toks) fun b o e=>Heap.get?_push_of_some _ e,vz (vs:=vs) (ep:=ep) (ba (Heap.lt_size ho)) rel (fun h e=>⟨o,es,e,h2⟩),⟨dk _,⟨_,Heap.get?_push_size _ rfl,rfl,rfl⟩⟩,fun b hb=>?_,q⟩;have e:b=s.heap.objs.size:=by simpa using hb
 subst e;exact I.fpOk (au _) (I.hok.fresh (au _))
theorem vc {K:Frag}{P:Addr->Prop}{H0:Hp}{p:Addr}{o:Obj}{xs:List (Key×V)}{ks:List (Int×MV)}(h1:H0 p=some (.frz o (.dK xs)))(h2:jd K H0 ks xs):jm K P H0 (ItZ p o xs) (ks.map fun q=>.int q.1) []:=fun H e=>by
 have h1':=e.fz _ _ _ h1;have hl:=h2.len;refine⟨fun i d hd=>?_,⟨h1',by rw[ao];omega⟩⟩;have hi:i<ks.length:=by have:=(List.getElem?_eq_some_iff.mp hd).1;rwa [ao] at this
 refine⟨⟨h1',by omega⟩,fun x H' ⟨e1,kv,e2,e3⟩=>?_⟩;subst e1 e3;refine⟨aJ.refl _,[],?_,fun a ha=>nomatch ha⟩;rw[List.getElem?_map] at hd;have key:∀{ks:List (Int×MV)}{xs:List (Key×V)}{i:Nat}{kv:Key×V}{q:Int×MV},jd K H0 ks xs->xs[i]? = some kv->ks[i]? = some q->kv.1 = .inl q.1:=by
  intro ks
  induction ks with
  |nil=>intro xs i kv q _ _ h;cases h
  |cons a r ih =>
   intro xs i kv q h e1 e2;cases xs with
   |nil=>cases e1
   |cons x xs =>
    cases i with
    |zero=>cases e1;cases e2;exact h.1
    |succ i=>exact ih h.2.2 e1 e2
 cases hq:ks[i]? with
 |none=>rw[hq] at hd;cases hd
 |some q =>
  rw[hq] at hd;cases hd;rw[key h2 e2 hq];exact .int q.1
noncomputable def oJ (z:Str):List V:=z.cps.toList.map fun c=>.str ⟨#[c]⟩
theorem Ew {z:Str}{t:Tok}(I:Inv X pins σ H s)(q:R (Hf (oJ z)) H):wpAny (model X.prog X.w) X.A (pyIter (.str z t)) (Di X pins σ tg R) E s:=by
 have hlen:(oJ z).length=z.cps.size:=by simp[oJ]
 have core:∀(nm:String) (hn:["enumerate","zip","dict_itemiterator","dict_reverseitemiterator","odict_iterator","itertools.zip_longest","itertools.pairwise"].contains nm=false)
   (W:∀ A:Around,A.handled=none->Walks X.prog X.w A s.heap.objs.size [s.heap.objs.size] [s.heap.objs.size] z.cps.size (SignAt z) (fun i h=>h.IsStrIter s.heap.objs.size nm z t i))
   (slf:∀(A:Around) (i:Nat) (s':Shared) (Q E:Value->Shared->Prop),s'.heap.IsStrIter s.heap.objs.size nm z t i->Q (.ref s.heap.objs.size) s'->wpAny (model X.prog X.w) A (pyIter (.ref s.heap.objs.size)) Q E s'),
   Di X pins σ tg R (.ref s.heap.objs.size) { s with heap:=s.heap.push { cls:=.type nm,data:=.fields #[.str z t,.int 0 0] } }:=by
  intro nm hn W slf;refine⟨s.heap.objs.size,[s.heap.objs.size],(fun i h=>i<=z.cps.size/\h.IsStrIter s.heap.objs.size nm z t i),_,H,rfl,I.kept (t':=s.toks) fun b o e=>Heap.get?_push_of_some _ e,
   mQ (Pv:=SignAt z) (fun A hA=>?_) (fun i v hv=>?_) (fun i h st=>?_) (fun i h h' st k=>⟨st.1,let ⟨o,ho,r⟩:=st.2;⟨o,k o ho,r⟩⟩) (fun i h st=>by rw[hlen];exact st.1) (fun A i s Q E st h=>slf A i s Q E st.2 h),⟨dk _,⟨_,Heap.get?_push_size _ rfl,rfl,rfl⟩⟩,fun b hb=>?_,q⟩
  ·rw[hlen];have W:=W A hA;exact⟨W.sub,fun i h h' st k=>⟨st.1,W.frame i h h' st.2 k⟩,fun i s Q E hi st hQ=>W.item i s Q E hi st.2 fun v h' tk hv st' kk=>hQ v h' tk hv ⟨hi,st'⟩ kk,fun s Q E st hQ=>W.done s Q E st.2 hQ,fun i s Q E st h=>W.self i s Q E st.2 h⟩
  ·obtain⟨c,u,e,rfl⟩:=hv;exact⟨.str ⟨#[c]⟩,by simp[oJ];exact e,u,rfl⟩
  ·obtain⟨o,ho,hc,hd⟩:=st.2;exact⟨o,nm,_,ho,hc,hd,hn⟩
  ·have e:b=s.heap.objs.size:=by simpa using hb
   subst e;exact I.fpOk (au _) (I.hok.fresh (au _))
 cases ha:z.cps.all (· < 128)
 ·exact wpAny_pyIter_wide ha (core "str_iterator" (by decide) (fun A' hA=>Walks.strWide hA _ z t) fun A i s' Q E st h=>wpAny_pyIter_striter_wide st h)
 ·exact wpAny_pyIter_ascii ha (core "str_ascii_iterator" (by decide) (fun A' hA=>Walks.strAscii hA _ z t) fun A i s' Q E st h=>wpAny_pyIter_striter_ascii st h)
theorem l7 {K:Frag}{H:Hp}:∀(cs:List Nat),aI K H (cs.map fun c=>D.str ⟨#[c]⟩) (cs.map fun c=>V.str ⟨#[c]⟩) []
 |[]=>.nil
 | c::cs=>by
  show aI K H (_::_) (_::_) ([] ++ []);exact .cons (.str _) (l7 cs)
theorem yh {e:Expr}{c:Ex}(h:PE X e (tE X.K T c)):PI X tg e (tI X.K T (.seq c)):=by
 intro pins s σ H R I hq;obtain⟨P,env,F,re,p,hev,k⟩:=hq;unfold eX at hev;obtain⟨q,h1,hev⟩:=Rs.bind_ok hev;obtain⟨l,h2,hev⟩:=Rs.bind_ok hev;have h2:=cU h2;cases hev;refine cL (h pins s σ H (fun v H'=>∃ G,aJ H H'/\Rep X.K H' q.1 v G/\bV env F H q.2 H' G) I ⟨P,env,F,re,q,h1,fun v H' G s rp rt=>⟨G,s,rp,rt⟩⟩) fun u s1 ⟨v,H1,I1,r1,G,e,rp,rt⟩=>?_
 have rt':bV env F H (.sh q.2.roots) H1 G:=rt.part (fun _ h=>h) (fun _ h=>h) fun R e=>by cases e
 cases hd:q.1 with
 |lst xs =>
  rw[hd] at rp h2;cases h2;obtain⟨a,vs,g,rfl,rfl,a1,a2⟩:=rp.lst_inv;cases r1;exact zA I1 (.inl a1) (k _ H1 (a::g) e rt' (fun b hb=>rp.nn hb) fun P' hP=>vG a1 a2 hP)
 |tup xs =>
  rw[hd] at rp h2;cases h2;obtain⟨a,vs,rfl,a1,a2⟩:=rp.tup_invT;cases r1;exact wH I1 a1.sq (k _ H1 G e rt' (fun b hb=>rp.nn hb) fun P' hP=>y3 a1 a2 hP)
 |str z =>
  rw[hd] at rp h2;simp only[rm] at h2;by_cases hl:z.length<=lim
  ·rw[if_pos hl] at h2;cases h2;obtain⟨rfl,rfl⟩:=rp.str_inv;obtain⟨t,rfl⟩:=r1;exact Ew I1 (k _ H1 [] e bV.nil (fun _ h=>(nomatch h)) fun P' hP=>mW fun H=>l7 _)
  ·rw[if_neg hl] at h2;cases h2
 |mpz ks =>
  rw[hd] at rp h2;cases h2;cases rp with
  |@mpz a _ xs o hz kr =>
   cases r1;exact Ba I1 hz (k _ H1 [] e rt' (fun _ h=>(nomatch h)) fun P' hP=>vc hz kr)
 |_=>rw[hd] at h2;cases h2
theorem ko (a b:Int):(Builtin.Range.rangeSize a b 1).toNat=(b - a).toNat:=by
 rw[rangeSize_one];split<;>omega
theorem CA {es:List Expr}{cs:kZ}{it:qS}{p pos:Pos}{e0:Expr}{rest:List Expr}(hes:es=e0::rest)(hg:Gl X "range") (hm:X.mg "range" = none) (ha:PA X es (rj X.K T cs)) (hs:starEach es X.env=(false,eval e0 X.env)::starEach rest X.env) (hpl:(backTo pos (starEach rest X.env)).any (·.1)=false)
  (hit:∀ env p,eX T it env = .ok p->p.2=[]/\∃ l,aX T cs env = .ok l/\((∃ j,l.map (·.1)=[.int j]/\eZ j=true/\p.1=aQ 0 1 j.toNat)\/(∃ i j,l.map (·.1)=[.int i,.int j]/\eZ i=true/\eZ j=true/\p.1=aQ i 1 (j - i).toNat) \/
   ∃ i j k,l.map (·.1)=[.int i,.int j,.int k]/\eZ i=true/\eZ j=true/\k≠0/\k.natAbs<1073741824/\p.1=aQ i k (Builtin.Range.rangeSize i j k).toNat)) :
  PI X tg (.Call (.Name "range" p) es [] pos) (tI X.K T it):=by
 subst hes;intro pins s σ H R I hq;obtain⟨P,env,F,re,q,hev,k⟩:=hq;obtain⟨hq2,l,hl,hc⟩:=hit env q hev;refine Call_ (mn I hg hm boot_range (ij (cL (ha pos pins s σ H (fun vs H'=>∃ G,Args X.K env F H H' l vs G) I ⟨P,env,F,re,l,hl,fun vs H' G ar=>⟨G,ar⟩⟩) fun us s1 ⟨vs,H1,I1,r1,G,ar⟩=>?_) hs hpl));have rs:=ar.reps;have fin:∀(a c:Int) (n:Nat),q.1=aQ a c n->R (Hf (hJ a c n)) H1:=fun a c n e=>by
  refine k _ H1 [] ar.same bV.nil (fun _ h=>(nomatch h)) fun P' _=>?_
  rw[e];exact mW fun H=>my c n a
 have one:∀{d:D}{ds:List D}{vs:List V}{us:List Value}{G:List Addr},aI X.K H1 (d::ds) vs G->aM vs us->∀ i,d = .int i->∃ t us' vs' G',us = .int i t::us'/\vs = .int i::vs'/\aI X.K H1 ds vs' G'/\aM vs' us':=by
  intro d ds vs us G r rv i e;subst e;cases r with
  |cons r rr =>
   obtain⟨rfl,rfl⟩:=r.int_inv;cases rv with
   |cons x y =>
    obtain⟨t,rfl⟩:=x;exact⟨t,_,_,_,rfl,rfl,rr,y⟩
 have nil:∀{vs:List V}{us:List Value}{G:List Addr},aI X.K H1 [] vs G->aM vs us->us=[]:=by
  intro vs us G r rv;cases r;cases rv;rfl
 rcases hc with ⟨j,e1,e2,e3⟩ | ⟨i,j,e1,e2,e3,e4⟩ | ⟨i,j,c,e1,e2,e3,e4,e5,e6⟩
 ·rw[e1] at rs;obtain⟨t,us',vs',G',rfl,_,rs,r1⟩:=one rs r1 j rfl;obtain rfl:=nil rs r1;refine call_range_1 (j9 (c:=1) I1 (by decide) e2 (by decide) (by decide) ?_);refine fin _ _ _ ?_;rw[e3,ko];simp
 ·rw[e1] at rs;obtain⟨t,us',vs',G',rfl,_,rs,r1⟩:=one rs r1 i rfl;obtain⟨t',us'',vs'',G'',rfl,_,rs,r1⟩:=one rs r1 j rfl;obtain rfl:=nil rs r1;refine call_range_2 (j9 (c:=1) I1 e2 e3 (by decide) (by decide) ?_);refine fin _ _ _ ?_;rw[e4,ko]
 ·rw[e1] at rs;obtain⟨t,us',vs',G',rfl,_,rs,r1⟩:=one rs r1 i rfl;obtain⟨t',us'',vs'',G'',rfl,_,rs,r1⟩:=one rs r1 j rfl;obtain⟨t3,us3,vs3,G3,rfl,_,rs,r1⟩:=one rs r1 c rfl;obtain rfl:=nil rs r1;refine call_range_3 e4 (j9 (c:=c) I1 e2 e3 e4 e5 ?_) (.inl (PyProof.noPylong_small e5));exact fin _ _ _ e6
end
theorem yq {h:Heap}{o o':Obj}{b:Addr}(e:(h.push o).get? b=some o'):(b=h.objs.size/\o'=o)\/h.get? b=some o':=by
 obtain⟨e1,e2⟩:=Heap.get?_some_iff.mp e;by_cases hb:b=h.objs.size
 ·left;subst hb;refine⟨rfl,?_⟩;have:(h.push o).objs[h.objs.size]? = some o:=by cases h;simp[Heap.push]
  rw[this] at e1;exact (bu e1).symm
 ·right;refine Heap.get?_some_iff.mpr ⟨?_,e2⟩;cases h;simpa[Heap.push,Array.getElem?_push,hb] using e1
theorem DC (n b:Nat)(h:b=n+1\/b=n):n<=b:=by omega
section
variable {X:Cx}{pins:List (Addr×Obj)}{σ:L2.St}{H:Hp}{s:Shared}
theorem jC {h':Heap}{t':Nat}{ch:List Addr}(I:Inv X pins σ H s)(k:∀ b o,b∉ch->s.heap.get? b=some o->h'.get? b=some o)(hf:∀ b∈ch,je X pins H b):Inv X pins σ H { s with heap:=h',toks:=t' }:=by
 have nit:∀ b u,H b=some u->b∉ch:=fun b u e z=>by
  have:=(hf b z).1;rw[this] at e;cases e
 refine I.step (g':=s.gens) (d':=s.drawn) (ch:=ch) (fun b hb=>?_) (fun b o _ _ hc e _=>k b o hc e) (fun b o _ _ hc e _=>⟨o.slots,k b o hc e⟩) (fun _ _ _ _ n=>n)
  (fun b o hc e=>⟨o,k b o hc e⟩) (fun _ _ e=>e) (fun _ _ _ e=>e) (fun b ps e=>⟨#[],by rw[e];simp⟩) (fun m hm=>?_) (fun b u e=>?_) I.bare
 ·obtain⟨f0,f1,f2,f3,f4,f5⟩:=hf b hb;exact⟨f3,f1,f4,f5⟩
 ·obtain⟨o,es,ep,ho,r⟩:=hm;exact⟨o,es,ep,k _ o (fun z=>(hf _ z).2.1 rfl) ho,r⟩
 ·refine (I.hok b u e).stay (fun c v hc q=>k c v ?_ q) (fun _ q=>q) fun _ _ q=>q
  rcases hc with z | z
  ·rw[z];exact nit b u e
  ·exact nit c _ z
theorem paired {h':Heap}{t':Nat}{ch:List Addr}{x y:V}{u v:Value}(I:Inv X pins σ H s)(hu:RelV x u)(hv:RelV y v)(hT:h'.get? s.heap.objs.size=some { cls:=.type "tuple",data:=.seq #[u,v] })
  (k:∀ b o,b∉ch->s.heap.get? b=some o->h'.get? b=some o) (hf:∀ b∈ch,je X pins H b) (hl:∀ b∈ch,b<s.heap.objs.size):Inv X pins σ (upd H s.heap.objs.size (.tup [x,y])) { s with heap:=h',toks:=t' }:=by
 have I1:Inv X pins σ (upd H s.heap.objs.size (.tup [x,y])) { s with heap:=s.heap.push { cls:=.type "tuple",data:=.seq #[u,v] },toks:=t' } :=
  I.laid (fun _ _ q=>Heap.get?_push_of_some _ q) (au _) ⟨by show 2<=sizeLine;decide,[u,v],.cons hu (.cons hv .nil),⟨_,Heap.get?_push_size _ rfl,rfl,_,rfl⟩⟩
 refine jC (s:={ s with heap:=s.heap.push { cls:=.type "tuple",data:=.seq #[u,v] },toks:=t' }) (ch:=ch) I1 (fun b o hb q=>?_) fun b hb=>?_
 ·rcases yq q with ⟨rfl,rfl⟩ | q
  ·exact hT
  ·exact k b o hb q
 ·obtain⟨f0,f⟩:=hf b hb;exact⟨by rw[aO (ba (hl b hb))];exact f0,f⟩
end
noncomputable def Ite (K:Frag)(l:Addr):It:=⟨fun i H=>∃ xs x,mL K H l xs/\xs[i]? = some x,fun i H v H'=>∃ T x,v = .ref T/\H T=none/\(∀ xs,mL K H l xs->xs[i]? = some x)/\H'=upd H T (.tup [.int i,x]),fun i H=>∃ xs,mL K H l xs/\xs.length<=i⟩
theorem uW {P:Program}{w:World}{K:Frag}{elts:List Expr}{x1:Nat}{pos:Pos}(l e it:Addr)(hne:e≠it):Turn P w K (.Tuple elts x1 pos) (Ite K l) [e,it] e (fun i h=>(∃ old,IsEnum h e it (i:Nat) old)/\h.IsListIter it l i) where
 mem:=by simp
 obj:=fun i h st b hb=>by
  obtain⟨⟨old,he⟩,hit⟩:=st;have hb:b=e\/b=it:=by simpa using hb
  rcases hb with rfl | rfl
  ·exact⟨_,he,fun v z=>by cases z⟩
  ·obtain⟨o,e,c,d⟩:=hit;exact⟨o,e,fun v z=>by rw[d] at z;cases z⟩
 keep:=fun i h h' st k=>⟨let ⟨old,he⟩:=st.1;⟨old,k e (by simp) _ he⟩,st.2.at fun o z=>k it (by simp) o z⟩
 item:=by
  intro X hP hw hK hc i pins s σ H E I hf st hg;subst hP hw hK;obtain⟨xs,x,hq,hx⟩:=hg;obtain⟨its,rv,p,hz⟩:=I.list hq;obtain⟨u,hu,ru⟩:=rv.get hx;obtain⟨⟨old,he⟩,hit⟩:=st;have lts:∀ b∈[e,it],b<s.heap.objs.size:=fun b hb=>by
   have hb:b=e\/b=it:=by simpa using hb
   rcases hb with rfl | rfl
   ·exact Heap.lt_size he
   ·obtain⟨o,e,_⟩:=hit;exact Heap.lt_size e
  refine wpAny_pyNext_enum_item he hit p.isList (x:=u) (by simpa using hu) hne fun h' ho hit' hT hsz hk=>?_
  have I2:Inv X pins σ (upd H s.heap.objs.size (.tup [.int i,x])) { s with heap:=h',toks:=s.toks+1 } :=
   paired (ch:=[e,it]) I ⟨s.toks,rfl⟩ ru hT (fun b o hb q=>hk b o (fun z=>hb (by simp[z])) (fun z=>hb (by simp[z])) q) hf lts
  have f2:∀ b∈[e,it],je X pins (upd H s.heap.objs.size (.tup [.int i,x])) b:=fun b hb=>by
   obtain⟨f0,f⟩:=hf b hb;exact⟨by rw[aO (ba (lts b hb))];exact f0,f⟩
  refine⟨_,rfl,wpAny_letOwnedTupleGo_enum (s:={ s with heap:=h',toks:=s.toks+1 }) ho fun h2 he2 hs2=>?_⟩;refine⟨.ref s.heap.objs.size,_,jC (ch:=[e]) I2 (fun b o hb q=>hs2.extBut b o (fun z=>hb (by simp[z])) q) (fun b hb=>f2 b (by simp at hb;simp[hb])),rfl,⟨_,x,rfl,I.fresh,fun ys hy=>by rw[I.list_inj hy hq];exact hx,rfl⟩,⟨⟨_,by simpa using he2⟩,hit'.at fun o z=>hs2.extBut it o (Ne.symm hne) z⟩,fun b hb=>(f2 b hb).1⟩
 done:=by
  intro X hP hw hK hc i pins s σ H E I hf st hg;subst hP hw hK;obtain⟨xs,hq,hx⟩:=hg;obtain⟨its,rv,p,hz⟩:=I.list hq;obtain⟨⟨old,he⟩,hit⟩:=st;have hl:=rv.length;exact wpAny_pyNext_enum_end (I.ok.hd hc) he hit p.isList (by simp;omega) fun h' eb=>⟨rfl,jC (t':=s.toks) (ch:=[it]) I (fun b o hb q=>eb b o (fun z=>hb (by simp[z])) q) fun b hb=>hf b (by simp at hb;simp[hb])⟩
 self:=fun A i s Q E st h=>by
  obtain⟨⟨old,he⟩,_⟩:=st;exact wpAny_pyIter_enum he h
theorem vh {K:Frag}{P:Addr->Prop}{H0:Hp}{p:Addr}{vs:List V}{ds:List D}{G:List Addr}(h1:Rd H0 p (.lst vs))(h2:aI K H0 ds vs G)(hp:∀ a∈p::G,P a):jm K P H0 (Ite K p) (ds.zipIdx.map fun q=>.tup [.int q.2,q.1]) (p::G):=fun H e=>by
 have ep:=e.keep p (hp p ak);have h1':Rd H p (.lst vs):=by
  rcases h1 with q | ⟨o,q⟩
  ·exact .inl (ep.trans q)
  ·exact .inr ⟨o,ep.trans q⟩
 have h2':=e.reps h2 fun a ha=>hp a (ah _ ha)
 refine⟨fun i d hd=>?_,⟨vs,.inl h1',by rw[ao,List.length_zipIdx,h2.len];exact au _⟩⟩;have hd:∃ d',ds[i]? = some d'/\d = .tup [.int i,d']:=by
  rw[List.getElem?_map,List.getElem?_zipIdx] at hd;cases q:ds[i]? with
  |none=>rw[q] at hd;cases hd
  |some d'=>rw[q] at hd;simp at hd;exact⟨d',rfl,hd.symm⟩
 obtain⟨d',hd',rfl⟩:=hd;obtain⟨v,G',a,b,c⟩:=h2'.get hd';refine⟨⟨vs,v,.inl h1',a⟩,fun x H' ⟨T,x',e1,e2,e3,e4⟩=>?_⟩;subst e1 e4;have:=e3 vs (.inl h1');rw[a] at this;cases this;have sm:aJ H (upd H T (.tup [.int i,v])):=aJ.new e2;refine⟨sm,G',.tup (.inl aP) ?_,fun z hz=>ah _ (c.subset hz)⟩;have r:=aI.cons (Rep.int (K:=K) (H:=upd H T (.tup [.int i,v])) (i:Int)) (aI.cons (b.same sm) .nil);rw[ax,cz] at r;exact r
section
variable {X:Cx}{T:Tb}
theorem mT {env:En}{F:Nat->List Addr}{H H':Hp}{l:List (D×Rt)}{vs:List V}{G:List Addr}{R:List Nat}(ar:Args X.K env F H H' l vs G)(h:∀ q,q∈aS (l.map (·.2))->q∈R):bV env F H (.sh R) H' G where
 cont:=fun a ha=>(ar.cont a ha).imp id fun ⟨i,d,t,x,y,z⟩=>⟨i,d,t,x,y,fun q hq=>h q (z q hq)⟩
 mv:=fun R e=>by cases e
end
def tS (K:Frag)(T:Tb)(c:St):TS:=fun D σ H=>∃ P Z env F,RE K P env σ H F/\(∀ i,∀ a∈F i,Z a)/\(∀ a,¬ P a->Z a)/\post K P Z env F H D (aV T c env)
def BO (K:Frag)(T:Tb)(c:bJ):TS:=fun D σ H=>∃ P Z env F,RE K P env σ H F/\(∀ i,∀ a∈F i,Z a)/\(∀ a,¬ P a->Z a)/\post K P Z env F H D (aF T c env)
section
variable {K:Frag}{P Z:Addr->Prop}{env:En}{σ:L2.St}{H:Hp}{F:Nat->List Addr}{D:Ends}
theorem cD {α:Type}{x:Rs α}{k:α->Fl}(h:post K P Z env F H D (gO env x k)):∃ a,x = .ok a/\post K P Z env F H D (k a):=by
 cases x with
 |ok a=>exact⟨a,rfl,h⟩
 |exc e=>exact h.elim
 |bad=>exact h.elim
theorem After.same {H':Hp}(re:RE K P env σ H F)(hz:∀ i,∀ a∈F i,Z a)(e:aJ H H'):After K P Z env F H env σ H' F:=⟨re.same e,hz,jq.of_same re.pl e,sA.refl _ _⟩
theorem Ar {H':Hp}{r:Rt}{G:List Addr}(re:RE K P env σ H F)(hz:∀ i,∀ a∈F i,Z a)(zp:∀ a,¬ P a->Z a)(rt:bV env F H r H' G):∀ a∈G,Z a:=fun a ha=>by
 rcases rt.cont a ha with q | ⟨j,_,_,f,_⟩
 ·exact zp a fun z=>re.pl a z q
 ·exact hz j a f
end
section
variable {X:Cx}{T:Tb}{pos:Pos}{e:Expr}{c:Ex}
theorem zM:iZ X [] (BO X.K T .nil):=by
 refine i8 kO fun D σ H ⟨P,Z,env,F,re,hz,zp,h⟩=>?_
 unfold aF at h;exact h σ H F (After.same re hz (aJ.refl _))
theorem xu {st:Stmt}{rest:List Stmt}{cs:St}{cr:bJ}(h1:PS X st (tS X.K T cs))(h2:iZ X rest (BO X.K T cr)):iZ X (st::rest) (BO X.K T (.cons cs cr)):=by
 refine i8 (eP h1 h2) fun D σ H ⟨P,Z,env,F,re,hz,zp,h⟩=>⟨P,Z,env,F,re,hz,zp,?_⟩
 unfold aF at h;cases hs:aV T cs env with
 |nx env' =>
  rw[hs] at h;exact fun σ' H' F' af=>⟨P,Z,env',F',af.re,af.z,zp,post.trans af h⟩
 |bk env'=>rw[hs] at h;exact h
 |ct env'=>rw[hs] at h;exact h
 |rt d fr=>rw[hs] at h;exact h
 |xc e env'=>rw[hs] at h;exact h
 |bad=>rw[hs] at h;exact h
theorem AB:PS X (.Pass pos) (tS X.K T .pass):=by
 refine cY BF fun D σ H ⟨P,Z,env,F,re,hz,zp,h⟩=>?_
 unfold aV at h;exact h σ H F (After.same re hz (aJ.refl _))
theorem Du {x:Str}{j:Nat}{pos':Pos}:PS X (.Expr (.Constant (.str x) j pos) pos') (tS X.K T .pass):=by
 refine cY CC fun D σ H ⟨P,Z,env,F,re,hz,zp,h⟩=>?_
 unfold aV at h;exact h σ H F (After.same re hz (aJ.refl _))
theorem zE:PS X (.Return none pos) (tS X.K T .retN):=by
 refine cY Bh fun D σ H ⟨P,Z,env,F,re,hz,zp,h⟩=>?_
 unfold aV at h;exact h .non H [] .non (jq.refl _) (fun _ h=>(nomatch h)) fun _=>⟨bt,fun _ h=>(nomatch h)⟩
theorem EW (he:PE X e (tE X.K T c)):PS X (.Return (some e) pos) (tS X.K T (.ret c)):=by
 refine cY (md he) fun D σ H ⟨P,Z,env,F,re,hz,zp,h⟩=>?_
 unfold aV at h;obtain⟨p,hp,h⟩:=cD h;refine⟨P,env,F,re,p,hp,fun v H' G s rp rt=>h v H' G rp (jq.of_same re.pl s) (Ar re hz zp rt) fun fr=>?_⟩;cases hr:p.2 with
 |sh R=>rw[hr] at fr;cases fr
 |mv R =>
  rw[hr] at fr;obtain⟨a,b,d⟩:=rt.mv R hr;refine⟨a,fun x hx=>⟨fun z=>?_,b x hx⟩⟩;rcases d x hx with q | ⟨i,d2,t2,hi,f,e2,o2⟩
  ·exact re.pl x z q
  ·have:=cw.mp fr i hi;split at this
   ·rename_i d' q;exact re.wr i d' q x f z
   ·cases this
theorem A0 (he:PE X e (tE X.K T c))(hs:swapsWith e none pos.line X.env=pure false):PS X (.Expr e pos) (tS X.K T (.expr c)):=by
 refine cY (k7 he hs) fun D σ H ⟨P,Z,env,F,re,hz,zp,h⟩=>?_
 unfold aV at h;obtain⟨p,hp,h⟩:=cD h;exact⟨P,env,F,re,p,hp,fun v H' G s rp rt=>h σ H' F (After.same re hz s)⟩
theorem Cz {a b:List Stmt}{ca cb:bJ}(hc:PT X e (nZ X.K T c))(ha:iZ X a (BO X.K T ca))(hb:iZ X b (BO X.K T cb)):PS X (.If e a b pos) (tS X.K T (.ite c ca cb)):=by
 refine cY (xF hc ha hb) fun D σ H ⟨P,Z,env,F,re,hz,zp,h⟩=>?_
 unfold aV at h;obtain⟨p,hp,h⟩:=cD h;cases ht:truth p.1 with
 |none=>rw[ht] at h;exact h.elim
 |some k =>
  rw[ht] at h;refine⟨P,env,F,re,p,k,hp,ht,fun H' s=>?_⟩;have af:=After.same (Z:=Z) re hz s;cases k with
  |true=>show if true=true then _ else _;rw[if_pos rfl];exact⟨P,Z,env,F,af.re,hz,zp,post.trans af h⟩
  |false=>show if false=true then _ else _;rw[if_neg bq];exact⟨P,Z,env,F,af.re,hz,zp,post.trans af h⟩
theorem x5 {i:Nat}{x:Str}{pos':Pos}{mv:Bool}(hN:X.N.Nodup)(hi:X.N[i]? = some x)(hx:Loc X.env.scope x)(he:PE X e (tE X.K T c))(hs:swapsWith e (some (.Name x pos')) pos.line X.env=pure false)(hf:X.fn x=true\/X.env.scope.names.lookup x=some .local) :
  PS X (.Assign [.Name x pos'] e pos) (tS X.K T (.asg (.nm i) c mv)):=by
 refine cY (jn hN hi hx he hs hf) fun D σ H ⟨P,Z,env,F,re,hz,zp,h⟩=>?_
 unfold aV at h;obtain⟨p,hp,h⟩:=cD h;exact⟨P,env,F,re,p,hp,fun v H' G s rp rt=>yT re hz zp s rp rt h⟩
noncomputable def gS:List Nat->BK
 |[]=>GD
 |i::is=>BJ (jv i) (gS is)
theorem ji:∀{is:List Nat}{vs:List V}{σ:L2.St}{H:Hp}{Q:L2.St->Hp->Prop},is.length=vs.length->Q (setM is vs σ) H->gS is vs σ H Q
 |[],[],_,_,_,_,q=>⟨rfl,q⟩
 |i::is,v::vs,σ,H,Q,hl,q=>⟨v,vs,rfl,ji (is:=is) (vs:=vs) (by simpa using hl) q⟩
 |[],_::_,_,_,_,hl,_=>by simp at hl
 |_::_,[],_,_,_,hl,_=>by simp at hl
theorem A6 {tg:Expr}{is:List Nat}{mv:Bool}(hg:PG X tg (yu X.K is.length (gS is)))(he:PE X e (tE X.K T c))(hs:swapsWithSole [tg] e pos.line X.env=pure false)(hw:swappedStores [tg] e X.env=pure none)(h1:(assignEach [tg] X.env).map (·.2)=[assign tg X.env]) :
  PS X (.Assign [tg] e pos) (tS X.K T (.asg (.tp is) c mv)):=by
 refine cY (wX he hg hs hw h1) fun D σ H ⟨P,Z,env,F,re,hz,zp,h⟩=>?_
 unfold aV at h;obtain⟨p,hp,h⟩:=cD h;refine⟨P,env,F,re,p,hp,fun v H' G s rp rt=>?_⟩;have re':=re.same s;have ez:=Ar re hz zp rt;have jB:=jq.of_same (P:=P) re.pl s;unfold uI at h;cases hd:p.1 with
 |tup ds =>
  rw[hd] at h rp;obtain⟨a,vs,rfl,a1,a2⟩:=rp.tup_inv;have fin:∀{o:Option En},post X.K P Z env F H D (AD o)->(∀ env',o=some env'->∃ F',RE X.K P env' (setM is vs σ) H' F'/\(∀ i,∀ a∈F' i,Z a)/\sA env F env' F'/\is.length=vs.length)->yu X.K is.length (gS is) (.ref a) σ H' D.nx:=fun {o} h q=>by
   cases o with
   |none=>exact h.elim
   |some env' =>
    obtain⟨F',b1,b2,b3,b4⟩:=q env' rfl;exact⟨a,vs,rfl,a1,b4.symm,ji b4 (h _ H' F' ⟨b1,b2,jB,b3⟩)⟩
  have shared:post X.K P Z env F H D (if is.all (fun i=>!p.2.roots.contains i) then AD (bindM (fun d=>aU d p.2.roots) is ds env) else .bad)->yu X.K is.length (gS is) (.ref a) σ H' D.nx:=fun h=>by
   by_cases hc:is.all (fun i=>!p.2.roots.contains i)=true
   ·rw[if_pos hc] at h;refine fin h fun env' he'=>lQ re' hz a2 ez (fun x hx j d' t' ej o m=>?_) he'
    rcases rt.cont x hx with q | ⟨k,d2,t2,f,e2,sr⟩
    ·exact absurd q (re.nn ej m)
    ·exact sr j ((re.one j d' t' ej o).2.2 x m k d2 t2 e2 f)
   ·rw[if_neg hc] at h;exact h.elim
  cases hr:p.2 with
  |sh R=>rw[hr] at h shared;exact shared h
  |mv R =>
   cases R with
   |cons r0 R0=>rw[hr] at h shared;exact shared h
   |nil =>
    rw[hr] at h;obtain⟨m1,m2,m3⟩:=rt.mv [] hr;have fresh:∀ a∈G,H a=none:=fun a ha=>by
     rcases m3 a ha with q | ⟨_,_,_,q,_⟩
     ·exact q
     ·cases q
    exact fin h fun env' he'=>m9 re' hz a2 m1 m2 (fun x hx z=>re.pl x z (fresh x hx)) ez (fun x hx j m=>by
     obtain⟨d2,t2,e2⟩:=re.at' m;exact re.nn e2 m (fresh x hx)) he'
 |_=>rw[hd] at h;exact h.elim
theorem C0 {b:List Stmt}{cb:bJ}(hp:PassesOwn (model X.prog X.w) X.A X.env X.xe)(hc:PT X e (nZ X.K T c))(hb:iZ X b (BO X.K T cb)):PS X (.While e b [] pos) (tS X.K T (.whl c cb)):=by
 refine cY (xl hp hc hb) fun D σ H ⟨P,Z,env,F,re,hz,zp,h⟩=>?_
 unfold aV at h;refine⟨fun m σ' H'=>∃ env' F',After X.K P Z env F H env' σ' H' F'/\post X.K P Z env' F' H' D (fW (fun env=>(ev T c env).bind fun p=>gN (truth p.1)) (aF T cb) m env'),⟨T.fuel,env,F,After.same re hz (aJ.refl _),h⟩,fun m σ1 H1 ⟨env1,F1,af,h1⟩=>?_⟩;cases m with
 |zero=>exact h1.elim
 |succ m =>
  unfold fW at h1;obtain⟨k,hk,h1⟩:=cD h1;obtain⟨p,hp1,hk⟩:=Rs.bind_ok hk;refine⟨P,env1,F1,af.re,p,k,hp1,cU hk,fun H2 s2=>?_⟩;have af2:=After.same (Z:=Z) af.re af.z s2;cases k with
  |false =>
   show if false=true then _ else _
   rw[if_neg bq];simp only[Bool.false_eq_true,if_false] at h1;exact h1 σ1 H2 F1 af2
  |true =>
   show if true=true then _ else _
   rw[if_pos rfl];simp only[if_true] at h1;refine⟨fun σ' H'=>∃ env' F',After X.K P Z env F H env' σ' H' F'/\post X.K P Z env' F' H' D (fW (fun env=>(ev T c env).bind fun p=>gN (truth p.1)) (aF T cb) m env'),fun σ' H' q=>⟨m,Nat.lt_succ_self _,q⟩,P,Z,env1,F1,af2.re,af.z,zp,?_⟩;have h1:=post.trans af2 h1;cases hs:aF T cb env1 with
   |nx e'=>rw[hs] at h1;exact fun σ' H' F' af3=>⟨e',F',af.trans (af2.trans af3),post.trans af3 h1⟩
   |ct e'=>rw[hs] at h1;exact fun σ' H' F' af3=>⟨e',F',af.trans (af2.trans af3),post.trans af3 h1⟩
   |bk e'=>rw[hs] at h1;exact h1
   |rt d fr=>rw[hs] at h1;exact h1
   |xc x e'=>rw[hs] at h1;exact h1
   |bad=>rw[hs] at h1;exact h1
noncomputable def pQ (K:Frag):kG->TG
 |.nm i=>jv i
 |.tp is=>yu K is.length (gS is)
theorem lz {K:Frag}{P Z:Addr->Prop}{env env':En}{σ:L2.St}{H:Hp}{F:Nat->List Addr}{t:kG}{d:Pc.D}{v:V}{G:List Addr}{R:List Nat}{Q:L2.St->Hp->Prop}(re:RE K P env σ H F)(hz:∀ i,∀ a∈F i,Z a)(rp:Rep K H d v G)(gz:∀ a∈G,Z a)
  (hs:∀ a∈G,∀(j:Nat) (d':Pc.D) (t':Tg),env[j]? = some (some (d',t'))->bD t'=true->a∈F j->j∈R) (hb:aZ R t d env=some env') (hQ:∀ σ' F',RE K P env' σ' H F'->(∀ i,∀ a∈F' i,Z a)->sA env F env' F'->Q σ' H):pQ K t v σ H Q:=by
 cases t with
 |nm i =>
  simp only[aZ] at hb;by_cases hi:i<env.length
  ·rw[if_pos hi] at hb;cases hb;exact hQ _ _ (tH re hi rp hs) (nS hz gz) (lB hi qk)
  ·rw[if_neg hi] at hb;cases hb
 |tp is =>
  cases d with
  |tup ds =>
   simp only[aZ] at hb;obtain⟨a,vs,rfl,a1,a2⟩:=rp.tup_inv;obtain⟨F',b1,b2,b3,b4⟩:=lQ re hz a2 gz hs hb;exact⟨a,vs,rfl,a1,b4.symm,ji b4 (hQ _ F' b1 b2 b3)⟩
  |_=>cases hb
theorem jS {t:kG}{R:List Nat}{b:En->Fl}:∀(ds:List Pc.D) (env:En),(∀ e,bU t R b ds env≠.bk e)/\∀ e,bU t R b ds env≠.ct e
 |[],env=>⟨fun e z=>(by cases z),fun e z=>(by cases z)⟩
 | d::ds,env=>by
  unfold bU;cases aZ R t d env with
  |none=>exact⟨fun e z=>(by cases z),fun e z=>(by cases z)⟩
  |some env' =>
   simp only;cases b env' with
   |nx e'=>exact jS ds e'
   |ct e'=>exact jS ds e'
   |bk e'=>exact⟨fun e z=>(by cases z),fun e z=>(by cases z)⟩
   |rt d fr=>exact⟨fun e z=>(by cases z),fun e z=>(by cases z)⟩
   |xc x e'=>exact⟨fun e z=>(by cases z),fun e z=>(by cases z)⟩
   |bad=>exact⟨fun e z=>(by cases z),fun e z=>(by cases z)⟩
theorem Ee {tg iter:Expr}{t:kG}{it:qS}{b:List Stmt}{cb:bJ}(hp:PassesOwn (model X.prog X.w) X.A X.env X.xe)(hc:X.calm=true)(hi:PI X tg iter (tI X.K T it))(hg:PG X tg (pQ X.K t))(hb:iZ X b (BO X.K T cb))(hs:∀ x,foldedSetIterable iter X.env x=pure x) :
  PS X (.For tg iter b [] pos) (tS X.K T (.forr t it cb)):=by
 refine cY (y6 hp hc hi hg hb hs) fun D σ H ⟨P,Z,env,F,re,hz,zp,h⟩=>?_
 unfold aV at h;obtain⟨p,hp,h⟩:=cD h;refine⟨P,env,F,re,p,hp,fun J H1 G s1 rt nn wk=>?_⟩;have af1:=After.same (Z:=Z) re hz s1;have h:=post.trans af1 h;let P':Addr->Prop:=fun a=>P a\/a∈G
 have wk:=wk P' fun a ha=>.inr ha
 have seen:∀ a∈G,∀(i:Nat) (d:Pc.D) (t:Tg),env[i]? = some (some (d,t))->bD t=true->a∈F i->i∈p.2:=fun a ha i d t e o m=>by
  rcases rt.cont a ha with q | ⟨k,d2,t2,f,e2,sr⟩
  ·exact absurd q (re.nn e m)
  ·exact sr i ((re.one i d t e o).2.2 a m k d2 t2 e2 f)
 have reL:RE X.K P' (lock p.2 env) σ H1 F:=af1.re.locked nn seen;have gz:∀ a∈G,Z a:=Ar re hz zp rt;let E':Ends:={ D with nx:=fun σ' H'=>∀ env' F',After X.K P' Z (lock p.2 env) F H1 env' σ' H' F'->D.nx σ' H' };have stepP:∀{f:Fl},(∀ e,f≠.bk e)->(∀ e,f≠.ct e)->post X.K P Z env F H1 D (match f with | .nx e=>.nx (unlock p.2 env e) | x=>x)->post X.K P' Z (lock p.2 env) F H1 D f:=fun {f} nb nc h=>by
  cases f with
  |nx e=>exact fun σ' H' F' af=>h σ' H' F' (af.unlocked af1.re)
  |bk e=>exact absurd rfl (nb e)
  |ct e=>exact absurd rfl (nc e)
  |rt d fr=>exact fun v H' G' rp ev z f=>h v H' G' rp (ev.weak fun _ q=>.inl q) z fun w=>⟨(f w).1,fun a ha=>⟨fun q=>((f w).2 a ha).1 (.inl q),((f w).2 a ha).2⟩⟩
  |xc x e=>exact h
  |bad=>exact h
 have h:=stepP (jS _ _).1 (jS _ _).2 h;have zpL:∀ a,¬ P' a->Z a:=fun a ha=>zp a fun q=>ha (.inl q)
 refine⟨fun i m σ' H'=>m=p.1.length - i/\i<=p.1.length/\∃ env' F',After X.K P' Z (lock p.2 env) F H1 env' σ' H' F'/\post X.K P' Z env' F' H' D (bU t p.2 (aF T cb) (p.1.drop i) env'),⟨p.1.length,by simp,Nat.zero_le _,lock p.2 env,F,After.same reL hz (aJ.refl _),by simpa using h⟩,?_⟩;rintro i m σ2 H2 ⟨rfl,hi,env2,F2,af2,h2⟩;obtain⟨w1,w2⟩:=wk H2 af2.ev;by_cases hlt:i<p.1.length
 ·right;have hd:p.1[i]? = some p.1[i]:=by simp[hlt]
  obtain⟨g1,g2⟩:=w1 i _ hd;refine⟨g1,fun σ' H'=>∃ env' F',After X.K P' Z (lock p.2 env) F H1 env' σ' H' F'/\post X.K P' Z env' F' H' D (bU t p.2 (aF T cb) (p.1.drop (i+1)) env'),fun σ' H' q=>⟨p.1.length - (i+1),by omega,rfl,hlt,q⟩,fun x H3 y=>?_⟩;obtain⟨s3,G3,rp3,sub3⟩:=g2 x H3 y;have af3:=After.same (Z:=Z) af2.re af2.z s3;have h2:=post.trans af3 h2;rw[fh hlt] at h2;unfold bU at h2;cases hb:aZ p.2 t p.1[i] env2 with
  |none=>rw[hb] at h2;exact h2.elim
  |some env4 =>
   rw[hb] at h2;refine lz af3.re af2.z rp3 (fun a ha=>gz a (sub3 a ha)) (fun a ha j d' t' ej o m=>?_) hb fun σ4 F4 re4 z4 lk4=>?_
   ·cases t' with
    |own=>exact absurd (.inr (sub3 a ha)) (af2.re.wr j d' ej a m)
    |lk =>
     obtain⟨e5,e6⟩:=af2.lk j d' ej;rw[e6] at m;obtain⟨t0,e0,o0,_⟩:=eO e5;exact seen a (sub3 a ha) j d' t0 e0 (o0.trans o) m
    |sh Q=>cases o
   ·have af4:After X.K P' Z env2 F2 H3 env4 σ4 H3 F4:=⟨re4,z4,jq.refl _,lk4⟩;refine⟨P',Z,env4,F4,re4,z4,zpL,?_⟩;have h2:=post.trans af4 h2;have all:=(af2.trans af3).trans af4;cases hs:aF T cb env4 with
    |nx e'=>simp only[hs] at h2;exact fun σ' H' F' af5=>⟨e',F',all.trans af5,post.trans af5 h2⟩
    |ct e'=>simp only[hs] at h2;exact fun σ' H' F' af5=>⟨e',F',all.trans af5,post.trans af5 h2⟩
    |bk e'=>simp only[hs] at h2;exact h2
    |rt d fr=>simp only[hs] at h2;exact h2
    |xc x e'=>simp only[hs] at h2;exact h2
    |bad=>simp only[hs] at h2;exact h2
 ·left;have e:i=p.1.length:=by omega
  subst e;rw[h9] at h2;exact⟨w2,h2 σ2 H2 F2 (After.same af2.re af2.z (aJ.refl _))⟩
end
noncomputable def gR (cells:List (Str×Addr)):List (Str×NameKind)->List (Str×Addr)->List (Str×Addr)
 |[],acc=>acc
 | (n,k)::r,acc=>gR cells r (if k == .free then (match cells.lookup n with | some c=>(n,c)::acc | none=>acc) else acc)
theorem rH {scope:Scope}{env:Env}(h:∀ x,(x,NameKind.free)∈scope.names->∃ c,env.cells.lookup x=some c):closureFor scope env=pure (gR env.cells scope.names []):=by
 unfold closureFor;have gen:∀(names:List (Str×NameKind)) (acc:List (Str×Addr)),(∀ x,(x,NameKind.free)∈names->∃ c,env.cells.lookup x=some c) ->
   (forIn names acc fun (p:Str×NameKind) (cs:List (Str×Addr))=>(match p with
    | (name,kind)=>if (kind == .free)=true then (do let c <- cellOf env name;pure (ForInStep.yield ((name,c)::cs))) else pure (ForInStep.yield cs):Sem (ForInStep (List (Str×Addr)))))=(pure (gR env.cells names acc):Sem (List (Str×Addr))):=by
  intro names
  induction names with
  |nil=>intro acc _;rfl
  |cons x r ih =>
   intro acc hx;obtain⟨n,k⟩:=x;rw[List.forIn_cons];simp only[gR];have hr:∀ x,(x,NameKind.free)∈r->∃ c,env.cells.lookup x=some c:=fun x hm=>hx x (ah _ hm)
   by_cases hk:(k==NameKind.free)=true
   ·have e:k = .free:=by simpa using hk
    subst e;obtain⟨c,hc⟩:=hx n ak;simp only[hk,if_true,cellOf,hc];exact ih ((n,c)::acc) hr
   ·simp only[hk,if_false];exact ih acc hr
 have:=gen scope.names [] h;simpa using this
theorem nW {cells:List (Str×Addr)}{x:Str}{c:Addr}:∀{names:List (Str×NameKind)}{acc:List (Str×Addr)},(∀ y d,acc.lookup y=some d->cells.lookup y=some d)->(gR cells names acc).lookup x=some c->cells.lookup x=some c
 |[],acc,ha,h=>ha x c h
 | (n,k)::r,acc,ha,h=>by
  simp only[gR] at h;refine nW (names:=r) (fun y d q=>?_) h;by_cases hk:(k==NameKind.free)=true
  ·rw[if_pos hk] at q;cases hc:cells.lookup n with
   |none=>rw[hc] at q;exact ha y d q
   |some e =>
    rw[hc] at q;simp only[List.lookup_cons] at q;cases hy:y==n with
    |true =>
     rw[hy] at q;have:=eq_of_beq hy;subst this;rw[hc];exact q
    |false=>rw[hy] at q;exact ha y d q
  ·rw[if_neg hk] at q;exact ha y d q
theorem nR {cells:List (Str×Addr)}{x:Str}:∀{names:List (Str×NameKind)}{acc:List (Str×Addr)},(∃ c,acc.lookup x=some c)->∃ c,(gR cells names acc).lookup x=some c
 |[],acc,h=>h
 | (n,k)::r,acc,h=>by
  simp only[gR];refine nR (names:=r) ?_;by_cases hk:(k==NameKind.free)=true
  ·rw[if_pos hk];cases hc:cells.lookup n with
   |none=>exact h
   |some e =>
    simp only[List.lookup_cons];cases hy:x==n with
    |true=>exact⟨e,rfl⟩
    |false=>exact h
  ·rw[if_neg hk];exact h
theorem lF {cells:List (Str×Addr)}{x:Str}{c:Addr}(hc:cells.lookup x=some c):∀{names:List (Str×NameKind)}{acc:List (Str×Addr)},(x,NameKind.free)∈names->∃ c,(gR cells names acc).lookup x=some c
 |[],acc,h=>by cases h
 | (n,k)::r,acc,h=>by
  simp only[gR];rcases iy.mp h with e | h
  ·cases e;refine nR (names:=r) ?_;simp only[beq_self_eq_true,if_true,hc,List.lookup_cons];exact⟨c,rfl⟩
  ·exact lF hc (names:=r) h
noncomputable def inner (X:Cx)(scope:Scope)(N':List Str)(C:Addr)(s0:Shared)(H0:Hp)(ex:List Addr):Cx :=
 { X with N:=N',s₀:=s0,H₀:=H0,env:=compEnvC scope (cellsFrom (C+1) scope.names (gR X.env.cells scope.names [])) C X.env,outer:=X.stack,stack:=X.stack,ex:=ex,fn:=fun x=>scope.names.lookup x==some .cell,pn:=[],xe:=fun _ _=>False }
structure eJ (X:Cx)(scope:Scope)(N':List Str)(pick:List (Option Nat)):Prop where
 kind:scope.kind = .function
 cells:∀ y∈scope.names,y.2 = .cell->scope.names.lookup y.1=some .cell
 names:∀ y∈scope.names,y.2 = .local->scope.names.lookup y.1=some .local
 len:pick.length=N'.length
 outer:∀ x,scope.names.lookup x=some .free->(X.env.kindOf x=some .cell\/X.env.kindOf x=some .free)
 free:∀ x,(x,NameKind.free)∈scope.names->scope.names.lookup x=some .free
 pick:∀(i j:Nat) (x:Str),pick[i]? = some (some j)->N'[i]? = some x->scope.names.lookup x=some .free/\X.N[j]? = some x
noncomputable def fY (σ:L2.St)(pick:List (Option Nat)):L2.St:=pick.map fun o=>o.bind fun j=>(σ[j]?).join
theorem fA {env:Env}:∀{names:List (Str×NameKind)}{x:Str}{k:NameKind},(names.map fun (n,k)=>if (k==NameKind.free&&env.scope.kind == .function&&env.kindOf n==some .cell) then (n,NameKind.cell) else (n,k)).lookup x=some k ->
  ∃ k0,names.lookup x=some k0/\(k=k0\/(k0 = .free/\k = .cell))
 |[],_,_,h=>by simp at h
 | (n,k0)::r,x,k,h=>by
  rw[av] at h;by_cases hc:(k0==NameKind.free&&env.scope.kind == .function&&env.kindOf n==some .cell)=true
  ·simp only[hc,if_true,List.lookup_cons] at h;simp only[List.lookup_cons];cases hx:x==n with
   |true =>
    rw[hx] at h;cases h;rw[aj,aj] at hc;exact⟨k0,rfl,.inr ⟨by simpa using hc.1.1,rfl⟩⟩
   |false=>rw[hx] at h;exact fA h
  ·have hc:(k0==NameKind.free&&env.scope.kind == .function&&env.kindOf n==some .cell)=false:=by simpa using hc
   simp only[hc,Bool.false_eq_true,if_false,List.lookup_cons] at h;simp only[List.lookup_cons];cases hx:x==n with
   |true=>rw[hx] at h;cases h;exact⟨k0,rfl,.inl rfl⟩
   |false=>rw[hx] at h;exact fA h
theorem fP {env:Env}:∀{names:List (Str×NameKind)}{x:Str},names.lookup x=some .free ->
  (names.map fun (n,k)=>if (k==NameKind.free&&env.scope.kind == .function&&env.kindOf n==some .cell) then (n,NameKind.cell) else (n,k)).lookup x=some .cell \/
  (names.map fun (n,k)=>if (k==NameKind.free&&env.scope.kind == .function&&env.kindOf n==some .cell) then (n,NameKind.cell) else (n,k)).lookup x=some .free
 |[],_,h=>by simp at h
 | (n,k0)::r,x,h=>by
  rw[av];by_cases hc:(k0==NameKind.free&&env.scope.kind == .function&&env.kindOf n==some .cell)=true
  ·simp only[hc,if_true,List.lookup_cons] at h ⊢;cases hx:x==n with
   |true=>left;rfl
   |false=>rw[hx] at h;exact fP h
  ·have hc:(k0==NameKind.free&&env.scope.kind == .function&&env.kindOf n==some .cell)=false:=by simpa using hc
   simp only[hc,Bool.false_eq_true,if_false,List.lookup_cons] at h ⊢;cases hx:x==n with
   |true=>rw[hx] at h;cases h;right;rfl
   |false=>rw[hx] at h;exact fP h
theorem gU:∀(names:List (Str×NameKind)) (n:Nat) (acc:List (Str×Addr)),cellsFrom n names acc=cellsFrom n names []++acc
 |[],_,_=>rfl
 | (nm,k)::r,n,acc=>by
  unfold cellsFrom;split
  ·rw[gU r (n+1) ((nm,n)::acc),gU r (n+1) [(nm,n)],cf];rfl
  ·exact gU r n acc
theorem sy:∀(names:List (Str×NameKind)) (n:Nat) {x:Str}{c:Addr},(x,c)∈cellsFrom n names []->(x,NameKind.cell)∈names
 |[],_,_,_,h=>by cases h
 | (nm,k)::r,n,x,c,h=>by
  unfold cellsFrom at h;split at h
  ·rename_i hk;rw[gU] at h;rcases List.mem_append.mp h with h | h
   ·exact ah _ (sy r _ h)
   ·have e:(x,c)=(nm,n):=by simpa using h
    cases e;rw[show k = .cell by simpa using hk];exact ak
  ·exact ah _ (sy r _ h)
theorem oq:∀(names:List (Str×NameKind)) (n:Nat) {x:Str},(x,NameKind.cell)∈names->∃ c,(cellsFrom n names []).lookup x=some c
 | (nm,k)::r,n,x,h=>by
  unfold cellsFrom;rcases iy.mp h with e | h
  ·cases e;rw[if_pos (by decide),gU,gv];cases (cellsFrom (n+1) r []).lookup nm with
   |some c=>exact⟨c,rfl⟩
   |none=>exact⟨n,by simp⟩
  ·split
   ·obtain⟨c,hc⟩:=oq r (n+1) h;rw[gU,gv,hc];exact⟨c,rfl⟩
   ·exact oq r n h
theorem nfe {M:Model}{A:Around}{E:Value->Shared->Prop}{s:Shared}{scope:Scope}{globals:Addr}{cl:List (Str×Addr)}{qual:Str}{env:Env}{Q:Env->Shared->Prop}
  (h:Q { scope:=scope,locals:=s.heap.objs.size,globals:=globals,cells:=cellsFrom (s.heap.objs.size+1) scope.names cl,qual:=qual,func:=none,code:=env.code,frame:=env.frame,builtins:=env.builtins } { s with heap:=pushCells (s.heap.push { cls:=.type "dict",data:=.dict #[] }) scope.names }) :
  wpAny M A (newFunctionEnv scope globals cl [] qual none .none (some env)) Q E s:=by
 simp only[newFunctionEnv,Option.isSome_some,if_true];refine wpAny_bind (wpAny_alloc (wpAny_bind (wpAny_layCells _ (fun name kind cells=>by cases hkc:kind==NameKind.cell<;>simp[hkc]) _ _ _ _ ?_)));rw[show ({ s with heap:=s.heap.push { cls:=.type "dict",data:=.dict #[] } }:Shared).heap.objs.size=s.heap.objs.size+1 from Heap.size_push ..];exact wpAny_pure h
section
variable {X:Cx}{scope:Scope}{N':List Str}{pick:List (Option Nat)}{pins:List (Addr×Obj)}{σ:L2.St}{H:Hp}{s:Shared}
theorem pU (S:eJ X scope N' pick)(I:Inv X pins σ H s){fp:List Addr}(hf:∀ b∈fp,je X pins H b)(hl:∀ b∈fp,b<s.heap.objs.size) :
  Inv (inner X scope N' s.heap.objs.size s H fp) [] (fY σ pick) H { s with heap:=pushCells (s.heap.push { cls:=.type "dict",data:=.dict #[] }) scope.names }:=by
 have old:∀ x c,(gR X.env.cells scope.names []).lookup x=some c->X.env.cells.lookup x=some c:=fun x c h=>nW (acc:=[]) (fun y d q=>by simp at q) h
 have hk:∀ b o,s.heap.get? b=some o->(pushCells (s.heap.push { cls:=.type "dict",data:=.dict #[] }) scope.names).get? b=some o:=fun b o e=>pushCells_keeps _ _ b o (Heap.get?_push_of_some _ e)
 have hn:(pushCells (s.heap.push { cls:=.type "dict",data:=.dict #[] }) scope.names).Ns s.heap.objs.size (fun _=>none):=(Heap.Ns.new s.heap (.type "dict")).keeps (pushCells_keeps _ _);have ok:=cellsFrom_ok scope.names (s.heap.push { cls:=.type "dict",data:=.dict #[] }) (s.heap.objs.size+1) [] ⟨fun _ _ hm=>(nomatch hm),List.Pairwise.nil⟩ (by rw[Heap.size_push];exact au _);rw[Heap.size_push] at ok;generalize hh:pushCells (s.heap.push { cls:=.type "dict",data:=.dict #[] }) scope.names=h' at *;have oldlt:∀ x c,X.env.cells.lookup x=some c->c<s.heap.objs.size:=fun x c h=>by
  obtain⟨v,hv⟩:=I.cell x c h;exact hv.lt
 have look:∀ x c,(cellsFrom (s.heap.objs.size+1) scope.names (gR X.env.cells scope.names [])).lookup x=some c->((x,c)∈cellsFrom (s.heap.objs.size+1) scope.names []/\s.heap.objs.size+1<=c)\/((x,NameKind.cell)∉scope.names/\X.env.cells.lookup x=some c):=fun x c h=>by
  rw[gU,gv] at h;cases q:(cellsFrom (s.heap.objs.size+1) scope.names []).lookup x with
  |some c' =>
   rw[q] at h;cases h;have hm:=cg q;exact .inl ⟨hm,(ok.empty _ _ hm).2⟩
  |none =>
   rw[q] at h;refine .inr ⟨fun z=>?_,old x c h⟩;obtain⟨c',hc'⟩:=oq scope.names (s.heap.objs.size+1) z;rw[q] at hc';cases hc'
 have sees:∀ x c,scope.names.lookup x=some .free->(gR X.env.cells scope.names []).lookup x=some c->(cellsFrom (s.heap.objs.size+1) scope.names (gR X.env.cells scope.names [])).lookup x=some c:=fun x c hx h=>by
  rw[gU,gv];cases q:(cellsFrom (s.heap.objs.size+1) scope.names []).lookup x with
  |some c' =>
   have:=S.cells _ (sy _ _ (cg q)) rfl;rw[hx] at this;cases this
  |none=>rw[h];rfl
 refine⟨⟨I.ok.mod,S.kind,I.ok.glob,I.ok.blt,au _,fun x y c h1 h2=>?inj,fun x hx=>?_,fun x c hx h=>?cab,I.ok.hd,I.ok.frames,.inl rfl,fun b hb=>?_,I.bs,bj I.ok.bsz I.sz,fun b o e hb=>?_,fun b hb hb'=>?_,I.stack,I.stkFree⟩,
  rfl,I.bare,Un.kept hk,⟨_,hn,fun i x v h1 h2 h3=>?_⟩,fun x c h=>?_,I.hok.fresh (Nat.le_refl _),fun x c h=>?frc,fun p hp=>absurd (show p∈([]:List (Addr×Obj)) from hp) (by simp),I.hok.kept hk,?_⟩
 case inj =>
  rcases look x c h1 with ⟨m1,l1⟩ | ⟨_,o1⟩<;>rcases look y c h2 with ⟨m2,l2⟩ | ⟨_,o2⟩
  ·exact name_of_addr ok.apart m1 m2
  ·exact absurd (ay (oldlt y c o2) (Nat.le_of_succ_le l1)) (du _)
  ·exact absurd (ay (oldlt x c o1) (Nat.le_of_succ_le l2)) (du _)
  ·exact I.ok.inj x y c o1 o2
 case cab =>
  have hx:scope.names.lookup x=some .cell:=by simpa[inner] using hx
  rcases look x c h with ⟨_,l1⟩ | ⟨n1,_⟩
  ·exact bj (Nat.le_succ _) l1
  ·exact absurd (cg hx) n1
 case frc =>
  rcases look x c h with ⟨_,l1⟩ | ⟨_,o1⟩
  ·exact I.hok.fresh (bj (Nat.le_succ _) l1)
  ·exact I.freeC x c o1
 ·have hx:(relabel scope X.env).names.lookup x=some .cell\/(relabel scope X.env).names.lookup x=some .free:=hx;have hfree:scope.names.lookup x=some .free\/scope.names.lookup x=some .cell:=by
   rcases hx with hx | hx
   ·obtain⟨k0,h1,h2 | ⟨h2,_⟩⟩:=fA hx
    ·subst h2;exact .inr h1
    ·rw[h2] at h1;exact .inl h1
   ·obtain⟨k0,h1,h2 | ⟨h2,h3⟩⟩:=fA hx
    ·subst h2;exact .inl h1
    ·cases h3
  rcases hfree with hfree | hfree
  ·obtain⟨c,hc⟩:=I.ok.has x (S.outer x hfree);obtain⟨c',hc'⟩:=lF (acc:=[]) hc (cg hfree);exact⟨c',sees x c' hfree hc'⟩
  ·obtain⟨c,hc⟩:=oq scope.names (s.heap.objs.size+1) (cg hfree);refine⟨c,?_⟩;show (cellsFrom (s.heap.objs.size+1) scope.names (gR X.env.cells scope.names [])).lookup x=some c;rw[gU,gv,hc];rfl
 ·refine⟨ba (hl b hb),fun x c h=>?_⟩;rcases look x c h with ⟨_,l1⟩ | ⟨_,o1⟩
  ·exact fun e=>du _ (ay (hl b hb) (e ▸ Nat.le_of_succ_le l1))
  ·exact (hf b hb).2.2.2.2.1 x c o1
 ·obtain⟨f0,f1,f2,f3,f4,f5⟩:=hf b hb;rcases f3 with f3 | f3
  ·exact I.ok.noex b o e f3
  ·exact absurd (ay (Heap.lt_size e) (bj I.ok.bsz f3)) (du _)
 ·obtain⟨f0,f1,f2,f3,f4,f5⟩:=hf b hb;exact (iy.mp (I.stkSub b hb')).elim f1 f2
 ·
  have h2':(pick.map fun o=>o.bind fun j=>(σ[j]?).join)[i]? = some (some v):=h2;rw[List.getElem?_map] at h2';cases hp:pick[i]? with
  |none=>rw[hp] at h2';cases h2'
  |some o =>
   rw[hp] at h2';cases o with
   |none=>simp at h2'
   |some j =>
    simp only[Option.map_some,Option.bind_some,Option.some.injEq] at h2';have hj:σ[j]? = some (some v):=by
     cases q:σ[j]? with
     |none=>rw[q] at h2';cases h2'
     |some o=>rw[q] at h2';cases o with
      |none=>cases h2'
      |some w=>simp at h2';rw[h2']
    obtain⟨k1,k2⟩:=S.pick i j x hp h1;obtain⟨m0,hn0,hl0⟩:=I.loc;have vis:BQ X.env.scope x:=by
     rcases S.outer x k1 with q | q
     ·exact .inr (.inl q)
     ·exact .inr (.inr q)
    obtain⟨u,r,lk⟩:=hl0 j x v k2 hj vis;refine⟨u,r,?_⟩;rcases lk with ⟨z,_⟩ | ⟨_,c,hc,hcell⟩
    ·rcases S.outer x k1 with q | q<;>· rw[z] at q;cases q
    ·obtain⟨c',hc'⟩:=lF (names:=scope.names) (acc:=[]) hc (cg k1);have:=old x c' hc';rw[hc] at this;cases this;refine .inr ⟨fP k1,c,sees x c k1 hc',?_⟩;obtain⟨o,ho,hd⟩:=hcell;exact⟨o,hk c o ho,hd⟩
 ·rcases look x c h with ⟨m1,_⟩ | ⟨_,o1⟩
  ·exact⟨none,(ok.empty _ _ m1).1⟩
  ·obtain⟨v,o,ho,hd⟩:=I.cell x c o1;exact⟨v,o,hk c o ho,hd⟩
 ·show (pick.map _).length=N'.length;rw[ao,S.len]
end
noncomputable abbrev sX (ifs:List Expr)(env:Env):Sem Bool:=forIn ifs true fun c r=>if r=true then do let ok <- isTrue c env (eval c env);pure (ForInStep.yield ok) else pure (ForInStep.yield r)
noncomputable def Fu (X:Cx)(ifs:List Expr)(t:TT):Prop :=
 ∀(pins:List (Addr×Obj)) (s:Shared) (σ:L2.St) (H:Hp) (Q:Bool->Hp->Prop),Inv X pins σ H s->t σ H Q->wpAny (model X.prog X.w) X.A (sX ifs X.env) (TP X pins σ Q) X.xe s
theorem Be {X:Cx}:Fu X [] (fun _ H Q=>Q true H):=fun _ _ _ H Q I h=>wpAny_tests_nil ⟨H,I,h⟩
theorem Av {X:Cx}{c:Expr}{t:TT}(h:PT X c t):Fu X [c] t:=fun pins s σ H Q I q=>wpAny_tests_one (h pins s σ H Q I q)
section
variable {prog:Program}{w:World}{A:Around}{R:Result->Shared->Prop}{s:Shared}
theorem qg {elt target iter:Expr}{ifs:List Expr}{scope:Scope}{pos:Pos}{it acc:Value}{env:Env}(I:Nat->Shared->Prop)
  (turn:∀ n s,I n s->wpAny (model prog w) A (pyNext it) (fun r s₁=>match r with
   |none=>R (.ok .next) s₁
   |some v=>wpAny (model prog w) A (letOwnedTupleGo target it v) (fun _ s₀=>wpAny (model prog w) A (assign target env v) (fun _ s₂ =>
     wpAny (model prog w) A (sX ifs env) (fun ok s₃ =>
      if ok=true then wpAny (model prog w) A (eval elt env) (fun x s₄ =>
       wpAny (model prog w) A (call (.builtin "list.append") [acc,x]) (fun _ s₅=>∃ m,m<n/\I m s₅) (fun _ _=>False) s₄) (fun _ _=>False) s₃
      else ∃ m,m<n/\I m s₃) (fun _ _=>False) s₂) (fun _ _=>False) s₀) (fun _ _=>False) s₁) (fun _ _=>False) s)
  (n:Nat) (h:I n s):codeAny (model prog w) A (.compLoop (.ListComp elt [⟨target,iter,ifs,0⟩] scope pos) 0 it acc env) R s:=by
 refine codeAny_loop rfl I (fun n s hI=>?_) n h;show wpAny _ A ((compTurn (.ListComp elt [⟨target,iter,ifs,0⟩] scope pos) 0 it acc env).onRaise (fun x=>do noteFrame x env;theTreesLotGoes x)) _ _ s;refine wpAny_noted ?_;rw[compTurn_list];refine wpAny_bind (wpAny_standAt (wpAny_bind (wpAny_mono (turn n s hI) (fun r s₁ h₁=>?_) fun _ _ h'=>h'.elim)));cases r with
 |none=>exact wpAny_pure h₁
 |some v =>
  refine wpAny_bind (wpAny_mono h₁ (fun _ s₀ h₀=>?_) fun _ _ h'=>h'.elim);refine wpAny_bind (wpAny_mono h₀ (fun _ s₂ h₂=>wpAny_bind (wpAny_mono h₂ (fun ok s₃ h₃=>?_) fun _ _ h'=>h'.elim)) fun _ _ h'=>h'.elim);cases ok with
  |false=>exact wpAny_pure ⟨rfl,h₃⟩
  |true =>
   exact wpAny_bind (wpAny_bind (wpAny_mono h₃ (fun x s₄ h₄=>wpAny_bind (wpAny_mono h₄ (fun _ s₅ h₅=>wpAny_pure (wpAny_pure ⟨rfl,h₅⟩)) fun _ _ h'=>h'.elim)) fun _ _ h'=>h'.elim))
end
def zk (pick:List (Option Nat))(wi:TI)(g:TG)(tt:TT)(te:TE):TE:=fun σ H Q=>wi σ H fun J H1=>∀ l,H1 l=none->∃ W:Nat->Nat->Hp->Prop,(∃ m,W 0 m (upd H1 l (.lst [])))/\∀ i m H,W i m H ->
 (J.stop i H/\Q (.ref l) H)\/(J.go i H/\∃ N:Hp->Prop,(∀ H',N H'->∃ m',m'<m/\W (i+1) m' H')/\∀ x H',J.yld i H x H'->g x (fY σ pick) H' fun σ2 H2 =>
  tt σ2 H2 fun b H3=>if b=true then te σ2 H3 fun y H4=>∃ xs,H4 l=some (.lst xs)/\xs.length<sizeLine/\N (upd H4 l (.lst (xs ++ [y]))) else N H3)
section
variable {X:Cx}{scope:Scope}{N':List Str}{pick:List (Option Nat)}{tg iter elt:Expr}{ifs:List Expr}{pos:Pos}{wi:TI}{g:TG}{tt:TT}{te:TE}
theorem mh (S:eJ X scope N' pick)(hc:X.calm=true)(hin:∀ C s0 H0 ex,PG (inner X scope N' C s0 H0 ex) tg g/\Fu (inner X scope N' C s0 H0 ex) ifs tt/\PE (inner X scope N' C s0 H0 ex) elt te)
  (gk:∀(v:V) (σ:L2.St) (H:Hp) (Q:L2.St->Hp->Prop),g v σ H Q->g v σ H fun σ' H'=>Q σ' H'/\σ'.length=σ.length/\∀(i:Nat) u,pick[i]?≠some none->σ[i]? = some u->σ'[i]? = some u)
  {pins:List (Addr×Obj)}{σ:L2.St}{H:Hp}{s:Shared}{it:Addr}{fp:List Addr}{tn:Nat->Heap->Prop}{J:It}{E:Value->Shared->Prop}{RR:Value->Addr->Result->Shared->Prop}(I:Inv X pins σ H s) (T:Turn X.prog X.w X.K tg J fp it tn) (st:tn 0 s.heap) (hf:∀ b∈fp,je X pins H b)
  (Q:VK) (h:∀ l,H l=none->∃ W:Nat->Nat->Hp->Prop,(∃ m,W 0 m (upd H l (.lst [])))/\∀ i m H,W i m H ->
   (J.stop i H/\Q (.ref l) H)\/(J.go i H/\∃ N:Hp->Prop,(∀ H',N H'->∃ m',m'<m/\W (i+1) m' H')/\∀ x H',J.yld i H x H'->g x (fY σ pick) H' fun σ2 H2 =>
    tt σ2 H2 fun b H3=>if b=true then te σ2 H3 fun y H4=>∃ xs,H4 l=some (.lst xs)/\xs.length<sizeLine/\N (upd H4 l (.lst (xs ++ [y]))) else N H3))
  (hR:∀(l C:Addr) (s':Shared) (H':Hp) (m:Str->Option Value),s'.heap.Ns C m->je X pins H' C->Q (.ref l) H'->Inv X pins σ H' s'->RR (.ref l) C (.ok .next) s') :
  wpAny (model X.prog X.w) X.A (newList []) (fun acc s₃=>wpAny (model X.prog X.w) X.A (newFunctionEnv scope X.env.globals (gR X.env.cells scope.names []) [] X.env.qual none .none (some X.env)) (fun cenv s₄ =>
   codeAny (model X.prog X.w) X.A (.compStart (.ListComp elt [⟨tg,iter,ifs,0⟩] scope pos) 0 (.ref it) acc { cenv with scope:=relabel scope X.env }) (RR acc cenv.locals) s₄) E s₃) E s:=by
 have hltI:∀ b∈fp,b<s.heap.objs.size:=fun b hb=>let ⟨o,e,_⟩:=T.obj 0 _ st b hb;Heap.lt_size e
 refine wpAny_newObj_type (nfe ?_);dsimp only;have I3:Inv X pins σ (upd H s.heap.objs.size (.lst [])) { s with heap:=s.heap.push { cls:=.type "list",data:=.seq ([]:List Value).toArray } }:=I.lnew (ys:=[]) (its:=[]) (t':=s.toks) .nil (dk _);obtain⟨W,⟨m0,w0⟩,turn⟩:=h s.heap.objs.size I.fresh;have hC:(s.heap.push { cls:=.type "list",dict:=none,data:=.seq ([]:List Value).toArray }).objs.size=s.heap.objs.size+1:=Heap.size_push ..;have hf3:∀ b∈fp,je X pins (upd H s.heap.objs.size (.lst [])) b:=fun b hb=>⟨by rw[aO (ba (hltI b hb))];exact (hf b hb).1,(hf b hb).2⟩
 have keep3:∀ b o,(s.heap.push { cls:=.type "list",dict:=none,data:=.seq ([]:List Value).toArray }).get? b=some o->(pushCells ((s.heap.push { cls:=.type "list",dict:=none,data:=.seq ([]:List Value).toArray }).push { cls:=.type "dict",data:=.dict #[] }) scope.names).get? b=some o:=fun b o e=>pushCells_keeps _ _ b o (Heap.get?_push_of_some _ e)
 have I4:=pU (s:={ s with heap:=s.heap.push { cls:=.type "list",dict:=none,data:=.seq ([]:List Value).toArray } }) S I3 hf3 (fun b hb=>by show b<(s.heap.push _).objs.size;rw[hC];exact iw (hltI b hb));dsimp only at I4;generalize hh₁:pushCells ((s.heap.push { cls:=.type "list",dict:=none,data:=.seq ([]:List Value).toArray }).push { cls:=.type "dict",data:=.dict #[] }) scope.names=h₁ at *;have st4:tn 0 h₁:=T.keep 0 _ _ st fun b hb o e=>keep3 b o (Heap.get?_push_of_some _ e)
 generalize hY:inner X scope N' (s.heap.push { cls:=.type "list",dict:=none,data:=.seq ([]:List Value).toArray }).objs.size { s with heap:=s.heap.push { cls:=.type "list",dict:=none,data:=.seq ([]:List Value).toArray } } (upd H s.heap.objs.size (.lst [])) fp=Y at I4;have hYin:=hin (s.heap.push { cls:=.type "list",dict:=none,data:=.seq ([]:List Value).toArray }).objs.size { s with heap:=s.heap.push { cls:=.type "list",dict:=none,data:=.seq ([]:List Value).toArray } } (upd H s.heap.objs.size (.lst [])) fp;rw[hY] at hYin;obtain⟨yg,yt,ye⟩:=hYin;have yE:Y.env=compEnvC scope (cellsFrom ((s.heap.push { cls:=.type "list",dict:=none,data:=.seq ([]:List Value).toArray }).objs.size+1) scope.names (gR X.env.cells scope.names [])) (s.heap.push { cls:=.type "list",dict:=none,data:=.seq ([]:List Value).toArray }).objs.size X.env:=by rw[<-hY];rfl
 have hCL:(s.heap.push { cls:=.type "list",dict:=none,data:=.seq ([]:List Value).toArray }).objs.size≠X.env.locals:=by
  rw[hC];exact Nat.ne_of_gt (iw I.lt)
 have back:∀{H5:Hp}{s5:Shared},Inv Y [] (fY σ pick) H5 s5->Q (.ref s.heap.objs.size) H5->RR (.ref s.heap.objs.size) (s.heap.push { cls:=.type "list",dict:=none,data:=.seq ([]:List Value).toArray }).objs.size (.ok .next) s5:=fun {H5 s5} I5 q=>by
  subst hY;obtain⟨m,hn,_⟩:=I5.loc;have J5:Inv X pins σ H5 s5:=Inv.call' I3 I5.os I5.base I5.hok I5.bare fun b hb=>by
   obtain⟨f0,f1,f2,f3,f4,f5⟩:=hf b hb;exact⟨f3,f1,f4,f5⟩
  have lt3:∀{b:Addr}{o:Obj},s.heap.get? b=some o->b≠(s.heap.push { cls:=.type "list",dict:=none,data:=.seq ([]:List Value).toArray }).objs.size:=fun e=>by rw[hC];exact ba (iw (Heap.lt_size e))
  refine hR _ _ s5 H5 m hn ⟨I5.free,hCL,I.nofs (by rw[hC];exact Nat.le_succ _),.inr (by rw[hC];exact Nat.le_succ_of_le I.sz),fun x c e z=>?_,fun p hp z=>?_⟩ q J5
  ·obtain⟨v,o,ho,_⟩:=I.cell x c e;exact lt3 ho z
  ·exact lt3 (I.pin p hp).1 z
 have yP:Y.prog=X.prog:=by rw[<-hY];rfl
 have yw:Y.w=X.w:=by rw[<-hY];rfl
 have yK:Y.K=X.K:=by rw[<-hY];rfl
 have yA:Y.A=X.A:=by rw[<-hY];rfl
 have yc:Y.calm=true:=by rw[<-hY];exact hc
 have yx:Y.xe=fun _ _=>False:=by rw[<-hY];rfl
 have yp:Y.pn=[]:=by rw[<-hY];rfl
 have yex:Y.ex=fp:=by rw[<-hY];rfl
 have stat:∀{H':Hp},(∀ b∈fp,H' b=none)->∀ b∈fp,je Y [] H' b:=fun {H'} hn b hb=>by
  have hb':b∈Y.ex:=by rw[yex];exact hb
  obtain⟨x1,x2⟩:=I4.ok.exf b hb';exact⟨hn b hb,x1,I4.ok.exfs b hb',.inl hb',x2,fun p hp=>by rw[yp] at hp;cases hp⟩
 rw[<-yP,<-yw,<-yA];have loop:codeAny (model Y.prog Y.w) Y.A (.compLoop (.ListComp elt [⟨tg,iter,ifs,0⟩] scope pos) 0 (.ref it) (.ref s.heap.objs.size) Y.env) (RR (.ref s.heap.objs.size) (s.heap.push { cls:=.type "list",dict:=none,data:=.seq ([]:List Value).toArray }).objs.size) { s with heap:=h₁ }:=by
  refine qg (fun n s5=>∃ i H5,Inv Y [] (fY σ pick) H5 s5/\tn i s5.heap/\(∀ b∈fp,H5 b=none)/\W i n H5) ?_ m0 ⟨0,_,I4,st4,fun b hb=>(hf3 b hb).1,w0⟩;rintro n s5 ⟨i,H5,I5,st5,fr5,w5⟩;rcases turn i n H5 w5 with ⟨stop,qn⟩ | ⟨go,N,hN,step⟩
  ·have d:=T.done Y yP yw yK yc i [] s5 (fY σ pick) H5 (fun _ _=>False) I5 (stat fr5) st5 stop;rw[<-yP,<-yw] at d;refine cL d fun r s6 ⟨hr,I6⟩=>?_
   subst hr;exact back I6 qn
  ·have d:=T.item Y yP yw yK yc i [] s5 (fY σ pick) H5 (fun _ _=>False) I5 (stat fr5) st5 go;rw[<-yP,<-yw] at d;refine cL d fun r s6 ⟨u,hr,h6⟩=>?_
   subst hr;refine cL h6 fun _ s7 ⟨x,H7,I7,r7,y7,st7,fr7⟩=>?_
   have I7':=I7.pinned (stat fr7) (T.obj _ _ st7);have yg':=yg _ s7 (fY σ pick) H7 x u _ I7' r7 (gk _ _ _ _ (step x H7 y7));rw[yx] at yg';refine cL yg' fun _ s8 ⟨σ8,H8,I8,q8,l8,k8⟩=>?_
   have yt':=yt _ s8 σ8 H8 _ I8 q8;rw[yx] at yt';refine cL yt' fun b s9 ⟨H9,I9,q9⟩=>?_
   have again:∀{σ':L2.St}{H':Hp}{s':Shared},Inv Y ([]++mq fp s7.heap) σ' H' s'->σ'=σ8->N H'->∃ m,m<n/\∃ i H5,Inv Y [] (fY σ pick) H5 s'/\tn i s'.heap/\(∀ b∈fp,H5 b=none)/\W i m H5:=fun {σ' H' s'} J e nn=>by
    subst e;obtain⟨m',hm,w'⟩:=hN H' nn;refine⟨m',hm,i+1,H',(J.unpinned).weak (l8.symm) (fun j v e=>?_),T.keep _ _ _ st7 fun b hb o e=>(J.pin (b,o) (aq _ (aq _ (fK hb e)))).1,fun b hb=>?_,w'⟩
    ·refine k8 j _ (fun z=>?_) e;unfold fY at e;rw[List.getElem?_map,z] at e;simp at e
    ·obtain⟨o,e,_⟩:=T.obj _ _ st7 b hb;exact (J.pin (b,o) (aq _ (aq _ (fK hb e)))).2.1
   cases b with
   |false =>
    rw[if_neg bq];exact again I9 rfl q9
   |true =>
    rw[if_pos rfl];have q9:te σ8 H9 fun y H4=>∃ xs,H4 s.heap.objs.size=some (.lst xs)/\xs.length<sizeLine/\N (upd H4 s.heap.objs.size (.lst (xs ++ [y]))):=q9
    have ye':=ye _ s9 σ8 H9 _ I9 q9;rw[yx] at ye';refine cL ye' fun v s10 ⟨y,H10,I10,r10,xs,e10,z10,n10⟩=>?_
    have ap:=nY _ s10 σ8 H10 (.ref s.heap.objs.size) [y] (.ref s.heap.objs.size) [v] (fun _ H'=>N H') I10 rfl (.cons r10 .nil) ⟨s.heap.objs.size,xs,y,rfl,rfl,e10,z10,n10⟩;rw[yx] at ap;exact cL ap fun _ s11 ⟨_,H11,I11,_,n11⟩=>again I11 rfl n11
 show codeAny (model Y.prog Y.w) Y.A (.compStart (.ListComp elt [⟨tg,iter,ifs,0⟩] scope pos) 0 (.ref it) (.ref s.heap.objs.size) (compEnvC scope (cellsFrom ((s.heap.push { cls:=.type "list",dict:=none,data:=.seq ([]:List Value).toArray }).objs.size+1) scope.names (gR X.env.cells scope.names [])) (s.heap.push { cls:=.type "list",dict:=none,data:=.seq ([]:List Value).toArray }).objs.size X.env))
  (RR (.ref s.heap.objs.size) (s.heap.push { cls:=.type "list",dict:=none,data:=.seq ([]:List Value).toArray }).objs.size) { s with heap:=h₁ }
 rw[<-yE];refine codeAny_compStart_list loop ?_;have l2:=loop;rw[yP,yw] at l2 ⊢;exact T.self Y.A 0 _ _ _ st4 l2
theorem fU (S:eJ X scope N' pick)(hh:∀ x,(X.env.kindOf x=some .cell\/X.env.kindOf x=some .free)->∃ c,X.env.cells.lookup x=some c):closureFor scope X.env=pure (gR X.env.cells scope.names []) :=
 rH fun x hx=>hh x (S.outer x (S.free x hx))
theorem zB (S:eJ X scope N' pick)(hc:X.calm=true)(hi:PI X tg iter wi)(hin:∀ C s0 H0 ex,PG (inner X scope N' C s0 H0 ex) tg g/\Fu (inner X scope N' C s0 H0 ex) ifs tt/\PE (inner X scope N' C s0 H0 ex) elt te)
  (gk:∀(v:V) (σ:L2.St) (H:Hp) (Q:L2.St->Hp->Prop),g v σ H Q->g v σ H fun σ' H'=>Q σ' H'/\σ'.length=σ.length/\∀(i:Nat) u,pick[i]?≠some none->σ[i]? = some u->σ'[i]? = some u) (hs:∀ x,foldedSetIterable iter X.env x=pure x) :
  PE X (.ListComp elt [⟨tg,iter,ifs,0⟩] scope pos) (zk pick wi g tt te):=by
 intro pins s σ H Q I h;rw[eval_ListComp];refine wpAny_comprehension_free (use:=none) rfl hs (fU S I.ok.has) S.kind S.names (cL (hi pins s σ H _ I h) fun v s1 h1=>cL h1 fun itv s2 h2=>?_);obtain⟨it,fp,tn,J,H2,e,I2,T,st2,f2,q⟩:=h2;subst e;refine mh (RR:=fun acc C=>compPost (model X.prog X.w) X.A X.xe none (EP X pins σ Q) acc C) S hc hin gk I2 T st2 f2 Q q fun l C s' H' m hn fc hq J0=>?_
 obtain⟨f0,f1,f2,f3,f4,f5⟩:=fc;exact⟨m,hn,fun h' sb=>⟨.ref l,H',J0.turned (t':=s'.toks) (fun b o hb e=>sb.extBut b o hb e) f0 f1 f3 f4 f5,rfl,hq⟩⟩
theorem qZ {i:Nat}{x:Str}{pos' spos:Pos}(S:eJ X scope N' pick)(hc:X.calm=true)(hi:PI X tg iter wi)(hin:∀ C s0 H0 ex,PG (inner X scope N' C s0 H0 ex) tg g/\Fu (inner X scope N' C s0 H0 ex) ifs tt/\PE (inner X scope N' C s0 H0 ex) elt te)
  (gk:∀(v:V) (σ:L2.St) (H:Hp) (Q:L2.St->Hp->Prop),g v σ H Q->g v σ H fun σ' H'=>Q σ' H'/\σ'.length=σ.length/\∀(i:Nat) u,pick[i]?≠some none->σ[i]? = some u->σ'[i]? = some u) (hs:∀ x,foldedSetIterable iter X.env x=pure x)
  (hN:X.N.Nodup) (hx:X.N[i]? = some x) (hl:Loc X.env.scope x) (hf:X.fn x=true\/X.env.scope.names.lookup x=some .local) (hsw:swapsWith (.ListComp elt [⟨tg,iter,ifs,0⟩] scope pos) (some (.Name x pos')) spos.line X.env=pure true) :
  PS X (.Assign [.Name x pos'] (.ListComp elt [⟨tg,iter,ifs,0⟩] scope pos) spos) (rV (zk pick wi g tt te) (jv i)):=by
 intro pins s σ H D I h;rw[exec_Assign_Name_used _ _ _ _ hsw];refine wpAny_bind (wpAny_standAt (wpAny_bind ?_));show wpAny _ X.A (do let _ <- comprehension (.ListComp elt [⟨tg,iter,ifs,0⟩] scope pos) scope X.env _ (newList []) false (eval iter X.env) (some (assign (.Name x pos') X.env))) _ _ s;refine wpAny_bind (wpAny_mono (wpAny_comprehension_free (use:=some (assign (.Name x pos') X.env)) (Q:=fun _ s'=>SP X pins D .next s') rfl hs (fU S I.ok.has) S.kind S.names
  (cL (hi pins s σ H _ I h) fun v s1 h1=>cL h1 fun itv s2 h2=>?_)) (fun _ s' hq=>wpAny_pure (wpAny_pure hq)) fun _ _ e=>e)
 obtain⟨it,fp,tn,J,H2,e,I2,T,st2,f2,q⟩:=h2;subst e;refine mh (RR:=fun acc C=>compPost (model X.prog X.w) X.A X.xe (some (assign (.Name x pos') X.env)) (fun _ s'=>SP X pins D .next s') acc C) S hc hin gk I2 T st2 f2 (fun x H1=>jv i x σ H1 D.nx) q fun l C s' H' m hn fc hq J0=>?_
 obtain⟨o,es,ep,ho,hd,hr⟩:=id hn;have J1:=J0.pinned (fp:=[C]) (fun b hb=>by rw[ir.mp hb];exact fc) fun b hb=>by rw[ir.mp hb];exact⟨o,ho,fun v z=>by rw[hd] at z;cases z⟩
 show wpAny (model X.prog X.w) X.A (assign (.Name x pos') X.env (.ref l)) _ _ s';refine wpAny_assign_Name (gQ J1 hN hx hl (v:=.ref l) rfl (fun s2 I2=>?_) hf);have hC2:=(I2.pin (C,o) (List.mem_append_right _ (List.mem_append_right _ (fK (by simp) ho)))).1;obtain⟨f0,f1,f2,f3,f4,f5⟩:=fc;refine⟨m,⟨o,es,ep,hC2,hd,hr⟩,fun h' sb=>?_⟩;exact⟨_,H',I2.unpinned.turned (t':=s2.toks) (fun b o hb e=>sb.extBut b o hb e) f0 f1 f3 f4 f5,hq⟩
end
noncomputable def eN (own:Nat)(pick:List Nat):List (Option Nat):=List.replicate own none++pick.map some
theorem oM (σ:L2.St)(pk:List (Option Nat)):(fY σ pk).length=pk.length:=by simp[fY]
theorem mJ (env:En)(own:Nat)(pick:List Nat):(dA env own pick).length=own+pick.length:=by simp[dA]
noncomputable def nJ (F:Nat->List Addr)(env:En)(own:Nat)(pick:List Nat):Nat->List Addr:=fun i=>match (dA env own pick)[i]? with
 | some (some _)=>match pick[i - own]? with
  |some j=>F j
  |none=>[]
 |_=>[]
theorem fO {env:En}{own:Nat}{pick:List Nat}{i:Nat}{d:D}{t:Tg}(h:(dA env own pick)[i]? = some (some (d,t))):t = .sh []/\own<=i/\∃ j t0,pick[i - own]? = some j/\env[j]? = some (some (d,t0)):=by
 unfold dA at h;by_cases hi:i<own
 ·rw[List.getElem?_append_left (by simpa using hi),List.getElem?_replicate] at h;split at h<;>cases h
 ·have hi:own<=i:=iz hi;rw[List.getElem?_append_right (by simpa using hi),List.length_replicate,List.getElem?_map] at h;cases hp:pick[i - own]? with
  |none=>rw[hp] at h;cases h
  |some j =>
   rw[hp] at h;simp only[Option.map_some,Option.some.injEq] at h;split at h
   ·rename_i d0 t0 q;cases h;exact⟨rfl,hi,j,t0,rfl,q⟩
   ·cases h
section
variable {K:Frag}{P:Addr->Prop}{env:En}{σ:L2.St}{H:Hp}{F:Nat->List Addr}
theorem RE.picked (re:RE K P env σ H F)(own:Nat)(pick:List Nat):RE K (fun _=>False) (dA env own pick) (fY σ (eN own pick)) H (nJ F env own pick) where
 len:=by rw[mJ,oM];simp[eN]
 val:=fun i d t h=>by
  obtain⟨rfl,hi,j,t0,hp,he⟩:=fO h;obtain⟨v,e,r⟩:=re.val j d t0 he;refine⟨v,?_,?_⟩
  ·unfold fY eN;rw[List.getElem?_map,List.getElem?_append_right (by simpa using hi),List.length_replicate,List.getElem?_map,hp];simp[e]
  ·unfold nJ;rw[h,hp];exact r
 emp:=fun i h=>by
  unfold nJ;split
  ·rename_i p q;exact absurd q (h p.1 p.2)
  ·rfl
 one:=fun i d t h o=>by
  obtain⟨rfl,_⟩:=fO h;cases o
 wr:=fun i d h=>by
  obtain⟨q,_⟩:=fO h;cases q
 pl:=fun _ h=>h.elim
theorem uQ {own:Nat}{pick:List Nat}{i:Nat}{a:Addr}(re:RE K P env σ H F)(h:a∈nJ F env own pick i):∃ j∈pick,∃ d t,a∈F j/\env[j]? = some (some (d,t)):=by
 unfold nJ at h;split at h
 ·rename_i p q;obtain⟨_,hi,j,t0,hp,he⟩:=fO (d:=p.1) (t:=p.2) q;rw[hp] at h;exact⟨j,List.mem_of_getElem? hp,p.1,t0,h,he⟩
 ·cases h
end
noncomputable def EZ (K:Frag)(T:Tb):l9->TT
 |.none=>fun _ H Q=>Q true H
 |.some c=>nZ K T c
section
variable {X:Cx}{T:Tb}{scope:Scope}{N':List Str}{own:Nat}{pick:List Nat}{t:kG}{it:qS}{c:l9}{e:Ex}
theorem EE {σ:L2.St}{H:Hp}{Q:Bool->Hp->Prop}{P:Addr->Prop}{env:En}{F:Nat->List Addr}{k:Bool}(re:RE X.K P env σ H F)(hk:vU T c env = .ok k)(q:∀ H',aJ H H'->Q k H'):EZ X.K T c σ H Q:=by
 cases c with
 |none =>
  unfold vU at hk;cases hk;exact q H (aJ.refl _)
 |some c =>
  unfold vU at hk;obtain⟨p,h1,h2⟩:=Rs.bind_ok hk;exact⟨P,env,F,re,p,k,h1,cU h2,q⟩
theorem nU {σ:L2.St}{H:Hp}{Q:VK}(h:tE X.K T (.comp own pick t it c e) σ H Q):zk (eN own pick) (tI X.K T it) (pQ X.K t) (EZ X.K T c) (tE X.K T e) σ H Q:=by
 obtain⟨P,env,F,re,p0,hev,k⟩:=h;unfold ev at hev;obtain⟨p,h1,hev⟩:=Rs.bind_ok hev;obtain⟨tot,h2,hev⟩:=Rs.bind_ok hev;have hlim:p.1.length<=lim:=Decidable.byContradiction fun hn=>by rw[if_neg hn] at hev;cases hev
 rw[if_pos hlim] at hev;cases hev;refine⟨P,env,F,re,p,h1,fun J H1 Gs s1 rt nn wk l hl=>?_⟩;have re1:=re.same s1;have wk:=wk (fun a=>a∈Gs) fun a ha=>ha
 let S0:Addr->Prop:=fun a=>a∈Gs\/∃ j∈pick,∃ d t,a∈F j/\env[j]? = some (some (d,t))
 have S0n:∀ a,S0 a->H1 a≠none:=fun a ha=>by
  rcases ha with ha | ⟨j,_,d,t,m,ej⟩
  ·exact nn a ha
  ·exact re1.nn ej m
 have lS:¬ S0 l:=fun z=>S0n l z hl
 refine⟨fun i m H2=>m=p.1.length - i/\i<=p.1.length/\∃(acc rest:List (D×Rt)) (vs:List V) (G:List Addr),fR (fun d=>dC (aZ [] t d (dA env own pick)) (vU T c) (ev T e)) (p.1.drop i) = .ok rest/\tot=acc++rest/\acc.length<=i/\H2 l=some (.lst vs)/\aI X.K H2 (acc.map (·.1)) vs G/\aJ H1 H2/\l∉G /\
  (∀ a∈G,H1 a=none\/S0 a)/\(acc.all (fun q=>q.1.flat || jQ q.2)=true->G.Nodup/\∀ a∈G,H1 a=none/\∃ ws:ML,H2 a=some ws.o),?_,?_⟩
 ·refine⟨p.1.length,by simp,Nat.zero_le _,[],tot,[],[],by simpa using h2,rfl,Nat.le_refl _,aP,.nil,aJ.new hl,by simp,fun _ h=>(nomatch h),fun _=>⟨List.nodup_nil,fun _ h=>(nomatch h)⟩⟩
 ·rintro i m H2 ⟨rfl,hi,acc,rest,vs,G,hgo,htot,hacc,hl2,rs,s2,hlG,hG,hfr⟩;obtain⟨w1,w2⟩:=wk H2 (jq.of_same (fun a ha=>nn a ha) s2);by_cases hlt:i<p.1.length
  ·right;have hd:p.1[i]? = some p.1[i]:=by simp[hlt]
   obtain⟨g1,g2⟩:=w1 i _ hd;refine⟨g1,fun H3=>i+1<=p.1.length/\∃(acc rest:List (D×Rt)) (vs:List V) (G:List Addr),fR (fun d=>dC (aZ [] t d (dA env own pick)) (vU T c) (ev T e)) (p.1.drop (i+1)) = .ok rest/\tot=acc++rest/\acc.length<=i+1/\H3 l=some (.lst vs)/\aI X.K H3 (acc.map (·.1)) vs G/\aJ H1 H3/\l∉G /\
    (∀ a∈G,H1 a=none\/S0 a)/\(acc.all (fun q=>q.1.flat || jQ q.2)=true->G.Nodup/\∀ a∈G,H1 a=none/\∃ ws:ML,H3 a=some ws.o),fun H3 q=>⟨p.1.length - (i+1),by omega,rfl,q⟩,fun x H3 y=>?_⟩
   obtain⟨s3,G3,rp3,sub3⟩:=g2 x H3 y;rw[fh hlt] at hgo;unfold fR at hgo;obtain⟨o,hstep,hgo⟩:=Rs.bind_ok hgo;obtain⟨rest',hrest,hgo⟩:=Rs.bind_ok hgo;cases hb:aZ [] t p.1[i] (dA env own pick) with
   |none=>rw[hb] at hstep;cases hstep
   |some env4 =>
    rw[hb] at hstep;unfold dC at hstep;obtain⟨kc,hkc,hstep⟩:=Rs.bind_ok hstep;have rep:=(re1.same (s2.trans s3)).picked own pick;let Z:Addr->Prop:=fun a=>S0 a
    have zF:∀ i,∀ a∈nJ F env own pick i,Z a:=fun i a ha=>by
     obtain⟨j,hj,d,t,m,ej⟩:=uQ (re1.same (s2.trans s3)) ha;exact .inr ⟨j,hj,d,t,m,ej⟩
    refine lz (Z:=Z) rep zF rp3 (fun a ha=>.inl (sub3 a ha)) (fun a ha j d' t' ej o m=>?_) hb fun σ4 F4 re4 z4 _=>?_
    ·obtain⟨rfl,_⟩:=fO ej;cases o
    ·refine EE re4 hkc fun H5 s5=>?_
     have base5:=s2.trans (s3.trans s5);have l5:H5 l=some (.lst vs):=s5 _ _ (s3 _ _ hl2);cases kc with
     |false =>
      show if false=true then _ else _
      rw[if_neg bq];simp only[Bool.false_eq_true,if_false] at hstep;cases hstep;cases hgo;refine⟨hlt,acc,rest',vs,G,hrest,htot,Nat.le_succ_of_le hacc,l5,rs.same (s3.trans s5),base5,hlG,hG,fun f=>?_⟩;obtain⟨n1,n2⟩:=hfr f;exact⟨n1,fun a ha=>⟨(n2 a ha).1,let ⟨ws,q⟩:=(n2 a ha).2;⟨ws,s5 _ _ (s3 _ _ q)⟩⟩⟩
     |true =>
      show if true=true then _ else _
      rw[if_pos rfl];simp only[if_true] at hstep;obtain⟨q,hq,hstep⟩:=Rs.bind_ok hstep;cases hstep;cases hgo;refine⟨_,env4,F4,re4.same s5,q,hq,fun yv H6 Gy s6 rpy rty=>?_⟩;have l6:H6 l=some (.lst vs):=s6 _ _ l5;have base6:=base5.trans s6;have old6:=s3.trans (s5.trans s6);have yS:∀ a∈Gy,H5 a=none\/S0 a:=fun a ha=>(rty.cont a ha).imp id fun ⟨i,d,t,m,_⟩=>z4 i a m
      have ly:l∉Gy:=fun z=>by
       rcases yS l z with q | q
       ·rw[l5] at q;cases q
       ·exact lS q
      have len6:vs.length=acc.length:=by have:=rs.len;rw[ao] at this;exact this.symm
      refine⟨vs,l6,Nat.lt_of_le_of_lt (Nat.le_trans (Nat.le_of_eq len6) (Nat.le_trans hacc (Nat.le_of_lt (Nat.lt_of_lt_of_le hlt hlim)))) (by decide),hlt,acc ++ [q],rest',vs ++ [yv],G++(Gy ++ []),hrest,by rw[htot];simp,by simp;exact hacc,aP,?_,?_,?_,?_,?_⟩
      ·rw[ie];exact (aI.append (rs.same old6) (.cons rpy .nil)).upd l6 (by simp;exact⟨hlG,ly⟩)
      ·intro b o e;rw[aO (fun z=>by subst z;rw[hl] at e;cases e)];exact base6 _ _ e
      ·simp;exact⟨hlG,ly⟩
      ·intro a ha;rw[ax] at ha;rcases List.mem_append.mp ha with ha | ha
       ·exact hG a ha
       ·exact (yS a ha).imp (aJ.no base5) id
      ·intro f;rw[List.all_append,aj] at f;obtain⟨n1,n2⟩:=hfr f.1;have fy:Gy.Nodup/\∀ a∈Gy,H5 a=none/\∃ ws:ML,H6 a=some ws.o:=by
        have f2:q.1.flat=true\/jQ q.2=true:=by simpa using f.2
        rcases f2 with f2 | f2
        ·rw[rpy.flat f2];exact⟨bt,fun _ h=>(nomatch h)⟩
        ·have:q.2 = .mv []:=by
          cases hr:q.2 with
          |sh R=>rw[hr] at f2;cases f2
          |mv R=>cases R with
           |nil=>rfl
           |cons a b=>rw[hr] at f2;cases f2
         obtain⟨m1,m2,m3⟩:=rty.mv [] this;refine⟨m1,fun a ha=>⟨?_,m2 a ha⟩⟩;rcases m3 a ha with z | ⟨_,_,_,z,_⟩
         ·exact z
         ·cases z
       rw[ax];refine⟨List.nodup_append.mpr ⟨n1,fy.1,fun a ha b hb z=>?_⟩,fun a ha=>?_⟩
       ·subst z;obtain⟨_,ws,w⟩:=n2 a ha;have:=s5 _ _ (s3 _ _ w);rw[(fy.2 a hb).1] at this;cases this
       ·have ne:a≠l:=fun z=>by
         subst z;rcases List.mem_append.mp ha with ha | ha
         ·exact hlG ha
         ·exact ly ha
        rcases List.mem_append.mp ha with ha | ha
        ·obtain⟨u1,ws,w⟩:=n2 a ha;exact⟨u1,ws,by rw[aO ne];exact old6 _ _ w⟩
        ·obtain⟨u1,ws,w⟩:=fy.2 a ha;exact⟨aJ.no base5 u1,ws,by rw[aO ne];exact w⟩
  ·left;have ei:i=p.1.length:=by omega
   subst ei;refine⟨w2,?_⟩;rw[h9] at hgo;unfold fR at hgo;cases hgo;rw[ax] at htot;subst htot;refine k _ H2 (l::G) (s1.trans s2) (.lst (.inl hl2) rs) ?_;have hl0:=aJ.no s1 hl;cases hf:tot.all (fun q=>q.1.flat || jQ q.2) with
   |true =>
    obtain⟨n1,n2⟩:=hfr hf;have new:∀ a∈l::G,H a=none:=fun a ha=>by
     rcases iy.mp ha with rfl | ha
     ·exact hl0
     ·exact aJ.no s1 (n2 a ha).1
    refine⟨fun a ha=>.inl (new a ha),fun R e=>⟨List.nodup_cons.mpr ⟨hlG,n1⟩,fun a ha=>?_,fun a ha=>.inl (new a ha)⟩⟩;rcases iy.mp ha with rfl | ha
    ·exact⟨.l _,hl2⟩
    ·exact (n2 a ha).2
   |false =>
    refine⟨fun a ha=>?_,fun R e=>by cases e⟩;rcases iy.mp ha with rfl | ha
    ·exact .inl hl0
    ·rcases hG a ha with q | q | ⟨j,hj,d,t,m,ej⟩
     ·exact .inl (aJ.no s1 q)
     ·exact (rt.cont a q).imp id fun ⟨i,d,t,x,y,z⟩=>⟨i,d,t,x,y,fun r hr=>bg _ (z r hr)⟩
     ·refine .inr ⟨j,d,t,m,ej,fun r hr=>aq _ ?_⟩;unfold nL;rw[List.mem_flatten];exact⟨bE j t,List.mem_map.mpr ⟨j,hj,by rw[ej]⟩,hr⟩
theorem nV {K:Frag}{t:kG}{pk:List (Option Nat)}(ht:∀ i,(t = .nm i\/∃ is,t = .tp is/\i∈is)->pk[i]? = some none)(v:V)(σ:L2.St)(H:Hp)(Q:L2.St->Hp->Prop)(h:pQ K t v σ H Q) :
  pQ K t v σ H fun σ' H'=>Q σ' H'/\σ'.length=σ.length/\∀(i:Nat) u,pk[i]?≠some none->σ[i]? = some u->σ'[i]? = some u:=by
 cases t with
 |nm i=>exact⟨h,by simp,fun j u hj e=>by rw[List.getElem?_set_ne];exact e;rintro rfl;exact hj (ht i (.inl rfl))⟩
 |tp is =>
  obtain⟨a,xs,e1,e2,e3,h⟩:=h;refine⟨a,xs,e1,e2,e3,?_⟩;have gen:∀(is:List Nat) (xs:List V) (σ1:L2.St),(∀ i∈is,pk[i]? = some none)->σ1.length=σ.length->(∀(i:Nat) u,pk[i]?≠some none->σ[i]? = some u->σ1[i]? = some u)->gS is xs σ1 H Q->gS is xs σ1 H fun σ' H'=>Q σ' H'/\σ'.length=σ.length/\∀(i:Nat) u,pk[i]?≠some none->σ[i]? = some u->σ'[i]? = some u:=by
   intro is
   induction is with
   |nil=>intro xs σ1 _ hl hk h;exact⟨h.1,h.2,hl,hk⟩
   |cons j js ih =>
    intro xs σ1 hi hl hk h;obtain⟨v,r,e,h⟩:=h;refine⟨v,r,e,ih r (σ1.set j (some v)) (fun i hm=>hi i (List.mem_cons_of_mem _ hm)) (by simp[hl]) (fun i u hi' e'=>?_) h⟩;rw[List.getElem?_set_ne];exact hk i u hi' e';rintro rfl;exact hi' (hi j ak)
  exact gen is xs σ (fun i hm=>ht i (.inr ⟨is,rfl,hm⟩)) rfl (fun _ _ _ e=>e) h
end
def lA (K:Frag)(T:Tb)(x:Nat)(path:l9):TE:=fun σ H Q=>∃ P env F po v p,RE K P env σ H F/\jB T path env = .ok po/\σ[x]? = some (some v)/\PV K H v po p/\∀ H',aJ H H'->Q (.ref p) H'
section
variable {X:Cx}{T:Tb}{pos:Pos}{i:Nat}{x:Str}
theorem D1 (hN:X.N[i]? = some x)(hv:BQ X.env.scope x)(hd:(x==("__debug__" : Str))=false) (hcd:(x==("__classdict__" : Str))=false):PE X (.Name x pos) (lA X.K T i .none):=by
 refine bS (lG hN hv hd hcd) fun σ H Q ⟨P,env,F,po,v,p,re,hpo,hv,pv,k⟩=>?_
 unfold jB at hpo;cases hpo;cases pv;exact⟨_,hv,k H (aJ.refl _)⟩
end
def uU (K:Frag)(m:pW):V->List V->Hp->VK->Prop:=fun x vs H Q=>∃ l ws xs ds Gx G ys,x = .ref l/\H l=some (.lst ws)/\aI K H xs ws Gx/\aI K H ds vs G/\yN m xs ds=some ys/\ys.length<=lim/\l∉Gx/\l∉G/\Gx.Nodup /\
 ∀ us Gy v,aI K (upd H l (.lst us)) ys us Gy->(∀ a∈Gy,a∈Gx\/(m.copies=false/\a∈G))->((∀ a∈Gx,a∉G)->G.Nodup\/m.copies=true->Gy.Nodup)->Q v (upd H l (.lst us))
section
variable {X:Cx}
def wO:V->List V->Hp->VK->Prop:=fun x vs H Q=>∃ l b xs zs,x = .ref l/\vs=[.ref b]/\H l=some (.lst xs)/\Rd H b (.lst zs)/\xs.length+zs.length<=sizeLine/\Q .non (upd H l (.lst (xs++zs)))
theorem rB:MtM X "list.extend" wO:=by
 intro pins s σ H x vs v us Q I rx rv h;obtain⟨l,b,xs,zs,rfl,rfl,hH,hB,hz,q⟩:=h;cases rx;obtain⟨u,rfl,ru⟩:=rv.one;cases ru;obtain⟨z,its,n,r,hl,e⟩:=I.lstM hH;obtain⟨z2,its2,n2,r2,hl2,e2⟩:=Inv.lstR I hB;have hsz:its.toArray.size+its2.toArray.size<=sizeLine:=by rw[ai,ai];omega
 have hlong:¬ (!its.toArray.isEmpty&&Builtin.List.listTooLong (its.toArray.size+its2.toArray.size))=true:=by
  rw[qF hsz,Bool.and_false];exact bq
 refine call_meets F.slot_list_extend ⟨_,e,rfl⟩ F.entry_list_extend (F.args_list_extend_2 _ _)
  (AutoSeq1.list_extend_list_list_0 l its.toArray n b its2.toArray n2 hlong (by rw[ai];omega) (by omega)) ⟨e,e2,?_⟩
 refine⟨.non,_,I.lset (its':=its++its2) hH e (by simp) (r.append r2) ?_,rfl,q⟩;rw[ag];omega
theorem rl:MtM X "list.append" (uU X.K .append):=by
 intro pins s σ H x vs v us Q I rx rv h;obtain⟨l,ws,xs,ds,Gx,G,ys,rfl,hl,r1,r2,hm,hlen,n1,n2,nd,k⟩:=h
 match ds,hm with
 |[d],hm =>
  cases hm;obtain⟨y,rfl,rp⟩:=r2.of1;refine nY pins s σ H _ _ v us Q I rx rv ⟨l,ws,y,rfl,rfl,hl,?_,k (ws ++ [y]) (Gx++(G ++ [])) _ ?_ (fun a ha=>?_) fun dj o=>?_⟩
  ·rw[<-r1.len];simp only[List.length_append,List.length_singleton] at hlen;exact ay (ay (Nat.lt_succ_self _) hlen) sD
  ·exact (r1.append (.cons rp .nil)).upd hl (by simp;exact⟨n1,n2⟩)
  ·simp at ha;exact ha.imp id fun z=>⟨rfl,z⟩
  ·rcases o with o | o
   ·rw[ax];exact List.nodup_append.mpr ⟨nd,o,fun a ha b hb z=>by subst z;exact dj a ha hb⟩
   ·cases o
theorem qY:MtM X "list.extend" (uU X.K .extend):=by
 intro pins s σ H x vs v us Q I rx rv h;obtain⟨l,ws,xs,ds,Gx,G,ys,rfl,hl,r1,r2,hm,hlen,n1,n2,nd,k⟩:=h
 match ds,hm with
 |[.lst zs],hm =>
  have hm:(if D.flats zs then some (xs++zs) else none)=some ys:=hm;by_cases hf:D.flats zs=true
  ·rw[if_pos hf] at hm;cases hm;obtain⟨y,rfl,rp⟩:=r2.of1;obtain⟨b,wz,gz,rfl,rfl,a1,a2⟩:=rp.lst_inv;have eg:gz=[]:=a2.flat hf;subst eg;refine rB pins s σ H _ _ v us Q I rx rv ⟨l,b,ws,wz,rfl,rfl,hl,a1,?_,k (ws++wz) (Gx ++ []) _ ?_ (fun a ha=>?_) fun _ _=>?_⟩
   ·rw[<-r1.len,<-a2.len];simp only[List.length_append] at hlen;exact bj hlen sD
   ·exact (r1.append a2).upd hl (by simp;exact n1)
   ·simp at ha;exact .inl ha
   ·rw[ax];exact nd
  ·rw[if_neg hf] at hm;cases hm
theorem lJ {T:Tb}{i:Nat}{path:l9}{m:pW}{cs:kZ}{D:Ends}{σ:L2.St}{H:Hp}(h:tS X.K T (.mut i path m cs) D σ H):wo (Ie X.K "list" (uU X.K m) (lA X.K T i path) (rj X.K T cs)) D σ H:=by
 obtain⟨P,Z,env,F,re,hz,zp,h⟩:=h;unfold aV at h;cases hx:ownAt env i with
 |none=>rw[hx] at h;exact h.elim
 |some d =>
  rw[hx] at h;obtain⟨po,hpo,h⟩:=cD h;cases hat:d.at1 po with
  |none=>rw[hat] at h;exact h.elim
  |some xs =>
   rw[hat] at h;obtain⟨l,hl,h⟩:=cD h;cases hm:yN m xs (l.map (·.1)) with
   |none=>rw[hm] at h;exact h.elim
   |some ys =>
    rw[hm] at h;have hx':=fQ hx;obtain⟨v,hv,_⟩:=re.val i d .own hx';obtain⟨p,pv,f⟩:=m4 re hx hv hat;refine⟨P,env,F,po,v,p,re,hpo,hv,pv,fun H1 s1=>?_⟩;obtain⟨ws1,g1,e1,_⟩:=f H1 s1;refine⟨.inl ⟨rfl,ws1,.inl (.inl e1)⟩,P,env,F,re.same s1,l,hl,fun vs H2 G ar=>?_⟩;have s2:=s1.trans ar.same;obtain⟨ws,Gx,a1,a2,a3,a4,a5,a6,fs⟩:=f H2 s2;by_cases hroot:(aS (l.map (·.2))).contains i=true
    ·simp only[hroot,if_true] at h;exact h.elim
    simp only[hroot,if_false] at h;have disj:∀ a∈F i,a∉G:=fun a ha hg=>by
     rcases ar.cont a hg with q | ⟨j,d2,t2,m2,e2,sr⟩
     ·exact (re.same s1).nn hx' ha q
     ·exact hroot (by simpa using sr i ((re.one i d .own hx' rfl).2.2 a ha j d2 t2 e2 m2))
    have nG:=disj p a3;refine⟨p,ws,xs,l.map (·.1),Gx,G,ys,rfl,a1,a2,ar.reps,hm,uF h,a6,nG,a5,fun us Gy w rs sub nd=>?_⟩;refine qH (N:=if m.copies then [] else G) re hz zp s2 hx hv a3 (fun R hR ndR=>?_) (fun hN hNd=>?_) h
    ·cases hc:m.copies with
     |true=>exact⟨bt,fun _ h=>(nomatch h),fun _ h=>(nomatch h)⟩
     |false =>
      rw[hc] at hR;obtain⟨n1,n2,n3⟩:=Args.mv (re.same s1) ar hR ndR;exact⟨n1,n2,fun a ha=>(n3 a ha).imp (aJ.no s1) id⟩
    ·have ngy:Gy.Nodup:=nd (fun a ha=>disj a (a4 a ha)) (by
      cases hc:m.copies with
      |true=>exact .inr rfl
      |false=>rw[hc] at hNd;exact .inl hNd)
     obtain⟨G',b1,b2,b3⟩:=fs ys us Gy rs ngy (fun z=>(sub p z).elim a6 fun q=>nG q.2) fun a ha=>(sub a ha).imp id fun q z=>disj a z q.2
     refine⟨G',b1,b2,fun a ha=>?_⟩;rcases b3 a ha with q | q
     ·exact .inl q
     ·rcases sub a q with z | ⟨z1,z2⟩
      ·exact .inl (a4 a z)
      ·rw[z1];exact .inr z2
theorem vf {T:Tb}{i:Nat}{path:l9}{m:pW}{D:Ends}{σ:L2.St}{H:Hp}(h:tS X.K T (.mut i path m .nil) D σ H):wo (GK X.K "list" (uU X.K m) (lA X.K T i path)) D σ H:=by
 obtain⟨P,env,F,po,v,p,re,hpo,hv,pv,k⟩:=lJ h;refine⟨P,env,F,po,v,p,re,hpo,hv,pv,fun H' s=>?_⟩;obtain⟨ty,P',env',F',re',l,hl,f⟩:=k H' s;unfold aX at hl;cases hl;exact⟨ty,f [] H' [] (.nil (aJ.refl _))⟩
theorem xP {T:Tb}{i:Nat}{path:l9}{c e:Ex}{D:Ends}{σ:L2.St}{H:Hp}(h:tS X.K T (.setix i path c e) D σ H):rV (tE X.K T e) (HN (lA X.K T i path) (tE X.K T c) BY) D σ H:=by
 obtain⟨P,Z,env,F,re,hz,zp,h⟩:=h;unfold aV at h;cases hx:ownAt env i with
 |none=>rw[hx] at h;exact h.elim
 |some d =>
  rw[hx] at h;obtain⟨q,hq,h⟩:=cD h;obtain⟨po,hpo,h⟩:=cD h;cases hat:d.at1 po with
  |none=>rw[hat] at h;exact h.elim
  |some xs =>
   rw[hat] at h;obtain⟨qi,hqi,h⟩:=cD h;cases hqq:qi.1 with
   |int n =>
    rw[hqq] at h;cases hj:kd xs.length n with
    |none=>simp only[hj] at h;exact h.elim
    |some j =>
     simp only[hj] at h;have hx':=fQ hx;obtain⟨v,hv,_⟩:=re.val i d .own hx';refine⟨P,env,F,re,q,hq,fun w H1 G s1 rp rt=>?_⟩;have re1:=re.same s1;obtain⟨p,pv,f⟩:=m4 re1 hx hv hat;refine⟨P,env,F,po,v,p,re1,hpo,hv,pv,fun H2 s2=>⟨P,env,F,re1.same s2,qi,hqi,fun wi H3 Gi s3 rpi rti=>?_⟩⟩;rw[hqq] at rpi;obtain⟨rfl,_⟩:=rpi.int_inv;obtain⟨ws,Gx,a1,a2,a3,a4,a5,a6,fs⟩:=f H3 (s2.trans s3);have jl:=Dw hj;refine⟨p,ws,n,j,rfl,rfl,a1,by rw[<-a2.len];exact hj,?_⟩;have hroots:∀ R,q.2 = .mv R->i∉R->∀ a∈F i,a∉G:=fun R hr hiR a ha hg=>by
      rcases rt.cont a hg with z | ⟨k,d2,t2,m2,e2,sr⟩
      ·exact re.nn hx' ha z
      ·have:=sr i ((re.one i d .own hx' rfl).2.2 a ha k d2 t2 e2 m2);rw[hr] at this;exact hiR this
     have s13:=s2.trans s3;refine qH (N:=G) re hz zp (s1.trans s13) hx hv a3 (fun R hR ndR=>?_) (fun hN hNd=>?_) h
     ·have hr:q.2 = .mv R:=by
       cases hr:q.2 with
       |sh Q=>rw[hr] at hR;cases hR
       |mv Q=>rw[hr] at hR;simp[eC] at hR;rw[hR]
      obtain⟨n1,n2,n3⟩:=rt.mv R hr;exact⟨n1,fun a ha=>let ⟨ws,z⟩:=n2 a ha;⟨ws,s13 _ _ z⟩,n3⟩
     ·obtain⟨u,A,B,C,e1,e2,r1,g⟩:=a2.split (i:=j) (d:=xs[j]) (List.getElem?_eq_getElem jl);subst e2;have hpG:p∉G:=fun z=>hN p z a3
      have pAC:∀ b∈A++C,b≠p:=fun b hb z=>by
       rw[z] at hb;refine a6 ?_;rcases List.mem_append.mp hb with hb | hb
       ·exact bg _ hb
       ·exact aq _ (aq _ hb)
      have rs:=g (upd H3 p (.lst (ws.set j w))) q.1 w G (fun _ _=>oy a1) (jW (ws:=.l _) a1) (fun b hb _ h=>(aO (pAC b hb)).trans h) ((rp.same s13).upd a1 hpG);have gsub:∀ a∈A++(G++C),a∈A++(B++C)\/a∈G:=fun a ha=>by
       simp only[List.mem_append] at ha ⊢;rcases ha with ha | ha | ha
       ·exact .inl (.inl ha)
       ·exact .inr ha
       ·exact .inl (.inr (.inr ha))
      have ng:(A++(G++C)).Nodup:=by
       rw[List.nodup_append] at a5;obtain⟨nA,nB,nAB⟩:=a5;rw[List.nodup_append] at nB;obtain⟨_,nC,_⟩:=nB;rw[List.nodup_append];refine⟨nA,List.nodup_append.mpr ⟨hNd,nC,fun a ha b hb z=>?_⟩,fun a ha b hb z=>?_⟩
       ·subst z;exact hN a ha (a4 a (by simp[hb]))
       ·subst z;rcases List.mem_append.mp hb with hb | hb
        ·exact hN a hb (a4 a (by simp[ha]))
        ·exact nAB a ha a (by simp[hb]) rfl
      obtain⟨G',b1,b2,b3⟩:=fs (xs.set j q.1) (ws.set j w) _ rs ng (fun z=>(gsub p z).elim a6 hpG) fun a ha=>(gsub a ha).imp id fun z y=>hN a z y
      refine⟨G',b1,b2,fun a ha=>?_⟩;rcases b3 a ha with z | z
      ·exact .inl z
      ·exact (gsub a z).imp (a4 a) id
   |_=>rw[hqq] at h;exact h.elim
end
section
variable {X:Cx}
noncomputable def iX:List String:=["int","bool","str","list","tuple"]
theorem ty_type {T:String}(h:T∈iX):typeOf (.type T)=pure (.type "type"):=by
 simp only[iX,List.mem_cons,List.not_mem_nil,or_false] at h;rcases h with rfl | rfl | rfl | rfl | rfl<;>kernel_rfl
def GJ (K:Frag):List V->Hp->VK->Prop:=fun xs H Q=>∃ x T d G,xs=[x,.ty T]/\T∈iX/\((∀ kvs,d≠.dct kvs)/\(∀ ks,d≠.mpi ks)/\(∀ ks,d≠.mpt ks)/\∀ ks,d≠.mpz ks)/\Rep K H d x G/\Q (.bl (wM T d)) H
theorem vk:fL X (.builtin "isinstance") (GJ X.K):=by
 intro pins s σ H xs us Q I r h;obtain⟨x,T,d,G,rfl,hT,hnd,rp,q⟩:=h;obtain⟨u,w,rfl,rx,rt⟩:=r.two;obtain rfl:w=Value.type T:=rt;have hty:=ty_type hT;have yes:∀{Tx:String},s.TypeIs u Tx->isSubtype (.type Tx) (.type T)=pure true->wM T d=true->wpAny (model X.prog X.w) X.A (call (.builtin "isinstance") [u,.type T]) (EP X pins σ Q) X.xe s:=fun h1 h2 h3 =>
  call_isinstance (isinstance_true hty h2) ⟨h1,⟨.bl true,H,I,rfl,by rw[h3] at q;exact q⟩⟩
 have no:wM T d=false->EP X pins σ Q (.bool false) { s with toks:=s.toks+1 }:=fun h=>⟨.bl false,H,I.tok _,rfl,by rw[h] at q;exact q⟩
 simp only[iX,List.mem_cons,List.not_mem_nil,or_false] at hT;cases d with
 |dct kvs=>exact absurd rfl (hnd.1 kvs)
 |mpi ks=>exact absurd rfl (hnd.2.1 ks)
 |mpt ks=>exact absurd rfl (hnd.2.2.1 ks)
 |mpz ks=>exact absurd rfl (hnd.2.2.2 ks)
 |non =>
  obtain⟨rfl,_⟩:=rp.non_inv;cases rx;rcases hT with rfl | rfl | rfl | rfl | rfl
  ·exact call_isinstance (isinstance_false_none (by decide) hty F.sub_NoneType_int) (no rfl)
  ·exact call_isinstance (isinstance_false_none (by decide) hty F.sub_NoneType_bool) (no rfl)
  ·exact call_isinstance (isinstance_false_none (by decide) hty F.sub_NoneType_str) (no rfl)
  ·exact call_isinstance (isinstance_false_none (by decide) hty F.sub_NoneType_list) (no rfl)
  ·exact call_isinstance (isinstance_false_none (by decide) hty F.sub_NoneType_tuple) (no rfl)
 |bl b =>
  obtain⟨rfl,_⟩:=rp.bl_inv;cases rx;rcases hT with rfl | rfl | rfl | rfl | rfl
  ·exact yes (PySem.typeIs_bool s b) F.sub_bool_int rfl
  ·exact yes (PySem.typeIs_bool s b) F.sub_bool_bool rfl
  ·exact call_isinstance (isinstance_false_bool (by decide) hty F.sub_bool_str) (no rfl)
  ·exact call_isinstance (isinstance_false_bool (by decide) hty F.sub_bool_list) (no rfl)
  ·exact call_isinstance (isinstance_false_bool (by decide) hty F.sub_bool_tuple) (no rfl)
 |int i =>
  obtain⟨rfl,_⟩:=rp.int_inv;obtain⟨t,rfl⟩:=rx;rcases hT with rfl | rfl | rfl | rfl | rfl
  ·exact yes (typeIs_int s i t) F.sub_int_int rfl
  ·exact call_isinstance (isinstance_false_int (by decide) hty F.sub_int_bool) (no rfl)
  ·exact call_isinstance (isinstance_false_int (by decide) hty F.sub_int_str) (no rfl)
  ·exact call_isinstance (isinstance_false_int (by decide) hty F.sub_int_list) (no rfl)
  ·exact call_isinstance (isinstance_false_int (by decide) hty F.sub_int_tuple) (no rfl)
 |str z =>
  obtain⟨rfl,_⟩:=rp.str_inv;obtain⟨t,rfl⟩:=rx;rcases hT with rfl | rfl | rfl | rfl | rfl
  ·exact call_isinstance (isinstance_false_str (by decide) hty F.sub_str_int) (no rfl)
  ·exact call_isinstance (isinstance_false_str (by decide) hty F.sub_str_bool) (no rfl)
  ·exact yes (typeIs_str s z t) F.sub_str_str rfl
  ·exact call_isinstance (isinstance_false_str (by decide) hty F.sub_str_list) (no rfl)
  ·exact call_isinstance (isinstance_false_str (by decide) hty F.sub_str_tuple) (no rfl)
 |lst ds =>
  obtain⟨p,vs,g,rfl,_,a1,_⟩:=rp.lst_inv;cases rx;obtain⟨its,_,pl,_⟩:=I.list (.inl a1);obtain⟨o,ho,hc,_⟩:=pl.isList;rcases hT with rfl | rfl | rfl | rfl | rfl
  ·exact call_isinstance (isinstance_false_list (by decide) hty F.sub_list_int) ⟨⟨o,ho,hc⟩,no rfl⟩
  ·exact call_isinstance (isinstance_false_list (by decide) hty F.sub_list_bool) ⟨⟨o,ho,hc⟩,no rfl⟩
  ·exact call_isinstance (isinstance_false_list (by decide) hty F.sub_list_str) ⟨⟨o,ho,hc⟩,no rfl⟩
  ·exact yes ⟨o,ho,hc⟩ F.sub_list_list rfl
  ·exact call_isinstance (isinstance_false_list (by decide) hty F.sub_list_tuple) ⟨⟨o,ho,hc⟩,no rfl⟩
 |tup ds =>
  obtain⟨p,vs,rfl,a1,_⟩:=rp.tup_inv;cases rx;obtain⟨its,_,pl,_⟩:=I.tuple a1;obtain⟨o,ho,hc,_⟩:=pl;rcases hT with rfl | rfl | rfl | rfl | rfl
  ·exact call_isinstance (isinstance_false_tuple (by decide) hty F.sub_tuple_int) ⟨⟨o,ho,hc⟩,no rfl⟩
  ·exact call_isinstance (isinstance_false_tuple (by decide) hty F.sub_tuple_bool) ⟨⟨o,ho,hc⟩,no rfl⟩
  ·exact call_isinstance (isinstance_false_tuple (by decide) hty F.sub_tuple_str) ⟨⟨o,ho,hc⟩,no rfl⟩
  ·exact call_isinstance (isinstance_false_tuple (by decide) hty F.sub_tuple_list) ⟨⟨o,ho,hc⟩,no rfl⟩
  ·exact yes ⟨o,ho,hc⟩ F.sub_tuple_tuple rfl
theorem wc {T:Tb}{b:String}{c:Ex}{σ:L2.St}{H:Hp}{Q:VK}(hb:b∈iX)(h:tE X.K T (.blt (.isi b) (.cons c .nil)) σ H Q):DJ (GJ X.K) (eB (tE X.K T c) (eB (tC (.ty b)) qy)) σ H Q:=by
 obtain⟨P,env,F,re,p,hev,k⟩:=h;unfold ev aX aX at hev;obtain⟨l,h1,hev⟩:=Rs.bind_ok hev;obtain⟨q,h2,h1⟩:=Rs.bind_ok h1;cases h1;obtain⟨d',h3,hev⟩:=Rs.bind_ok hev;have h3:kH (.isi b) [q.1]=some d':=cU h3;have hnd:(∀ kvs,q.1≠.dct kvs)/\(∀ ks,q.1≠.mpi ks)/\(∀ ks,q.1≠.mpt ks)/\∀ ks,q.1≠.mpz ks:=⟨fun kvs e=>(by rw[e] at h3;cases h3),fun kvs e=>(by rw[e] at h3;cases h3),fun kvs e=>(by rw[e] at h3;cases h3),fun kvs e=>(by rw[e] at h3;cases h3)⟩;have hd:d' = .bl (wM b q.1):=by
  cases hq:q.1 with
  |dct kvs=>exact absurd hq (hnd.1 kvs)
  |mpi ks=>exact absurd hq (hnd.2.1 ks)
  |mpt ks=>exact absurd hq (hnd.2.2.1 ks)
  |mpz ks=>exact absurd hq (hnd.2.2.2 ks)
  |_=>rw[hq] at h3;cases h3;rfl
 subst hd;cases hev;exact⟨P,env,F,re,q,h2,fun v H1 G s rp rt=>⟨v,b,q.1,G,rfl,hb,hnd,rp,k _ H1 [] s (.bl _) bV.nil⟩⟩
end
section
variable {X:Cx}{T:Tb}
theorem jd.map {K:Frag}{H:Hp}(k:Int){m:MV}{v:V}(hm:qP K H m v):∀{q:List (Int×MV)}{x:List (Key×V)},jd K H q x->jd K H (q.map fun z=>if z.1=k then (z.1,m) else z) (x.map fun z=>if z.1=Sum.inl k then (z.1,v) else z)
 |[],[],_=>trivial
 | (j,n)::q,p::x,⟨a,b,c⟩=>by
  refine⟨?_,?_,c.map k hm⟩
  ·show (if p.1=Sum.inl k then (p.1,v) else p).1=Sum.inl (if j=k then (j,m) else (j,n)).1;rw[show (if p.1=Sum.inl k then (p.1,v) else p).1=p.1 by split<;>rfl,show (if j=k then (j,m) else (j,n)).1=j by split<;>rfl];exact a
  ·show qP K H (if j=k then (j,m) else (j,n)).2 (if p.1=Sum.inl k then (p.1,v) else p).2;by_cases e:j=k
   ·rw[if_pos e,if_pos (by rw[a,<-e])];exact hm
   ·rw[if_neg e,if_neg (by rw[a];exact fun z=>e (by injection z))];exact b
 |[],_::_,h=>h.elim
 |_::_,[],h=>h.elim
theorem jd.snoc {K:Frag}{H:Hp}(k:Int){m:MV}{v:V}(hm:qP K H m v):∀{q:List (Int×MV)}{x:List (Key×V)},jd K H q x->jd K H (q ++ [(k,m)]) (x ++ [(.inl k,v)])
 |[],[],_=>⟨rfl,hm,trivial⟩
 |_::_,_::_,⟨a,b,c⟩=>⟨a,b,c.snoc k hm⟩
 |[],_::_,h=>h.elim
 |_::_,[],h=>h.elim
theorem jd.put {K:Frag}{H:Hp}(k:Int){m:MV}{v:V}(hm:qP K H m v){q:List (Int×MV)}{x:List (Key×V)}(h:jd K H q x):jd K H (ou q k m) (putK x (.inl k) v):=by
 unfold ou putK;rw[h.any k];split
 ·exact h.map k hm
 ·exact h.snoc k hm
theorem nN {K:Frag}{H:Hp}:∀{xs:List D}{k:List Int}{vs:List V}{G:List Addr},jc xs=some k->aI K H xs vs G->vs=k.map V.int
 |[],k,vs,G,h,r=>by cases h;cases r;rfl
 | .int i::xs,k,vs,G,h,r=>by
  have h:(jc xs).map (i :: ·)=some k:=h;rw[aa] at h;obtain⟨k',h1,rfl⟩:=h;cases r with
  |cons r1 r2 =>
   obtain⟨rfl,_⟩:=r1.int_inv;rw[nN h1 r2];rfl
 |.non::_,_,_,_,h,_=>by cases h
 |.bl _::_,_,_,_,h,_=>by cases h
 |.str _::_,_,_,_,h,_=>by cases h
 |.lst _::_,_,_,_,h,_=>by cases h
 |.tup _::_,_,_,_,h,_=>by cases h
 |.dct _::_,_,_,_,h,_=>by cases h
 |.mpi _::_,_,_,_,h,_=>by cases h
 |.mpt _::_,_,_,_,h,_=>by cases h
 |.mpz _::_,_,_,_,h,_=>by cases h
theorem CG {K:Frag}{H:Hp}{d:D}{m:MV}{v:V}{G:List Addr}(h:xS d=some m)(r:Rep K H d v G):qP K H m v:=by
 cases d with
 |bl b =>
  cases b with
  |true=>cases h;cases r;rfl
  |false=>cases h
 |int i=>cases h;cases r;rfl
 |tup xs =>
  have h:(jc xs).map MV.tup=some m:=h;rw[aa] at h;obtain⟨k,h1,rfl⟩:=h;obtain⟨q,vs,rfl,a1,a2⟩:=r.tup_invT;rw[nN h1 a2] at a1;exact⟨q,rfl,a1⟩
 |_=>cases h
theorem zR {K:Frag}{H:Hp}{p:Addr}{o o':ML}(h:H p=some o.o)(b:Addr)(vs:List V)(t:kE K H b vs):kE K (upd H p o'.o) b vs:=by
 rcases t with t | t
 ·refine .inl ((aO fun e=>?_).trans t);subst e;rw[h] at t;cases o<;>cases t
 ·exact .inr t
theorem An {K:Frag}{P:Addr->Prop}{env:En}{σ:L2.St}{H:Hp}{F:Nat->List Addr}(re:RE K P env σ H F){i:Nat}{ks:List (Int×MV)}(hx:env[i]? = some (some (.mpi ks,.own))):∃ p xs,σ[i]? = some (some (.ref p))/\F i=[p]/\H p=some (.dK xs)/\jd K H ks xs:=by
 obtain⟨v,hv,rp⟩:=re.val i _ _ hx;obtain⟨_,lv,_⟩:=re.one i _ _ hx rfl;generalize hF:F i=G at rp lv;cases rp with
 |@mpi p _ xs h kr=>exact⟨p,xs,hv,rfl,h,kr⟩
theorem wm {pins:List (Addr×Obj)}{σ:L2.St}{H:Hp}{s:Shared}{a:Addr}(I:Inv X pins σ H s)(e:H a=some (.dK [])):Inv X pins σ (upd H a (.dT [])) s:=by
 obtain⟨z,hd,vs,rel,o,es,ep,h1,h2,h3,h4,h5,h6⟩:=wb I.hok e;cases rel;have hes:es.toList=[]:=by
  cases q:es.toList with
  |nil=>rfl
  |cons x r=>rw[q] at h5;cases h5
 exact kM (t':=s.toks) I (by rw[e];exact True.intro) ⟨rfl,fun _ _=>rfl⟩ ⟨o,h1⟩ ⟨dk _,hd,[],.nil,o,es,ep,h1,h2,h3,hes,bt⟩
def Cn (H:Hp)(a:Addr)(y v:V)(H':Hp):Prop:=pV H a y v H'\/∃ k b,H a=some (.dK [])/\y = .ref b/\H b=some (.tup (k.map kV))/\H'=upd H a (.dT (putK [] k v))
def yC (td ty tv:TE):TS:=fun D σ H=>tv σ H fun v H1=>td σ H1 fun x H2=>ty σ H2 fun y H3=>∃ a H4,x = .ref a/\Cn H3 a y v H4/\D.nx σ H4
theorem zU (H:Hp)(a:Addr)(o o':HO):upd (upd H a o) a o'=upd H a o':=by
 funext b;by_cases h:b=a
 ·subst h;rw[aP,aP]
 ·rw[aO h,aO h,aO h]
theorem wq {o i value:Expr}{pos pos':Pos}{td ty tv:TE}(hu:X.A.units+1<cLine)(ho:PE X o td)(hi:PE X i ty)(hv:PE X value tv)(hs:swapsWith value (some (.Subscript o i pos')) pos.line X.env=pure false) :
  PS X (.Assign [.Subscript o i pos'] value pos) (yC td ty tv):=by
 intro pins s σ H D I h;refine wpAny_Assign_Subscript (cL (hv pins s σ H _ I h) fun r s1 ⟨v,H1,I1,rv,q1⟩=>cL (ho pins s1 σ H1 _ I1 q1) fun u s2 ⟨x,H2,I2,rx,q2⟩=>cL (hi pins s2 σ H2 _ I2 q2) fun iv s3 ⟨y,H3,I3,ry,a,H4,ex,g,q3⟩=>?_) hs;subst ex;obtain rfl:u=Value.ref a:=rx;rcases g with g | ⟨k,b,e1,e2,e3,e4⟩
 ·exact mR hu I3 g ry rv fun s4 I4=>⟨σ,H4,I4,q3⟩
 ·subst e2 e4;have hb:b≠a:=fun z=>by subst z;rw[e1] at e3;cases e3
  refine mR hu (wm I3 e1) (pV.t (kvs:=[]) aP (by rw[aO hb];exact e3) (by decide)) ry rv fun s4 I4=>⟨σ,_,I4,?_⟩
  rw[zU];exact q3
theorem wR {K:Frag}{P:Addr->Prop}{env:En}{σ:L2.St}{H:Hp}{F:Nat->List Addr}(re:RE K P env σ H F){i:Nat}{d d' y u:D}(hx:env[i]? = some (some (d,.own)))(hp:Aw d y u=some d') :
  ∃ p,∃ m:ML,σ[i]? = some (some (.ref p))/\F i=[p]/\H p=some m.o/\∀ H3 wi Gi wv Gv,aJ H H3->Rep K H3 y wi Gi->Rep K H3 u wv Gv->∃ m':ML,Cn H3 p wi wv (upd H3 p m'.o)/\Rep K (upd H3 p m'.o) d' (.ref p) [p]:=by
 cases d with
 |mpi ks=>cases y with
  |int n =>
   have hp:(if ks.length<lim then (xS u).map fun m=>D.mpi (ou ks n m) else none)=some d':=hp;by_cases hl:ks.length<lim
   ·rw[if_pos hl,aa] at hp;obtain⟨mv,hmv,rfl⟩:=hp;obtain⟨p,xs,hv,hF,hH,kr⟩:=An re hx;refine⟨p,.k xs,hv,hF,hH,fun H3 wi Gi wv Gv sm rp ru=>?_⟩;have h3:H3 p=some (ML.k xs).o:=sm _ _ hH;have kr3:=kr.keep fun _ _=>aJ.tqT sm
    have mr:=CG hmv ru;obtain⟨rfl,_⟩:=rp.int_inv;refine⟨.k (putK xs (.inl n) wv),.inl (pV.k (k:=.inl n) h3 ?_),.mpi aP ((kr3.put n mr).keep fun b vs=>zR (o':=.k _) h3 b vs)⟩;rw[kr.len,sizeLine_eq];unfold lim at hl;omega
   ·rw[if_neg hl] at hp;cases hp
  |_=>cases hp
 |_=>cases hp
theorem vn {i:Nat}{c e:Ex}{D:Ends}{σ:L2.St}{H:Hp}(h:tS X.K T (.putd i c e) D σ H):yC (lA X.K T i .none) (tE X.K T c) (tE X.K T e) D σ H:=by
 obtain⟨P,Z,env,F,re,hz,zp,h⟩:=h;unfold aV at h;cases hx:ownAt env i with
 |none=>rw[hx] at h;exact h.elim
 |some d =>
  rw[hx] at h;obtain⟨u,hu,h⟩:=cD h;obtain⟨q,hq,h⟩:=cD h;cases hp:Aw d q.1 u.1 with
  |none=>rw[hp] at h;exact h.elim
  |some d' =>
   rw[hp] at h;have hx':=fQ hx;obtain⟨p,m,hv,hF,hH,inv⟩:=wR re hx' hp;refine⟨P,env,F,re,u,hu,fun wv H1 Gv s1 rpv rtv=>⟨P,env,F,none,.ref p,p,re.same s1,by unfold jB;rfl,hv,.top p,fun H2 s2=>⟨P,env,F,re.same (s1.trans s2),q,hq,fun wi H3 Gi s3 rpi rti=>?_⟩⟩⟩;have e:=(s1.trans s2).trans s3;have hp3:H3 p=some m.o:=e _ _ hH;obtain⟨m',i1,i2⟩:=inv H3 wi Gi wv Gv e rpi (rpv.same (s2.trans s3));refine⟨p,upd H3 p m'.o,rfl,i1,?_⟩;have hpx:p∈F i:=by rw[hF];simp
   have re1:=re.same e;have re2:=re1.mutateM (vs:=m') (R:=[]) (N:=[]) (G:=[p]) (d':=d') hx' hv hpx i2 (by simp) (fun a ha=>.inl (by rw[hF];exact ha)) (fun a ha=>nomatch ha);have nPp:¬ P p:=re.wr i _ hx' p hpx;refine h σ _ _ ⟨re2,fun j a ha=>?_,(jq.of_same re.pl e).trans ⟨fun a z=>aO (fun q=>nPp (q ▸ z)),fun b xs r=>?_,jW hp3⟩,fun j dj ej=>?_⟩
   ·unfold mI at ha;split at ha
    ·exact hz i a (by rw[hF];exact ha)
    ·split at ha
     ·exact hz j a ha
     ·cases ha
   ·refine (aO (fun q=>?_)).trans r;subst q;rw[hp3] at r;cases m<;>cases r
   ·by_cases hj:j=i
    ·subst hj;rw[List.getElem?_set_self (by rw[cX];exact (List.getElem?_eq_some_iff.mp hx').1)] at ej;cases ej
    ·rw[List.getElem?_set_ne (cy hj)] at ej;refine⟨(cH ej).1,?_⟩;unfold mI;rw[if_neg hj,ej]
theorem nT {K:Frag}{H:Hp}:∀ ks:List (Int×MV),aI K H (ks.map fun q=>D.int q.1) (ks.map fun q=>V.int q.1) []
 |[]=>.nil
 |k::ks=>.cons (G:=[]) (G':=[]) (.int k.1) (nT ks)
theorem nh {P:Program}{w:World}{K:Frag}{H:Hp}:∀{ks:List (Int×MV)}{xs:List (Key×V)}{vs:List (Key×Value)}{us:List Value},jd K H ks xs->KV xs vs->us.length=vs.length->(∀(j:Nat) u,us[j]? = some u->∃ k x,vs[j]? = some (k,x)/\(bR P w).is k u=true)->aM (ks.map fun q=>V.int q.1) us
 | [],[],_,us,_,r,hl,_=>by
  cases r;rw[List.length_eq_zero_iff.mp hl];exact .nil
 |[],_::_,_,_,h,_,_,_=>h.elim
 |_::_,[],_,_,h,_,_,_=>h.elim
 | (k,m)::ks,x::xs,_,us,⟨hk0,_,kr⟩,r,hl,h=>by
  have r:Paired _ (x::xs) _:=r;cases r with
  |@cons _ q _ qs h1 t =>
   cases us with
   |nil=>cases hl
   |cons u us =>
    obtain⟨k',y,e,hk⟩:=h 0 u rfl;have e:some q=some (k',y):=e;cases e;have h1:x.1=k':=h1.1;rw[hk0] at h1;have h1:(Sum.inl k:Key)=k':=h1;subst h1;obtain⟨i,t',e1,e2⟩ | ⟨x',t',e1,_⟩:=bH (show kF (.inl k) u=true from hk)
    ·cases e1;exact .cons ⟨t',e2⟩ (nh kr t (i5 hl) fun j u hu=>h (j+1) u hu)
    ·cases e1
theorem sk (hc:X.calm=true):fL X (.type "list") (sJ X.K .list):=by
 intro pins s σ H xs us Q I r h;obtain⟨ds,d,G,rs,hd,k⟩:=h;by_cases hm:∃ ks,ds=[.mpi ks]
 ·obtain⟨ks,rfl⟩:=hm;have hd:(if ks.length<=lim then some (D.lst (ks.map fun q=>D.int q.1)) else none)=some d:=hd;by_cases hl:ks.length<=lim
  ·rw[if_pos hl] at hd;cases hd;obtain⟨x,rfl,rp⟩:=rs.of1;obtain⟨u,rfl,rx⟩:=r.one;cases rp with
   |@mpi p _ xs hr kr =>
    obtain rfl:u = .ref p:=rx;obtain⟨z,lo,vs,rel,dd⟩:=sU I.hok (.inl hr);obtain⟨ep,hat⟩:=dd.dictAt;have hlen:vs.length=ks.length:=by rw[<-rel.length,kr.len]
    refine PySem.W.kdl_call (PySem.W.kdl_dict (knd:=bR X.prog X.w) (kvs:=vs) (ep:=ep) lo) (I.ok.hd hc) hat (by rw[hlen,sizeLine_eq];unfold lim at hl;omega) fun h' tk acc c hk hD hacc=>?_
    have hv:aM (ks.map fun q=>V.int q.1) acc.toList:=nh kr rel (by rw[gn];exact hacc.1) fun j u hu=>hacc.2 j u (by rw[<-Array.getElem?_toList];exact hu)
    refine⟨.ref s.heap.objs.size,upd H s.heap.objs.size (.lst (ks.map fun q=>V.int q.1)),I.laid hk (au _) ⟨by rw[ao,sizeLine_eq];unfold lim at hl;omega,acc.toList,c,hv,by rw[hD,Array.toArray_toList]⟩,rfl,?_⟩;obtain⟨n1,n2⟩:=jZ (G0:=[p]) (nT (K:=X.K) (H:=H) ks) (fun a ha=>nomatch ha) I.fresh;exact k _ _ _ n1 n2
  ·rw[if_neg hl] at hd;cases hd
 ·exact qj I r rs hd k fun ks e=>hm ⟨ks,e⟩
end
theorem cJ.live' {P:Program}{w:World}{H:Hp}{h:Heap}{a:Addr}{o:HO}(x:cJ P w H h a o):∃ ob,h.get? a=some ob:=by
 cases o with
 |lst xs=>obtain⟨_,_,_,_,e⟩:=x;exact⟨_,e⟩
 |tup xs=>obtain⟨_,_,_,ob,e,_⟩:=x;exact⟨_,e⟩
 |dK kvs=>obtain⟨_,_,_,_,o,_,_,e,_⟩:=x;exact⟨_,e⟩
 |dT kvs=>obtain⟨_,_,_,_,o,_,_,e,_⟩:=x;exact⟨_,e⟩
 |set S n=>obtain⟨o,_,_,_,e,_⟩:=x;exact⟨_,e⟩
 |ins C dx fs=>obtain⟨_,_,_,e,_⟩:=x;exact⟨_,e⟩
 |own y=>obtain⟨_,e⟩:=x;exact⟨_,e⟩
 |xd fs=>obtain⟨_,⟨_,_,_,e,_⟩,_⟩:=x;exact⟨_,e⟩
 |rng lo hi=>obtain⟨_,_,_,e⟩:=x;exact⟨_,e⟩
 |frz ob u=>obtain⟨e,_⟩:=x;exact⟨_,e⟩
 |tbl ps=>exact⟨_,(show h.get? a=some _ from x)⟩
 |met f y=>exact⟨_,(show h.get? a=some _ from x)⟩
 |ext φ=>obtain⟨_,⟨_,e⟩,_⟩:=x;exact⟨_,e⟩
section
variable {prog:Program}{w:World}{A:Around}
def TupI (h:Heap)(v:Value)(k:List Int):Prop:=∃ a o its n,v = .ref a/\h.get? a=some o/\o.cls = .type "tuple"/\o.data = .seq its n/\IntsAre its.toList k
end
theorem nr:∀ k:List Int,D.flats (k.map D.int)=true
 |[]=>rfl
 |_::k=>nr k
section
variable {X:Cx}{pins:List (Addr×Obj)}{σ:L2.St}{H:Hp}{s:Shared}
theorem mV (I:Inv X pins σ H s):∀{ys:List D}{ks:List (List Int)}{vs:List V}{G:List Addr}{us:List Value},ky ys=some ks->aI X.K H ys vs G->aM vs us->ks.length=us.length/\(∀ i k,ks[i]? = some k->TupI s.heap (us.getD i .none) k)/\(∀ k∈ks,k≠[])/\G=[]
 | [],ks,_,_,_,h,.nil,.nil=>by
  cases h;exact⟨rfl,fun i k h=>(by simp at h),fun k h=>(nomatch h),rfl⟩
 | .tup xs::r,ks,_,_,_,h,.cons r1 r2,.cons (b:=u) v1 v2=>by
  have h:((jc xs).bind fun k=>if k.isEmpty then none else (ky r).map (k :: ·))=some ks:=h;rw[ae] at h;obtain⟨k,h1,h2⟩:=h;by_cases he:k.isEmpty=true
  ·rw[if_pos he] at h2;cases h2
  ·rw[if_neg he,aa] at h2;obtain⟨ks',h3,rfl⟩:=h2;obtain⟨l,t,ne,g⟩:=mV I h3 r2 v2;have:=i7 h1;subst this;have gf:=r1.flat (nr k);obtain⟨p,vs',rfl,a1,a2⟩:=r1.tup_inv;obtain rfl:u = .ref p:=v1;obtain⟨its,rv,⟨o,e1,e2,n,e3⟩,_⟩:=I.tuple a1;refine⟨by simp[l],fun i k' hk=>?_,fun k' hk=>?_,by rw[gf,g];rfl⟩
   ·cases i with
    |zero =>
     have hk:some k=some k':=hk;cases hk;exact⟨p,o,_,n,rfl,e1,e2,e3,oX a2 rv⟩
    |succ i=>exact t i k' hk
   ·rcases iy.mp hk with rfl | hk
    ·intro z;subst z;exact he rfl
    ·exact ne k' hk
end
section
variable {X:Cx}
end
section
variable {X:Cx}{T:Tb}
end
structure StrIt (ty:String):Prop where
 item:∀{prog:Program}{w:World}{A:Around}{E:Value->Shared->Prop}{s:Shared}{it:Addr}{x:Str}{t:Tok}{i c:Nat}{Q:Value->Shared->Prop},s.heap.IsStrIter it ty x t i->x.cps[i]? = some c ->
  (∀ h',h'.IsStrIter it ty x t (i+1)->Heap.SameBut it s.heap h'->Q (.str ⟨#[c]⟩ s.toks) { s with heap:=h',toks:=s.toks+1 })->wpAny (model prog w) A (Builtin.SmallTypes.nextOf (.ref it)) Q E s
 done:∀{prog:Program}{w:World}{A:Around}{E:Value->Shared->Prop}{s:Shared}{it:Addr}{x:Str}{t:Tok}{i:Nat}{Q:Value->Shared->Prop},A.handled=none->s.heap.IsStrIter it ty x t i->x.cps[i]? = none ->
  (∀ h' e,Heap.ExtBut it s.heap h'->(∃ o,h'.get? e=some o/\o.cls = .type "StopIteration")->E (.ref e) { s with heap:=h' })->wpAny (model prog w) A (Builtin.SmallTypes.nextOf (.ref it)) Q E s
 n1:ty≠"list"
section
variable {prog:Program}{w:World}{A:Around}{E:Value->Shared->Prop}{s:Shared}{z TI TO i1 i2 l1:Addr}{k1 k2:Nat}{xs:Array Value}{x a b:Value}{y:Str}{t:Tok}{c:Nat}{ty:String}
end
section
variable {prog:Program}{w:World}{A:Around}{E:Value->Shared->Prop}{s:Shared}
end
theorem vJ {d:D}{l:List D}(h:sO d=some l):d = .lst l\/∃ y,d = .str y/\l=y.cps.toList.map fun c=>D.str ⟨#[c]⟩:=by
 cases d<;>simp[sO] at h
 ·exact .inr ⟨_,rfl,h.symm⟩
 ·rw[h];exact .inl rfl
section
variable {X:Cx}{T:Tb}
end
noncomputable def Hv (y:Str):It:=⟨fun i H=>∃ c,y.cps[i]? = some c,fun i H v H'=>∃ T c,v = .ref T/\H T=none/\y.cps[i]? = some c/\H'=upd H T (.tup [.int i,.str ⟨#[c]⟩]),fun i H=>i=y.cps.size⟩
def Cb (ty:String)(y:Str)(t:Tok):Prop:=∀{prog:Program}{w:World}{A:Around},A.handled=none->∀(it:Addr),Draws prog w A it [it] y.cps.size (fun i v=>∃ c u,y.cps[i]? = some c/\v=Value.str { cps:=#[c] } u) fun i h=>h.IsStrIter it ty y t i
theorem rW {P:Program}{w:World}{K:Frag}{elts:List Expr}{x1:Nat}{pos:Pos}{ty:String}{y:Str}{t:Tok}(S:Cb ty y t)(e it:Addr)(hne:e≠it):Turn P w K (.Tuple elts x1 pos) (Hv y) [e,it] e (fun i h=>(∃ old,IsEnum h e it (i:Nat) old)/\h.IsStrIter it ty y t i) where
 mem:=by simp
 obj:=fun i h st b hb=>by
  obtain⟨⟨old,he⟩,hit⟩:=st;have hb:b=e\/b=it:=by simpa using hb
  rcases hb with rfl | rfl
  ·exact⟨_,he,fun v z=>by cases z⟩
  ·obtain⟨o,e,c,d⟩:=hit;exact⟨o,e,fun v z=>by rw[d] at z;cases z⟩
 keep:=fun i h h' st k=>by
  obtain⟨⟨old,he⟩,⟨o,e1,r⟩⟩:=st;exact⟨⟨old,k e (by simp) _ he⟩,⟨o,k it (by simp) o e1,r⟩⟩
 item:=by
  intro X hP hw hK hc i pins s σ H E I hf st hg;subst hP hw hK;obtain⟨c,hc0⟩:=hg;obtain⟨⟨old,he⟩,hit⟩:=st;have lts:∀ b∈[e,it],b<s.heap.objs.size:=fun b hb=>by
   have hb:b=e\/b=it:=by simpa using hb
   rcases hb with rfl | rfl
   ·exact Heap.lt_size he
   ·obtain⟨o,e,_⟩:=hit;exact Heap.lt_size e
  have hi:i<y.cps.size:=(Array.getElem?_eq_some_iff.mp hc0).1;refine wpAny_pyNext_enum_itemD (S (A:=X.A.in1) (I.ok.hd hc) it) he hit hi hne (by simpa using hne) fun x h' tk hx ho hit' hT hsz hk=>?_
  obtain⟨c',u,hc',rfl⟩:=hx;rw[hc0] at hc';cases hc';have I2:Inv X pins σ (upd H s.heap.objs.size (.tup [.int i,.str ⟨#[c]⟩])) { s with heap:=h',toks:=tk+1 } :=
   paired (ch:=[e,it]) I ⟨tk,rfl⟩ ⟨u,rfl⟩ hT (fun b o hb q=>hk b o (fun z=>hb (by simp[z])) (fun z=>hb (by simp[z])) q) hf lts
  have f2:∀ b∈[e,it],je X pins (upd H s.heap.objs.size (.tup [.int i,.str ⟨#[c]⟩])) b:=fun b hb=>by
   obtain⟨f0,f⟩:=hf b hb;exact⟨by rw[aO (ba (lts b hb))];exact f0,f⟩
  refine⟨_,rfl,wpAny_letOwnedTupleGo_enum (s:={ s with heap:=h',toks:=tk+1 }) ho fun h2 he2 hs2=>?_⟩;refine⟨.ref s.heap.objs.size,_,jC (ch:=[e]) I2 (fun b o hb q=>hs2.extBut b o (fun z=>hb (by simp[z])) q) (fun b hb=>f2 b (by simp at hb;simp[hb])),rfl,⟨_,c,rfl,I.fresh,hc0,rfl⟩,⟨⟨_,by simpa using he2⟩,hit'.extBut hs2.extBut (Ne.symm hne)⟩,fun b hb=>(f2 b hb).1⟩
 done:=by
  intro X hP hw hK hc i pins s σ H E I hf st hg;subst hP hw hK;obtain⟨⟨old,he⟩,hit⟩:=st;have hg:i=y.cps.size:=hg;subst hg;exact wpAny_pyNext_enum_endD (S (A:=X.A.in1) (I.ok.hd hc) it) he hit fun h' eb=>⟨rfl,jC (t':=s.toks) (ch:=[it]) I (fun b o hb q=>eb b o (fun z=>hb (by simp[z])) q) fun b hb=>hf b (by simp at hb;simp[hb])⟩
 self:=fun A i s Q E st h=>by
  obtain⟨⟨old,he⟩,_⟩:=st;exact wpAny_pyIter_enum he h
theorem sj {K:Frag}{P:Addr->Prop}{H0:Hp}{y:Str}:jm K P H0 (Hv y) ((y.cps.toList.map fun c=>D.str ⟨#[c]⟩).zipIdx.map fun q=>.tup [.int q.2,q.1]) []:=fun H e=>by
 refine⟨fun i d hd=>?_,show _=_ by rw[ao,List.length_zipIdx,ao,gn]⟩;obtain⟨c,hc,rfl⟩:∃ c,y.cps[i]? = some c/\d = .tup [.int i,.str ⟨#[c]⟩]:=by
  rw[List.getElem?_map,List.getElem?_zipIdx,List.getElem?_map,Array.getElem?_toList] at hd;cases q:y.cps[i]? with
  |none=>rw[q] at hd;cases hd
  |some c=>rw[q] at hd;simp at hd;exact⟨c,rfl,hd.symm⟩
 refine⟨⟨c,hc⟩,fun x H' ⟨T,c',e1,e2,e3,e4⟩=>?_⟩;subst e1 e4;rw[hc] at e3;cases e3;exact⟨aJ.new e2,[]++([] ++ []),.tup (.inl aP) (.cons (.int _) (.cons (.str _) .nil)),fun z hz=>by simpa using hz⟩
section
variable {X:Cx}{T:Tb}
theorem AK {e:Expr}{c:Ex}{elts:List Expr}{x1:Nat}{p tp pos:Pos}(hg:Gl X "enumerate") (hm:X.mg "enumerate" = none) (ha:PA X [e] (rj X.K T (.cons c .nil))) (hs:starEach [e] X.env=(false,eval e X.env)::starEach [] X.env):PI X (.Tuple elts x1 tp) (.Call (.Name "enumerate" p) [e] [] pos) (tI X.K T (.enum c)):=by
 intro pins s σ H R I hq;obtain⟨P,env,F,re,q,hev,k⟩:=hq;unfold eX at hev;obtain⟨r,h1,hev⟩:=Rs.bind_ok hev;obtain⟨l,h2,hev⟩:=Rs.bind_ok hev;cases hev;have hl:aX T (.cons c .nil) env = .ok [r]:=by unfold aX;rw[h1];unfold aX;rfl
 refine Call_ (mn I hg hm boot_enumerate (ij (cL (ha pos pins s σ H (fun vs H'=>∃ G,Args X.K env F H H' [r] vs G) I ⟨P,env,F,re,[r],hl,fun vs H' G ar=>⟨G,ar⟩⟩) fun us s1 ⟨vs,H1,I1,r1,G,ar⟩=>?_) hs rfl));have rs:aI X.K H1 [r.1] vs G:=ar.reps;obtain⟨x,rfl,rp⟩:=rs.of1;obtain⟨u,rfl,ru⟩:=r1.one;have fp:∀ b∈[s1.heap.objs.size+1,s1.heap.objs.size],je X pins H1 b:=fun b hb=>by
  simp only[List.mem_cons,List.not_mem_nil,or_false] at hb;have hb:s1.heap.objs.size<=b:=DC _ _ hb;exact I1.fpOk hb (I1.hok.fresh hb)
 rcases vJ (cU h2) with e2 | ⟨y,e2,rfl⟩
 ·rw[e2] at rp;obtain⟨a,vs,g,rfl,rfl,a1,a2⟩:=rp.lst_inv;cases ru;obtain⟨its,rv,pl,hz⟩:=I1.list (.inl a1);exact call_enumerate_list pl.isList fun h' he hit hsz hk=>wpAny_pyIter_enum he ⟨_,[s1.heap.objs.size+1,s1.heap.objs.size],_,_,H1,rfl,I1.kept (t':=s1.toks) hk,uW a _ _ (Nat.succ_ne_self _),⟨⟨_,he⟩,hit⟩,fp,k _ H1 (a::g) ar.same (mT ar fun q hq=>by simpa[aS] using hq) (fun b hb=>rp.nn hb) fun P' hP=>vh a1 a2 hP⟩
 ·rw[e2] at rp;obtain⟨rfl,rfl⟩:=rp.str_inv;obtain⟨tk,rfl⟩:=ru;have dr:Cb (strIterType y) y tk:=by
   intro prog w A hA it;unfold strIterType;split
   ·exact Draws.strAscii hA it y tk
   ·exact Draws.strWide hA it y tk
  exact call_enumerate_str fun h' he hit hsz hk=>wpAny_pyIter_enum he ⟨_,[s1.heap.objs.size+1,s1.heap.objs.size],_,_,H1,rfl,I1.kept (t':=s1.toks) hk,rW dr _ _ (Nat.succ_ne_self _),⟨⟨_,he⟩,hit⟩,fp,k _ H1 [] ar.same (mT ar fun q hq=>by simpa[aS] using hq) (fun b hb=>(nomatch hb)) fun P' hP=>sj⟩
end
section
variable {prog:Program}{w:World}{A:Around}{E:Value->Shared->Prop}{s:Shared}
end
section
variable {X:Cx}{T:Tb}
end
section
variable {X:Cx}{T:Tb}
end
section
variable {prog:Program}{w:World}{A:Around}{R:Result->Shared->Prop}{it:Addr}{fp wr:List Addr}{n:Nat}{P:Nat->Value->Prop}{Sta:Nat->Heap->Prop}{dv:Value}{bx:Addr}
end
section
variable {X:Cx}{T:Tb}
end
noncomputable def isK (k:Int):Value->Bool
 |.int i _=>i==k
 |_=>false
theorem pq:∀{vs:List Value}{ns:List Int},IntsAre vs ns->vs.length=ns.length/\∀(i:Nat) v,vs[i]? = some v->∃ n t,ns[i]? = some n/\v = .int n t
 |_,_,.nil=>⟨rfl,fun i v h=>by simp at h⟩
 | _,_,.cons n t r=>by
  obtain⟨l,g⟩:=pq r;refine⟨by simp[l],fun i v h=>?_⟩;cases i with
  |zero =>
   rw[List.getElem?_cons_zero] at h;cases h;exact⟨n,t,rfl,rfl⟩
  |succ i =>
   rw[List.getElem?_cons_succ] at h;obtain⟨m,u,h1,h2⟩:=g i v h;exact⟨m,u,by rw[List.getElem?_cons_succ];exact h1,h2⟩
theorem xD {k:Int}:∀{ns:List Int},k∈ns->ns[ns.idxOf k]? = some k/\∀ m,m<ns.idxOf k->∀ n,ns[m]? = some n->n≠k
 | n::ns,h=>by
  rw[List.idxOf_cons];by_cases e:n=k
  ·subst e;simp
  ·have hk:k∈ns:=by
    rcases iy.mp h with z | z
    ·exact absurd z.symm e
    ·exact z
   obtain⟨h1,h2⟩:=xD hk;have hb:(n==k)=false:=ig.mpr e;rw[hb];refine⟨by simpa using h1,fun m hm q hq=>?_⟩;cases m with
   |zero =>
    rw[List.getElem?_cons_zero] at hq;cases hq;exact e
   |succ m =>
    rw[List.getElem?_cons_succ] at hq;exact h2 m (by simpa using hm) q hq
theorem yj {prog:Program}{w:World}{A:Around}{E:Value->Shared->Prop}{s:Shared}{l:Addr}{vs:List Value}{ns:List Int}{k:Int}{t:Tok}{Q:Value->Shared->Prop}(pl:s.heap.IsList l vs.toArray)(hi:IntsAre vs ns)(hl:ns.length<=100000000)(hk:k∈ns)
  (q:Q (.int (ns.idxOf k:Nat) s.toks) { s with toks:=s.toks+1 }):wpAny (model prog w) A (call (.builtin "list.index") [.ref l,.int k t]) Q E s:=by
 obtain⟨⟨cls,dd,data,sl⟩,ho,hc,n,hd⟩:=id pl;cases hc;cases hd;obtain⟨hlen,hat⟩:=pq hi;obtain⟨i1,i2⟩:=xD hk;have hj:ns.idxOf k<vs.toArray.size:=by
  rw[ai,hlen];exact (List.getElem?_eq_some_iff.mp i1).1
 have val:∀(m:Nat) (hm:m<vs.toArray.size),∃ n t,ns[m]? = some n/\vs.toArray[m] = .int n t:=fun m hm=>hat m _ (by
  rw[ai] at hm;rw[List.getElem?_eq_getElem hm];rfl)
 refine call_meets PySem.F.slot_list_index ⟨_,ho,rfl⟩ PySem.F.entry_list_index (PySem.F.args_list_index_2 _ _) (SeqAt.list_indexAt l vs.toArray n dd sl (.int k t) (isK k) (ns.idxOf k) hj ?_ ?_ fun m hm hlt=>?_) ⟨ho,fun y hy=>?_,q⟩
 ·rw[ai,hlen] at hj;omega
 ·obtain⟨n',t',h1,h2⟩:=val _ hj;rw[i1] at h1;cases h1;rw[h2];show (k==k)=true;rw[cu]
 ·obtain⟨n',t',h1,h2⟩:=val m hm;rw[h2];exact ig.mpr (i2 m hlt n' h1)
 ·obtain⟨m,hm,rfl⟩:=Array.mem_iff_getElem.mp hy;obtain⟨n',t',h1,h2⟩:=val m hm;rw[h2];exact SeqAt.EqAt.int_int n' t' k t
theorem gK {lt:Nat->Nat->Bool}{n:Nat}:∀(k j m:Nat),j+k=n->m<n->dJ lt k j m<n
 |0,_,m,_,h=>h
 | k+1,j,m,e,h=>by
  unfold dJ;refine gK k (j+1) _ (by omega) ?_;split
  ·omega
  ·exact h
theorem sP:(toString "min" ++ toString ".loop" : String) = "min.loop":=by decide
section
variable {prog:Program}{w:World}{A:Around}{R:Result->Shared->Prop}{it:Addr}{fp wr:List Addr}{n:Nat}{P:Nat->Value->Prop}{Sta:Nat->Heap->Prop}{bx:Addr}{val:Nat->Value}{lt:Nat->Nat->Bool}{h0:Heap}
def Kp (wr:List Addr)(bx:Addr)(h0 h:Heap):Prop:=∀ b o,b∉wr->b≠bx->h0.get? b=some o->h.get? b=some o
theorem Az (W:Walks prog w A.in1 it fp wr n P Sta)(hval:∀ i v,P i v->v=val i)(hb:bx∉fp)
  (hcmp:∀(i j:Nat) (s':Shared) (Q E:Value->Shared->Prop),i<n->j<n->Kp wr bx h0 s'.heap->Q (.bool (lt i j)) s'->wpAny (model prog w) A.in1 (richCompare .Lt (val i) (val j)) Q E s') :
  ∀(k j:Nat) (s:Shared) (m:Nat) (c:Nat),n - j=k->j<=n->m<n->Sta j s.heap->Kp wr bx h0 s.heap->s.heap.get? bx=some { cls:=.type "list",dict:=none,data:=.seq #[val m,val m] c,slots:=#[] } ->
  (∀ hp tk,Kp wr bx h0 hp->R (.ok (.ret (val (dJ lt k j m)))) { s with heap:=hp,toks:=tk }) ->
  codeAny (model prog w) A (.builtin "min.loop" ⟨[.ref it,.none,.ref bx],[]⟩) R s:=by
 have hw:bx∉wr:=fun h=>hb (W.sub _ h)
 intro k
 induction k with
 |zero =>
  intro j s m c hk hj hm st kp hB q;have e:j=n:=by omega
  subst e;refine codeAny_builtin F.entry_min_loop (by
   rw[Around.under_plainId F.plain_min_loop _];show wpAny _ A.in1 (seqItems? (.ref bx) >>= _) _ _ s;refine wpAny_bind (wpAny_seqItems hB rfl (wpAny_bind (wpAny_tryCatch (W.done s _ _ st fun hp tk hk'=>?_))));have hB':=hk' bx _ hw hB;show wpAny _ A.in1 (updateSeq bx (fun _=>#[]) >>= _) _ _ _;exact wpAny_bind (wpAny_updateSeq hB' rfl (wpAny_bind (wpAny_letGo (wpAny_pure (q _ tk fun b o h1 h2 e=>(Heap.get?_update_other _ _ (cy h2)).trans (hk' b o h1 (kp b o h1 h2 e))))))))
 |succ k ih =>
  intro j s m c hk hj hm st kp hB q;have hlt:j<n:=by omega
  refine codeAny_builtin F.entry_min_loop (by
   rw[Around.under_plainId F.plain_min_loop _];show wpAny _ A.in1 (seqItems? (.ref bx) >>= _) _ _ s;refine wpAny_bind (wpAny_seqItems hB rfl (wpAny_bind (wpAny_tryCatch (W.item j s _ _ hlt st fun v hp tk hv st' hk'=>?_))));have hB':=hk' bx _ hw hB;have hve:=hval j v hv;subst hve;have kp':Kp wr bx h0 hp:=fun b o h1 h2 e=>hk' b o h1 (kp b o h1 h2 e)
   show wpAny _ A.in1 (tryCatch (holding [val j,val j] (richCompare .Lt (val j) (val m) >>= _)) _ >>= _) _ _ _;refine wpAny_bind (wpAny_tryCatch (wpAny_holding (wpAny_bind (hcmp j m _ _ _ hlt hm kp' (wpAny_bind (wpAny_holding (wpAny_truthy_bool (wpAny_bind (wpAny_letGo (wpAny_pure ?_))))))))));cases hg:lt j m with
   |true =>
    simp only[if_true];refine wpAny_bind (wpAny_updateSeq hB' rfl (wpAny_bind (wpAny_letGo ?_)));rw[sP];refine wpAny_pure ⟨plainId_quiet F.plain_min_loop _,ih (j+1) _ j _ (by omega) hlt hlt (W.frame _ _ _ st' fun b hbf o e=>(Heap.get?_update_other _ _ (fun h:bx=b=>hb (h ▸ hbf))).trans e) (fun b o h1 h2 e=>(Heap.get?_update_other _ _ (cy h2)).trans (kp' b o h1 h2 e)) (Heap.get?_update_self _ hB' rfl) fun hp2 tk2 hk2=>?_⟩;have:=q hp2 tk2 hk2;unfold dJ at this
    rwa [hg,if_pos rfl] at this
   |false =>
    simp only[Bool.false_eq_true,if_false];refine wpAny_bind (wpAny_letGo ?_);rw[sP];refine wpAny_pure ⟨plainId_quiet F.plain_min_loop _,ih (j+1) _ m c (by omega) hlt hm st' kp' hB' fun hp2 tk2 hk2=>?_⟩;have:=q hp2 tk2 hk2;unfold dJ at this
    rwa [hg,if_neg (by decide)] at this)
theorem wD (W:Walks prog w A.in1 it fp wr n P Sta)(hval:∀ i v,P i v->v=val i)(hb:bx∉fp)(hn:0<n)
  (hcmp:∀(i j:Nat) (s':Shared) (Q E:Value->Shared->Prop),i<n->j<n->Kp wr bx h0 s'.heap->Q (.bool (lt i j)) s'->wpAny (model prog w) A.in1 (richCompare .Lt (val i) (val j)) Q E s')
  {s:Shared}{c:Nat}(st:Sta 0 s.heap) (kp:Kp wr bx h0 s.heap) (hB:s.heap.get? bx=some { cls:=.type "list",dict:=none,data:=.seq #[] c,slots:=#[] })
  (q:∀ hp tk,Kp wr bx h0 hp->R (.ok (.ret (val (dJ lt (n - 1) 1 0)))) { s with heap:=hp,toks:=tk }) :
  codeAny (model prog w) A (.builtin "min.loop" ⟨[.ref it,.none,.ref bx],[]⟩) R s:=by
 have hw:bx∉wr:=fun h=>hb (W.sub _ h)
 refine codeAny_builtin F.entry_min_loop (by
  rw[Around.under_plainId F.plain_min_loop _];show wpAny _ A.in1 (seqItems? (.ref bx) >>= _) _ _ s;refine wpAny_bind (wpAny_seqItems hB rfl (wpAny_bind (wpAny_tryCatch (W.item 0 s _ _ hn st fun v hp tk hv st' hk'=>?_))));have hB':=hk' bx _ hw hB;have hve:=hval 0 v hv;subst hve;have kp':Kp wr bx h0 hp:=fun b o h1 h2 e=>hk' b o h1 (kp b o h1 h2 e)
  show wpAny _ A.in1 (updateSeq bx (fun _=>#[val 0,val 0]) >>= _) _ _ _;refine wpAny_bind (wpAny_updateSeq hB' rfl ?_);rw[sP];refine wpAny_pure ⟨plainId_quiet F.plain_min_loop _,Az W hval hb hcmp (n - 1) 1 _ 0 _ rfl hn hn (W.frame _ _ _ st' fun b hbf o e=>(Heap.get?_update_other _ _ (fun h:bx=b=>hb (h ▸ hbf))).trans e) (fun b o h1 h2 e=>(Heap.get?_update_other _ _ (cy h2)).trans (kp' b o h1 h2 e)) (Heap.get?_update_self _ hB' rfl) fun hp2 tk2 hk2=>?_⟩;exact q _ tk2 hk2)
end
theorem uO {prog:Program}{w:World}{A:Around}{E:Value->Shared->Prop}{s:Shared}{x:Value}{Q:Value->Shared->Prop}
  (h:wpAny (model prog w) A.in1 (pyIter x) (fun iv s₂=>∃ it fp wr n P Sta,∃(val:Nat->Value) (lt:Nat->Nat->Bool),iv = .ref it/\Walks prog w A.in1 it fp wr n P Sta/\Sta 0 s₂.heap/\(∀ b∈fp,b<s₂.heap.objs.size)/\0<n/\(∀ i v,P i v->v=val i) /\
   (∀(i j:Nat) (s':Shared) (Q E:Value->Shared->Prop),i<n->j<n->(∀ b o,b∉wr->s₂.heap.get? b=some o->s'.heap.get? b=some o)->Q (.bool (lt i j)) s'->wpAny (model prog w) A.in1 (richCompare .Lt (val i) (val j)) Q E s') /\
   ∀ hp tk,(∀ b o,b∉wr->s₂.heap.get? b=some o->hp.get? b=some o)->Q (val (dJ lt (n - 1) 1 0)) { s₂ with heap:=hp,toks:=tk }) E s) :
  wpAny (model prog w) A (call (.builtin "min") [x]) Q E s:=by
 refine wpAny_call (codeAny_call_builtin F.plain_min F.entry_min ?_);have hc:wpAny (model prog w) A.in1 (Builtin.«min» ⟨[x],[]⟩) (fun fin s'=>match fin with
   |.done f=>(match (Except.ok f:Result) with | .ok (.ret v)=>Q v s' | .ok _=>False | .error e=>E e s')
   |.again c=>c.quiet=true/\codeAny (model prog w) A c (fun r s2=>match r with | .ok (.ret v)=>Q v s2 | .ok _=>False | .error e=>E e s2) s') E s:=by
  show wpAny _ A.in1 (Builtin.Builtins.bindParams "min" ["key","default"] 0 ⟨[],[]⟩ >>= _) _ _ s;refine wpAny_bind (wpAny_of_eq (show Builtin.Builtins.bindParams "min" ["key","default"] 0 ⟨[],[]⟩=pure [none,none] from rfl) (wpAny_bind (wpAny_pure (wpAny_bind (wpAny_mono h (fun iv s₂ h₂=>?_) fun _ _ e=>e)))));obtain⟨it,fp,wr,n,P,Sta,val,lt,rfl,W,st,hfp,hn,hval,hcmp,q⟩:=h₂;refine wpAny_bind (wpAny_newObj_type ?_);rw[sP];have fresh:∀ b o,s₂.heap.get? b=some o->b≠s₂.heap.objs.size:=fun b o e=>ba (Heap.lt_size e)
  refine wpAny_pure ⟨plainId_quiet F.plain_min_loop _,wD (h0:=s₂.heap) (lt:=lt) W hval (fun hm=>du _ (hfp _ hm)) hn (fun i j s' Q E hi hj kp hQ=>hcmp i j s' Q E hi hj (fun b o hbw e=>kp b o hbw (fresh b o e) e) hQ) (W.frame _ _ _ st fun b _ o e=>Heap.get?_push_of_some _ e) (fun b o _ _ e=>Heap.get?_push_of_some _ e) (Heap.get?_push_size _ rfl) fun hp tk hk=>?_⟩;exact q hp tk fun b o hbw e=>hk b o hbw (fresh b o e) e
 have ha:=PySem.F.args_min1 x;simp only[checkBuiltinCall,F.kind_min];cases hsig:Manifest.signature? "min" with
 |none=>exact wpAny_pure hc
 |some sig =>
  simp only[argsOk,hsig] at ha;have h2:Bind.checkArgs "min" sig ⟨[x],[]⟩=pure ():=ha;show wpAny _ A.in1 (Bind.checkArgs "min" sig ⟨[x],[]⟩) _ _ s;rw[h2];exact wpAny_pure hc
section
variable {X:Cx}{pins:List (Addr×Obj)}{σ:L2.St}{H:Hp}{s:Shared}
theorem wg (hc:X.calm=true)(I:Inv X pins σ H s){p:Addr}{vs:List V}{its:List Value}{Q:VK}(rv:aM vs its)(pl:s.heap.IsList p its.toArray)(hn:0<its.length)(lt:Nat->Nat->Bool)
  (hcmp:∀(i j:Nat) (u v:Value),its[i]? = some u->its[j]? = some v->∀(s':Shared) (Q E:Value->Shared->Prop),(∀ b o,s.heap.get? b=some o->s'.heap.get? b=some o)->Q (.bool (lt i j)) s'->wpAny (model X.prog X.w) X.A.in1 (richCompare .Lt u v) Q E s')
  (k:∀ v,vs[dJ lt (its.length - 1) 1 0]? = some v->Q v H):wpAny (model X.prog X.w) X.A (call (.builtin "min") [.ref p]) (EP X pins σ Q) X.xe s:=by
 have hlt:p<s.heap.objs.size:=by
  obtain⟨o,ho,_⟩:=pl;exact Heap.lt_size ho
 have atN:∀ i,i<its.length->its[i]? = some (its.getD i .none):=fun i hi=>by
  simp[List.getD,List.getElem?_eq_getElem hi]
 refine uO (wpAny_pyIter_list pl ⟨s.heap.objs.size,[s.heap.objs.size,p],[s.heap.objs.size],its.toArray.size,_,_,fun i=>its.getD i .none,lt,rfl,Walks.list (A:=X.A.in1) (show X.A.in1.handled=none from I.ok.hd hc) s.heap.objs.size p (ba hlt) its.toArray,⟨⟨_,Heap.get?_push_size _ rfl,rfl,rfl⟩,pl.at fun o e=>Heap.get?_push_of_some _ e⟩,fun c hb=>?_,by rw[ai];exact hn,fun i v hP=>?_,fun i j s' Q' E' hi hj kp hQ=>?_,fun hp tk hk=>?_⟩)
 ·simp only[List.mem_cons,List.not_mem_nil,or_false] at hb;rw[Heap.size_push];rcases hb with rfl | rfl
  ·exact Nat.lt_succ_self _
  ·exact iw hlt
 ·have hP:its.toArray[i]? = some v:=hP;rw[List.getElem?_toArray] at hP;simp[List.getD,hP]
 ·rw[ai] at hi hj;exact hcmp i j _ _ (atN i hi) (atN j hj) s' Q' E' (fun b o e=>kp b o (by
   intro z;rw[ir] at z;subst z;exact du _ (Heap.lt_size e)) (Heap.get?_push_of_some _ e)) hQ
 ·have J1:Inv X pins σ H { s with heap:=s.heap.push { cls:=.type "list_iterator",data:=.fields #[.ref p,.int 0 0] } }:=I.kept (t':=s.toks) fun b o e=>Heap.get?_push_of_some _ e
  obtain⟨f0,f1,f2,f3,f4,f5⟩:=I.fpOk (b:=s.heap.objs.size) (au _) (I.hok.fresh (au _));have J2:=J1.turned (t':=tk) (fun b o hb e=>hk b o (by simpa using hb) e) f0 f1 f3 f4 f5;rw[ai];have hb:dJ lt (its.length - 1) 1 0<its.length:=gK _ _ _ (by omega) hn;have hvb:dJ lt (its.length - 1) 1 0<vs.length:=by rw[rv.length];exact hb
  obtain⟨u,e1,e2⟩:=rv.get (List.getElem?_eq_getElem hvb);have:its.getD (dJ lt (its.length - 1) 1 0) .none=u:=by
   have:=atN _ hb;rw[e1] at this;cases this;rfl
  show EP X pins σ Q (its.getD (dJ lt (its.length - 1) 1 0) .none) _;rw[this];exact⟨_,H,J2,e2,k _ (List.getElem?_eq_getElem hvb)⟩
theorem rG {its:List Value}{ns:List Int}(hi:IntsAre its ns)(i j:Nat)(u v:Value)(hu:its[i]? = some u)(hv:its[j]? = some v)(s':Shared)(Q E:Value->Shared->Prop)(h:Q (.bool (decide (ns.getD i 0<ns.getD j 0))) s'):wpAny (model X.prog X.w) X.A.in1 (richCompare .Lt u v) Q E s':=by
 obtain⟨_,hat⟩:=pq hi;obtain⟨a,t,h1,rfl⟩:=hat i u hu;obtain⟨b,t',h2,rfl⟩:=hat j v hv;have e1:ns.getD i 0=a:=by simp[List.getD,h1]
 have e2:ns.getD j 0=b:=by simp[List.getD,h2]
 rw[e1,e2] at h;exact HT.pG _ _ _ _ _ _ _ _ _ _ h
theorem r8 (hu:X.A.units+1<cLine){a b:Addr}{xs ys:List Value}{ns ms:List Int}(h1:IsTup s.heap a xs.toArray)(h2:IsTup s.heap b ys.toArray)(i1:IntsAre xs ns)(i2:IntsAre ys ms)(s':Shared)(Q E:Value->Shared->Prop)(kp:∀ b o,s.heap.get? b=some o->s'.heap.get? b=some o)(h:Q (.bool (HT.lexLt ns ms)) s') :
  wpAny (model X.prog X.w) X.A.in1 (richCompare .Lt (.ref a) (.ref b)) Q E s':=by
 obtain⟨o,ho,r⟩:=h1;obtain⟨o',ho',r'⟩:=h2;exact (HT.sE (A:=X.A.in1) ⟨o,kp _ _ ho,r⟩ ⟨o',kp _ _ ho',r'⟩ (by simpa using i1) (by simpa using i2) hu h:wpAny (model X.prog X.w) X.A.in1 (compareOp .Lt (.ref a) (.ref b)) Q E s')
end
theorem ur:∀ a b:List Int,qB a b=HT.lexLt a b
 |[],[]=>rfl
 |[],_::_=>rfl
 |_::_,[]=>rfl
 | x::a,y::b=>by
  show (if x==y then qB a b else decide (x<y))=_;rw[HT.mw,ur a b];by_cases e:x=y
  ·rw[if_pos e,if_pos (by rw[e];exact cu y)]
  ·rw[if_neg e,if_neg (by rw[fw];exact e)]
section
variable {X:Cx}
theorem rQ (hc:X.calm=true)(hu:X.A.units+40<cLine):fL X (.builtin "min") (sJ X.K .min2):=by
 intro pins s σ H xs us Q I r h;obtain⟨ds,d,G,rs,hd,k⟩:=h
 match ds,hd with
 |[.int i,.int j],hd =>
  cases hd;obtain⟨x,y,G1,G2,rfl,rp,rp'⟩:=rs.of2;obtain⟨rfl,rfl⟩:=rp.int_inv;obtain⟨rfl,rfl⟩:=rp'.int_inv;exact u9 hc pins s σ H _ us Q I r ⟨i,j,rfl,k _ H [] (.int _) gM.nil⟩
 |[.lst ys],hd =>
  have hd:minD ys=some d:=hd;obtain⟨x,rfl,rp⟩:=rs.of1;obtain⟨l,vs,g,rfl,rfl,a1,a2⟩:=rp.lst_inv;obtain⟨u,rfl,rx⟩:=r.one;obtain rfl:u = .ref l:=rx;obtain⟨its,rv,pl,_⟩:=I.list (.inl a1);have hlen:its.length=ys.length:=by rw[<-rv.length,<-a2.len]
  unfold minD at hd;by_cases he:ys.isEmpty=true
  ·rw[if_pos he] at hd;cases hd
  rw[if_neg he] at hd;have hn:0<its.length:=by
   rw[hlen];cases ys with
   |nil=>exact absurd rfl he
   |cons _ _=>exact Nat.succ_pos _
  have fin:∀ lt:Nat->Nat->Bool,ys[dJ lt (ys.length - 1) 1 0]? = some d->(d.flat=true\/g=[])->∀ v,vs[dJ lt (its.length - 1) 1 0]? = some v->Q v H:=fun lt hy hf v hv=>by
   rw[hlen] at hv;obtain⟨v',G',e1,e2,e3⟩:=a2.get hy;rw[hv] at e1;cases e1;have:G'=[]:=by
    rcases hf with hf | rfl
    ·exact e2.flat hf
    ·exact List.sublist_nil.mp e3
   subst this;exact k _ H [] e2 gM.nil
  cases hk:jc ys with
  |some ns =>
   rw[hk] at hd;have hy:=i7 hk;have ia:IntsAre its ns:=by
    rw[hy] at a2;exact oX a2 rv
   refine wg hc I rv pl.isList hn _ (fun i j u v hi hj s' Q' E' _ h=>rG ia i j u v hi hj s' Q' E' h) (fin _ hd (.inl ?_));rw[hy] at hd;obtain⟨n,_,rfl⟩:=List.mem_map.mp (List.mem_of_getElem? hd);rfl
  |none =>
   rw[hk] at hd;dsimp only at hd;rw[ae] at hd;obtain⟨ks,hks,hd⟩:=hd;obtain⟨kl,kt,kn,kg⟩:=mV I hks a2 rv;refine wg hc I rv pl.isList hn _ (fun i j u v hi hj s' Q' E' kp h=>?_) (fin _ hd (.inr kg));have at1:∀(i:Nat) (u:Value),its[i]? = some u->∃ a xs,u = .ref a/\IsTup s.heap a xs.toArray/\IntsAre xs (ks.getD i []):=fun i u hi=>by
    have hlt:i<ks.length:=by rw[kl];exact (List.getElem?_eq_some_iff.mp hi).1
    obtain⟨a,o,xs,n,e1,e2,e3,e4,e5⟩:=kt i _ (List.getElem?_eq_getElem hlt);have hgu:its.getD i .none=u:=by rw[List.getD_eq_getElem?_getD,hi];rfl
    rw[hgu] at e1;refine⟨a,xs.toList,e1,⟨o,e2,e3,n,by rw[e4]⟩,?_⟩;rw[List.getD_eq_getElem?_getD,List.getElem?_eq_getElem hlt];exact e5
   obtain⟨a,xs,rfl,t1,i1⟩:=at1 i u hi;obtain⟨b,zs,rfl,t2,i2⟩:=at1 j v hj;rw[ur] at h;exact r8 (by omega) t1 t2 i1 i2 s' Q' E' kp h
end
section
variable {X:Cx}
theorem vM:fL X (.type "int") (sJ X.K .int):=by
 intro pins s σ H xs us Q I r h;obtain⟨ds,d,G,rs,hd,k⟩:=h
 match ds,hd with
 |[.str z],hd =>
  obtain⟨x,rfl,rp⟩:=rs.of1;obtain⟨rfl,rfl⟩:=rp.str_inv;obtain⟨u,rfl,⟨t,rfl⟩⟩:=r.one;have hd:(if z.length<=640 then (PySem.intText? z).map D.int else none)=some d:=hd;by_cases hz:z.length<=640
  ·rw[if_pos hz,aa] at hd;obtain⟨n,hn,rfl⟩:=hd;exact PySem.W.KIN.call_text hn hz ⟨.int n,H,I.tok _,⟨_,rfl⟩,k _ H [] (.int n) gM.nil⟩
  ·rw[if_neg hz] at hd;cases hd
 |[.int i],hd =>
  cases hd;obtain⟨x,rfl,rp⟩:=rs.of1;obtain⟨rfl,rfl⟩:=rp.int_inv;obtain⟨u,rfl,⟨t,rfl⟩⟩:=r.one;exact call_int_int ⟨.int i,H,I,⟨_,rfl⟩,k _ H [] (.int i) gM.nil⟩
 |[.bl b],hd =>
  cases hd;obtain⟨x,rfl,rp⟩:=rs.of1;obtain⟨rfl,rfl⟩:=rp.bl_inv;obtain⟨u,rfl,ru⟩:=r.one;cases ru;exact call_int_bool ⟨.int _,H,I.tok _,⟨_,rfl⟩,k _ H [] (.int _) gM.nil⟩
theorem y9 {m:Fj}{a d:D}{bs:List D}(hm:m = .sfind\/m = .sindex)(h:qh m a bs=some d):(∃ z y n,a = .str z/\bs=[.str y]/\d = .int n)\/(m = .sindex/\∃(ns:List Int) (k:Int),a = .lst (ns.map .int)/\bs=[.int k]/\k∈ns/\ns.length<=lim/\d = .int ((ns.idxOf k:Nat):Int)):=by
 rcases hm with rfl | rfl
 ·cases a with
  |str z=>cases bs with
   |nil=>cases h
   |cons b r=>cases b with
    |str y=>cases r with
     |nil=>cases h;exact .inl ⟨z,y,_,rfl,rfl,rfl⟩
     |cons _ _=>cases h
    |_=>cases h
  |_=>cases h
 ·cases a with
  |str z=>cases bs with
   |nil=>cases h
   |cons b r=>cases b with
    |str y=>cases r with
     |nil =>
      have h:(match Builtin.Str.occurrences z y 0 z.length 1 with
       |i::_=>some (D.int (i:Int))
       |[]=>none)=some d:=h
      split at h
      ·cases h;exact .inl ⟨z,y,_,rfl,rfl,rfl⟩
      ·cases h
     |cons _ _=>cases h
    |_=>cases h
  |lst xs=>cases bs with
   |nil=>cases h
   |cons b r=>cases b with
    |int k=>cases r with
     |nil =>
      have h:((jc xs).bind fun ns=>if k∈ns/\ns.length<=lim then some (D.int ((ns.idxOf k:Nat):Int)) else none)=some d:=h;rw[ae] at h;obtain⟨ns,h1,h2⟩:=h;by_cases hk:k∈ns/\ns.length<=lim
      ·rw[if_pos hk] at h2;cases h2;exact .inr ⟨rfl,ns,k,by rw[i7 h1],rfl,hk.1,hk.2,rfl⟩
      ·rw[if_neg hk] at h2;cases h2
     |cons _ _=>cases h
    |_=>cases h
  |_=>cases h
def Bm (m:Fj):V->List V->Hp->VK->Prop:=fun x xs H Q=>∃ z y n,x = .str z/\xs=[.str y]/\qh m (.str z) [.str y]=some (.int n)/\Q (.int n) H
theorem A5:Bp X "str.find" (Bm .sfind):=by
 intro pins s σ H x xs v us Q I rx r h;obtain⟨z,y,n,rfl,rfl,hd,q⟩:=h;obtain⟨t,rfl⟩:=rx;obtain⟨u,rfl,⟨t',rfl⟩⟩:=r.one;cases hd;exact call_gives PySem.F.slot_str_find (typeIs_str s z t) PySem.F.entry_str_find (PySem.F.args_str_find_2 _ _) (gives_str_find z y t t') ⟨.int _,H,I.tok _,⟨_,rfl⟩,q⟩
theorem yz:Bp X "str.index" (Bm .sindex):=by
 intro pins s σ H x xs v us Q I rx r h;obtain⟨z,y,n,rfl,rfl,hd,q⟩:=h;obtain⟨t,rfl⟩:=rx;obtain⟨u,rfl,⟨t',rfl⟩⟩:=r.one;have hd:(match Builtin.Str.occurrences z y 0 z.length 1 with
  |i::_=>some (D.int (i:Int))
  |[]=>none)=some (.int n):=hd
 split at hd
 ·rename_i i rest ho;cases hd;exact call_gives PySem.F.slot_str_index (typeIs_str s z t) PySem.F.entry_str_index (PySem.F.args_str_index_2 _ _) (gives_str_index z y t t' i rest ho) ⟨.int _,H,I.tok _,⟨_,rfl⟩,q⟩
 ·cases hd
def GF (K:Frag):V->List V->Hp->VK->Prop:=fun x xs H Q=>∃(p:Addr) (ns:List Int) (k:Int) (G:List Addr),x = .ref p/\xs=[.int k]/\k∈ns/\ns.length<=lim/\Rep K H (.lst (ns.map .int)) (.ref p) G/\Q (.int ((ns.idxOf k:Nat):Int)) H
theorem xw {T:Tb}{m:Fj}{co ce:Ex}{σ:L2.St}{H:Hp}{Q:VK}(hm:m = .sfind\/m = .sindex)(h:tE X.K T (.mth m co (.cons ce .nil)) σ H Q):Ie X.K "str" (Bm m) (tE X.K T co) (rj X.K T (.cons ce .nil)) σ H Q\/(m = .sindex/\Ie X.K "list" (GF X.K) (tE X.K T co) (rj X.K T (.cons ce .nil)) σ H Q):=by
 obtain⟨P,env,F,re,p,hev,k⟩:=h;unfold ev at hev;obtain⟨q,h1,hev⟩:=Rs.bind_ok hev;obtain⟨l,h2,hev⟩:=Rs.bind_ok hev;obtain⟨d,h3,hev⟩:=Rs.bind_ok hev;have h3:=cU h3;cases hev;rcases y9 hm h3 with ⟨z,y,n,e1,e2,rfl⟩ | ⟨rfl,ns,j,e1,e2,hk,hl,rfl⟩
 ·refine .inl ⟨P,env,F,re,q,h1,fun v H1 G s rp rt=>?_⟩;rw[e1] at rp h3;obtain⟨rfl,rfl⟩:=rp.str_inv;refine⟨rfl,P,env,F,re.same s,l,h2,fun vs H2 G' ar=>?_⟩;have rs:=ar.reps;rw[e2] at rs h3;obtain⟨x,rfl,rp2⟩:=rs.of1;obtain⟨rfl,_⟩:=rp2.str_inv;exact⟨z,y,n,rfl,rfl,h3,k _ H2 [] (s.trans ar.same) (.int n) bV.nil⟩
 ·refine .inr ⟨rfl,P,env,F,re,q,h1,fun v H1 G s rp rt=>?_⟩;rw[e1] at rp;obtain⟨p',vs,g,rfl,rfl,a1,a2⟩:=id rp.lst_inv;refine⟨.inl ⟨rfl,vs,.inl a1⟩,P,env,F,re.same s,l,h2,fun ws H2 G' ar=>?_⟩;have rs:=ar.reps;rw[e2] at rs;obtain⟨x,rfl,rp2⟩:=rs.of1;obtain⟨rfl,_⟩:=rp2.int_inv;exact⟨p',ns,j,_,rfl,rfl,hk,hl,rp.same ar.same,k _ H2 [] (s.trans ar.same) (.int _) bV.nil⟩
theorem intsAre_of {K:Frag}{H:Hp}:∀{ns:List Int}{vs:List V}{G:List Addr}{us:List Value},aI K H (ns.map D.int) vs G->aM vs us->IntsAre us ns
 |[],_,_,_,.nil,.nil=>.nil
 | n::ns,_,_,_,.cons h r,.cons x y=>by
  obtain⟨rfl,_⟩:=h.int_inv;obtain⟨t,rfl⟩:=x;exact .cons _ _ (intsAre_of r y)
theorem AZ:Bp X "list.index" (GF X.K):=by
 intro pins s σ H x xs v us Q I rx r h;obtain⟨p,ns,k,G,rfl,rfl,hk,hl,rp,q⟩:=h;cases rx;obtain⟨u,rfl,⟨t',rfl⟩⟩:=r.one;obtain⟨p',vs,g,e,rfl,a1,a2⟩:=rp.lst_inv;cases e;obtain⟨its,rv,pl,_⟩:=I.list (.inl a1);exact yj pl.isList (intsAre_of a2 rv) (bj hl (by decide)) hk ⟨.int _,H,I.tok _,⟨_,rfl⟩,q⟩
end
section
variable {X:Cx}
theorem n0:∀{xs:List D}{k:List Str},v9 xs=some k->xs=k.map D.str
 |[],k,h=>by cases h;rfl
 | .str i::r,k,h=>by
  have h:(v9 r).map (i :: ·)=some k:=h;rw[aa] at h;obtain⟨k',h1,rfl⟩:=h;rw[n0 h1];rfl
theorem lX {K:Frag}{H:Hp}:∀{ns:List Str}{vs:List V}{G:List Addr}{us:List Value},aI K H (ns.map D.str) vs G->aM vs us->StrsAre us ns
 |[],_,_,_,.nil,.nil=>.nil
 | n::ns,_,_,_,.cons h r,.cons x y=>by
  obtain⟨rfl,_⟩:=h.str_inv;obtain⟨t,rfl⟩:=x;exact .cons _ _ (lX r y)
def rJoin (K:Frag):V->List V->Hp->VK->Prop:=fun x xs H Q=>∃(z:Str) (p:Addr) (ys:List Str) (G:List Addr),x = .str z/\xs=[.ref p]/\Rep K H (.lst (ys.map .str)) (.ref p) G/\(ys.map (·.length)).sum+ys.length*z.length<=lim/\Q (.str (Str.join z ys)) H
theorem A7:Bp X "str.join" (rJoin X.K):=by
 intro pins s σ H x xs v us Q I rx r h;obtain⟨z,p,ys,G,rfl,rfl,rp,hl,q⟩:=h;obtain⟨t,rfl⟩:=rx;obtain⟨u,rfl,ru⟩:=r.one;cases ru;obtain⟨p',vs,g,e,rfl,a1,a2⟩:=rp.lst_inv;cases e;obtain⟨its,rv,pl,_⟩:=I.list (.inl a1);refine join_list pl.isList (by simpa using lX a2 rv) (Nat.le_trans hl (by decide)) fun t' k=>⟨.str _,H,I.kept (t':=k) fun b o e=>e,?_,q⟩
 show RelV (.str _) (.str (Builtin.Str.glued z ys) t');rw[StrLaws.glued_eq_join];exact⟨t',rfl⟩
theorem vE {T:Tb}{co ce:Ex}{σ:L2.St}{H:Hp}{Q:VK}(h:tE X.K T (.mth .sjoin co (.cons ce .nil)) σ H Q):Ie X.K "str" (rJoin X.K) (tE X.K T co) (rj X.K T (.cons ce .nil)) σ H Q:=by
 obtain⟨P,env,F,re,p,hev,k⟩:=h;unfold ev at hev;obtain⟨q,h1,hev⟩:=Rs.bind_ok hev;obtain⟨l,h2,hev⟩:=Rs.bind_ok hev;obtain⟨d,h3,hev⟩:=Rs.bind_ok hev;have h3:=cU h3;cases hev;have inv:∃(z:Str) (ys:List Str),q.1 = .str z/\l.map (·.1)=[.lst (ys.map .str)]/\(ys.map (·.length)).sum+ys.length*z.length<=lim/\d = .str (Str.join z ys):=by
  generalize q.1=a at h3;generalize l.map (·.1)=bs at h3
  match a,bs,h3 with
  |.str z,[.lst xs],h3 =>
   have h3:((v9 xs).bind fun ys=>if (ys.map (·.length)).sum+ys.length*z.length<=lim then some (D.str (Str.join z ys)) else none)=some d:=h3;rw[ae] at h3;obtain⟨ys,hy,h3⟩:=h3;by_cases hc:(ys.map (·.length)).sum+ys.length*z.length<=lim
   ·rw[if_pos hc] at h3;cases h3;exact⟨z,ys,rfl,by rw[n0 hy],hc,rfl⟩
   ·rw[if_neg hc] at h3;cases h3
 obtain⟨z,ys,e1,e2,hc,rfl⟩:=inv;refine⟨P,env,F,re,q,h1,fun v H1 G s rp rt=>?_⟩;rw[e1] at rp;obtain⟨rfl,rfl⟩:=rp.str_inv;refine⟨rfl,P,env,F,re.same s,l,h2,fun ws H2 G' ar=>?_⟩;have rs:=ar.reps;rw[e2] at rs;obtain⟨x,rfl,rp2⟩:=rs.of1;obtain⟨p',vs,g,rfl,rfl,a1,a2⟩:=id rp2.lst_inv;exact⟨z,p',ys,_,rfl,rfl,rp2,hc,k _ H2 [] (s.trans ar.same) (.str _) bV.nil⟩
end
structure Sc where
 N:List Str
 sc:Scope
 fns:List Str
 rT:List Str
 gH:List Str
noncomputable def idxOf:List Str->Str->Option Nat
 |[],_=>none
 |y::r,x=>if y=x then some 0 else (idxOf r x).map (· + 1)
theorem cG:∀{l:List Str}{x:Str}{i:Nat},idxOf l x=some i->l[i]? = some x
 | y::r,x,i,h=>by
  simp only[idxOf] at h;by_cases e:y=x
  ·rw[if_pos e] at h;cases h;rw[e];rfl
  ·rw[if_neg e,aa] at h;obtain⟨j,hj,rfl⟩:=h;simpa using cG hj
noncomputable def dG (sc:Scope)(x:Str):Option NameKind:=sc.names.lookup x
noncomputable def pN (sc:Scope)(x:Str):Bool:=match dG sc x with
 |some .local=>true
 |some .cell=>true
 |some .free=>true
 |_=>false
noncomputable def jU (sc:Scope)(x:Str):Bool:=match dG sc x with
 |some .local=>true
 |some .cell=>true
 |_=>false
noncomputable def qO (sc:Scope)(x:Str):Bool:=match dG sc x with
 |some .globalImplicit=>true
 |_=>false
noncomputable def dD (x:Str):Bool:=!(x==("__debug__" : Str)) && !(x==("__classdict__" : Str)) && !(x==("__name__" : Str))
noncomputable def notStar:Expr->Bool
 |.Starred _ _=>false
 |_=>true
noncomputable def gE:Expr->Bool
 |.Set _ _ _=>false
 |_=>true
noncomputable def iT:Expr->Bool
 |.Slice _ _ _ _=>false
 |_=>true
noncomputable def gC:Expr->Bool
 |.ListComp _ _ _ _=>true
 |.SetComp _ _ _ _=>true
 |.DictComp _ _ _ _ _=>true
 |_=>false
noncomputable def cW (f:Expr->Option Ex):List Expr->Option kZ
 |[]=>some .nil
 |e::es=>if notStar e then (f e).bind fun c=>(cW f es).map fun cs=>.cons c cs else none
noncomputable def F6 (f:Expr->Option Ex)(op:BoolOp):List Expr->Option Ex
 |[]=>none
 |[a]=>f a
 |a::r=>(f a).bind fun c=>(F6 f op r).map fun d=>match op with
  |.And=>.and c d
  |.Or=>.or c d
noncomputable def l0 (S:Sc):List Expr->Option (List Nat)
 |[]=>some []
 |.Name x _::r=>if jU S.sc x then (idxOf S.N x).bind fun i=>(l0 S r).map fun is=>i::is else none
 |_::_=>none
noncomputable def rD (S:Sc):Expr->Option kG
 |.Name x _=>if jU S.sc x then (idxOf S.N x).map .nm else none
 |.Tuple es _ _=>(l0 S es).map .tp
 |_=>none
noncomputable def xQ (f:Expr->Option Ex):Option Expr->Option l9
 |none=>some .none
 |some e=>(f e).map .some
noncomputable def vy (S:Sc)(x:Str):Bool:=qO S.sc x&&S.gH.contains x
noncomputable def isTup:Expr->Bool
 |.Tuple _ _ _=>true
 |_=>false
noncomputable def C1 (S:Sc)(f:Expr->Option Ex)(tp:Bool):Expr->Option qS
 | .Call (.Name x p) es [] pos=>if x = "range" then (if vy S "range" then (match cW f es with
   | some (.cons a .nil)=>some (.rng1 a)
   | some (.cons a (.cons b .nil))=>some (.rng2 a b)
   | some (.cons a (.cons b (.cons c .nil)))=>some (.rng3 a b c)
   |_=>none) else none) else if x = "enumerate" then (if vy S "enumerate" && tp then (match es with
   |[e]=>if notStar e then (f e).map .enum else none
   |_=>none) else none) else if x = "reversed" then none else if x = "zip" then none else (f (.Call (.Name x p) es [] pos)).map .seq
 |e=>if gE e then (f e).map .seq else none
noncomputable def bI (sc:Scope):List Str:=(sc.names.filter fun p=>(p.2 == .local || p.2 == .cell)&&p.1 != (".0" : Str)).map (·.1)
noncomputable def bP (sc:Scope):List Str:=(sc.names.filter fun p=>p.2 == .free).map (·.1)
noncomputable def jz:List (Option Nat)->Option (List Nat)
 |[]=>some []
 |some i::r=>(jz r).map (i :: ·)
 |none::_=>none
noncomputable def jT (S:Sc)(sc:Scope):Bool :=
 sc.kind == .function&&sc.names.all (fun p=>p.2 != .cell || dG sc p.1==some .cell)&&sc.names.all (fun p=>p.2 != .local || dG sc p.1==some .local)&&sc.names.all (fun p=>p.2 != .free || (dG sc p.1==some .free&&(dG S.sc p.1==some .cell || dG S.sc p.1==some .free))) &&
 decide (bI sc++bP sc).Nodup
noncomputable def uM (own:Nat):kG->Bool
 |.nm i=>decide (i<own)
 |.tp is=>is.all fun i=>decide (i<own)
noncomputable def Hw (x:Str):Option D0:=if x = "len" then some .len else if x = "list" then some .list else if x = "min" then some .min2 else if x = "int" then some .int else none
noncomputable def EX (t:Str):Option String:=if t = "int" then some "int" else if t = "bool" then some "bool" else if t = "str" then some "str" else if t = "list" then some "list" else if t = "tuple" then some "tuple" else none
noncomputable def Ih (S:Sc)(f:Expr->Option Ex):List Expr->Option Ex
 |[a,.Name t _]=>if qO S.sc t&&S.gH.contains t&&dD t&&notStar a then (EX t).bind fun u=>(f a).map fun ca=>.blt (.isi u) (.cons ca .nil) else none
 |_=>none
noncomputable def ni:List Expr->Bool
 | [.Call (.Name r _) [_] [] _]=>r==("reversed" : Str)
 |_=>false
noncomputable def GN (S:Sc)(f:Expr->Option Ex):List Expr->Option Ex
 |_=>none
noncomputable def mS:List Expr->Bool
 | [.Call (.Name r _) _ [] _]=>r==("range" : Str)
 |_=>false
noncomputable def Ia (S:Sc)(f:Expr->Option Ex):List Expr->Option Ex
 |_=>none
noncomputable def ui (S:Sc)(f:Expr->Option Ex)(x:Str)(es:List Expr):Option Ex :=
 if dD x&&qO S.sc x then (match idxOf S.fns x with
  |some i=>(cW f es).map fun cs=>.call i cs
  |none=>if S.gH.contains x then (if x = "isinstance" then Ih S f es else if x = "list"/\ni es=true then GN S f es else if x = "list"/\mS es=true then Ia S f es else match es with
    |[]=>none
    |e::r=>(Hw x).bind fun b=>(cW f (e::r)).map fun cs=>.blt b cs) else none) else none
noncomputable def vV (S:Sc)(f:Expr->Option Ex)(x:Str)(a d:Expr)(k:Str):Option Ex :=
 none
noncomputable def x6 (x:Str):Option Fj:=if x = "find" then some .sfind else if x = "index" then some .sindex else none
noncomputable def wx:Expr->Bool
 |.Name _ _=>true
 |.Subscript _ _ _=>true
 |.Constant _ _ _=>true
 | .Call _ (_::_) _ _=>true
 |_=>false
noncomputable def BC (f:Expr->Option Ex)(o:Expr)(name:Str)(es:List Expr)(apos cpos:Pos):Option Ex:=match es with
 |[e]=>if apos.endLine==cpos.line&&wx o then if name = "join" then (f o).bind fun co=>(cW f [e]).bind fun cs=>(match cs with
  |.cons ce .nil=>some (.mth .sjoin co (.cons ce .nil))
  |_=>none)
  else (x6 name).bind fun m=>(f o).bind fun co=>(cW f [e]).bind fun cs=>match cs with
  |.cons ce .nil=>some (.mth m co (.cons ce .nil))
  |_=>none
  else none
 |_=>none
noncomputable def FA (f:Expr->Option Ex):List Expr->Option l9
 |[]=>some .none
 |[c]=>(f c).map .some
 |_=>none
noncomputable def pO (S:Sc)(f:Sc->Expr->Option Ex)(elt tg iter:Expr)(ifs:List Expr)(sc:Scope):Option Ex :=
 if jT S sc&&gE iter then
  (C1 S (f S) (isTup tg) iter).bind fun it=>(jz ((bP sc).map (idxOf S.N))).bind fun pick =>
   (rD { S with N:=bI sc++bP sc,sc:=sc } tg).bind fun t=>if uM (bI sc).length t then
    (FA (f { S with N:=bI sc++bP sc,sc:=sc }) ifs).bind fun c=>(f { S with N:=bI sc++bP sc,sc:=sc } elt).map fun ce=>.comp (bI sc).length pick t it c ce
   else none
 else none
noncomputable def yG (S:Sc)(x:Str):Option Ex:=if dD x then (if pN S.sc x then (idxOf S.N x).map .var else if qO S.sc x then (idxOf S.rT x).map .glb else none) else none
noncomputable def Il:Const->Option Ex
 |.int i=>some (.cst (.int i))
 |.bool b=>some (.cst (.bl b))
 |.none=>some (.cst .non)
 |.str s=>some (.cst (.str s))
 |_=>none
noncomputable def cUn (op:UnaryOp)(o:Option Ex):Option Ex:=match op with
 |.USub=>o.map .neg
 |.Not=>o.map .not
 |_=>none
noncomputable def v7 (f:Expr->Option Ex)(a:Expr)(op:CmpOp)(b:Expr):Option Ex:=if behindInMarks op b then none else (f a).bind fun ca=>(f b).map fun cb=>.cmp op ca cb
noncomputable def Cj (f:Expr->Option Ex)(a:Expr)(op op':CmpOp)(b c:Expr):Option Ex:=none
noncomputable def Gu (f:Expr->Option Ex)(a:Expr):List CmpOp->List Expr->Option Ex
 |[],_=>none
 |[op],bs=>(match bs with
  |[]=>none
  |[b]=>v7 f a op b
  |_::_::_=>none)
 |op::op'::ops,bs=>(match ops with
  |[]=>(match bs with
   |[]=>none
   |[_]=>none
   |b::c::r=>(match r with
    |[]=>Cj f a op op' b c
    |_::_=>none))
  |_::_=>none)
noncomputable def BZ (f:Expr->Option Ex)(a b:Expr):Option Ex:=match b with
 |.Slice lo hi st _=>(match st with
  |none=>(f a).bind fun ca=>(xQ f lo).bind fun l=>(xQ f hi).map fun h=>.sl ca l h
  |some _=>none)
 |b=>if iT b then (f a).bind fun ca=>(f b).map fun cb=>.ix ca cb else none
noncomputable def xV (S:Sc)(f:Expr->Option Ex)(x:Str)(es:List Expr):List Keyword->Option Ex
 |[]=>ui S f x es
 |[⟨k,d,_⟩]=>(match k with
  |none=>none
  |some k=>(match es with
   |[]=>none
   |[a]=>vV S f x a d k
   |_::_::_=>none))
 |_::_::_=>none
noncomputable def xm (S:Sc)(f:Expr->Option Ex)(g:Expr)(es:List Expr)(ks:List Keyword)(cpos:Pos):Option Ex:=match g with
 |.Name x _=>xV S f x es ks
 |.Attribute o name apos=>(match ks with
  |[]=>BC f o name es apos cpos
  |_::_=>none)
 |_=>none
noncomputable def cLC (S:Sc)(f:Sc->Expr->Option Ex)(elt:Expr)(sc:Scope):List Comprehension->Option Ex
 |[]=>none
 |[⟨tg,iter,ifs,as⟩]=>if as=0 then pO S f elt tg iter ifs sc else none
 |_::_::_=>none
noncomputable def Cy:Expr->Bool
 |.List [] _=>true
 |_=>false
noncomputable def sV:Expr->Option Expr
 |.List [e] _=>(match e with
  |.Tuple es k p=>if es.any Cy then some (.Tuple es k p) else none
  |_=>none)
 |_=>none
noncomputable def isAdd:Operator->Bool
 |.Add=>true
 |_=>false
noncomputable def DF (f:Expr->Option Ex)(a:Expr)(op:Operator)(b:Expr):Option Ex:=match sV b with
 |some e=>if isAdd op then (f a).bind fun ca=>(f e).map fun ce=>.snoc ca ce else none
 |none=>(f a).bind fun ca=>(f b).map fun cb=>.bin op ca cb
noncomputable def xo:Option Expr->Option Str
 | some (.Name x _)=>some x
 |_=>none
noncomputable def DV:Expr->Option Int
 | .Constant (.int v) _ _=>some v
 |_=>none
noncomputable def yk (S:Sc):List (Option Expr)->List Expr->Option (List (Nat×Int))
 |[],[]=>some []
 |k::ks,e::vs=>(xo k).bind fun x=>(DV e).bind fun v=>if dD x&&qO S.sc x then (idxOf S.rT x).bind fun i=>(yk S ks vs).map fun l=>(i,v)::l else none
 |_,_=>none
noncomputable def E1 (S:Sc):List (Option Expr)->List Expr->Option Ex
 |[],[]=>none
 |k::ks,vs=>if (k::ks).length<=15 then (yk S (k::ks) vs).map .ddsp else none
 |_,_=>none
noncomputable def cE:Nat->Sc->Expr->Option Ex
 |0,_,_=>none
 |n+1,S,e=>match e with
  |.Name x _=>yG S x
  |.Constant c _ _=>Il c
  |.BinOp a op b _=>DF (cE n S) a op b
  |.UnaryOp op a _=>cUn op (cE n S a)
  |.BoolOp op es _=>F6 (cE n S) op es
  |.Compare a ops bs _=>Gu (cE n S) a ops bs
  |.IfExp c a b _=>(cE n S c).bind fun cc=>(cE n S a).bind fun ca=>(cE n S b).map fun cb=>.ite cc ca cb
  |.List es _=>(cW (cE n S) es).map .lst
  |.Tuple es _ _=>(cW (cE n S) es).map .tup
  |.Subscript a b _=>BZ (cE n S) a b
  |.Call g es ks pos=>xm S (cE n S) g es ks pos
  |.ListComp elt gens sc _=>cLC S (cE n) elt sc gens
  |.Dict ks vs _=>E1 S ks vs
  |_=>none
structure Ctx (X:Cx)(S:Sc)(T:Tb):Prop where
 N:X.N=S.N
 nd:S.N.Nodup
 vis:∀ x,pN S.sc x=true->BQ X.env.scope x
 loc:∀ x,jU S.sc x=true->Loc X.env.scope x/\(X.fn x=true\/X.env.scope.names.lookup x=some .local)
 gl:∀ x,qO S.sc x=true->Gl X x
 cel:∀ x,(dG S.sc x=some .cell\/dG S.sc x=some .free)->(X.env.kindOf x=some .cell\/X.env.kindOf x=some .free)
 units:X.A.units+40<cLine/\vT X.w X.K
 calm:X.calm=true
 fns:∀ i x,idxOf S.fns x=some i->∃ f fd ps k,ki X.prog X.w X.K X.mg X.base vB k f fd ps (Cv X.K ps.length (T.cl i))/\fE k X.A/\X.mg x=some (.ref f)/\PySem.W.keepIn X.K (.ref f)=true/\Binds X.K fd ps []/\∀ ds r,T.cl i ds = .ok r->ds.length=ps.length
 rT:∀ i x,idxOf S.rT x=some i->∃ v u,X.mg x=some u/\RelV v u/\∀ H,Rep X.K H (T.gl i) v []
 gH:∀ x,S.gH.contains x=true->X.mg x=none
theorem bA {e:Expr}{es:List Expr}{env:Env}(h:notStar e=true):starEach (e::es) env=(false,eval e env)::starEach es env:=by
 cases e<;>first | rfl | (cases h)
theorem pe {e:Expr}{env:Env}(h:gE e=true)(x:Value):foldedSetIterable e env x=pure x:=by
 cases e<;>first | rfl | (cases h)
theorem vY {e:Expr}(h:iT e=true):pC e:=by
 intro o i;cases e<;>first | rfl | (cases h)
theorem bN {f:Expr->Option Ex}{e:Expr}{es:List Expr}{cs:kZ}(h:cW f (e::es)=some cs):notStar e=true/\∃ c d,f e=some c/\cW f es=some d/\cs = .cons c d:=by
 unfold cW at h;by_cases hs:notStar e=true
 ·rw[if_pos hs] at h;rw[ae] at h;obtain⟨c,h1,h2⟩:=h;rw[aa] at h2;obtain⟨d,h2,rfl⟩:=h2;exact⟨hs,c,d,h1,h2,rfl⟩
 ·rw[if_neg hs] at h;cases h
theorem eI {f:Expr->Option Ex}{env:Env}{pos:Pos}:∀{es:List Expr}{cs:kZ},cW f es=some cs->(backTo pos (starEach es env)).any (·.1)=false
 |[],cs,_=>rfl
 | e::es,cs,h=>by
  obtain⟨hs,c,d,_,h2,_⟩:=bN h;rw[bA hs];show (false || (backTo pos (starEach es env)).any (·.1))=false;rw[eI h2];rfl
theorem dE {x:Str}(h:dD x=true):(x==("__debug__" : Str))=false/\(x==("__classdict__" : Str))=false/\x≠"__name__":=by
 unfold dD at h;rw[aj,aj] at h;obtain⟨⟨h1,h2⟩,h3⟩:=h;refine⟨by simpa using h1,by simpa using h2,fun e=>?_⟩;subst e;simp at h3
theorem CB {X:Cx}{T:Tb}{c a b:Expr}{cc ca cb:Ex}{pos:Pos}(hc:PT X c (nZ X.K T cc))(ha:PT X a (nZ X.K T ca))(hb:PT X b (nZ X.K T cb)):PT X (.IfExp c a b pos) (nZ X.K T (.ite cc ca cb)):=by
 intro pins s σ H Q I h;obtain⟨P,env,F,re,p,bb,hev,ht,k⟩:=h;unfold ev at hev;obtain⟨q,h1,hev⟩:=Rs.bind_ok hev;obtain⟨kb,h2,hev⟩:=Rs.bind_ok hev;refine isTrue_IfExp (cL (hc pins s σ H (fun d H'=>d=kb/\aJ H H') I ⟨P,env,F,re,q,kb,h1,cU h2,fun H' s=>⟨rfl,s⟩⟩) fun d s1 ⟨H1,I1,e,s⟩=>?_);subst e;cases d with
 |true=>exact ha pins s1 σ H1 Q I1 ⟨P,env,F,re.same s,p,bb,hev,ht,fun H' s'=>k H' (s.trans s')⟩
 |false=>exact hb pins s1 σ H1 Q I1 ⟨P,env,F,re.same s,p,bb,hev,ht,fun H' s'=>k H' (s.trans s')⟩
theorem wt {T:Tb}{a:Ex}{env:En}{p}(hev:eX T (.rng1 a) env = .ok p):p.2=[]/\∃ l,aX T (.cons a .nil) env = .ok l/\((∃ j,l.map (·.1)=[.int j]/\eZ j=true/\p.1=aQ 0 1 j.toNat)\/(∃ i j,l.map (·.1)=[.int i,.int j]/\eZ i=true/\eZ j=true/\p.1=aQ i 1 (j - i).toNat) \/
   ∃ i j k,l.map (·.1)=[.int i,.int j,.int k]/\eZ i=true/\eZ j=true/\k≠0/\k.natAbs<1073741824/\p.1=aQ i k (Builtin.Range.rangeSize i j k).toNat):=by
 unfold eX at hev;obtain⟨q,h1,hev⟩:=Rs.bind_ok hev;split at hev
 ·rename_i j hj;split at hev
  ·rename_i ho;cases hev;exact⟨rfl,[q],by unfold aX;rw[h1];unfold aX;rfl,.inl ⟨j,by simp[hj],ho,rfl⟩⟩
  ·cases hev
 ·cases hev
theorem zj {T:Tb}{a b:Ex}{env:En}{p}(hev:eX T (.rng2 a b) env = .ok p):p.2=[]/\∃ l,aX T (.cons a (.cons b .nil)) env = .ok l/\((∃ j,l.map (·.1)=[.int j]/\eZ j=true/\p.1=aQ 0 1 j.toNat)\/(∃ i j,l.map (·.1)=[.int i,.int j]/\eZ i=true/\eZ j=true/\p.1=aQ i 1 (j - i).toNat) \/
   ∃ i j k,l.map (·.1)=[.int i,.int j,.int k]/\eZ i=true/\eZ j=true/\k≠0/\k.natAbs<1073741824/\p.1=aQ i k (Builtin.Range.rangeSize i j k).toNat):=by
 unfold eX at hev;obtain⟨q,h1,hev⟩:=Rs.bind_ok hev;obtain⟨r,h2,hev⟩:=Rs.bind_ok hev;split at hev
 ·rename_i i j hi hj;split at hev
  ·rename_i ho;cases hev;rw[aj] at ho;exact⟨rfl,[q,r],by unfold aX;rw[h1];unfold aX;rw[h2];unfold aX;rfl,.inr (.inl ⟨i,j,by simp[hi,hj],ho.1,ho.2,rfl⟩)⟩
  ·cases hev
 ·cases hev
theorem xA {T:Tb}{a b c:Ex}{env:En}{p}(hev:eX T (.rng3 a b c) env = .ok p):p.2=[]/\∃ l,aX T (.cons a (.cons b (.cons c .nil))) env = .ok l/\((∃ j,l.map (·.1)=[.int j]/\eZ j=true/\p.1=aQ 0 1 j.toNat)\/(∃ i j,l.map (·.1)=[.int i,.int j]/\eZ i=true/\eZ j=true/\p.1=aQ i 1 (j - i).toNat) \/
   ∃ i j k,l.map (·.1)=[.int i,.int j,.int k]/\eZ i=true/\eZ j=true/\k≠0/\k.natAbs<1073741824/\p.1=aQ i k (Builtin.Range.rangeSize i j k).toNat):=by
 unfold eX at hev;obtain⟨q,h1,hev⟩:=Rs.bind_ok hev;obtain⟨r,h2,hev⟩:=Rs.bind_ok hev;obtain⟨t,h3,hev⟩:=Rs.bind_ok hev;split at hev
 ·rename_i i j k hi hj hk;split at hev
  ·rename_i ho;cases hev;simp only[Bool.and_eq_true,bne_iff_ne,decide_eq_true_eq] at ho;exact⟨rfl,[q,r,t],by unfold aX;rw[h1];unfold aX;rw[h2];unfold aX;rw[h3];unfold aX;rfl,.inr (.inr ⟨i,j,k,by simp[hi,hj,hk],ho.1.1.1,ho.1.1.2,ho.1.2,ho.2,rfl⟩)⟩
  ·cases hev
 ·cases hev
def SE (X:Cx)(T:Tb)(e:Expr)(c:Ex):Prop:=PE X e (tE X.K T c)/\PT X e (nZ X.K T c)
section
variable {X:Cx}{S:Sc}{T:Tb}
theorem cP {f:Expr->Option Ex}(hf:∀ e c,f e=some c->SE X T e c):∀{es:List Expr}{cs:kZ},cW f es=some cs->PA X es (rj X.K T cs)
 |[],cs,h=>by cases h;exact xi
 | e::es,cs,h=>by
  obtain⟨hs,c,d,h1,h2,rfl⟩:=bN h;exact tT (hf e c h1).1 (cP hf h2) (bA hs)
theorem t4 {f:Expr->Option Ex}{op:BoolOp}{pos:Pos}(hf:∀ e c,f e=some c->SE X T e c):∀{es:List Expr}{c:Ex},F6 f op es=some c->PE X (.BoolOp op es pos) (tE X.K T c)/\PW X (.BoolOp op es pos) (nZ X.K T c)
 |[],c,h=>by cases h
 | [a],c,h=>by
  have h:f a=some c:=h;have ⟨h1,h2⟩:=hf a c h;refine⟨vZ h1,?_⟩;cases op with
  |And=>exact Bo h2
  |Or=>exact C8 h2
 | a::b::r,c,h=>by
  unfold F6 at h;rw[ae] at h;obtain⟨ca,h1,h2⟩:=h;rw[aa] at h2;obtain⟨cb,h2,h3⟩:=h2;subst h3;have ⟨ia,ta⟩:=hf a ca h1;have ⟨ib,tb⟩:=t4 (pos:=pos) hf h2;cases op with
  |And=>exact⟨CL ia ib,DW ta tb⟩
  |Or=>exact⟨FV ia ib,GW ta tb⟩
theorem qE (C:Ctx X S T):∀{es:List Expr}{is:List Nat},l0 S es=some is->Hr X es (gS is)/\(assignEach es X.env).length=is.length/\(assignEach es X.env).findIdx? (·.1)=none:=by
 intro es
 induction es with
 |nil=>intro is h;cases h;exact⟨zJ,rfl,rfl⟩
 |cons e es ih =>
  intro is h;cases e with
  |Name x p =>
   unfold l0 at h;by_cases hl:jU S.sc x=true
   ·rw[if_pos hl,ae] at h;obtain⟨i,h1,h2⟩:=h;rw[aa] at h2;obtain⟨js,h2,rfl⟩:=h2;obtain⟨a,b,c⟩:=ih h2;have hN:=C.nd;rw[<-C.N] at hN;have hi:=cG h1;rw[<-C.N] at hi;refine⟨w4 (tZ hN hi (C.loc x hl).1 (C.loc x hl).2) a,?_,?_⟩
    ·show (assignEach es X.env).length+1=js.length+1;rw[b]
    ·show List.findIdx? (·.1) ((false,_)::assignEach es X.env)=none;rw[List.findIdx?_cons];simp[c]
   ·rw[if_neg hl] at h;cases h
  |_=>cases h
theorem sd (C:Ctx X S T){e:Expr}{t:kG}(h:rD S e=some t):PG X e (pQ X.K t):=by
 cases e with
 |Name x p =>
  unfold rD at h;dsimp only at h;by_cases hl:jU S.sc x=true
  ·rw[if_pos hl,aa] at h;obtain⟨i,h1,rfl⟩:=h;have hN:=C.nd;rw[<-C.N] at hN;have hi:=cG h1;rw[<-C.N] at hi;exact tZ hN hi (C.loc x hl).1 (C.loc x hl).2
  ·rw[if_neg hl] at h;cases h
 |Tuple es a b =>
  unfold rD at h;rw[aa] at h;obtain⟨is,h1,rfl⟩:=h;obtain⟨a,b,c⟩:=qE C h1;exact xN C.calm a b c
 |_=>cases h
theorem zl (C:Ctx X S T){f:Expr->Option Ex}(hf:∀ e c,f e=some c->SE X T e c){tg e:Expr}{it:qS}(h:C1 S f (isTup tg) e=some it):PI X tg e (tI X.K T it):=by
 unfold C1 at h;split at h
 ·rename_i x p es pos;by_cases hx:x = "range"
  ·subst hx;rw[if_pos rfl] at h;by_cases hg:vy S "range" = true
   ·rw[if_pos hg] at h;have hg2:qO S.sc "range" = true/\S.gH.contains "range" = true:=by
     unfold vy at hg
     rwa [aj] at hg
    cases hc:cW f es with
    |none=>rw[hc] at h;cases h
    |some cs =>
     rw[hc] at h;cases es with
     |nil=>cases hc;cases h
     |cons e0 rest =>
      obtain⟨hs,c0,d0,_,hd,rfl⟩:=bN hc;refine CA rfl (C.gl _ hg2.1) (C.gH _ hg2.2) (cP hf hc) (bA hs) (eI hd) ?_;intro env p hev;cases d0 with
      |nil =>
       cases h;exact wt hev
      |cons c1 d1 =>
       cases d1 with
       |nil =>
        cases h;exact zj hev
       |cons c2 d2 =>
        cases d2 with
        |nil =>
         cases h;exact xA hev
        |cons c3 d3=>cases h
   ·rw[if_neg hg] at h;cases h
  rw[if_neg hx] at h;by_cases hx:x = "enumerate"
  ·subst hx;rw[if_pos rfl] at h;by_cases hg:(vy S "enumerate" && isTup tg)=true
   ·rw[if_pos hg] at h;rw[aj] at hg;have hg2:qO S.sc "enumerate" = true/\S.gH.contains "enumerate" = true:=by
     have:=hg.1;unfold vy at this
     rwa [aj] at this
    cases tg with
    |Tuple elts x1 tp =>
     split at h
     ·rename_i e0;by_cases hs:notStar e0=true
      ·rw[if_pos hs,aa] at h;obtain⟨c,h1,rfl⟩:=h;exact AK (C.gl _ hg2.1) (C.gH _ hg2.2) (tT (hf _ _ h1).1 xi (bA hs)) (bA hs)
      ·rw[if_neg hs] at h;cases h
     ·cases h
    |_=>cases hg.2
   ·rw[if_neg hg] at h;cases h
  rw[if_neg hx] at h;by_cases hx:x = "reversed"
  ·subst hx;rw[if_pos rfl] at h;cases h
  rw[if_neg hx] at h;by_cases hx:x = "zip"
  ·subst hx;rw[if_pos rfl] at h;cases h
  ·rw[if_neg hx,aa] at h;obtain⟨c,h1,rfl⟩:=h;exact yh (hf _ _ h1).1
 ·by_cases hn:gE e=true
  ·rw[if_pos hn,aa] at h;obtain⟨c,h1,rfl⟩:=h;exact yh (hf _ _ h1).1
  ·rw[if_neg hn] at h;cases h
end
theorem hU {env:Env}:∀{names:List (Str×NameKind)}{x:Str}{k:NameKind},names.lookup x=some k->k≠.free ->
  (names.map fun (n,k)=>if (k==NameKind.free&&env.scope.kind == .function&&env.kindOf n==some .cell) then (n,NameKind.cell) else (n,k)).lookup x=some k
 |[],_,_,h,_=>by simp at h
 | (n,k0)::r,x,k,h,hk=>by
  rw[av];by_cases hc:(k0==NameKind.free&&env.scope.kind == .function&&env.kindOf n==some .cell)=true
  ·simp only[hc,if_true,List.lookup_cons] at h ⊢;cases hx:x==n with
   |true =>
    rw[hx] at h;cases h;rw[aj,aj] at hc;exact absurd (by simpa using hc.1.1) hk
   |false=>rw[hx] at h;exact hU h hk
  ·have hc:(k0==NameKind.free&&env.scope.kind == .function&&env.kindOf n==some .cell)=false:=by simpa using hc
   simp only[hc,Bool.false_eq_true,if_false,List.lookup_cons] at h ⊢;cases hx:x==n with
   |true=>rw[hx] at h;exact h
   |false=>rw[hx] at h;exact hU h hk
theorem kq:∀{l:List (Option Nat)}{p:List Nat},jz l=some p->l=p.map some
 |[],p,h=>by cases h;rfl
 | some i::r,p,h=>by
  simp only[jz,Option.map_eq_some_iff] at h;obtain⟨q,h1,rfl⟩:=h;rw[kq h1];rfl
 |none::r,p,h=>by cases h
theorem mf {S:Sc}{sc:Scope}(h:jT S sc=true):sc.kind = .function/\(∀ y∈sc.names,y.2 = .cell->sc.names.lookup y.1=some .cell)/\(∀ y∈sc.names,y.2 = .local->sc.names.lookup y.1=some .local) /\
  (∀ y∈sc.names,y.2 = .free->sc.names.lookup y.1=some .free/\(dG S.sc y.1=some .cell\/dG S.sc y.1=some .free))/\(bI sc++bP sc).Nodup:=by
 unfold jT at h;simp only[Bool.and_eq_true,List.all_eq_true,Bool.or_eq_true,beq_iff_eq,bne_iff_ne,decide_eq_true_eq,dG] at h;obtain⟨⟨⟨⟨h1,h2⟩,h3⟩,h4⟩,h5⟩:=h;refine⟨h1,fun y hy e=>?_,fun y hy e=>?_,fun y hy e=>?_,h5⟩
 ·rcases h2 y hy with h | h
  ·exact absurd e h
  ·exact h
 ·rcases h3 y hy with h | h
  ·exact absurd e h
  ·exact h
 ·rcases h4 y hy with h | h
  ·exact absurd e h
  ·exact h
section
variable {X:Cx}{S:Sc}{T:Tb}{sc:Scope}{pick:List Nat}
theorem qX (C:Ctx X S T)(h:jT S sc=true)(hp:jz ((bP sc).map (idxOf S.N))=some pick):eJ X sc (bI sc++bP sc) (eN (bI sc).length pick):=by
 obtain⟨h1,h2,h3,h4,h5⟩:=mf h;have hp:=kq hp;have hlen:(bP sc).length=pick.length:=by simpa using congrArg List.length hp
 refine⟨h1,h2,h3,by simp[eN,hlen],fun x hx=>C.cel x (h4 _ (PySem.mem_of_lookup hx) rfl).2,fun x hx=>(h4 _ hx rfl).1,fun i j x hi hx=>?_⟩;unfold eN at hi;by_cases hlt:i<(bI sc).length
 ·rw[List.getElem?_append_left (by simpa using hlt),List.getElem?_replicate] at hi;split at hi<;>cases hi
 ·have hle:=iz hlt;rw[List.getElem?_append_right (by simpa using hle),List.length_replicate,<-hp,List.getElem?_map] at hi;rw[List.getElem?_append_right hle] at hx;rw[hx] at hi;simp only[Option.map_some,Option.some.injEq] at hi;have hm:=List.mem_of_getElem? hx;unfold bP at hm;rw[List.mem_map] at hm;obtain⟨p,hp1,rfl⟩:=hm;rw[List.mem_filter] at hp1;have hf:p.2 = .free:=by simpa using hp1.2
  refine⟨(h4 p hp1.1 hf).1,?_⟩;rw[C.N];exact cG hi
theorem uT (C:Ctx X S T)(h:jT S sc=true)(Ca:Addr)(s0:Shared)(H0:Hp)(ex:List Addr):Ctx (inner X sc (bI sc++bP sc) Ca s0 H0 ex) { S with N:=bI sc++bP sc,sc:=sc } T:=by
 obtain⟨h1,h2,h3,h4,h5⟩:=mf h;have keep:∀ x k,sc.names.lookup x=some k->k≠.free->(relabel sc X.env).names.lookup x=some k:=fun x k e hk=>hU e hk
 refine⟨rfl,h5,fun x hx=>?_,fun x hx=>?_,fun x hx=>?_,fun x hx=>?_,C.units,C.calm,C.fns,C.rT,C.gH⟩
 ·unfold pN dG at hx;dsimp only at hx;split at hx
  ·rename_i e;exact .inl (keep _ _ e (by simp))
  ·rename_i e;exact .inr (.inl (keep _ _ e (by simp)))
  ·rename_i e;exact .inr (fP e)
  ·cases hx
 ·unfold jU dG at hx;dsimp only at hx;split at hx
  ·rename_i e;exact⟨.inl (keep _ _ e (by simp)),.inr (keep _ _ e (by simp))⟩
  ·rename_i e;exact⟨.inr (keep _ _ e (by simp)),.inl (by show (sc.names.lookup x==some NameKind.cell)=true;rw[e];rfl)⟩
  ·cases hx
 ·unfold qO dG at hx;dsimp only at hx;split at hx
  ·rename_i e;exact keep _ _ e (by simp)
  ·cases hx
 ·unfold dG at hx;rcases hx with hx | hx
  ·exact .inl (keep _ _ hx (by simp))
  ·exact fP hx
end
theorem jY (n d:Nat)(o:Option Int):bL n d o=HT.bL n d o:=by cases o<;>rfl
theorem Bu (n d:Nat)(hd:d<=n)(o:Option Int):bL n d o<=n\/∃ i,o=some i/\i<0/\(n:Int)<i+n:=by
 cases o with
 |none=>exact .inl hd
 |some i =>
  left;simp only[bL];split<;>omega
theorem pz {n d:Nat}(hd:d<=n)(o:Option Int):bL n d o<=n:=by
 rcases Bu n d hd o with h | ⟨i,_,h1,h2⟩
 ·exact h
 ·omega
theorem DA (lo hi:Option Int)(n:Nat):Builtin.Str.strSliceIndices lo hi 1 n=(List.range (bL n n hi - bL n 0 lo)).map (bL n 0 lo + ·):=by
 unfold Builtin.Str.strSliceIndices;have h1:∀(o:Option Int) (d:Nat),d<=n->(match o with | none=>(d:Int) | some i=>if (1:Int) > 0 then max 0 (min (if i<0 then i+(n:Int) else i) n) else max (-1) (min (if i<0 then i+(n:Int) else i) (n - 1)))=((bL n d o:Nat):Int):=by
  intro o d hd;cases o with
  |none=>rfl
  |some i =>
   simp only[bL];rw[if_pos (by decide)];by_cases hi:i<0
   ·rw[if_pos hi,if_pos hi];omega
   ·rw[if_neg hi,if_neg hi];omega
 have e1:=h1 lo 0 (dk _);have e2:=h1 hi n (au _);dsimp only;rw[if_pos (by decide),if_pos (by decide)];refine Eq.trans ?_ (sliceRange_one (bL n 0 lo) (bL n n hi));have gen:∀ a b a' b':Int,a=a'->b=b'->sliceRange a b 1=sliceRange a' b' 1:=fun a b a' b' h h'=>by rw[h,h']
 exact gen _ _ _ _ e1 e2
theorem E4 {X:Cx}:Cg X (fun x lo hi H Q=>∃ z,x = .str z/\z.length<=lim/\Q (.str ⟨(cut z.cps.toList lo hi).toArray⟩) H):=by
 intro pins s σ H x v vl vu lo hi sl Q I rx hs pl pu h;obtain⟨z,rfl,hzl,q⟩:=h;obtain⟨t,rfl⟩:=rx;have part:∀{v:Value}{o:Option Int},IsPart v o->∃ l:Option (Int×Tok),partValue l=v/\l.map (·.1)=o:=fun h=>by
  cases h with
  |none=>exact⟨none,rfl,rfl⟩
  |int i t=>exact⟨some (i,t),rfl,rfl⟩
 obtain⟨l,rfl,rfl⟩:=part pl;obtain⟨u,rfl,rfl⟩:=part pu;refine⟨"str",_,PySem.F.slot_str_getitem.lookup,typeIs_str s z t,wpAny_getItem_str_slice (l:=l) (u:=u) (st:=none) hs rfl ?_⟩;have hp:slicePicked z l u none=(List.range (bL z.length z.length (u.map (·.1)) - bL z.length 0 (l.map (·.1)))).map (bL z.length 0 (l.map (·.1)) + ·):=DA _ _ _;have hc:(slicePicked z l u none).filterMap (z.cps[·]?)=cut z.cps.toList (l.map (·.1)) (u.map (·.1)):=by
  rw[hp,pick_run];rfl
 unfold sliceMade;split
 ·rename_i hw;have hl:(slicePicked z l u none).length=z.length:=by
   have:=(aj _ _ ▸ hw).2;simpa using this
  rw[hp,ao,cm] at hl;have hz:(⟨(cut z.cps.toList (l.map (·.1)) (u.map (·.1))).toArray⟩:Str)=z:=by
   have a1:=pz (n:=z.length) (dk _) (l.map (·.1));have a2:=pz (n:=z.length) (au _) (u.map (·.1));have:cut z.cps.toList (l.map (·.1)) (u.map (·.1))=z.cps.toList:=by
    have hlen:z.cps.toList.length=z.length:=rfl;unfold cut;rw[hlen];dsimp only;by_cases h0:z.length=0
    ·have:z.cps.toList=[]:=List.eq_nil_of_length_eq_zero (hlen.trans h0);rw[this];simp
    ·rw[show bL z.length 0 (l.map (·.1))=0 by omega,show bL z.length z.length (u.map (·.1))=z.length by omega,List.drop_zero,Nat.sub_zero];exact eh (Nat.le_of_eq hlen)
   rw[this]
  rw[hz] at q;exact⟨.str z,H,I,⟨t,rfl⟩,q⟩
 ·rw[hc];refine⟨?_,.str _,H,I.tok _,⟨_,rfl⟩,q⟩;show (cut z.cps.toList (l.map (·.1)) (u.map (·.1))).toArray.size<=sizeLine;rw[ai];refine bj ?_ (fN hzl);unfold cut;rw[bh,c9];exact bj (gi _ _) (Nat.sub_le _ _)
section
variable {X:Cx}{T:Tb}{a:Expr}{ca:Ex}{lo hi:Option Expr}{cl ch:l9}{pos p2:Pos}
noncomputable def tO (K:Frag)(T:Tb)(c:l9):TO:=fun σ H Q=>∃ P env F,RE K P env σ H F/\∃ o,jB T c env = .ok o/\∀ H',aJ H H'->Q o H'
theorem xO {X:Cx}{e:Option Expr}{t t':TO}(h:PO X e t)(k:∀ σ H Q,t' σ H Q->t σ H Q):PO X e t':=fun pins s σ H Q I q=>h pins s σ H Q I (k σ H Q q)
theorem zZ:PO X none (tO X.K T .none):=xO Aa fun σ H Q ⟨P,env,F,re,o,h,k⟩=>by
 unfold jB at h;cases h;exact k H (aJ.refl _)
theorem zY (h:PE X a (tE X.K T ca)):PO X (some a) (tO X.K T (.some ca)):=xO (z6 h) fun σ H Q ⟨P,env,F,re,o,h,k⟩=>by
 unfold jB at h;obtain⟨p,h1,h2⟩:=Rs.bind_ok h;refine⟨P,env,F,re,p,h1,fun v H' G s rp rt=>?_⟩;split at h2
 ·rename_i i hi;cases h2;rw[hi] at rp;obtain⟨rfl,rfl⟩:=rp.int_inv;exact⟨i,rfl,k H' s⟩
 ·cases h2
theorem FX (ha:PE X a (tE X.K T ca))(hl:PO X lo (tO X.K T cl))(hh:PO X hi (tO X.K T ch)):PE X (.Subscript a (.Slice lo hi none p2) pos) (tE X.K T (.sl ca cl ch)):=by
 refine bS (xh (z5.or (E4.or Eh)) ha hl hh) fun σ H Q ⟨P,env,F,re,p,hev,k⟩=>?_
 unfold ev at hev;obtain⟨q,h1,hev⟩:=Rs.bind_ok hev;obtain⟨ol,h2,hev⟩:=Rs.bind_ok hev;obtain⟨oh,h3,hev⟩:=Rs.bind_ok hev;obtain⟨d,h4,hev⟩:=Rs.bind_ok hev;have h4:=cU h4;cases hev;refine⟨P,env,F,re,q,h1,fun v H1 G s rp rt=>⟨P,env,F,re.same s,ol,h2,fun H2 s2=>⟨P,env,F,re.same (s.trans s2),oh,h3,fun H3 s3=>?_⟩⟩⟩;have s23:=s2.trans s3;cases hq:q.1 with
 |lst xs =>
  rw[hq] at rp h4;cases h4;obtain⟨pa,vs,G',rfl,rfl,hr,rs⟩:=Rep.lst_inv (rp.same s23);refine .inl ⟨pa,vs,rfl,.inl hr,fun pn hn=>?_⟩;obtain⟨G1,r1,u1⟩:=rs.drop (bL xs.length 0 ol);obtain⟨G2,r2,u2⟩:=r1.take (bL xs.length xs.length oh - bL xs.length 0 ol);have hc:mD vs ol oh=(vs.drop (bL xs.length 0 ol)).take (bL xs.length xs.length oh - bL xs.length 0 ol):=by
   unfold mD;rw[rs.len,jY,jY]
  rw[hc];have sub:∀ a∈G2,a∈pa::G':=fun a ha=>ah _ (u1.mem (u2.mem ha))
  obtain⟨rp',nv⟩:=jZ (G0:=pa::G') r2 sub hn;have ar:Args X.K env F H H3 [q] [.ref pa] ((pa::G') ++ []):=.cons s (by rw[hq];exact rp) rt (.nil s23);rw[ax] at ar;exact k _ _ _ ((s.trans s23).trans nv.same) rp' (bV.new ar nv (by simp[aS]))
 |str z =>
  rw[hq] at rp h4;obtain⟨rfl,rfl⟩:=rp.str_inv;have h4:(if z.length<=lim then some (D.str ⟨(cut z.cps.toList ol oh).toArray⟩) else none)=some d:=h4;by_cases hz:z.length<=lim
  ·rw[if_pos hz] at h4;cases h4;exact .inr (.inl ⟨z,rfl,hz,k _ H3 [] (s.trans s23) (.str _) bV.nil⟩)
  ·rw[if_neg hz] at h4;cases h4
 |tup xs =>
  rw[hq] at rp h4;have h4:(if bL xs.length 0 ol=0/\bL xs.length xs.length oh=xs.length then none else some (D.tup (cut xs ol oh)))=some d:=h4;by_cases hw:bL xs.length 0 ol=0/\bL xs.length xs.length oh=xs.length
  ·rw[if_pos hw] at h4;cases h4
  ·rw[if_neg hw] at h4;cases h4;obtain⟨pa,vs,rfl,hr,rs⟩:=Rep.tup_inv (rp.same s23);refine .inr (.inr ⟨pa,vs,rfl,hr,by rw[<-rs.len,<-jY,<-jY];exact hw,fun pn hn=>?_⟩);obtain⟨G1,r1,u1⟩:=rs.drop (bL xs.length 0 ol);obtain⟨G2,r2,u2⟩:=r1.take (bL xs.length xs.length oh - bL xs.length 0 ol);have hc:mD vs ol oh=(vs.drop (bL xs.length 0 ol)).take (bL xs.length xs.length oh - bL xs.length 0 ol):=by
    unfold mD;rw[rs.len,jY,jY]
   rw[hc];obtain⟨rp',nv⟩:=wj (G0:=G) r2 (fun a ha=>u1.mem (u2.mem ha)) hn;have ar:Args X.K env F H H3 [q] [.ref pa] (G ++ []):=.cons s (by rw[hq];exact rp) rt (.nil s23);rw[ax] at ar;exact k _ _ _ ((s.trans s23).trans nv.same) rp' (bV.new ar nv (by simp[aS]))
 |_=>rw[hq] at h4;cases h4
end
section
variable {X:Cx}{S:Sc}{T:Tb}
theorem yY {f:Expr->Option Ex}(hf:∀ e c,f e=some c->SE X T e c){o:Option Expr}{c:l9}(h:xQ f o=some c):PO X o (tO X.K T c):=by
 cases o with
 |none=>cases h;exact zZ
 |some e =>
  have h:(f e).map l9.some=some c:=h;rw[aa] at h;obtain⟨d,h1,rfl⟩:=h;exact zY (hf e d h1).1
theorem FK {x id:String}{b:D0}{f:Expr->Option Ex}(hf:∀ e c,f e=some c->SE X T e c){e:Expr}{r:List Expr}{cs:kZ}{p pos:Pos}(hr:fL X (.builtin id) (sJ X.K b))(hv:bootBuiltins x=some (.builtin id))(hg:Gl X x)(hm:X.mg x=none)(hn:dD x=true)(ha:cW f (e::r)=some cs) :
  PE X (.Call (.Name x p) (e::r) [] pos) (tE X.K T (.blt b cs)):=by
 obtain⟨hs,_,_,_,h2,_⟩:=bN ha;obtain⟨n1,n2,n3⟩:=dE hn;exact bS (iL hr hg hm hv (cP hf ha) n3 n1 (bA hs) (eI h2)) fun σ H Q h=>qc h
theorem Fz {x id:String}{b:D0}{f:Expr->Option Ex}(hf:∀ e c,f e=some c->SE X T e c){e:Expr}{r:List Expr}{cs:kZ}{p pos:Pos}(hr:fL X (.type id) (sJ X.K b))(hv:bootBuiltins x=some (.type id))(hg:Gl X x)(hm:X.mg x=none)(hn:dD x=true)(ha:cW f (e::r)=some cs) :
  PE X (.Call (.Name x p) (e::r) [] pos) (tE X.K T (.blt b cs)):=by
 obtain⟨hs,_,_,_,h2,_⟩:=bN ha;obtain⟨n1,n2,n3⟩:=dE hn;exact bS (uY hr hg hm hv (cP hf ha) n3 n1 (bA hs) (eI h2)) fun σ H Q h=>qc h
theorem xH {t:Str}{u:String}(h:EX t=some u):u∈iX/\bootBuiltins t=some (.type u):=by
 unfold EX at h;split at h
 ·rename_i e;cases h;subst e;exact⟨by decide,boot_int⟩
 split at h
 ·rename_i e;cases h;subst e;exact⟨by decide,boot_bool⟩
 split at h
 ·rename_i e;cases h;subst e;exact⟨by decide,boot_str⟩
 split at h
 ·rename_i e;cases h;subst e;exact⟨by decide,boot_list⟩
 split at h
 ·rename_i e;cases h;subst e;exact⟨by decide,boot_tuple⟩
 cases h
theorem BE (C:Ctx X S T){f:Expr->Option Ex}(hf:∀ e c,f e=some c->SE X T e c){x:Str}{es:List Expr}{c:Ex}{p pos:Pos}(h:ui S f x es=some c):PE X (.Call (.Name x p) es [] pos) (tE X.K T c):=by
 unfold ui at h;by_cases hk:(dD x&&qO S.sc x)=true
 ·rw[if_pos hk] at h;rw[aj] at hk;obtain⟨hn,hg⟩:=hk;have hg:=C.gl x hg;obtain⟨n1,n2,n3⟩:=dE hn;cases hi:idxOf S.fns x with
  |some i =>
   rw[hi] at h;dsimp only at h;rw[aa] at h;obtain⟨cs,h1,rfl⟩:=h;obtain⟨fa,fd,ps,k,FO,hr,hm,hkp,hb,hl⟩:=C.fns i x hi;cases es with
   |nil =>
    cases h1;refine bS (yy FO hr hg hm hkp hb .nil Cu n1) fun σ H Q h=>?_
    have:=nF hl h;obtain⟨P,env,F,re,l,hev,k⟩:=this;unfold aX at hev;cases hev;exact k [] H [] (.nil (aJ.refl _))
   |cons e r =>
    obtain⟨hs,_,_,_,h2,_⟩:=bN h1;exact bS (Ax FO hr hg hm hkp hb .nil Cu (cP hf h1) n1 (bA hs) (eI h2)) fun σ H Q h=>nF hl h
  |none =>
   rw[hi] at h;dsimp only at h;by_cases hb:S.gH.contains x=true
   ·rw[if_pos hb] at h;have hm:=C.gH x hb;by_cases hx:x = "isinstance"
    ·rw[if_pos hx] at h;subst hx;unfold Ih at h;split at h
     ·rename_i a t pt;by_cases hc:(qO S.sc t&&S.gH.contains t&&dD t&&notStar a)=true
      ·rw[if_pos hc] at h;simp only[Bool.and_eq_true] at hc;obtain⟨⟨⟨c1,c2⟩,c3⟩,c4⟩:=hc;rw[ae] at h;obtain⟨u,h1,h2⟩:=h;rw[aa] at h2;obtain⟨ca,h2,rfl⟩:=h2;obtain⟨hu,hbt⟩:=xH h1;obtain⟨m1,m2,m3⟩:=dE c3;refine bS (iL vk hg hm boot_isinstance (aT (hf a ca h2).1 (aT (uo (v:=.ty u) (C.gl t c1) (C.gH t c2) hbt rfl m3 m1) dR rfl) (bA c4)) n3 n1 (bA c4) rfl) fun σ H Q h=>wc hu h
      ·rw[if_neg hc] at h;cases h
     ·cases h
    ·rw[if_neg hx] at h;by_cases hlr:x = "list"/\ni es=true
     ·rw[if_pos hlr] at h;obtain⟨rfl,_⟩:=hlr;cases h
     rw[if_neg hlr] at h;by_cases hlg:x = "list"/\mS es=true
     ·rw[if_pos hlg] at h;obtain⟨rfl,_⟩:=hlg;cases h
     rw[if_neg hlg] at h;cases es with
     |nil=>cases h
     |cons e r =>
      dsimp only at h;rw[ae] at h;obtain⟨b,h1,h2⟩:=h;rw[aa] at h2;obtain⟨cs,h2,rfl⟩:=h2;unfold Hw at h1;split at h1
      ·rename_i e;cases h1;subst e;exact FK hf uL boot_len hg hm hn h2
      split at h1
      ·rename_i e;cases h1;subst e;exact Fz hf (sk C.calm) boot_list hg hm hn h2
      split at h1
      ·rename_i e;cases h1;subst e;exact FK hf (rQ C.calm C.units.1) boot_min hg hm hn h2
      split at h1
      ·rename_i e;cases h1;subst e;exact Fz hf vM boot_int hg hm hn h2
      cases h1
   ·rw[if_neg hb] at h;cases h
 ·rw[if_neg hk] at h;cases h
theorem EY {f:Expr->Option Ex}(hf:∀ e c,f e=some c->SE X T e c){o:Expr}{name:Str}{es:List Expr}{c:Ex}{apos cpos:Pos}(h:BC f o name es apos cpos=some c):PE X (.Call (.Attribute o name apos) es [] cpos) (tE X.K T c):=by
 unfold BC at h;split at h
 ·rename_i e;by_cases hk:(apos.endLine==cpos.line&&wx o)=true
  ·rw[if_pos hk] at h;rw[aj] at hk;have hb:attributeBase o name X.env (eval o X.env)=eval o X.env:=by
    obtain⟨_,hk⟩:=hk;cases o<;>first | rfl | (cases hk;done) | skip
    rename_i g as ks cp;cases as with
    |nil=>cases hk
    |cons a r=>cases g<;>rfl
   by_cases hjn:name = "join"
   ·rw[if_pos hjn,ae] at h;subst hjn;obtain⟨co,ho,h⟩:=h;rw[ae] at h;obtain⟨cs,hc,h⟩:=h;obtain⟨ns,ce,d,he,hd,rfl⟩:=bN hc;cases hd;cases h;refine bS (qv PySem.F.plainAttrs_str PySem.F.slot_str_join PySem.F.type_str_join A7 (hf o co ho).1 (cP hf hc) hb ?_ hk.1 (bA ns) rfl) fun σ H Q h=>vE h
    rw[bA ns];rfl
   rw[if_neg hjn,ae] at h;obtain⟨m,hm,h⟩:=h;rw[ae] at h;obtain⟨co,ho,h⟩:=h;rw[ae] at h;obtain⟨cs,hc,h⟩:=h;obtain⟨ns,ce,d,he,hd,rfl⟩:=bN hc;cases hd;cases h;have slot:∃ id,PySem.Slot "str" name id/\typeOf (.builtin id)=pure (.type "method_descriptor")/\Bp X id (Bm m)/\(m = .sfind\/m = .sindex):=by
    unfold x6 at hm;split at hm
    ·rename_i e;cases hm;subst e;exact⟨_,PySem.F.slot_str_find,PySem.F.type_str_find,A5,.inl rfl⟩
    split at hm
    ·rename_i e;cases hm;subst e;exact⟨_,PySem.F.slot_str_index,PySem.F.type_str_index,yz,.inr rfl⟩
    cases hm
   obtain⟨id,s1,s2,s3,s4⟩:=slot;intro pins s σ H Q I hh;rcases xw s4 hh with hh1 | ⟨em,hh2⟩
   ·refine qv PySem.F.plainAttrs_str s1 s2 s3 (hf o co ho).1 (cP hf hc) hb ?_ hk.1 (bA ns) rfl pins s σ H Q I hh1;rw[bA ns];rfl
   ·subst em;have:name = "index":=by
     unfold x6 at hm;split at hm
     ·cases hm
     split at hm
     ·assumption
     cases hm
    subst this;refine qv gw PySem.F.slot_list_index PySem.F.type_list_index AZ (hf o co ho).1 (cP hf hc) hb ?_ hk.1 (bA ns) rfl pins s σ H Q I hh2;rw[bA ns];rfl
  ·rw[if_neg hk] at h;cases h
 ·cases h
theorem uc {own:Nat}{pick:List Nat}{t:kG}(h:uM own t=true)(i:Nat)(hi:t = .nm i\/∃ is,t = .tp is/\i∈is):(eN own pick)[i]? = some none:=by
 have:i<own:=by
  rcases hi with rfl | ⟨is,rfl,hm⟩
  ·simpa[uM] using h
  ·simp only[uM,List.all_eq_true,decide_eq_true_eq] at h;exact h i hm
 unfold eN;rw[List.getElem?_append_left (by simpa using this),List.getElem?_replicate,if_pos this]
structure nD (X:Cx)(S:Sc)(T:Tb)(elt tg iter:Expr)(ifs:List Expr)(sc:Scope)(c:Ex):Prop where
 ex:∃ pick t it ci ce,c = .comp (bI sc).length pick t it ci ce/\eJ X sc (bI sc++bP sc) (eN (bI sc).length pick)/\PI X tg iter (tI X.K T it) /\
  (∀ C s0 H0 ex,PG (inner X sc (bI sc++bP sc) C s0 H0 ex) tg (pQ X.K t)/\Fu (inner X sc (bI sc++bP sc) C s0 H0 ex) ifs (EZ X.K T ci)/\PE (inner X sc (bI sc++bP sc) C s0 H0 ex) elt (tE X.K T ce)) /\
  uM (bI sc).length t=true/\gE iter=true
theorem lP (C:Ctx X S T){f:Sc->Expr->Option Ex}(hf:∀{X:Cx}{S:Sc},Ctx X S T->∀ e c,f S e=some c->SE X T e c){elt tg iter:Expr}{ifs:List Expr}{sc:Scope}{c:Ex}(h:pO S f elt tg iter ifs sc=some c):nD X S T elt tg iter ifs sc c:=by
 unfold pO at h;by_cases hk:(jT S sc&&gE iter)=true
 ·rw[if_pos hk] at h;rw[aj] at hk;rw[ae] at h;obtain⟨it,h1,h⟩:=h;rw[ae] at h;obtain⟨pick,h2,h⟩:=h;rw[ae] at h;obtain⟨t,h3,h⟩:=h;by_cases ho:uM (bI sc).length t=true
  ·rw[if_pos ho] at h;rw[ae] at h;obtain⟨ci,h4,h⟩:=h;rw[aa] at h;obtain⟨ce,h5,rfl⟩:=h;refine⟨pick,t,it,ci,ce,rfl,qX C hk.1 h2,zl C (hf C) h1,fun Ca s0 H0 ex=>?_,ho,hk.2⟩;have C':=uT C hk.1 Ca s0 H0 ex;refine⟨sd C' h3,?_,(hf C' elt ce h5).1⟩;unfold FA at h4;split at h4
   ·cases h4;exact Be
   ·rw[aa] at h4;obtain⟨cc,h4,rfl⟩:=h4;exact Av (hf C' _ cc h4).2
   ·cases h4
  ·rw[if_neg ho] at h;cases h
 ·rw[if_neg hk] at h;cases h
theorem zL (C:Ctx X S T){elt tg iter:Expr}{ifs:List Expr}{sc:Scope}{c:Ex}{pos:Pos}(h:nD X S T elt tg iter ifs sc c):PE X (.ListComp elt [⟨tg,iter,ifs,0⟩] sc pos) (tE X.K T c):=by
 obtain⟨pick,t,it,ci,ce,rfl,h1,h2,h3,h4,h5⟩:=h;exact bS (zB h1 C.calm h2 h3 (nV (uc h4)) (pe h5)) fun σ H Q h=>nU h
theorem Bz (C:Ctx X S T){f:Expr->Option Ex}(hf:∀ e c,f e=some c->SE X T e c){x kn:Str}{a d:Expr}{c:Ex}{p kp pos:Pos}(h:vV S f x a d kn=some c):PE X (.Call (.Name x p) [a] [⟨some kn,d,kp⟩] pos) (tE X.K T c):=by
 cases h
theorem vv {k:Option Expr}{x:Str}(h:xo k=some x):∃ p,k=some (.Name x p):=by
 cases k with
 |none=>cases h
 |some e=>cases e<;>first | (cases h;exact⟨_,rfl⟩) | (cases h)
theorem ym {e:Expr}{v:Int}(h:DV e=some v):∃ a b,e = .Constant (.int v) a b:=by
 cases e with
 |Constant c a b=>cases c<;>first | (cases h;exact⟨_,_,rfl⟩) | (cases h)
 |_=>cases h
theorem sZ (C:Ctx X S T){pos:Pos}:∀{ks:List (Option Expr)}{vs:List Expr}{l:List (Nat×Int)},yk S ks vs=some l->∃ us:List (V×Int),Hg X pos ks vs (us.map fun q=>(tC q.1,tC (.int q.2)))/\Paired (fun (q:Nat×Int) (u:V×Int)=>q.2=u.2/\∀ H,Rep X.K H (T.gl q.1) u.1 []) l us/\ks.all (·.isSome)=true/\ks.length=vs.length/\ks.length=l.length
 |[],[],l,h=>by cases h;exact⟨[],zG,.nil,rfl,rfl,rfl⟩
 | k::ks,e::vs,l,h=>by
  have hA:((xo k).bind fun x=>(DV e).bind fun v=>if dD x&&qO S.sc x then (idxOf S.rT x).bind fun i=>(yk S ks vs).map fun l=>(i,v)::l else none)=some l:=h;clear h;obtain⟨x,hx,hB⟩:=ae.mp hA;clear hA;obtain⟨v,hv,hD⟩:=ae.mp hB;clear hB;obtain⟨p,e1⟩:=vv hx;obtain⟨a,b,e2⟩:=ym hv;rw[e1,e2];by_cases hc:(dD x&&qO S.sc x)=true
  ·rw[if_pos hc] at hD;rw[aj] at hc;obtain⟨i,h1,hE⟩:=ae.mp hD;obtain⟨l',h2,rfl⟩:=aa.mp hE;obtain⟨us,g1,g2,g3,g4,g5⟩:=sZ C (pos:=pos) h2;obtain⟨u,w,e1,e2,e3⟩:=C.rT i x h1;obtain⟨n1,n2,n3⟩:=dE hc.1;exact⟨(u,v)::us,x8 (dS (C.gl x hc.2) e1 e2 n1) rM g1,.cons ⟨rfl,e3⟩ g2,by rw[List.all_cons,g3];rfl,by rw[aw,aw,g4],by rw[aw,aw,g5]⟩
  ·rw[if_neg hc] at hD;cases hD
 |[],_::_,l,h=>by cases h
 |_::_,[],l,h=>by cases h
theorem pZ {Q:List (V×V)->Hp->Prop}{σ:L2.St}{H:Hp}:∀{us:List (V×Int)},Q (us.map fun q=>(q.1,.int q.2)) H->lE (us.map fun q=>(tC q.1,tC (.int q.2))) σ H Q
 |[],h=>h
 | (u,i)::us,h=>by
  show lE (us.map fun q=>(tC q.1,tC (.int q.2))) σ H (fun ps H3=>Q ((u,.int i)::ps) H3);exact pZ (us:=us) (Q:=fun ps H3=>Q ((u,.int i)::ps) H3) h
theorem AL {K:Frag}{gl:Nat->D}{l:List (Nat×Int)}{us:List (V×Int)}(r:Paired (fun (q:Nat×Int) (u:V×Int)=>q.2=u.2/\∀ H,Rep K H (gl q.1) u.1 []) l us) :
  ∀{ks ks':List (Int×MV)}{xs:List (Key×V)},oj gl l ks=some ks'->(∀ H,jd K H ks xs)->∃ kvs:List (Key×V),(us.map fun q=>(q.1,(.int q.2:V)))=kvs.map (fun kv=>(kV kv.1,kv.2))/\kvs.length=l.length/\∀ H,jd K H ks' (gY xs kvs):=by
 induction r with
 |nil=>intro ks ks' xs h k;cases h;exact⟨[],rfl,rfl,k⟩
 |@cons q u l us h0 t ih =>
  intro ks ks' xs h k;unfold oj at h;split at h
  ·rename_i i hi;have r1:=h0.2 fun _=>none
   rw[hi] at r1;obtain⟨e,_⟩:=r1.int_inv;obtain⟨kvs,e1,e2,e3⟩:=ih (xs:=putK xs (.inl i) (.int q.2)) h (fun H=>(k H).put i (m:=.int q.2) rfl);refine⟨(.inl i,.int q.2)::kvs,?_,by rw[aw,aw,e2],e3⟩;rw[av,av,e1,<-h0.1,e];rfl
  ·cases h
theorem EV (C:Ctx X S T){pos:Pos}{ks:List (Option Expr)}{vs:List Expr}{l:List (Nat×Int)}(h:yk S ks vs=some l)(h0:ks≠[])(h15:ks.length<=15):PE X (.Dict ks vs pos) (tE X.K T (.ddsp l)):=by
 obtain⟨us,g1,g2,g3,g4,g5⟩:=sZ C (pos:=pos) h;refine bS (AE g1 g3 g4 h0 h15) fun σ H Q ⟨P,env,F,re,p,hev,k⟩=>?_
 unfold ev at hev;obtain⟨ks',h1,hev⟩:=Rs.bind_ok hev;cases hev;intro a ha;obtain⟨kvs,e1,e2,e3⟩:=AL g2 (cU h1) (xs:=[]) fun _=>trivial
 refine pZ ⟨aP,kvs,e1,by omega,?_⟩;have eu:upd (upd H a (.dK [])) a (.dK (gY [] kvs))=upd H a (.dK (gY [] kvs)):=by
  funext b;by_cases e:b=a
  ·rw[e,aP,aP]
  ·rw[aO e,aO e,aO e]
 rw[eu];refine k _ _ [a] (aJ.new ha) (.mpi (xs:=gY [] kvs) aP (e3 _)) ⟨fun b hb=>?_,fun R hR=>⟨by simp,fun b hb=>?_,fun b hb=>?_⟩⟩
 ·obtain rfl:=ir.mp hb;exact .inl ha
 ·obtain rfl:=ir.mp hb;exact⟨.k _,aP⟩
 ·obtain rfl:=ir.mp hb;exact .inl ha
theorem vx {b e:Expr}(h:sV b=some e):∃ q,b = .List [e] q/\∀ env,starEach [e] env=(false,eval e env)::starEach [] env:=by
 unfold sV at h;split at h
 ·split at h
  ·split at h
   ·cases h;exact⟨_,rfl,fun _=>rfl⟩
   ·cases h
  ·cases h
 ·cases h
theorem AA {a e:Expr}{ca ce:Ex}{pos q:Pos}(ha:PE X a (tE X.K T ca))(he:PE X e (tE X.K T ce))(hs:∀ env,starEach [e] env=(false,eval e env)::starEach [] env):PE X (.BinOp a .Add (.List [e] q) pos) (tE X.K T (.snoc ca ce)):=by
 refine bS (Co tY ha (rL (aT he dR (hs _)))) fun σ H Q ⟨P,env,F,re,p,hev,k⟩=>?_
 unfold ev at hev;obtain⟨x,h1,hev⟩:=Rs.bind_ok hev;obtain⟨y,h2,hev⟩:=Rs.bind_ok hev;obtain⟨d,h3,hev⟩:=Rs.bind_ok hev;cases hev;have h3:=cU h3;obtain⟨x1,xr⟩:=x;obtain⟨y1,yr⟩:=y;unfold Cq at h3;dsimp only at h3;split at h3
 ·rename_i xs;split at h3
  ·rename_i hc;cases h3;rw[aj,decide_eq_true_iff] at hc;refine⟨P,env,F,re,_,h1,fun v H1 G1 s1 r1 t1=>?_⟩;obtain⟨pa,vs,G1',rfl,rfl,a1,a2⟩:=r1.lst_inv;have eG:G1'=[]:=a2.flat hc.1;subst eG;refine⟨P,env,F,re.same s1,_,h2,fun u H2 G2 s2 r2 t2=>⟨(show (1:Nat)<=sizeLine by decide),fun p' hp'=>?_⟩⟩;obtain⟨nd,ml,nw⟩:=t2.mv [] rfl;have s3:=aJ.new (o:=.lst [u]) hp';have a1':Rd (upd H2 p' (.lst [u])) pa (.lst vs):=by
    rcases a1 with q | ⟨o,q⟩
    ·exact .inl ((s2.trans s3) _ _ q)
    ·exact .inr ⟨o,(s2.trans s3) _ _ q⟩
   refine⟨pa,p',vs,[u],rfl,rfl,a1',.inl aP,?_,fun q0 hq0=>?_⟩
   ·have hl:=a2.len;rw[<-hl];exact fN hc.2
   ·have s4:=aJ.new (o:=.lst (vs ++ [u])) hq0;have sAll:=s1.trans (s2.trans (s3.trans s4));have new1:∀ z∈G2,H z=none:=fun z hz=>by
     rcases nw z hz with w | ⟨i,_,_,hi,_⟩
     ·exact aJ.no s1 w
     ·cases hi
    have nn2:∀ z∈G2,H2 z≠none:=fun z hz=>by
     obtain⟨m,e⟩:=ml z hz;rw[e];simp
    refine k (.ref q0) _ (q0::G2) sAll (.lst (.inl aP) ?_) ⟨fun z hz=>?_,fun R hR=>⟨?_,fun z hz=>?_,fun z hz=>?_⟩⟩
    ·have ra:=a2.same (s2.trans (s3.trans s4));have rb:=r2.same (s3.trans s4);have:=ra.append (.cons rb .nil)
     rwa [cz,ax] at this
    ·rcases iy.mp hz with rfl | hz
     ·exact .inl (aJ.no (s1.trans (s2.trans s3)) hq0)
     ·exact .inl (new1 z hz)
    ·refine List.nodup_cons.mpr ⟨fun hz=>?_,nd⟩;have:=aJ.no s3 hq0;exact nn2 q0 hz this
    ·rcases iy.mp hz with rfl | hz
     ·exact⟨.l _,aP⟩
     ·obtain⟨m,e⟩:=ml z hz;exact⟨m,(s3.trans s4) z _ e⟩
    ·rcases iy.mp hz with rfl | hz
     ·exact .inl (aJ.no (s1.trans (s2.trans s3)) hq0)
     ·exact .inl (new1 z hz)
  ·cases h3
 ·cases h3
theorem dH:∀(n:Nat) {X:Cx}{S:Sc}{T:Tb}(C:Ctx X S T) (e:Expr) (c:Ex),cE n S e=some c->SE X T e c:=by
 intro n
 induction n with
 |zero=>intro X S T C e c h;cases h
 |succ n ih =>
  intro X S T C e c h;have ihX:=ih C;cases e with
  |Name x p =>
   have h:yG S x=some c:=h;unfold yG at h;by_cases hn:dD x=true
   ·rw[if_pos hn] at h;obtain⟨n1,n2,n3⟩:=dE hn;by_cases hv:pN S.sc x=true
    ·rw[if_pos hv,aa] at h;obtain⟨i,h1,rfl⟩:=h;have hi:=cG h1;rw[<-C.N] at hi;have:=Dz (T:=T) (pos:=p) hi (C.vis x hv) n1 n2;exact⟨this,cN this fun _=>rfl⟩
    ·rw[if_neg hv] at h;by_cases hg:qO S.sc x=true
     ·rw[if_pos hg,aa] at h;obtain⟨i,h1,rfl⟩:=h;obtain⟨v,u,g1,g2,g3⟩:=C.rT i x h1;have:=EH (dS (pos:=p) (C.gl x hg) g1 g2 n1) g3;exact⟨this,cN this fun _=>rfl⟩
     ·rw[if_neg hg] at h;cases h
   ·rw[if_neg hn] at h;cases h
  |Constant k x1 p =>
   have h:Il k=some c:=h;cases k with
   |int i=>cases h;exact⟨iU (T:=T) rM fun H=>Rep.int _,cN (iU (T:=T) rM fun H=>Rep.int _) fun _=>rfl⟩
   |bool b=>cases h;exact⟨iU (T:=T) yH fun H=>Rep.bl _,cN (iU (T:=T) yH fun H=>Rep.bl _) fun _=>rfl⟩
   |none=>cases h;exact⟨iU (T:=T) rY fun H=>Rep.non,cN (iU (T:=T) rY fun H=>Rep.non) fun _=>rfl⟩
   |str s=>cases h;exact⟨iU (T:=T) qV fun H=>Rep.str _,cN (iU (T:=T) qV fun H=>Rep.str _) fun _=>rfl⟩
   |_=>cases h
  |BinOp a op b p =>
   have h:DF (cE n S) a op b=some c:=h;unfold DF at h;cases hlt:sV b with
   |none =>
    rw[hlt] at h;dsimp only at h;rw[ae] at h;obtain⟨ca,h1,h⟩:=h;rw[aa] at h;obtain⟨cb,h2,rfl⟩:=h;have:=Eg (pos:=p) (A1 op) (ihX a ca h1).1 (ihX b cb h2).1;exact⟨this,cN this fun _=>rfl⟩
   |some e =>
    rw[hlt] at h;dsimp only at h;by_cases ho:isAdd op=true
    ·rw[if_pos ho] at h;rw[ae] at h;obtain⟨ca,h1,h⟩:=h;rw[aa] at h;obtain⟨ce,h2,rfl⟩:=h;obtain⟨q,hq,hse⟩:=vx hlt;have ho:op = .Add:=by cases op<;>first | rfl | (cases ho)
     subst ho;rw[hq];have:=AA (pos:=p) (q:=q) (ihX a ca h1).1 (ihX e ce h2).1 hse;exact⟨this,cN this fun _=>rfl⟩
    ·rw[if_neg ho] at h;cases h
  |UnaryOp op a p =>
   have h:cUn op (cE n S a)=some c:=h;cases op with
   |USub =>
    have h:(cE n S a).map .neg=some c:=h;rw[aa] at h;obtain⟨ca,h1,rfl⟩:=h;have:=E6 (pos:=p) (ihX a ca h1).1;exact⟨this,cN this fun _=>rfl⟩
   |Not =>
    have h:(cE n S a).map .not=some c:=h;rw[aa] at h;obtain⟨ca,h1,rfl⟩:=h;exact⟨C4 (ihX a ca h1).1,DK (ihX a ca h1).2⟩
   |_=>cases h
  |BoolOp op es p =>
   have h:F6 (cE n S) op es=some c:=h;have ⟨h1,h2⟩:=t4 (pos:=p) ihX h;exact⟨h1,h2.pt⟩
  |Compare a ops bs p =>
   have h:Gu (cE n S) a ops bs=some c:=h;cases ops with
   |nil=>cases h
   |cons op r=>cases r with
    |nil=>cases bs with
     |nil=>cases h
     |cons b r2=>cases r2 with
      |cons _ _=>cases h
      |nil =>
       have h:v7 (cE n S) a op b=some c:=h;unfold v7 at h;by_cases hb:behindInMarks op b=true
       ·rw[if_pos hb] at h;cases h
       ·rw[if_neg hb] at h;have hb:behindInMarks op b=false:=by simpa using hb
        rw[ae] at h;obtain⟨ca,h1,h⟩:=h;rw[aa] at h;obtain⟨cb,h2,rfl⟩:=h;exact⟨CI (uq op C.units) (ihX a ca h1).1 (ihX b cb h2).1 hb,EU C.units (ihX a ca h1).1 (ihX b cb h2).1 hb⟩
    |cons op' r2=>cases r2 with
     |cons _ _=>cases bs<;>cases h
     |nil=>cases bs with
      |nil=>cases h
      |cons b r3=>cases r3 with
       |nil=>cases h
       |cons d r4=>cases r4 with
        |cons _ _=>cases h
        |nil =>
         have h:Cj (cE n S) a op op' b d=some c:=h;cases h
  |IfExp t a b p =>
   have h:((cE n S t).bind fun cc=>(cE n S a).bind fun ca=>(cE n S b).map fun cb=>.ite cc ca cb)=some c:=h;rw[ae] at h;obtain⟨cc,h1,h⟩:=h;rw[ae] at h;obtain⟨ca,h2,h⟩:=h;rw[aa] at h;obtain⟨cb,h3,rfl⟩:=h;exact⟨Er (ihX t cc h1).2 (ihX a ca h2).1 (ihX b cb h3).1,CB (ihX t cc h1).2 (ihX a ca h2).2 (ihX b cb h3).2⟩
  |List es p =>
   have h:(cW (cE n S) es).map .lst=some c:=h;rw[aa] at h;obtain⟨cs,h1,rfl⟩:=h;have:=Dd (pos:=p) (cP ihX h1);exact⟨this,cN this fun _=>rfl⟩
  |Dict ks vs p =>
   have h:E1 S ks vs=some c:=h;unfold E1 at h;split at h
   ·cases h
   ·split at h
    ·rename_i hl;obtain⟨l,h1,rfl⟩:=aa.mp h;have:=EV (pos:=p) C h1 (by simp) hl;exact⟨this,cN this fun _=>rfl⟩
    ·cases h
   ·cases h
  |Tuple es x1 p =>
   have h:(cW (cE n S) es).map .tup=some c:=h;rw[aa] at h;obtain⟨cs,h1,rfl⟩:=h;have:=Ef (pos:=p) (x1:=x1) (cP ihX h1);exact⟨this,cN this fun _=>rfl⟩
  |Subscript a b p =>
   have h:BZ (cE n S) a b=some c:=h;by_cases hb:iT b=true
   ·have h:(if iT b then (cE n S a).bind fun ca=>(cE n S b).map fun cb=>.ix ca cb else none)=some c:=by
     cases b<;>first | exact h | cases hb
    rw[if_pos hb] at h;rw[ae] at h;obtain⟨ca,h1,h⟩:=h;rw[aa] at h;obtain⟨cb,h2,rfl⟩:=h;have:=Ha (pos:=p) (A3 C.units.2) (ihX a ca h1).1 (ihX b cb h2).1 (vY hb);exact⟨this,cN this fun _=>rfl⟩
   ·cases b with
    |Slice lo hi st p2 =>
     cases st with
     |none =>
      have h:((cE n S a).bind fun ca=>(xQ (cE n S) lo).bind fun l=>(xQ (cE n S) hi).map fun h=>.sl ca l h)=some c:=h;rw[ae] at h;obtain⟨ca,h1,h⟩:=h;rw[ae] at h;obtain⟨cl,h2,h⟩:=h;rw[aa] at h;obtain⟨ch,h3,rfl⟩:=h;have:=FX (pos:=p) (p2:=p2) (ihX a ca h1).1 (yY ihX h2) (yY ihX h3);exact⟨this,cN this fun _=>rfl⟩
     |some _=>cases h
    |_=>exact absurd rfl hb
  |Call g es ks pos =>
   have h:xm S (cE n S) g es ks pos=some c:=h;cases g with
   |Name x p =>
    have h:xV S (cE n S) x es ks=some c:=h;cases ks with
    |nil =>
     have h:ui S (cE n S) x es=some c:=h;have:=BE (p:=p) (pos:=pos) C ihX h;exact⟨this,cN this fun _=>rfl⟩
    |cons k r=>cases r with
     |cons _ _=>obtain⟨_,_,_⟩:=k;cases h
     |nil =>
      obtain⟨k,d,kp⟩:=k;cases k with
      |none=>cases h
      |some kn=>cases es with
       |nil=>cases h
       |cons a r2=>cases r2 with
        |cons _ _=>cases h
        |nil =>
         have h:vV S (cE n S) x a d kn=some c:=h;have:=Bz (p:=p) (kp:=kp) (pos:=pos) C ihX h;exact⟨this,cN this fun _=>rfl⟩
   |Attribute o name apos =>
    cases ks with
    |nil =>
     have h:BC (cE n S) o name es apos pos=some c:=h;have:=EY (apos:=apos) (cpos:=pos) ihX h;exact⟨this,cN this fun _=>rfl⟩
    |cons _ _=>cases h
   |_=>cases h
  |ListComp elt gens sc pos =>
   have h:cLC S (cE n) elt sc gens=some c:=h;cases gens with
   |nil=>cases h
   |cons g r=>cases r with
    |cons _ _=>obtain⟨_,_,_,_⟩:=g;cases h
    |nil =>
     obtain⟨tg,iter,ifs,as⟩:=g;have h:(if as=0 then pO S (cE n) elt tg iter ifs sc else none)=some c:=h;by_cases ha:as=0
     ·rw[if_pos ha] at h;subst ha;have:=zL (pos:=pos) C (lP C (fun C'=>ih C') h);exact⟨this,cN this fun _=>rfl⟩
     ·rw[if_neg ha] at h;cases h
  |_=>cases h
end
section
variable {X:Cx}{T:Tb}
end
structure qq (X:Cx)(S:Sc)(T:Tb):Prop where
 c:Ctx X S T
 sc:X.env.scope=S.sc
 fn:S.sc.kind = .function
 own:PassesOwn (model X.prog X.w) X.A X.env X.xe
noncomputable def B3 (m:Str):Option pW:=if m = "append" then some .append else if m = "extend" then some .extend else none
noncomputable def wN (m:Str):Option pW:=none
noncomputable def ku (n:Nat)(S:Sc):Expr->Option (Nat×l9)
 |.Name x _=>if dD x&&pN S.sc x then (idxOf S.N x).map fun i=>(i,.none) else none
 |_=>none
noncomputable def wF:Expr->Bool
 | .Constant (.bool true) _ _=>true
 |.Tuple _ _ _=>true
 |.IfExp _ _ _ _=>true
 |_=>false
noncomputable def mvB (x:Str):Expr->Bool
 |.Name y _=>x==("_law_best" : Str)&&y==("_law_way" : Str)
 |_=>false
noncomputable def zT (n:Nat)(S:Sc)(tg e:Expr):Option St:=match tg with
 |.Name x px=>match e with
  |.ListComp elt [⟨tg',iter,ifs,0⟩] sc p=>if jU S.sc x then (idxOf S.N x).bind fun i=>(cE n S (.ListComp elt [⟨tg',iter,ifs,0⟩] sc p)).map fun c=>.asg (.nm i) c false else none
  |e=>if gC e then none else if jU S.sc x then (idxOf S.N x).bind fun i=>(cE n S e).map fun c=>.asg (.nm i) c (mvB x e) else none
 |.Tuple es k p=>if gC e || isTup e then none else (l0 S es).bind fun is=>(cE n S e).map fun c=>.asg (.tp is) c false
 |.Subscript o ix p=>if wF e then (if iT ix then (match ku n S o with
   | some (i,.none)=>(cE n S ix).bind fun ci=>(cE n S e).map fun ce=>.putd i ci ce
   |_=>none) else none) else if gC e || !iT ix then none else (ku n S o).bind fun q=>(cE n S ix).bind fun ci=>(cE n S e).map fun c=>.setix q.1 q.2 ci c
 |_=>none
noncomputable def AV (n:Nat)(S:Sc)(o:Expr)(name:Str)(es:List Expr)(apos cpos:Pos):Option St :=
 if apos.endLine==cpos.line then (if es.isEmpty then (wN name).bind fun m=>(ku n S o).map fun q=>.mut q.1 q.2 m .nil else (B3 name).bind fun m=>(ku n S o).bind fun q=>match es with
  |[a]=>(cW (cE n S) [a]).map fun cs=>.mut q.1 q.2 m cs
  |[a,b]=>(cW (cE n S) [a,b]).map fun cs=>.mut q.1 q.2 m cs
  |_=>none)
 else none
noncomputable def tP (n:Nat)(S:Sc)(o:Expr)(name:Str)(es:List Expr)(apos cpos:Pos):Option St:=match es with
 |_=>none
noncomputable def cAug (n:Nat)(S:Sc)(tg:Expr)(op:Operator)(e:Expr):Option St:=none
noncomputable def Ao (n:Nat)(S:Sc)(tg e:Expr):Option St:=none
noncomputable def Fk (n:Nat)(S:Sc)(e:Expr):Option St:=if gC e then none else (cE n S e).map .expr
noncomputable def GC (n:Nat)(S:Sc):Expr->Option St
 |.Constant k x1 p=>(match k with
  |.str _=>some .pass
  |k=>Fk n S (.Constant k x1 p))
 |.Call g es ks cpos=>(match g with
  |.Attribute o name apos=>(match ks with
   |[]=>(match tP n S o name es apos cpos with
    |some c=>some c
    |none=>AV n S o name es apos cpos)
   |k::ks=>Fk n S (.Call (.Attribute o name apos) es (k::ks) cpos))
  |g=>Fk n S (.Call g es ks cpos))
 |e=>Fk n S e
noncomputable def cAs (n:Nat)(S:Sc)(e:Expr):List Expr->Option St
 |[]=>none
 |[tg]=>(match Ao n S tg e with
  |some c=>some c
  |none=>zT n S tg e)
 |_::_::_=>none
noncomputable def cRet (n:Nat)(S:Sc):Option Expr->Option St
 |none=>some .retN
 |some e=>(cE n S e).map .ret
noncomputable def uE:kG->bJ->Option Nat
 |_,_=>none
theorem zv {t:kG}{cb:bJ}{x:Nat}(h:uE t cb=some x):t = .nm x:=by
 cases h
noncomputable def Hm (n:Nat)(S:Sc)(tg iter:Expr)(ob:Option bJ):List Stmt->Option St
 |[]=>if gE iter then (rD S tg).bind fun t=>ob.bind fun cb=>(match uE t cb with
  |some x=>(cE n S iter).map fun c=>.forw x c cb
  |none=>(C1 S (cE n S) (isTup tg) iter).map fun it=>.forr t it cb) else none
 |_::_=>none
noncomputable def Hu (S:Sc):Expr->Option St->Option St
 |_,o=>o
theorem x9 {S:Sc}{e:Expr}{o:Option St}{c:St}(h:Hu S e o=some c):o=some c:=h
noncomputable def cWhl (n:Nat)(S:Sc)(e:Expr)(ob:Option bJ):List Stmt->Option St
 |[]=>(cE n S e).bind fun c=>ob.map fun cb=>.whl c cb
 |_::_=>none
mutual
noncomputable def cS:Nat->Sc->Stmt->Option St
 |0,_,_=>none
 |n+1,S,st=>match st with
  |.Assign tgs e _=>cAs n S e tgs
  |.AugAssign tg op e _=>cAug n S tg op e
  |.Expr e _=>GC n S e
  |.Return o _=>cRet n S o
  |.If e a b _=>(cE n S e).bind fun c=>(uk n S a).bind fun ca=>(uk n S b).map fun cb=>.ite c ca cb
  |.For tg iter b oe _=>Hu S iter (Hm n S tg iter (uk n S b) oe)
  |.While e b oe _=>cWhl n S e (uk n S b) oe
  |.Pass _=>some .pass
  |.Raise _ _ _=>some (.expr (.neg (.cst .non)))
  |_=>none
noncomputable def uk:Nat->Sc->List Stmt->Option bJ
 |0,_,_=>none
 |_+1,_,[]=>some .nil
 |n+1,S,s::r=>(cS n S s).bind fun c=>(uk n S r).map fun d=>.cons c d
end
theorem pE {e:Expr}{t:Option Expr}{l:Nat}{env:Env}(h:gC e=false):swapsWith e t l env=pure false:=by
 cases e<;>first | rfl | (cases h)
theorem nk {e t:Expr}{l:Nat}{env:Env}(h:gC e=false):swapsWithSole [t] e l env=pure false:=pE h
section
variable {X:Cx}{S:Sc}{T:Tb}
theorem Bi {st:Stmt}:PS X st (tS X.K T (.expr (.neg (.cst .non)))):=by
 intro pins s σ H D I h;obtain⟨P,Z,env,F,re,hz,zp,h⟩:=h;exact h.elim
theorem jP (C:Ctx X S T){n:Nat}{o:Expr}{q:Nat×l9}(h:ku n S o=some q):PE X o (lA X.K T q.1 q.2):=by
 unfold ku at h;split at h
 ·rename_i x p;by_cases hk:(dD x&&pN S.sc x)=true
  ·rw[if_pos hk,aa] at h;rw[aj] at hk;obtain⟨i,h1,rfl⟩:=h;obtain⟨n1,n2,n3⟩:=dE hk.1;have hi:=cG h1;rw[<-C.N] at hi;exact D1 hi (C.vis x hk.2) n1 n2
  ·rw[if_neg hk] at h;cases h
 ·cases h
theorem kh {n:Nat}{o:Expr}{q:Nat×l9}{name:Str}{env:Env}(h:ku n S o=some q):attributeBase o name env (eval o env)=eval o env:=by
 unfold ku at h;split at h
 ·rfl
 ·cases h
theorem C9 (C:qq X S T){n:Nat}{tg e:Expr}{c:St}{pos:Pos}(h:zT n S tg e=some c):PS X (.Assign [tg] e pos) (tS X.K T c):=by
 have hN:=C.c.nd;rw[<-C.c.N] at hN;unfold zT at h;split at h
 ·rename_i x px;split at h
  ·rename_i elt tg' iter ifs sc p;by_cases hl:jU S.sc x=true
   ·rw[if_pos hl,ae] at h;obtain⟨i,h1,h⟩:=h;rw[aa] at h;obtain⟨ce,h2,rfl⟩:=h;have hi:=cG h1;rw[<-C.c.N] at hi;have hsw:swapsWith (.ListComp elt [⟨tg',iter,ifs,0⟩] sc p) (some (.Name x px)) pos.line X.env=pure (X.env.blockKind == .function&&X.env.kindOf x==some .local&&px.line==p.line && !(sc.names.any fun (n,k)=>n==x&&(k == .local || k == .cell))):=rfl;cases hb:(X.env.blockKind == .function&&X.env.kindOf x==some .local&&px.line==p.line && !(sc.names.any fun (n,k)=>n==x&&(k == .local || k == .cell))) with
    |false =>
     rw[hb] at hsw;exact x5 hN hi (C.c.loc x hl).1 (dH n C.c _ _ h2).1 hsw (C.c.loc x hl).2
    |true =>
     rw[hb] at hsw;cases n with
     |zero=>cases h2
     |succ n =>
      have h2:pO S (cE n) elt tg' iter ifs sc=some ce:=h2;obtain⟨pick,t,it,ci,ce',rfl,g1,g2,g3,g4,g5⟩:=lP C.c (fun C'=>dH n C') h2;refine cY (qZ g1 C.c.calm g2 g3 (nV (uc g4)) (pe g5) hN hi (C.c.loc x hl).1 (C.c.loc x hl).2 hsw) fun D σ H h=>?_
      obtain⟨P,Z,env,F,re,hz,zp,h⟩:=h;unfold aV at h;obtain⟨p,hp,h⟩:=cD h;exact nU ⟨P,env,F,re,p,hp,fun v H' G s rp rt=>yT re hz zp s rp rt h⟩
   ·rw[if_neg hl] at h;cases h
  ·by_cases hc:gC e=true
   ·rw[if_pos hc] at h;cases h
   ·rw[if_neg hc] at h;by_cases hl:jU S.sc x=true
    ·rw[if_pos hl,ae] at h;obtain⟨i,h1,h⟩:=h;rw[aa] at h;obtain⟨ce,h2,rfl⟩:=h;have hi:=cG h1;rw[<-C.c.N] at hi;exact x5 hN hi (C.c.loc x hl).1 (dH n C.c _ _ h2).1 (pE (by simpa using hc)) (C.c.loc x hl).2
    ·rw[if_neg hl] at h;cases h
 ·rename_i es k p;by_cases hc:(gC e || isTup e)=true
  ·rw[if_pos hc] at h;cases h
  ·rw[if_neg hc,ae] at h;simp only[Bool.or_eq_true,not_or,Bool.not_eq_true] at hc;obtain⟨is,h1,h⟩:=h;rw[aa] at h;obtain⟨ce,h2,rfl⟩:=h;obtain⟨a1,a2,a3⟩:=qE C.c h1;refine A6 (xN C.c.calm a1 a2 a3) (dH n C.c _ _ h2).1 (nk hc.1) ?_ rfl;obtain⟨_,hc⟩:=hc;cases e<;>first | rfl | (cases hc)
 ·rename_i o ix p;by_cases ht:wF e=true
  ·rw[if_pos ht] at h;by_cases hp:iT ix=true
   ·rw[if_pos hp] at h;split at h
    ·rename_i i hq;rw[ae] at h;obtain⟨ci,h2,h⟩:=h;rw[aa] at h;obtain⟨ce,h3,rfl⟩:=h;have hpth:PE X o (lA X.K T i .none):=jP C.c hq;refine cY (wq ?_ hpth (dH n C.c _ _ h2).1 (dH n C.c _ _ h3).1 ?_) fun D σ H h=>vn h
     ·have:=C.c.units;omega
     ·cases e<;>first | rfl | (cases ht)
    ·cases h
   ·rw[if_neg hp] at h;cases h
  rw[if_neg ht] at h;by_cases hc:(gC e || !iT ix)=true
  ·rw[if_pos hc] at h;cases h
  ·rw[if_neg hc,ae] at h;simp only[Bool.or_eq_true,not_or,Bool.not_eq_true,Bool.not_eq_false'] at hc;obtain⟨q,h1,h⟩:=h;rw[ae] at h;obtain⟨ci,h2,h⟩:=h;rw[aa] at h;obtain⟨ce,h3,rfl⟩:=h;refine cY (wX (dH n C.c _ _ h3).1 (DS (jP C.c h1) (dH n C.c _ _ h2).1 set_list ?_) (nk hc.1) ?_ rfl) fun D σ H h=>xP h
   ·intro v;obtain⟨_,hc⟩:=hc;cases ix<;>first | rfl | (cases hc)
   ·cases e<;>rfl
 ·cases h
theorem Es (C:qq X S T){n:Nat}{o:Expr}{name:Str}{es:List Expr}{c:St}{apos cpos pos:Pos}(h:AV n S o name es apos cpos=some c):PS X (.Expr (.Call (.Attribute o name apos) es [] cpos) pos) (tS X.K T c):=by
 unfold AV at h;by_cases hl:(apos.endLine==cpos.line)=true
 ·rw[if_pos hl] at h;by_cases he:es.isEmpty=true
  ·rw[if_pos he,ae] at h;have he:es=[]:=by simpa using he
   subst he;obtain⟨m,hm,h⟩:=h;rw[aa] at h;obtain⟨q,hq,rfl⟩:=h;have slot:∃ id,PySem.Slot "list" name id/\typeOf (.builtin id)=pure (.type "method_descriptor")/\Bp X id (uU X.K m):=by
    unfold wN at hm;cases hm
   obtain⟨id,s1,s2,s3⟩:=slot;exact cY (k7 (CM gw s1 s2 s3 (jP C.c hq) (kh hq) hl) rfl) fun D σ H h=>vf h
  rw[if_neg he,ae] at h;obtain⟨m,hm,h⟩:=h;rw[ae] at h;obtain⟨q,hq,h⟩:=h;have slot:∃ id,PySem.Slot "list" name id/\typeOf (.builtin id)=pure (.type "method_descriptor")/\Bp X id (uU X.K m):=by
   unfold B3 at hm;split at hm
   ·rename_i e;cases hm;subst e;exact⟨_,PySem.F.slot_list_append,by rfl,rl⟩
   split at hm
   ·rename_i e;cases hm;subst e;exact⟨_,PySem.F.slot_list_extend,by rfl,qY⟩
   cases hm
  obtain⟨id,s1,s2,s3⟩:=slot;split at h
  ·rename_i a;rw[aa] at h;obtain⟨cs,ha,rfl⟩:=h;obtain⟨n1,c1,d1,_,hd,_⟩:=bN ha;refine cY (k7 (qv gw s1 s2 s3 (jP C.c hq) (cP (dH n C.c) ha) (kh hq) ?_ hl (bA n1) (eI hd)) rfl) fun D σ H h=>lJ h
   rw[bA n1];rfl
  ·rename_i a b;rw[aa] at h;obtain⟨cs,ha,rfl⟩:=h;obtain⟨n1,c1,d1,_,hd,_⟩:=bN ha;obtain⟨n2,_,_,_,_,_⟩:=bN hd;refine cY (k7 (qv gw s1 s2 s3 (jP C.c hq) (cP (dH n C.c) ha) (kh hq) ?_ hl (bA n1) (eI hd)) rfl) fun D σ H h=>lJ h
   rw[bA n1,bA n2];rfl
  ·cases h
 ·rw[if_neg hl] at h;cases h
theorem zD (C:qq X S T){n:Nat}{o:Expr}{name:Str}{es:List Expr}{c:St}{apos cpos pos:Pos}(h:tP n S o name es apos cpos=some c):PS X (.Expr (.Call (.Attribute o name apos) es [] cpos) pos) (tS X.K T c):=by
 cases h
theorem EJ (C:qq X S T){n:Nat}{tg e:Expr}{c:St}{pos:Pos}(h:Ao n S tg e=some c):PS X (.Assign [tg] e pos) (tS X.K T c):=by
 cases h
theorem BV (C:qq X S T):∀(n:Nat),(∀(st:Stmt) (c:St),cS n S st=some c->PS X st (tS X.K T c))/\∀(l:List Stmt) (c:bJ),uk n S l=some c->iZ X l (BO X.K T c):=by
 intro n
 induction n with
 |zero=>exact⟨fun st c h=>(by cases h),fun l c h=>(by cases h)⟩
 |succ n ih =>
  obtain⟨i1,i2⟩:=ih;refine⟨fun st c h=>?_,fun l c h=>?_⟩
  ·cases st with
   |Assign tgs e p =>
    have h:cAs n S e tgs=some c:=h;cases tgs with
    |nil=>cases h
    |cons tg r=>cases r with
     |cons _ _=>cases h
     |nil =>
      have h:(match Ao n S tg e with
       |some c=>some c
       |none=>zT n S tg e)=some c:=h
      cases hp:Ao n S tg e with
      |some c'=>rw[hp] at h;cases h;exact EJ C hp
      |none=>rw[hp] at h;exact C9 C h
   |AugAssign tg op e p=>cases h
   |Expr e p =>
    have h:GC n S e=some c:=h;have plain:Fk n S e=some c->PS X (.Expr e p) (tS X.K T c):=fun h=>by
     unfold Fk at h;by_cases hc:gC e=true
     ·rw[if_pos hc] at h;cases h
     ·rw[if_neg hc,aa] at h;obtain⟨ce,h1,rfl⟩:=h;exact A0 (dH n C.c _ _ h1).1 (pE (by simpa using hc))
    cases e with
    |Constant k x1 q=>cases k with
     |str s=>cases h;exact Du
     |_=>exact plain h
    |Call g es ks q=>cases g with
     |Attribute o name apos=>cases ks with
      |nil =>
       have h:(match tP n S o name es apos q with
        |some c=>some c
        |none=>AV n S o name es apos q)=some c:=h
       cases ha:tP n S o name es apos q with
       |some c'=>rw[ha] at h;cases h;exact zD C ha
       |none=>rw[ha] at h;exact Es C h
      |cons k ks=>exact plain h
     |_=>exact plain h
    |_=>exact plain h
   |Return o p=>cases o with
    |none=>cases h;exact zE
    |some e =>
     have h:(cE n S e).map .ret=some c:=h;rw[aa] at h;obtain⟨ce,h1,rfl⟩:=h;exact EW (dH n C.c _ _ h1).1
   |If e a b p =>
    have h:((cE n S e).bind fun c=>(uk n S a).bind fun ca=>(uk n S b).map fun cb=>St.ite c ca cb)=some c:=h;rw[ae] at h;obtain⟨cc,h1,h⟩:=h;rw[ae] at h;obtain⟨ca,h2,h⟩:=h;rw[aa] at h;obtain⟨cb,h3,rfl⟩:=h;exact Cz (dH n C.c _ _ h1).2 (i2 _ _ h2) (i2 _ _ h3)
   |For tg iter b oe p =>
    have key:∀ c,Hm n S tg iter (uk n S b) oe=some c->PS X (.For tg iter b oe p) (tS X.K T c):=by
     intro c h;cases oe with
      |cons _ _=>cases h
      |nil =>
       have h:(if gE iter then (rD S tg).bind fun t=>(uk n S b).bind fun cb=>(match uE t cb with
        |some x=>(cE n S iter).map fun c=>St.forw x c cb
        |none=>(C1 S (cE n S) (isTup tg) iter).map fun it=>St.forr t it cb) else none)=some c:=h
       by_cases hs:gE iter=true
       ·rw[if_pos hs,ae] at h;obtain⟨t,h1,h⟩:=h;rw[ae] at h;obtain⟨cb,h3,h⟩:=h;cases hx:uE t cb with
        |some x =>
         rw[hx] at h;have h:(cE n S iter).map (fun c=>St.forw x c cb)=some c:=h;rw[aa] at h;obtain⟨ci,h2,rfl⟩:=h;have ht:=zv hx;subst ht;cases hx
        |none =>
         rw[hx] at h;have h:(C1 S (cE n S) (isTup tg) iter).map (fun it=>St.forr t it cb)=some c:=h;rw[aa] at h;obtain⟨it,h2,rfl⟩:=h;exact Ee C.own C.c.calm (zl C.c (dH n C.c) h2) (sd C.c h1) (i2 _ _ h3) (pe hs)
       ·rw[if_neg hs] at h;cases h
    exact key c (x9 (S:=S) (e:=iter) h)
   |While e b oe p=>cases oe with
    |cons _ _=>cases h
    |nil =>
     have h:((cE n S e).bind fun c=>(uk n S b).map fun cb=>St.whl c cb)=some c:=h;rw[ae] at h;obtain⟨cc,h1,h⟩:=h;rw[aa] at h;obtain⟨cb,h3,rfl⟩:=h;exact C0 C.own (dH n C.c _ _ h1).2 (i2 _ _ h3)
   |Pass p=>cases h;exact AB
   |Raise a b p=>cases h;exact Bi
   |_=>cases h
  ·cases l with
   |nil=>cases h;exact zM
   |cons st r =>
    unfold uk at h;rw[ae] at h;obtain⟨cc,h1,h⟩:=h;rw[aa] at h;obtain⟨cb,h3,rfl⟩:=h;exact xu (i1 _ _ h1) (i2 _ _ h3)
end
structure Df where
 nm:Str
 st:Stmt
 ps:List Str
 N:List Str
 body:bJ
structure Pg where
 dfs:List Df
 rT:List Str
 gH:List Str
 gl:Nat->D
 fuel:Nat
noncomputable def Pg.fns (p:Pg):List Fn:=p.dfs.map fun d=>⟨d.ps.length,d.N.length,d.body⟩
noncomputable def Pg.run (p:Pg):Nat->Nat->List D->Rs (D×Bool):=Pc.run p.fns p.gl p.fuel
noncomputable def Pg.sc (p:Pg)(d:Df):Sc:=⟨d.N,aE d.st,p.dfs.map (·.nm),p.rT,p.gH⟩
noncomputable def Df.Fp (p:Pg)(n:Nat)(d:Df):Bool :=
 decide ((aE d.st).kind = .function) && !(aE d.st).isCoroutine && !(aE d.st).isGenerator&&decide d.N.Nodup&&decide (d.N.take d.ps.length=d.ps)&&d.ps.all (fun x=>jU (aE d.st) x)&&(aE d.st).names.all (fun y=>decide (y.2≠.free))
structure Df.Ok (p:Pg)(d:Df):Prop where
 b:∃ n,uk n (p.sc d) (aW d.st)=some d.body
 S:bW d.N d.ps (aE d.st)
 bd:∀(kV doc pm:Value) (an:Option Addr) (cdv ct:Value) (us:List Value),us.length=d.ps.length->bindArgs (PySem.W.fnOf d.nm d.nm (dY d.st) (aW d.st) (aE d.st) .none kV doc pm an cdv ct) ⟨us,[]⟩=pure (d.ps.zip us)
theorem jH {sc:Scope}{x:Str}(h:jU sc x=true):Loc sc x:=by
 unfold jU dG at h;split at h
 ·rename_i e;exact .inl e
 ·rename_i e;exact .inr e
 ·cases h
theorem qw {sc:Scope}{x:Str}(h:pN sc x=true):BQ sc x:=by
 unfold pN dG at h;split at h
 ·rename_i e;exact .inl e
 ·rename_i e;exact .inr (.inl e)
 ·rename_i e;exact .inr (.inr e)
 ·cases h
theorem t7 {sc:Scope}{x:Str}(h:qO sc x=true):sc.names.lookup x=some .globalImplicit:=by
 unfold qO dG at h;split at h
 ·rename_i e;exact e
 ·cases h
theorem len0 {P:List Value->Prop}{us:List Value}(h:us.length=0)(f:P []):P us:=by
 cases us with
 |nil=>exact f
 |cons a r=>cases h
theorem Hy {P:List Value->Prop}{us:List Value}(h:us.length=1)(f:∀ a,P [a]):P us:=by
 cases us with
 |nil=>cases h
 |cons a r=>exact len0 (P:=fun r=>P (a::r)) (i5 h) (f a)
theorem zo {P:List Value->Prop}{us:List Value}(h:us.length=2)(f:∀ a b,P [a,b]):P us:=by
 cases us with
 |nil=>cases h
 |cons a r=>exact Hy (P:=fun r=>P (a::r)) (i5 h) (f a)
theorem G9 {P:List Value->Prop}{us:List Value}(h:us.length=3)(f:∀ a b c,P [a,b,c]):P us:=by
 cases us with
 |nil=>cases h
 |cons a r=>exact zo (P:=fun r=>P (a::r)) (i5 h) (f a)
theorem len4 {P:List Value->Prop}{us:List Value}(h:us.length=4)(f:∀ a b c d,P [a,b,c,d]):P us:=by
 cases us with
 |nil=>cases h
 |cons a r=>exact G9 (P:=fun r=>P (a::r)) (i5 h) (f a)
theorem Df.ok_of {p:Pg}{d:Df}{n:Nat}(h:d.Fp p n=true)(hb:uk n (p.sc d) (aW d.st)=some d.body)
  (bd:∀(kV doc pm:Value) (an:Option Addr) (cdv ct:Value) (us:List Value),us.length=d.ps.length->bindArgs (PySem.W.fnOf d.nm d.nm (dY d.st) (aW d.st) (aE d.st) .none kV doc pm an cdv ct) ⟨us,[]⟩=pure (d.ps.zip us)):d.Ok p:=by
 unfold Df.Fp at h;simp only[Bool.and_eq_true,decide_eq_true_eq,Bool.not_eq_true',List.all_eq_true] at h;obtain⟨⟨⟨⟨⟨⟨h1,h2⟩,h3⟩,h4⟩,h5⟩,h6⟩,h7⟩:=h;exact⟨⟨n,hb⟩,⟨h1,h2,h3,h4,h5,fun x hx=>jH (h6 x hx),h7⟩,bd⟩
structure Pg.In (p:Pg)(K:Frag)(mg:Str->Option Value):Prop where
 fn:∀(i:Nat) (d:Df),p.dfs[i]? = some d->∃ f fd,L2.m8 K d.nm d.nm d.st f fd/\mg d.nm=some (.ref f)
 gl:∀ i x,idxOf p.rT x=some i->∃ v u,mg x=some u/\RelV v u/\∀ H,Rep K H (p.gl i) v []
 blt:∀ x,p.gH.contains x=true->mg x=none
theorem kC {ds:List D}{n i:Nat}{d:D}{t:Tg}(h:(aG ds n)[i]? = some (some (d,t))):ds[i]? = some d/\t=aU d []:=by
 unfold aG at h;by_cases hi:i<ds.length
 ·rw[List.getElem?_append_left (by simpa using hi),List.getElem?_map] at h;rw[List.getElem?_eq_getElem hi] at h ⊢;simp only[Option.map_some,Option.some.injEq,Prod.mk.injEq] at h;obtain⟨h1,h2⟩:=h;subst h1;exact⟨rfl,h2.symm⟩
 ·rw[List.getElem?_append_right (by simpa using Nat.le_of_not_lt hi),List.getElem?_replicate] at h;split at h<;>cases h
theorem aI.parts {K:Frag}{H:Hp}:∀{ds:List D}{vs:List V}{G:List Addr},aI K H ds vs G->∃ F:Nat->List Addr,(∀ i d,ds[i]? = some d->∃ v,vs[i]? = some v/\Rep K H d v (F i))/\(∀ i,ds[i]? = none->F i=[])/\∀ i,∀ a∈F i,a∈G
 |_,_,_,.nil=>⟨fun _=>[],fun i d h=>(by simp at h),fun _ _=>rfl,fun _ _ h=>(nomatch h)⟩
 | _,_,_,.cons (d:=d) (v:=v) (ds:=ds) (vs:=vs) (G:=G1) (G':=G2) r s=>by
  obtain⟨F,h1,h2,h3⟩:=aI.parts s;refine⟨fun i=>match i with | 0=>G1 | j+1=>F j,fun i e h=>?_,fun i h=>?_,fun i a h=>?_⟩
  ·cases i with
   |zero=>cases h;exact⟨v,rfl,r⟩
   |succ j=>exact h1 j e (by simpa using h)
  ·cases i with
   |zero=>cases h
   |succ j=>exact h2 j (by simpa using h)
  ·cases i with
   |zero=>exact bg _ h
   |succ j=>exact aq _ (h3 j a h)
theorem entry {K:Frag}{H:Hp}{ds:List D}{vs:List V}{G:List Addr}{N:List Str}(hr:aI K H ds vs G)(hl:ds.length<=N.length):∃ F,RE K (fun a=>H a≠none) (aG ds N.length) (L2.start N vs) H F/\∀ i,∀ a∈F i,a∈G:=by
 obtain⟨F,h1,h2,h3⟩:=hr.parts;have flat:∀ i d t,(aG ds N.length)[i]? = some (some (d,t))->bD t=true->F i=[]:=fun i d t h o=>by
  obtain⟨e1,e2⟩:=kC h;obtain⟨v,_,rp⟩:=h1 i d e1;unfold aU at e2;by_cases hf:d.flat=true
  ·exact rp.flat hf
  ·rw[if_neg hf] at e2;subst e2;cases o
 refine⟨F,⟨?_,fun i d t h=>?_,fun i h=>?_,fun i d t h o=>?_,fun i d h a ha=>?_,fun a h=>h⟩,h3⟩
 ·simp only[aG,L2.start,List.length_append,List.length_map,List.length_replicate,hr.len]
 ·obtain⟨e1,e2⟩:=kC h;obtain⟨v,e3,rp⟩:=h1 i d e1;refine⟨v,?_,rp⟩;unfold L2.start;have hi:i<vs.length:=(List.getElem?_eq_some_iff.mp e3).1;rw[List.getElem?_append_left (by simpa using hi),List.getElem?_map,e3];rfl
 ·cases e:ds[i]? with
  |none=>exact h2 i e
  |some d =>
   refine absurd ?_ (h d (aU d []));unfold aG;have hi:i<ds.length:=(List.getElem?_eq_some_iff.mp e).1;rw[List.getElem?_append_left (by simpa using hi),List.getElem?_map,e];rfl
 ·rw[flat i d t h o];exact⟨bt,fun _ h=>(nomatch h),fun _ h=>(nomatch h)⟩
 ·rw[flat i d _ h rfl] at ha;cases ha
theorem nz {α:Type}{g:α->Str}:∀{l:List α}{x:Str}{i:Nat},idxOf (l.map g) x=some i->∃ a,l[i]? = some a/\g a=x:=by
 intro l x i h;have:=cG h;rw[List.getElem?_map,aa] at this;exact this
theorem iJ {H H':Hp}(e:jq (fun a=>H a≠none) H H'):aJ H H':=fun b u h=>(e.keep b (by rw[h];exact fun z=>(by cases z))).trans h
section
variable {p:Pg}{P:Program}{w:World}{K:Frag}{mg:Str->Option Value}{base:Heap}
end
noncomputable def noL (K:Frag):Bool:=K.all fun p=>match p.2.cls with
 |.type n=>!(n == "list")
 |_=>true
theorem lookup_mem:∀{K:Frag}{a:Addr}{o:Obj},K.lookup a=some o->(a,o)∈K
 |[],_,_,h=>by cases h
 | (b,x)::r,a,o,h=>by
  rw[cv] at h;cases e:a==b with
  |true =>
   rw[e] at h;cases h;rw[fw] at e;rw[e];exact ak
  |false=>rw[e] at h;exact ah _ (lookup_mem h)
theorem Eu {K:Frag}{a:Addr}{o:Obj}(h:noL K=true)(l:K.lookup a=some o)(c:o.cls = .type "list"):False:=by
 unfold noL at h;rw[cw] at h;have:=h _ (lookup_mem l);rw[c] at this;simp at this
theorem mZ {K:Frag}{H:Hp}:∀ ns:List Int,aI K H (ns.map D.int) (ns.map V.int) []
 |[]=>.nil
 |n::r=>.cons (.int n) (mZ r)
theorem Dt {K:Frag}{H:Hp}{a:Addr}{ns:List Int}{f:List D->Rs (D×Bool)}{E:XK}{fr:Bool}(hL:noL K=true)(hS:mL K H a (ns.map V.int))(hf:f [.lst (ns.map D.int)] = .ok (.bl true,fr)):Cv K 1 f [.ref a] H (fun v _=>v = .bl true) E:=by
 rcases hS with h | ⟨o,its,n,h1,h2,_⟩
 ·refine⟨[.lst (ns.map D.int)],[a] ++ [],rfl,.cons (.lst h (mZ ns)) .nil,(.bl true,fr),hf,fun v H' G' _ rp _ _=>?_⟩;exact rp.bl_inv.1
 ·exact (Eu hL h1 h2).elim
noncomputable def BD (es:List DictEntry):Bool:=es.all (fun e=>match e.val with
  |.int _ _=>true
  |.none=>true
  |_=>false)&&es.any (fun e=>match e.key with
  |.str _ _=>true
  |_=>false)
noncomputable def noS (as:List Addr)(K:Frag):Bool:=K.all fun p=>as.contains p.1 || match p.2.data with
 |.dict es _=>!BD es.toList
 |_=>true
noncomputable def hashes (w:World):List DictEntry->Prop
 |[]=>True
 |e::r=>(match e.key with
  |.str s _=>e.hash=hashStr w s
  |_=>True)/\hashes w r
theorem BX {w:World}{K:Frag}(h:noS [] K=true):vT w K:=trivial
def Has (K:Frag)(d:Df):Prop:=∃(f:Addr) (oc:Value) (od:Option Addr) (kV dc pm:Value) (an:Option Addr) (cd ct:Value) (sl:Array (Option Value)),
 PySem.W.nsIn K mainGlobals d.nm=some (some (.ref f))/\K.lookup f=some ⟨oc,od,.func (PySem.W.fnOf d.nm d.nm (dY d.st) (aW d.st) (aE d.st) .none kV dc pm an cd ct),sl⟩/\PySem.W.codeIn K cd d.nm=true/\PySem.W.keepIn K (.ref f)=true
def nM (K:Frag)(x:Str)(d:D):Prop:=∃ v u,PySem.W.nsIn K mainGlobals x=some (some u)/\RelV v u/\∀ H,Rep K H d v []
noncomputable def sx {α:Type}(P:α->Prop):List α->Prop
 |[]=>True
 |a::r=>P a/\sx P r
theorem cA {α:Type}{P:α->Prop}:∀{l:List α},sx P l->∀ a∈l,P a
 |[],_,a,h=>by cases h
 | b::r,⟨h1,h2⟩,a,h=>by
  rcases iy.mp h with rfl | h
  ·exact h1
  ·exact cA h2 a h
structure qU (p:Pg)(K:Frag):Prop where
 fn:sx (Has K) p.dfs
 gl:∀ i x,idxOf p.rT x=some i->nM K x (p.gl i)
 blt:sx (fun x=>PySem.W.nsIn K mainGlobals x=some none) p.gH
theorem qU.isin {p:Pg}{K:Frag}{h:Heap}{mg:Str->Option Value}(s:qU p K)(X:K.In h)(G:h.Ns mainGlobals mg):p.In K mg where
 fn:=fun i d hd=>by
  obtain⟨f,oc,od,kV,dc,pm,an,cd,ct,sl,a,l,c,k⟩:=cA s.fn d (List.mem_of_getElem? hd);exact⟨f,_,ES (st:=d.st) l c k,df X G a⟩
 gl:=fun i x hx=>by
  obtain⟨v,u,a,b,c⟩:=s.gl i x hx;exact⟨v,u,df X G a,b,c⟩
 blt:=fun x hx=>PySem.W.mg_none_of X G (cA s.blt x (by simpa using hx))
end Pc
end
section
namespace Pc
open PySem
theorem aA {α β:Type}(a:α)(f:α->Rs β):(Rs.ok a).bind f=f a:=rfl
theorem aY {α:Type}(env:En)(a:α)(k:α->Fl):gO env (.ok a) k=k a:=rfl
theorem aD (e:En)(k:En->Fl):(Fl.nx e).andThen k=k e:=rfl
theorem By (d:D)(b:Bool)(k:En->Fl):(Fl.rt d b).andThen k = .rt d b:=rfl
theorem bQ {α:Type}(a:α):gN (some a) = .ok a:=rfl
theorem fH (op:Operator)(i j:Int):mM op (.int i) (.int j)=(Pc.binI op i j).map .int:=by cases op<;>rfl
theorem fF (i:Int)(R:List Nat):iA (.int i) R = .mv []:=rfl
theorem fM:∀ l:List Int,D.flats (l.map D.int)=true
 |[]=>rfl
 |_::r=>fM r
theorem gT (l:List Int)(R:List Nat):iA (.lst (l.map D.int)) R = .mv []:=by
 unfold iA;rw[if_pos];exact fM l
theorem qm (n:Nat):∀ a b:List Int,a.length=b.length->qR (D.eqf (n+1)) (a.map D.int) (b.map D.int)=some (a==b)
 |[],[],_=>rfl
 | x::a,y::b,h=>by
  show (some (x==y)).bind (fun c=>(qR (D.eqf (n+1)) (a.map D.int) (b.map D.int)).map fun d=>c&&d)=_;rw[qm n a b (by simpa using h)];rfl
 |[],_::_,h=>by simp at h
 |_::_,[],h=>by simp at h
theorem Bq (n:Nat)(a b:List Int):D.eqf (n+2) (.lst (a.map D.int)) (.lst (b.map D.int))=some (a==b):=by
 show (if (a.map D.int).length=(b.map D.int).length then qR (D.eqf (n+1)) (a.map D.int) (b.map D.int) else some false)=_;by_cases h:a.length=b.length
 ·rw[if_pos (by simpa using h),qm n a b h]
 ·rw[if_neg (by simpa using h)];have:(a==b)=false:=by
   rw[ig];rintro rfl;exact h rfl
  rw[this]
theorem lK {f:D->Rs (Option (D×Rt))}{g:Int->D}:∀{l:List Int},(∀ i∈l,f (.int i) = .ok (some (g i,.mv [])))->fR f (l.map D.int) = .ok (l.map fun i=>(g i,.mv []))
 |[],_=>rfl
 | i::l,h=>by
  simp only[List.map_cons,fR];rw[h i ak,lK fun j hj=>h j (ah _ hj)];rfl
noncomputable def hV:Int->Int->Nat->List Int
 |_,_,0=>[]
 |a,s,n+1=>a::hV (a+s) s n
theorem m7:∀(a s:Int) (n:Nat),aQ a s n=(hV a s n).map D.int
 |_,_,0=>rfl
 |a,s,n+1=>by rw[aQ,hV,av,m7]
theorem vp (n:Nat):(Builtin.Range.rangeSize ((n:Int) - 1) (-1) (-1)).toNat=n:=by
 unfold Builtin.Range.rangeSize;rw[if_neg (by decide)];by_cases h:(n:Int) - 1 > -1
 ·rw[if_pos h];simp
 ·rw[if_neg h];omega
theorem r6 {x:Int}(h:0<=x):Builtin.bitAnd x 1=x%2:=by
 unfold Builtin.bitAnd;rw[cj h];show ((x.toNat &&& 1:Nat):Int)=_;rw[Nat.and_one_is_mod];omega
end Pc
end
section
namespace Pc
open PySem PySem.Spec PyProof.Rows L2
theorem Fh {K:Frag}{d:Df}{f:Addr}{oc:Value}{od:Option Addr}{kV dc pm:Value}{an:Option Addr}{cd ct:Value}{sl:Array (Option Value)}
 (a:PySem.W.nsIn K mainGlobals d.nm=some (some (.ref f))) (l:K.lookup f=some ⟨oc,od,.func (PySem.W.fnOf d.nm d.nm (dY d.st) (aW d.st) (aE d.st) .none kV dc pm an cd ct),sl⟩) (c:PySem.W.codeIn K cd d.nm=true) (k:PySem.W.keepIn K (.ref f)=true):Has K d :=
 ⟨f,oc,od,kV,dc,pm,an,cd,ct,sl,a,l,c,k⟩
theorem gl_int {K:Frag}{x:Str}{i:Int}{t:Tok}(h:PySem.W.nsIn K mainGlobals x=some (some (.int i t))):nM K x (.int i):=⟨.int i,_,h,⟨t,rfl⟩,fun _=>.int i⟩
theorem oV {K:Frag}{x:Str}{a:Addr}{oc:Value}{od:Option Addr}{its:Array Value}{n:Nat}{sl:Array (Option Value)}{ds:List D}{vs:List V}(h:PySem.W.nsIn K mainGlobals x=some (some (.ref a)))
  (l:K.lookup a=some ⟨oc,od,.seq its n,sl⟩) (c:oc = .type "tuple") (hz:its.size<=sizeLine) (hv:aM vs its.toList) (hr:∀ H,aI K H ds vs []) (hp:zi vs=false:=by rfl):nM K x (.tup ds) :=
 ⟨.ref a,_,h,rfl,fun H=>.tup (.inr ⟨hp,_,its,n,l,c,rfl,hz,hv⟩) (hr H)⟩
noncomputable def oa (K:Frag)(g:Nat->D):Nat->List Str->Prop
 |_,[]=>True
 |i,x::r=>nM K x (g i)/\oa K g (i+1) r
theorem qa {K:Frag}{g:Nat->D}:∀{l:List Str}{k i:Nat}{x:Str},oa K g k l->idxOf l x=some i->nM K x (g (k+i))
 | y::r,k,i,x,⟨h1,h2⟩,e=>by
  unfold idxOf at e;by_cases hx:y=x
  ·rw[if_pos hx] at e;cases e;subst hx;exact h1
  ·rw[if_neg hx,aa] at e;obtain⟨j,hj,rfl⟩:=e;have:=qa h2 hj;rw[show k+1+j=k+(j+1) by omega] at this;exact this
theorem BG {K:Frag}{g:Nat->D}{l:List Str}(h:oa K g 0 l):∀ i x,idxOf l x=some i->nM K x (g i):=fun i x e=>by
 have:=qa h e
 rwa [gh] at this
end Pc
end
section
namespace Fl64
noncomputable def dbl (a:Nat):Nat:=if 64<=2*a then (2*a)^^^67 else 2*a
noncomputable def Ig:Nat->Nat->Nat->Nat->Nat
 |0,p,_,_=>p
 |n+1,p,d,l=>if l=0 then p else Ig n (if l%2=1 then p^^^d else p) (dbl d) (l / 2)
noncomputable def tm (a b:Nat):Nat:=Ig 6 0 a b
noncomputable def allB (n:Nat)(f:Nat->Bool):Bool:=match n with
 |0=>true
 |k+1=>f k&&allB k f
end Fl64
end
section
namespace Pc
open PySem
noncomputable abbrev sI (i:Int):Slot:=some (.int i,.own)
noncomputable abbrev sN (i:Nat):Slot:=some (.int (i:Int),.own)
noncomputable def ret (f:Fl):Rs (D×Bool):=match f with
 |.rt d fr=>.ok (d,fr)
 |.nx _=>.ok (.non,true)
 |.xc e _=>.exc e
 |_=>.bad
theorem bK {fns:List Fn}{gl:Nat->D}{fuel n i:Nat}{F:Fn}{ds:List D}(h:fns[i]? = some F)(hl:ds.length=F.ps):Pc.run fns gl fuel (n+1) i ds=ret (aF ⟨Pc.run fns gl fuel n,gl,fuel⟩ F.body (aG ds F.slots)):=by
 unfold Pc.run;rw[h];dsimp only;rw[if_pos hl];rfl
theorem iK {a m:Int}(h0:0<=a)(h1:a<m):∃ n:Nat,a=(n:Int)/\(n:Int)<m:=⟨a.toNat,by omega,by omega⟩
theorem yi {x:Int}(h0:0<=x)(h1:x<2147483648):small x=true:=cj ⟨by omega,by omega⟩
theorem lT {n k:Nat}(h:k<n):kd n (k:Int)=some k:=by
 unfold kd;rw[if_pos (by omega),if_pos (by omega),dm]
theorem jN (env:En):lock [] env=env:=by
 unfold lock;have:∀(l:En) (k:Nat),(l.mapIdx fun i (s:Slot)=>match s with
  | some (d,.own)=>if ([]:List Nat).contains i then some (d,.lk) else some (d,.own)
  |s=>s)=l:=fun l k=>by
  rw[List.mapIdx_eq_iff];intro i;cases h:l[i]? with
  |none=>rfl
  |some s =>
   cases s with
   |none=>rfl
   |some p=>obtain⟨d,t⟩:=p;cases t<;>rfl
 exact this env 0
theorem rP (e0 env:En):unlock [] e0 env=env:=by
 unfold unlock;rw[List.mapIdx_eq_iff];intro i;cases h:env[i]? with
 |none=>rfl
 |some s =>
  cases s with
  |none=>rfl
  |some p =>
   obtain⟨d,t⟩:=p;cases t with
   |lk =>
    simp only[Option.map_some];split<;>rfl
   |own=>rfl
   |sh R=>rfl
theorem cF {T:Tb}{t:kG}{it:qS}{b:bJ}{env e:En}{l:List D}(hit:eX T it env = .ok (l,[]))(h:bU t [] (aF T b) l env = .nx e):aV T (.forr t it b) env = .nx e:=by
 rw[aV,hit,aY];dsimp only;rw[jN,h];dsimp only;rw[rP]
noncomputable abbrev sq (M:List (List D)):D:=.lst (M.map D.lst)
noncomputable def okC:D->Bool
 |.int _=>true
 |.non=>true
 |_=>false
structure Sqr (n:Nat)(M:List (List D)):Prop where
 len:M.length=n
 row:∀ r∈M,r.length=n
 cell:∀ r∈M,∀ d∈r,okC d=true
theorem qz {l:List D}(h:D.flats l=true)(R:List Nat):iA (.lst l) R = .mv []:=by
 unfold iA;rw[if_pos];exact h
theorem eV {T:Tb}{e:Ex}{env:En}{d:D}(h:ev T e env = .ok (d,.mv [])):ret (aF T (.cons (.ret e) .nil) env) = .ok (d,true):=by
 rw[aF,aV,h,aY];rfl
theorem iQ {n:Nat}(h:n<=1000):n<=lim:=bj h (by decide)
theorem A4 (T:Tb)(env:En)(e:Ex)(j:Int)(r:Rt)(he:ev T e env = .ok (.int j,r))(h1:eZ j=true):eX T (.rng1 e) env = .ok (aQ 0 1 j.toNat,[]):=by
 rw[eX,he,aA];show (if eZ j=true then Rs.ok (aQ 0 1 j.toNat,[]) else .bad)=_;rw[if_pos h1]
theorem Ce {n:Nat}(h:n<=1000):eZ (n:Int)=true:=by
 unfold eZ;exact cj ⟨Int.le_trans (by decide) (Int.natCast_nonneg n),Int.lt_of_le_of_lt (Int.ofNat_le.mpr h) (by decide)⟩
def aK (s:Slot):Prop:=s=none\/(∃ d,s=some (d,.own))\/(∃ d,s=some (d,.sh []))\/∃ d,s=some (d,.lk)
def Tame (env:En):Prop:=∀ s∈env,aK s
theorem aN:aK none:=.inl rfl
theorem aB (d:D):aK (some (d,.own)):=.inr (.inl ⟨d,rfl⟩)
theorem dX (d:D):aK (some (d,.sh [])):=.inr (.inr (.inl ⟨d,rfl⟩))
theorem Tame.nil:Tame []:=fun _ h=>(nomatch h)
theorem Tame.cons {s:Slot}{e:En}(h:aK s)(t:Tame e):Tame (s::e):=fun x hx=>by
 rcases iy.mp hx with rfl | hx
 ·exact h
 ·exact t x hx
theorem Tame.set {e:En}{s:Slot}(t:Tame e)(h:aK s)(i:Nat):Tame (e.set i s):=fun x hx=>by
 rcases List.mem_or_eq_of_mem_set hx with q | q
 ·exact t x q
 ·rw[q];exact h
theorem ju {env:En}(h:Tame env)(i:Nat)(d:D)(t:Tg):put env i d t=env.set i (some (d,t)):=by
 unfold put;have:env.map (fun (s:Slot)=>s.map fun (p:D×Tg)=>(p.1,p.2.drop i))=env:=by
  conv=>rhs;rw[<-List.map_id env]
  refine dq fun s hs=>?_
  rcases h s hs with rfl | ⟨d,rfl⟩ | ⟨d,rfl⟩ | ⟨d,rfl⟩<;>rfl
 rw[this]
theorem uK {env:En}(h:Tame env)(R:List Nat):kill R env=env.mapIdx fun i s=>if R.contains i then none else s:=by
 unfold kill;apply List.ext_getElem?;intro i;rw[List.getElem?_mapIdx,List.getElem?_mapIdx];cases q:env[i]? with
 |none=>rfl
 |some s =>
  rcases h s (List.mem_of_getElem? q) with rfl | ⟨d,rfl⟩ | ⟨d,rfl⟩ | ⟨d,rfl⟩
  ·simp
  ·simp[iY]
  ·simp[iY]
  ·simp[iY]
theorem jA {env:En}(h:Tame env)(x:Nat)(s:Slot):(kill [x] env).set x s=env.set x s:=by
 rw[uK h];apply List.ext_getElem?;intro i;by_cases hi:i=x
 ·subst hi;by_cases hl:i<env.length
  ·rw[List.getElem?_set_self (by simpa using hl),List.getElem?_set_self hl]
  ·rw[List.getElem?_eq_none (by simp;omega),List.getElem?_eq_none (by simp;omega)]
 ·rw[List.getElem?_set_ne (cy hi),List.getElem?_set_ne (cy hi),List.getElem?_mapIdx];cases q:env[i]? with
  |none=>rfl
  |some s=>simp[hi]
section
variable {T:Tb}{env:En}
theorem aL {i:Nat}{e:Ex}{d:D}(ht:Tame env)(hi:i<env.length)(h:ev T e env = .ok (d,.mv [])):aV T (.asg (.nm i) e false) env = .nx (env.set i (some (d,.own))):=by
 rw[aV,h,aY];show (if i<env.length then Fl.nx (put env i d .own) else .bad)=_;rw[if_pos hi,ju ht]
theorem bY {i:Nat}{d:D}(ht:Tame env)(hi:i<env.length):aZ [] (.nm i) d env=some (env.set i (some (d,aU d []))):=by
 show (if i<env.length then some (put env i d (aU d [])) else none)=_;rw[if_pos hi,ju ht]
theorem be {i:Nat}{d:D}(h:env[i]? = some (some (d,.own)))(hf:d.flat=false):ev T (.var i) env = .ok (d,.mv [i]):=by
 rw[ev,h];dsimp only;rw[hf];rfl
theorem aC {i:Nat}{d:D}{t:Tg}(h:env[i]? = some (some (d,t)))(hf:d.flat=true):ev T (.var i) env = .ok (d,.mv []):=by
 rw[ev,h];dsimp only;rw[if_pos hf]
theorem eK {i:Nat}{d:D}{t:Tg}(h:env[i]? = some (some (d,t))):∃ R,ev T (.var i) env = .ok (d,R):=by
 rw[ev,h];exact⟨_,rfl⟩
theorem yf (xs:List D)(d:D):yN .append xs [d]=some (xs ++ [d]):=rfl
theorem wY (xs ys:List D):yN .extend xs [.lst ys]=if D.flats ys then some (xs++ys) else none:=rfl
theorem jK {x:Nat}{e:Ex}{xs:List D}{d:D}(ht:Tame env)(hx:env[x]? = some (some (.lst xs,.own)))(h:ev T e env = .ok (d,.mv []))(hl:xs.length+1<=lim):aV T (.mut x .none .append (.cons e .nil)) env = .nx (env.set x (some (.lst (xs ++ [d]),.own))):=by
 have ho:ownAt env x=some (.lst xs):=by unfold ownAt;rw[hx]
 have hs:aX T (.cons e .nil) env = .ok [(d,.mv [])]:=by
  rw[aX,h,aA];rfl
 rw[aV,ho];simp only[jB,aY,D.at1,hs,List.map_cons,List.map_nil,yf,aS,Rt.roots,List.flatten_cons,List.flatten_nil,List.append_nil,List.contains_nil,Bool.false_eq_true,if_false,pW.copies,iB,eC,Option.map_some];have:(xs ++ [d]).length<=lim:=by rw[ag];exact hl
 simp only[List.nodup_nil,decide_true,gF,List.all_nil,Bool.not_false,Bool.and_self,this,if_true,D.set1,Bool.true_and];rw[jA ht]
theorem t9 {x:Nat}{k e:Ex}{xs:List D}{d:D}{l:Int}{m:Nat}{R':Rt}(ht:Tame env)(hx:env[x]? = some (some (.lst xs,.own)))(hk:ev T k env = .ok (.int l,R'))(hm:Pc.kd xs.length l=some m)(h:ev T e env = .ok (d,.mv []))(hl:xs.length<=lim) :
  aV T (.setix x .none k e) env = .nx (env.set x (some (.lst (xs.set m d),.own))):=by
 have ho:ownAt env x=some (.lst xs):=by unfold ownAt;rw[hx]
 have hll:(xs.set m d).length<=lim:=by rw[gq];exact hl
 rw[aV,ho];simp only[h,aY,jB,D.at1,hk,hm,iB,eC,Option.map_some,List.append_nil,List.nodup_nil,decide_true,gF,List.all_nil,List.contains_nil,Bool.not_false,Bool.and_self,hll,if_true,D.set1,Bool.true_and];rw[jA ht]
theorem ite_ff {c:Ex}{a:bJ}{R:Rt}(h:ev T c env = .ok (.bl false,R)):aV T (.ite c a .nil) env = .nx env:=by
 rw[aV,h,aY];rfl
theorem mU {a b:Ex}{R R':Rt}(h:ev T a env = .ok (.bl false,R))(h':ev T b env = .ok (.bl false,R')):ev T (.or a b) env = .ok (.bl false,R'):=by
 rw[ev,h,aA,h']
theorem lN {a:Ex}{R:Rt}(h:ev T a env = .ok (.bl true,R)):ev T (.not a) env = .ok (.bl false,.mv []):=by
 rw[ev,h,aA];rfl
theorem iR {a b:Ex}{d:D}{R R':Rt}(h:ev T a env = .ok (d,R))(h':ev T b env = .ok (d,R'))(he:D.eqf 40 d d=some true):ev T (.cmp .NotEq a b) env = .ok (.bl false,.mv []):=by
 rw[ev,h,aA,h',aA];show (gN ((D.eqf 40 d d).map (!·))).bind _=_;rw[he];rfl
theorem mO {i j:Nat}{x y:D}{R:List Nat}(ht:Tame env)(hi:i<env.length)(hj:j<env.length)(fx:x.flat=true)(fy:y.flat=true):aZ R (.tp [i,j]) (.tup [x,y]) env=some ((env.set i (some (x,.own))).set j (some (y,.own))):=by
 show bindM (fun d=>aU d R) [i,j] [x,y] env=_;have tx:aU x R = .own:=by unfold aU;rw[if_pos fx]
 have ty:aU y R = .own:=by unfold aU;rw[if_pos fy]
 simp only[bindM,hi,if_true,tx,ty];rw[ju ht,if_pos (by rw[gq];exact hj),ju (ht.set (aB x) i)]
end
end Pc
end
section
namespace Pc
end Pc
namespace Pc.Sm
open PySem Pc
noncomputable def b6:bJ:=(.cons (.ret (.bin .Mod (.bin .Mult (.bin .Add (.bin .Add (.var 0) (.bin .Mult (.var 1) (.var 1))) (.cst (.int (1)))) (.var 2)) (.cst (.int (2305843009213693951)))))
  .nil)
noncomputable def e7:Ex:=.comp 1 [] (.nm 0) (.seq (.sl (.var 0) .none (.some (.cst (.int (63)))))) .none (.bin .Mod (.var 0) (.cst (.int (1000003))))
noncomputable def b7:bJ:=(.cons (.ret (.call 6 (.cons (.blt .sum (.cons e7 .nil)) (.cons (.bin .Mod (.blt .len (.cons (.var 0) .nil)) (.cst (.int (64)))) (.cons (.var 1) .nil)))))
  .nil)
noncomputable def b8:bJ:=(.cons (.ret (.ix (.lst (.cons (.cst (.int (15))) (.cons (.cst (.int (15))) (.cons (.cst (.int (15))) (.cons (.cst (.int (19))) (.cons (.cst (.int (15))) (.cons (.cst (.int (15))) (.cons (.cst (.int (23))) (.cons (.cst (.int (15))) (.cons (.cst (.int (19))) (.cons (.cst (.int (15))) (.cons (.cst (.int (27))) (.cons (.cst (.int (15))) (.cons (.cst (.int (15))) (.cons (.cst (.int (19))) (.cons (.cst (.int (15))) (.cons (.cst (.int (31))) .nil))))))))))))))))) (.bin .Mod (.var 0) (.cst (.int (16))))))
  .nil)
noncomputable def b9c:bJ:=(.cons (.asg (.nm 1) (.bin .Mod (.bin .Mult (.bin .Add (.var 1) (.var 5)) (.cst (.int (40692)))) (.cst (.int (2147483399)))) false)
  (.cons (.mut 4 .none .append (.cons (.ix (.lst (.cons (.cst (.int (0))) (.cons (.cst (.int (1))) (.cons (.cst (.int (0))) (.cons (.cst (.int (1))) (.cons (.cst .non) .nil)))))) (.bin .Mod (.bin .FloorDiv (.var 1) (.cst (.int (7)))) (.cst (.int (5))))) .nil))
  .nil))
noncomputable def s9:St:=.mut 2 .none .append (.cons (.var 4) .nil)
noncomputable def b9r:bJ:=(.cons (.asg (.nm 4) (.lst .nil) false)
  (.cons (.forr (.nm 5) (.rng1 (.var 0)) b9c)
  (.cons s9
  .nil)))
noncomputable def b9:bJ:=(.cons (.asg (.nm 2) (.lst .nil) false)
  (.cons (.forr (.nm 3) (.rng1 (.var 0)) b9r)
  (.cons (.ret (.var 2))
  .nil)))
theorem j6 (p:D×Rt):List.map (fun x:D×Rt=>x.1) [p]=[p.1]:=rfl
theorem HL (p q:D×Rt):List.map (fun x:D×Rt=>x.1) [p,q]=[p.1,q.1]:=rfl
theorem fV {T:Tb}{f:Nat}{e1:Ex}{env:En}{d1 r:D}{R1:Rt}(h1:ev T e1 env = .ok (d1,R1))(h:T.cl f [d1] = .ok (r,true)):ev T (.call f (.cons e1 .nil)) env = .ok (r,.mv []):=by
 have:aX T (.cons e1 .nil) env = .ok [(d1,R1)]:=by
  rw[aX,h1,aA];rfl
 rw[ev,this,aA,j6,h,aA];rfl
theorem fJ {T:Tb}{f:Nat}{e1 e2:Ex}{env:En}{d1 d2 r:D}{R1 R2:Rt}(h1:ev T e1 env = .ok (d1,R1))(h2:ev T e2 env = .ok (d2,R2))(h:T.cl f [d1,d2] = .ok (r,true)):ev T (.call f (.cons e1 (.cons e2 .nil))) env = .ok (r,.mv []):=by
 have:aX T (.cons e1 (.cons e2 .nil)) env = .ok [(d1,R1),(d2,R2)]:=by
  rw[aX,h1,aA,aX,h2,aA];rfl
 rw[ev,this,aA,HL,h,aA];rfl
noncomputable def e8:Ex:=(.lst (.cons (.cst (.int (15))) (.cons (.cst (.int (15))) (.cons (.cst (.int (15))) (.cons (.cst (.int (19))) (.cons (.cst (.int (15))) (.cons (.cst (.int (15))) (.cons (.cst (.int (23))) (.cons (.cst (.int (15))) (.cons (.cst (.int (19))) (.cons (.cst (.int (15))) (.cons (.cst (.int (27))) (.cons (.cst (.int (15))) (.cons (.cst (.int (15))) (.cons (.cst (.int (19))) (.cons (.cst (.int (15))) (.cons (.cst (.int (31))) .nil)))))))))))))))))
end Pc.Sm
end
section
namespace Fl64
def Gr (l:List Nat):Prop:=∀ g∈l,g<64
noncomputable def hor (x w:Nat)(l:List Nat):Nat:=l.foldl (fun w g=>tm w x^^^g) w
noncomputable abbrev wth (x:Nat)(l:List Nat):Nat:=hor x 0 l
noncomputable def pw (x:Nat):Nat->Nat
 |0=>1
 |n+1=>tm (pw x n) x
noncomputable def mulR (f:Nat)(l:List Nat):List Nat:=l.map fun g=>tm f g
noncomputable def AJ (c:Nat):List Nat:=(List.range' 1 c).map (pw 2)
noncomputable def Cf (l:List Nat)(p:Nat):List Nat->List Nat
 |[]=>l
 |g::r=>Cf (l.set p (l.getD p 0^^^g)) (p+1) r
noncomputable def xq (l:List Nat)(k:Nat):List Nat->List Nat->List Nat
 |[],_=>l
 |g::a,b=>xq (Cf l k (mulR g b)) (k+1) a b
noncomputable def GH (a b:List Nat):List Nat:=xq (List.replicate (a.length+b.length - 1) 0) 0 a b
noncomputable def Ge (r:List Nat):List Nat->List Nat
 |[]=>r
 |n::ns=>Ge (GH r [1,n]) ns
def isC (l:List Nat)(c:Nat):Prop:=∀ x∈AJ c,wth x l=0
noncomputable instance (l:List Nat) (c:Nat):Decidable (isC l c):=by unfold isC;infer_instance
end Fl64
end
section
namespace Pc.Gr
open PySem Pc Pc.Sm
noncomputable abbrev gD (gs:List Nat):List D:=gs.map fun (g:Nat)=>D.int (g:Int)
noncomputable abbrev sG (gs:List Nat):Slot:=some (.lst (gD gs),.sh [])
noncomputable abbrev oG (gs:List Nat):Slot:=some (.lst (gD gs),.own)
noncomputable def vA (rp:Nat):bJ:=(.cons (.asg (.nm 1) (.call rp (.cons (.var 1) (.cons (.lst (.cons (.cst (.int (1))) (.cons (.var 2) .nil))) .nil))) false)
  .nil)
noncomputable def bRN (rp:Nat):bJ:=(.cons (.asg (.nm 1) (.lst (.cons (.cst (.int (1))) .nil)) false)
  (.cons (.forr (.nm 2) (.seq (.var 0)) (vA rp))
  (.cons (.ret (.var 1))
  .nil)))
def y8 (T:Tb)(rn:Nat):Prop:=∀ ns:List Nat,Fl64.Gr ns->ns.length<=900->T.cl rn [.lst (gD ns)] = .ok (.lst (gD (Fl64.Ge [1] ns)),true)
structure CE (d:List Nat)(c:Nat)(D l:List Nat)(e:En):Prop where
 te:Tame e
 len:e.length=8
 h0:e[0]? = some (sG d)
 h2:e[2]? = some (oG D)
 h3:e[3]? = some (oG l)
end Pc.Gr
end
section
namespace Fl64
end Fl64
namespace Pc.Lw
open PySem Pc Pc.Sm Pc.Gr
def xx (T:Tb)(mx:Nat):Prop:=∀ c k:Int,∃ v:Int,0<=v/\T.cl mx [.int c,.int k] = .ok (.int v,true)
def isF (gs:List Nat)(k m:Nat):Prop:=∀ x∈(List.range' (k+1) m).map (Fl64.pw 2),Fl64.wth x gs=0
noncomputable instance (gs:List Nat) (k m:Nat):Decidable (isF gs k m):=by unfold isF;infer_instance
end Pc.Lw
end
section
namespace Fl64
noncomputable def sm:List (Nat×Nat)->Nat->Nat
 |[],_=>0
 |p::r,j=>tm p.1 (pw p.2 j)^^^sm r j
end Fl64
end
section
namespace Pc.Lw
open PySem Pc Pc.Sm Pc.Gr
noncomputable abbrev cp (i:Nat):Ex:=.blt .list (.cons (.var i) .nil)
theorem aH {T:Tb}{env:En}(d:D):ev T (.cst d) env = .ok (d,.mv []):=by rw[ev]
theorem bZ {T:Tb}{env:En}{a b:Ex}{x y:Int}{R R':Rt}(h:ev T a env = .ok (.int x,R))(h':ev T b env = .ok (.int y,R')):ev T (.bin .Add a b) env = .ok (.int (x+y),.mv []):=by
 rw[ev,h,aA,h',aA];rfl
theorem dB {T:Tb}{env:En}{a b:Ex}{x y:Int}{R R':Rt}(hy:0<y)(h:ev T a env = .ok (.int x,R))(h':ev T b env = .ok (.int y,R')):ev T (.bin .Mod a b) env = .ok (.int (x%y),.mv []):=by
 rw[ev,h,aA,h',aA,fH];have:Pc.binI .Mod x y=some (x%y):=by
  show (if 0<y then some (x%y) else none)=_;rw[if_pos hy]
 rw[this];rfl
theorem gZ {T:Tb}{env:En}{a b:Ex}{x y:Int}{R R':Rt}(hy:0<y)(hy':y<1073741824)(h:ev T a env = .ok (.int x,R))(h':ev T b env = .ok (.int y,R')):ev T (.bin .FloorDiv a b) env = .ok (.int (x / y),.mv []):=by
 rw[ev,h,aA,h',aA,fH];have:Pc.binI .FloorDiv x y=some (x / y):=by
  show (if 0<y/\y<1073741824 then some (x / y) else none)=_;rw[if_pos ⟨hy,hy'⟩]
 rw[this];rfl
end Pc.Lw
end
section
namespace Pc.Nw
open PySem Pc Pc.Sm Pc.Lw Pc.Gr
theorem bB {t:kG}{R:List Nat}{b:En->Fl}{x:D}{l:List D}{e e1 e2:En}(h1:aZ R t x e=some e1)(h2:b e1 = .nx e2):bU t R b (x::l) e=bU t R b l e2:=by
 conv=>lhs;unfold bU
 rw[h1];dsimp only;rw[h2]
theorem zC {T:Tb}{env:En}{e:Ex}{m:Nat}{R:Rt}(h:ev T e env = .ok (.int (m:Int),R))(hm:m<=1000):eX T (.rng1 e) env = .ok (aQ ((0:Nat):Int) 1 m,[]):=by
 rw[A4 _ _ _ _ _ h (Ce hm),dm];rfl
theorem mj (k m:Nat):aQ (k:Int) 1 (m+1) = .int (k:Int)::aQ ((k+1:Nat):Int) 1 m:=by
 rw[aQ,show (k:Int)+1=((k+1:Nat):Int) by omega]
theorem eY (n:Nat):∀ a:Nat,aQ (a:Int) 1 n=(List.range n).map fun (k:Nat)=>D.int ((a+k:Nat):Int):=by
 induction n with
 |zero=>intro a;rfl
 |succ n ih =>
  intro a;rw[mj,ih,gc,av,fq];congr 1;refine dq fun k _=>?_
  show D.int ((a+1+k:Nat):Int)=D.int ((a+(k+1):Nat):Int);rw[show a+1+k=a+(k+1) by omega]
theorem dQ {T:Tb}{env:En}{e:Ex}{xs:List D}{R:Rt}(h:ev T e env = .ok (.lst xs,R)):ev T (.blt .len (.cons e .nil)) env = .ok (.int (xs.length:Int),.mv []):=by
 rw[ev,aX,aX,h,aA,aA,aA,j6];show (gN (some (D.int (xs.length:Int)))).bind _=_;rw[bQ,aA,fF]
theorem qb {T:Tb}{f:Nat}{e1 e2 e3:Ex}{env:En}{d1 d2 d3 r:D}{R1 R2 R3:Rt}(h1:ev T e1 env = .ok (d1,R1))(h2:ev T e2 env = .ok (d2,R2))(h3:ev T e3 env = .ok (d3,R3))(h:T.cl f [d1,d2,d3] = .ok (r,true)):ev T (.call f (.cons e1 (.cons e2 (.cons e3 .nil)))) env = .ok (r,.mv []):=by
 rw[ev,aX,aX,aX,aX,h1,aA,h2,aA,h3,aA,aA,aA,aA,aA];show (T.cl f [d1,d2,d3]).bind _=_;rw[h];rfl
theorem kA {α:Type}{f:D->Rs (Option (D×Rt))}{g r:α->D}{c:α->Bool}:∀{l:List α},(∀ a∈l,f (g a) = .ok (if c a then some (r a,.mv []) else none))->fR f (l.map g) = .ok ((l.filter c).map fun a=>(r a,Rt.mv []))
 |[],_=>rfl
 | a::l,h=>by
  simp only[List.map_cons,fR];rw[h a ak,kA fun b hb=>h b (ah _ hb)];cases q:c a<;>simp[aA,List.filter_cons,q]
theorem Ad (xs:List D)(s x:Nat)(h:s+x<=xs.length):FD (.lst xs) (some (s:Int)) (some ((s:Int)+(x:Int)))=some (.lst ((xs.drop s).take x)):=by
 show some (D.lst (cut xs _ _))=_;congr 2;unfold cut;have h1:bL xs.length 0 (some (s:Int))=s:=by
  unfold bL;dsimp only;rw[if_neg (by omega),dm];omega
 have h2:bL xs.length xs.length (some ((s:Int)+(x:Int)))=s+x:=by
  unfold bL;dsimp only;rw[if_neg (by omega),show ((s:Int)+(x:Int)).toNat=s+x by omega];omega
 dsimp only;rw[h1,h2,show s+x - s=x by omega]
section
variable {T:Tb}{env:En}
theorem CO {a b:Ex}{x y:Nat}{R R':Rt}(h:ev T a env = .ok (.int (x:Int),R))(h':ev T b env = .ok (.int (y:Int),R')):ev T (.cmp .Eq a b) env = .ok (.bl (decide (x=y)),.mv []):=by
 rw[ev,h,aA,h',aA];have:jo .Eq (.int (x:Int)) (.int (y:Int))=some (decide (x=y)):=by
  show some ((x:Int)==(y:Int))=_;congr 1;rw[Bool.eq_iff_iff,fw,cx];omega
 rw[this];rfl
theorem Fg {a b:Ex}{x y:Nat}{R R':Rt}(h:ev T a env = .ok (.int (x:Int),R))(h':ev T b env = .ok (.int (y:Int),R')):ev T (.cmp .NotEq a b) env = .ok (.bl (decide (x≠y)),.mv []):=by
 rw[ev,h,aA,h',aA];have:jo .NotEq (.int (x:Int)) (.int (y:Int))=some (decide (x≠y)):=by
  show some (!((x:Int)==(y:Int)))=_;congr 1;rw[Bool.eq_iff_iff,cx,fv,ig];omega
 rw[this];rfl
theorem oE {a b:Ex}{x y:Nat}{R R':Rt}(h:ev T a env = .ok (.int (x:Int),R))(h':ev T b env = .ok (.int (y:Int),R')):ev T (.cmp .Lt a b) env = .ok (.bl (decide (x<y)),.mv []):=by
 rw[ev,h,aA,h',aA];have:jo .Lt (.int (x:Int)) (.int (y:Int))=some (decide (x<y)):=by
  show some (decide ((x:Int)<(y:Int)))=_;congr 1;exact decide_eq_decide.mpr (by omega)
 rw[this];rfl
theorem pd {a b:Ex}{x y:Nat}{R R':Rt}(h:ev T a env = .ok (.int (x:Int),R))(h':ev T b env = .ok (.int (y:Int),R')):ev T (.cmp .Gt a b) env = .ok (.bl (decide (y<x)),.mv []):=by
 rw[ev,h,aA,h',aA];have:jo .Gt (.int (x:Int)) (.int (y:Int))=some (decide (y<x)):=by
  show some (decide ((y:Int)<(x:Int)))=_;congr 1;exact decide_eq_decide.mpr (by omega)
 rw[this];rfl
theorem cR {a b:Ex}{x y:Nat}{R R':Rt}(h:ev T a env = .ok (.int (x:Int),R))(h':ev T b env = .ok (.int (y:Int),R')):ev T (.bin .Add a b) env = .ok (.int ((x+y:Nat):Int),.mv []):=by
 rw[bZ h h'];rfl
theorem qo {a b:Ex}{x y:Int}{R R':Rt}(h:ev T a env = .ok (.int x,R))(h':ev T b env = .ok (.int y,R')):ev T (.bin .Sub a b) env = .ok (.int (x - y),.mv []):=by
 rw[ev,h,aA,h',aA,fH];rfl
theorem j7 {a b:Ex}{x y:Nat}{R R':Rt}(hy:y<=x)(h:ev T a env = .ok (.int (x:Int),R))(h':ev T b env = .ok (.int (y:Int),R')):ev T (.bin .Sub a b) env = .ok (.int ((x - y:Nat):Int),.mv []):=by
 rw[qo h h',show (x:Int) - (y:Int)=((x - y:Nat):Int) by omega]
theorem jE {a b:Ex}{p q:Prop}[Decidable p][Decidable q](h:ev T a env = .ok (.bl (decide p),.mv []))(h':p->ev T b env = .ok (.bl (decide q),.mv [])):ev T (.and a b) env = .ok (.bl (decide (p/\q)),.mv []):=by
 rw[ev,h,aA];by_cases hp:p
 ·rw[cj hp];dsimp only;rw[h' hp];congr 3;exact decide_eq_decide.mpr ⟨fun z=>⟨hp,z⟩,fun z=>z.2⟩
 ·rw[az hp,az (fun z=>hp z.1)]
theorem lL {c:Ex}{a b:bJ}{p:Prop}[Decidable p]{R:Rt}(h:ev T c env = .ok (.bl (decide p),R)):aV T (.ite c a b) env=if p then aF T a env else aF T b env:=by
 rw[aV,h,aY];by_cases hp:p
 ·rw[cj hp,if_pos hp];rfl
 ·rw[az hp,if_neg hp];rfl
theorem gJ:aF T .nil env = .nx env:=by rw[aF]
theorem fS {s:St}{e:En}(h:aV T s env = .nx e):aF T (.cons s .nil) env = .nx e:=by
 rw[aF,h,aD,aF]
theorem w9 {c:En->Rs Bool}{b:En->Fl}{n:Nat}{e1:En}(h:c env = .ok true)(h2:b env = .nx e1):fW c b (n+1) env=fW c b n e1:=by
 rw[fW,h,aY,if_pos rfl,h2]
theorem w8 {c:En->Rs Bool}{b:En->Fl}{n:Nat}(h:c env = .ok false):fW c b (n+1) env = .nx env:=by
 rw[fW,h,aY];rfl
end
section
variable {T:Tb}{env:En}
end
theorem zc {T:Tb}{env:En}{x:Nat}{e v:Ex}{ks:List (Int×MV)}{n:Int}{dv:D}{m:MV}{R R':Rt}(ht:Tame env)(hx:env[x]? = some (some (.mpi ks,.own)))(hl:ks.length<lim)(h:ev T e env = .ok (.int n,R))(hv:ev T v env = .ok (dv,R'))(hm:xS dv=some m):aV T (.putd x e v) env = .nx (env.set x (some (.mpi (ou ks n m),.own))):=by
 rw[aV];have:ownAt env x=some (.mpi ks):=by unfold ownAt;rw[hx]
 rw[this];dsimp only;rw[hv,aY,h,aY];have hp:Aw (.mpi ks) (.int n) dv=some (.mpi (ou ks n m)):=by
  show (if ks.length<lim then (xS dv).map fun m=>D.mpi (ou ks n m) else none)=_;rw[if_pos hl,hm];rfl
 rw[hp];dsimp only[Option.map];rw[jA ht]
theorem AG {T:Tb}{env:En}{x:Nat}{ks:List (Int×MV)}(hx:env[x]? = some (some (.mpi ks,.own)))(hl:ks.length<=lim):eX T (.seq (.blt .list (.cons (.var x) .nil))) env = .ok ((ks.map (·.1)).map D.int,[]):=by
 have e1:ev T (.var x) env = .ok (.mpi ks,.mv [x]):=by
  rw[ev,hx];rfl
 have e2:kH .list [.mpi ks]=some (.lst ((ks.map (·.1)).map D.int)):=by
  show (if ks.length<=lim then some (D.lst (ks.map fun q=>D.int q.1)) else none)=_;rw[if_pos hl,fq];rfl
 rw[eX,ev,aX,e1,aA,aX,aA,aA,j6,e2,bQ,aA,gT,aA];rfl
end Pc.Nw
end
section
namespace Pc.Fr
open PySem Pc Pc.Sm Pc.Lw Pc.Gr Pc.Nw
noncomputable abbrev pD (p:Int×Int):D:=.tup [.int p.1,.int p.2]
noncomputable def cnt (s t:Int):Nat:=((if s<t+3 then s else t+3) - t).toNat
theorem sW {T:Tb}{env:En}{a b:Ex}{i j:Int}{R R':Rt}(ha:ev T a env = .ok (.int i,R))(hb:ev T b env = .ok (.int j,R')):ev T (.blt .min2 (.cons a (.cons b .nil))) env = .ok (.int (if j<i then j else i),.mv []):=by
 rw[ev,aX,aX,aX,ha,aA,hb,aA,aA,aA,aA,HL];rfl
theorem eU {T:Tb}{env:En}{e:Ex}{d:D}{R:Rt}{n:String}{b:Bool}(h:ev T e env = .ok (d,R))(hb:kH (.isi n) [d]=some (.bl b)):ev T (.blt (.isi n) (.cons e .nil)) env = .ok (.bl b,.mv []):=by
 rw[ev,aX,aX,h,aA,aA,aA,j6,hb];rfl
theorem zz {T:Tb}{env:En}{e:Ex}{xs:List D}{R:Rt}(h:ev T e env = .ok (.tup xs,R)):ev T (.blt .len (.cons e .nil)) env = .ok (.int (xs.length:Int),.mv []):=by
 rw[ev,aX,aX,h,aA,aA,aA,j6];rfl
noncomputable abbrev Tr:=Int×Int×Int
noncomputable abbrev tD (t:Tr):D:=.tup [.int t.1,.int t.2.1,.int t.2.2]
noncomputable abbrev iD (l:List Int):List D:=l.map D.int
noncomputable def wr (M:List (List Int))(t:Tr):List (List Int):=M.set t.1.toNat ((M.getD t.1.toNat []).set t.2.1.toNat t.2.2)
structure Rect (n:Nat)(M:List (List Int)):Prop where
 len:M.length=n
 row:∀ r∈M,r.length=n
noncomputable def zero (n:Nat):List (List Int):=List.replicate n (List.replicate n 0)
section
variable {T:Tb}{env:En}
theorem iN {a b:Ex}{i j:Int}{R R':Rt}(hs:(small i || small j)=true)(ha:ev T a env = .ok (.int i,R))(hb:ev T b env = .ok (.int j,R')):ev T (.bin .Mult a b) env = .ok (.int (i*j),.mv []):=by
 rw[ev,ha,aA,hb,aA,fH];simp only[Pc.binI,hs,if_true,Option.map_some,bQ,aA,fF]
end
end Pc.Fr
end
section
namespace Pc.Ct
open PySem Pc Pc.Sm Pc.Lw Pc.Gr Pc.Nw
noncomputable def tx (l:List Nat):Str:=⟨l.toArray⟩
theorem lZ (l:List Nat):(tx l).length=l.length:=by simp[tx,Str.length]
theorem DD (a b:List Nat):tx a++tx b=tx (a++b):=by
 show (⟨a.toArray++b.toArray⟩:Str)=⟨(a++b).toArray⟩;rw[List.append_toArray]
theorem we {cs:List Nat}(h:cs.length<=1000):(tx cs).length<=lim:=by rw[lZ];exact iQ h
noncomputable abbrev sT (cs:List Nat):Slot:=some (.str (tx cs),.own)
theorem HV {cs:List Nat}(hl:cs.length<=1000){i c:Nat}(h:cs[i]? = some c):B0 (.str (tx cs)) (.int (i:Int))=some (.str (tx [c])):=by
 have hj:i<cs.length:=(List.getElem?_eq_some_iff.mp h).1;show (if (tx cs).length<=lim then ((Pc.kd (tx cs).cps.toList.length (i:Int)).bind fun j=>(tx cs).cps.toList[j]?).map fun c=>D.str ⟨#[c]⟩ else none)=_;rw[if_pos (we hl)];show ((Pc.kd cs.length (i:Int)).bind fun j=>cs[j]?).map _=_;rw[lT hj];show (cs[i]?).map _=_;rw[h];rfl
theorem Dm {a b:List Nat}(h:a.length+b.length<=1000):mM .Add (.str (tx a)) (.str (tx b))=some (.str (tx (a++b))):=by
 show ck ((tx a).length+(tx b).length) (.str (tx a++tx b))=_;unfold ck;rw[if_pos (by rw[lZ,lZ];exact iQ h),DD]
theorem jR {T:Tb}{env:En}{a b:Ex}{x y:List Nat}{R R':Rt}(ha:ev T a env = .ok (.str (tx x),R))(hb:ev T b env = .ok (.str (tx y),R'))(h:x.length+y.length<=1000):ev T (.bin .Add a b) env = .ok (.str (tx (x++y)),.mv []):=by
 rw[ev,ha,aA,hb,aA,Dm h];rfl
theorem wu {T:Tb}{env:En}{a b:Ex}{cs:List Nat}{i c:Nat}{R R':Rt}(hl:cs.length<=1000)(ha:ev T a env = .ok (.str (tx cs),R))(hb:ev T b env = .ok (.int (i:Int),R'))(h:cs[i]? = some c):ev T (.ix a b) env = .ok (.str (tx [c]),.mv []):=by
 rw[ev,ha,aA,hb,aA,HV hl h];rfl
theorem gW {T:Tb}{env:En}{e:Ex}{cs:List Nat}{R:Rt}(hl:cs.length<=1000)(h:ev T e env = .ok (.str (tx cs),R)):ev T (.blt .len (.cons e .nil)) env = .ok (.int (cs.length:Int),.mv []):=by
 rw[ev,aX,aX,h,aA,aA,aA,j6];have:kH .len [.str (tx cs)]=some (.int (cs.length:Int)):=by
  show (if (tx cs).length<=lim then some (D.int ((tx cs).length:Int)) else none)=_;rw[if_pos (we hl),lZ]
 dsimp only;rw[this,bQ,aA,fF]
theorem yo (cs:List Nat)(n:Nat):cut cs none (some (n:Int))=cs.take n:=by
 unfold cut bL;simp only[List.drop_zero,Nat.sub_zero];rw[if_neg (by omega),dm];by_cases h:n<=cs.length
 ·rw[dz h]
 ·rw[Nat.min_eq_right (by omega),eh (au _),eh (by omega)]
theorem oB (n d v:Nat):bL n d (some (v:Int))=min v n:=by
 unfold bL;dsimp only;rw[if_neg (by omega),dm]
theorem vW (cs:List Nat)(n:Nat):cut cs (some (n:Int)) none=cs.drop n:=by
 unfold cut;rw[oB];show (cs.drop (min n cs.length)).take (cs.length - min n cs.length)=_;by_cases h:n<=cs.length
 ·rw[dz h];exact List.take_of_length_le (by simp)
 ·rw[Nat.min_eq_right (by omega),Nat.sub_self,List.take_zero,List.drop_of_length_le (l:=cs) (i:=n) (by omega)]
theorem Ai (cs:List Nat)(s n:Nat)(h:s+n<=cs.length):cut cs (some (s:Int)) (some ((s+n:Nat):Int))=(cs.drop s).take n:=by
 unfold cut;rw[oB,oB];show (cs.drop (min s cs.length)).take (min (s+n) cs.length - min s cs.length)=_;rw[dz (show s<=cs.length by omega),dz h,Nat.add_sub_cancel_left]
theorem oR {T:Tb}{env:En}{a:Ex}{lo hi:l9}{cs r:List Nat}{l h:Option Int}{R:Rt}(hl:cs.length<=1000)(ha:ev T a env = .ok (.str (tx cs),R))(e1:jB T lo env = .ok l)(e2:jB T hi env = .ok h)(hr:cut cs l h=r):ev T (.sl a lo hi) env = .ok (.str (tx r),.mv []):=by
 have:FD (.str (tx cs)) l h=some (.str (tx r)):=by
  show (if (tx cs).length<=lim then some (D.str ⟨(cut cs l h).toArray⟩) else none)=_;rw[if_pos (we hl),hr];rfl
 rw[ev,ha,aA,e1,aA,e2,aA,this];rfl
theorem eR {T:Tb}{env:En}{e:Ex}{i:Int}{R:Rt}(h:ev T e env = .ok (.int i,R)):jB T (.some e) env = .ok (some i):=by
 rw[jB,h];rfl
theorem jG {T:Tb}{env:En}:jB T .none env = .ok none:=by rw[jB]
theorem lj {T:Tb}{env:En}{x:Nat}{e:Ex}{xs ys:List D}(ht:Tame env)(hx:env[x]? = some (some (.lst xs,.own)))(h:ev T e env = .ok (.lst ys,.mv []))(hf:D.flats ys=true)(hl:xs.length+ys.length<=lim):aV T (.mut x .none .extend (.cons e .nil)) env = .nx (env.set x (some (.lst (xs++ys),.own))):=by
 have ho:ownAt env x=some (.lst xs):=by unfold ownAt;rw[hx]
 have hs:aX T (.cons e .nil) env = .ok [(.lst ys,.mv [])]:=by
  rw[aX,h,aA];rfl
 rw[aV,ho];simp only[jB,aY,D.at1,hs,List.map_cons,List.map_nil,wY,hf,aS,Rt.roots,List.flatten_cons,List.flatten_nil,List.append_nil,List.contains_nil,Bool.false_eq_true,if_false,if_true,pW.copies,iB,eC,Option.map_some];have:(xs++ys).length<=lim:=by rw[ag];exact hl
 simp only[List.nodup_nil,decide_true,gF,List.all_nil,Bool.not_false,Bool.and_self,this,if_true,D.set1,Bool.true_and];rw[jA ht]
theorem cO {T:Tb}{env:En}{a b:Ex}{ds:List D}{i:Nat}{d:D}{R R':Rt}(ha:ev T a env = .ok (.tup ds,R))(hb:ev T b env = .ok (.int (i:Int),R'))(h:ds[i]? = some d)(hf:d.flat=true):ev T (.ix a b) env = .ok (d,.mv []):=by
 have:B0 (.tup ds) (.int (i:Int))=some d:=by
  show (Pc.kd ds.length (i:Int)).bind (fun j=>ds[j]?)=_;rw[lT (List.getElem?_eq_some_iff.mp h).1];exact h
 rw[ev,ha,aA,hb,aA,this,bQ,aA];unfold n9;rw[if_pos hf]
theorem jX {T:Tb}{env:En}{a b:Ex}{ds:List D}{i:Nat}{d:D}{R R':Rt}(ha:ev T a env = .ok (.lst ds,R))(hb:ev T b env = .ok (.int (i:Int),R'))(h:ds[i]? = some d)(hf:d.flat=true):ev T (.ix a b) env = .ok (d,.mv []):=by
 have:B0 (.lst ds) (.int (i:Int))=some d:=by
  show (Pc.kd ds.length (i:Int)).bind (fun j=>ds[j]?)=_;rw[lT (List.getElem?_eq_some_iff.mp h).1];exact h
 rw[ev,ha,aA,hb,aA,this,bQ,aA];unfold n9;rw[if_pos hf]
theorem uD {T:Tb}{env:En}{a b c d:Ex}{x y z u:D}(ha:ev T a env = .ok (x,.mv []))(hb:ev T b env = .ok (y,.mv []))(hc:ev T c env = .ok (z,.mv []))(hd:ev T d env = .ok (u,.mv [])):ev T (.tup (.cons a (.cons b (.cons c (.cons d .nil))))) env = .ok (.tup [x,y,z,u],.mv []):=by
 rw[ev,aX,ha,aA,aX,hb,aA,aX,hc,aA,aX,hd,aA,aX,aA,aA,aA,aA,aA];rfl
theorem yV {T:Tb}{env:En}{a b:Ex}{x y:D}(ha:ev T a env = .ok (x,.mv []))(hb:ev T b env = .ok (y,.mv [])):ev T (.tup (.cons a (.cons b .nil))) env = .ok (.tup [x,y],.mv []):=by
 rw[ev,aX,ha,aA,aX,hb,aA,aX,aA,aA,aA];rfl
theorem aR {T:Tb}{env:En}{k:Nat}{d:D}(h:T.gl k=d):ev T (.glb k) env = .ok (d,.mv []):=by rw[ev,h]
noncomputable def s1:Str:="0123456789"
noncomputable def s2:Str:=" ABCDEFGHIJKLMNOPQRSTUVWXYZ.,-:/"
noncomputable def s3:Str:=" !\"#$&'()*+,-./0123456789:;<=>?@ABCDEFGHIJKLMNOPQRSTUVWXYZ[\\]^_`abcdefghijklmnopqrstuvwxyz{|}~"
noncomputable def KS:Nat->Str
 |1=>s1
 |2=>s2
 |3=>s3
 |_=>⟨#[]⟩
noncomputable def kn (k:Nat):List Nat:=(KS k).cps.toList
noncomputable def iE (k c:Nat):Bool:=(kn k).contains c
theorem FH (k:Nat):KS k=tx (kn k):=rfl
theorem kP:∀ c,c<128->∀ k,k<4->qQ (tx [c]) (KS k)=iE k c:=by decide +kernel
theorem Eo:(kn 1).length=10/\(kn 2).length=32/\(kn 3).length=94:=by decide +kernel
theorem E9:∀ k,k<4->∀ c∈kn k,c<127:=by decide +kernel
theorem Dx:∀ k,k<4->∀ c∈kn k,iE 3 c=true:=by decide +kernel
noncomputable def G:Nat->D
 |0=>.int 1
 |1=>.int 2
 |2=>.int 3
 |3=>.tup [.str ⟨#[]⟩,.str s1,.str s2,.str s3]
 |4=>.tup [.int 0,.int 0,.int 5,.int 7]
 |5=>.int 2
 |6=>.int 6
 |7=>.int 64
 |8=>.tup [.int 0,.int 4,.int 7,.int 10]
 |9=>.int 3
 |_=>.non
def GL (T:Tb):Prop:=∀ i,i<10->T.gl i=G i
noncomputable def bPL:bJ:=(.cons (.asg (.nm 2) (.bin .Add (.glb 5) (.glb 6)) false)
  (.cons (.ite (.cmp .Eq (.var 0) (.glb 0)) (.cons (.ret (.bin .Add (.bin .Add (.var 2) (.bin .Mult (.ix (.glb 8) (.glb 9)) (.bin .FloorDiv (.var 1) (.glb 9)))) (.ix (.glb 8) (.bin .Mod (.var 1) (.glb 9)))))
  .nil) .nil)
  (.cons (.ret (.bin .Add (.var 2) (.bin .Mult (.ix (.glb 4) (.var 0)) (.var 1))))
  .nil)))
noncomputable def fb (m:Nat):Nat:=if m=0 then 0 else 3*m+1
noncomputable def og (k c:Nat):Nat:=if k=1 then 8+10*(c / 3)+fb (c%3) else 8+(if k=2 then 5 else 7)*c
theorem HR {T:Tb}(hg:GL T){k c:Nat}(h1:1<=k)(h3:k<=3)(hc:c<=1000):ret (aF T bPL (aG [.int (k:Int),.int (c:Int)] 3)) = .ok (.int ((og k c:Nat):Int),true):=by
 have te:∀ o,aK o->Tame [sN k,sN c,o]:=fun o h=>.cons (aB _) (.cons (aB _) (.cons h .nil))
 have g1:aV T (.asg (.nm 2) (.bin .Add (.glb 5) (.glb 6)) false) [sN k,sN c,none] = .nx [sN k,sN c,sI 8] :=
  aL (te _ aN) (show (2:Nat)<3 by decide) (bZ (aR (hg 5 (by decide))) (aR (hg 6 (by decide))))
 have hst:aG [.int (k:Int),.int (c:Int)] 3=[sN k,sN c,none]:=rfl;rw[hst];unfold bPL;rw[aF,g1,aD,aF];have ec:ev T (.cmp .Eq (.var 0) (.glb 0)) [sN k,sN c,sI 8] = .ok (.bl (decide (k=1)),.mv []):=CO (x:=k) (y:=1) (aC rfl rfl) (aR (hg 0 (by decide)));rw[lL ec];by_cases hk:k=1
 ·rw[if_pos hk];have e1:ev T (.ix (.glb 8) (.glb 9)) [sN k,sN c,sI 8] = .ok (.int 10,.mv []):=cO (i:=3) (aR (hg 8 (by decide))) (aR (hg 9 (by decide))) rfl rfl;have e2:ev T (.bin .FloorDiv (.var 1) (.glb 9)) [sN k,sN c,sI 8] = .ok (.int ((c:Int) / 3),.mv []):=gZ (by decide) (by decide) (aC rfl rfl) (aR (hg 9 (by decide)));have e3:ev T (.bin .Mod (.var 1) (.glb 9)) [sN k,sN c,sI 8] = .ok (.int (((c%3:Nat):Int)),.mv []):=by
   rw[Int.natCast_emod];exact dB (by decide) (aC rfl rfl) (aR (hg 9 (by decide)))
  have e4:ev T (.ix (.glb 8) (.bin .Mod (.var 1) (.glb 9))) [sN k,sN c,sI 8] = .ok (.int ((fb (c%3):Nat):Int),.mv []):=by
   refine cO (i:=c%3) (aR (hg 8 (by decide))) e3 ?_ rfl;have:c%3<3:=Nat.mod_lt _ (by decide)
   match c%3,this with
   |0,_=>rfl
   |1,_=>rfl
   |2,_=>rfl
  have e5:=Fr.iN (T:=T) (show (small 10 || small ((c:Int) / 3))=true by rw[show small 10=true by decide];rfl) e1 e2;have e6:=bZ (bZ (aC (T:=T) (env:=[sN k,sN c,sI 8]) (i:=2) (d:=.int 8) (t:=.own) rfl rfl) e5) e4;rw[aF,aV,e6];have:(8:Int)+10*((c:Int) / 3)+((fb (c%3):Nat):Int)=((og k c:Nat):Int):=by
   unfold og;rw[if_pos hk];omega
  rw[this];rfl
 ·rw[if_neg hk,gJ,aD];have e1:ev T (.ix (.glb 4) (.var 0)) [sN k,sN c,sI 8] = .ok (.int (((if k=2 then 5 else 7:Nat):Int)),.mv []):=by
   refine cO (i:=k) (aR (hg 4 (by decide))) (aC rfl rfl) ?_ rfl;have:k=2\/k=3:=by omega
   rcases this with rfl | rfl<;>rfl
  have e5:=Fr.iN (T:=T) (show (small (((if k=2 then 5 else 7:Nat):Int)) || small (c:Int))=true by rw[show small (((if k=2 then 5 else 7:Nat):Int))=true by split<;>decide];rfl) e1 (aC (i:=1) rfl rfl);have e6:=bZ (aC (T:=T) (env:=[sN k,sN c,sI 8]) (i:=2) (d:=.int 8) (t:=.own) rfl rfl) e5;have:(8:Int)+((if k=2 then 5 else 7:Nat):Int)*(c:Int)=((og k c:Nat):Int):=by
   unfold og;rw[if_neg hk]
   push_cast
   rfl
  rw[this] at e6;exact eV e6
def Bl (T:Tb):Prop:=∀ k c:Nat,1<=k->k<=3->c<=1000->T.cl 0 [.int (k:Int),.int (c:Int)] = .ok (.int ((og k c:Nat):Int),true)
noncomputable abbrev Q4:=Nat×Nat×Nat×Nat
noncomputable def q4 (q:Q4):D:=.tup [.int (q.1:Int),.int (q.2.1:Int),.int (q.2.2.1:Int),.int (q.2.2.2:Int)]
theorem ua (q:Q4):(q4 q).flat=true:=rfl
theorem lH:∀ l:List Q4,D.flats (l.map q4)=true
 |[]=>rfl
 | q::l=>by
  show ((q4 q).flat&&D.flats (l.map q4))=true;rw[lH l];rfl
noncomputable def qs (l:List Q4):D:=.lst (l.map q4)
noncomputable def Bw:bJ:=(.cons (.asg (.nm 6) (.ix (.var 0) (.bin .Add (.var 1) (.var 5))) false)
  (.cons (.mut 4 .none .append (.cons (.tup (.cons (.bin .Add (.call 0 (.cons (.var 2) (.cons (.var 5) .nil))) (.ix (.var 6) (.cst (.int (0))))) (.cons (.bin .Add (.cst (.int (1))) (.ix (.var 6) (.cst (.int (1))))) (.cons (.var 2) (.cons (.var 5) .nil))))) .nil))
  .nil))
noncomputable def bCK:bJ:=(.cons (.asg (.nm 4) (.lst .nil) false)
  (.cons (.forr (.nm 5) (.rng2 (.cst (.int (1))) (.bin .Add (.blt .min2 (.cons (.var 3) (.cons (.glb 7) .nil))) (.cst (.int (1))))) Bw)
  (.cons (.ret (.var 4))
  .nil)))
noncomputable abbrev EK (B:List Q4)(s k r:Nat)(ch:List Q4)(a5 a6:Slot):En:=[some (qs B,.sh []),sN s,sN k,sN r,some (qs ch,.own),a5,a6]
theorem pA {B:List Q4}{s k r:Nat}{ch:List Q4}{a5 a6:Slot}(h5:aK a5)(h6:aK a6):Tame (EK B s k r ch a5 a6):=.cons (dX _) (.cons (aB _) (.cons (aB _) (.cons (aB _) (.cons (aB _) (.cons h5 (.cons h6 .nil))))))
noncomputable def one (k c:Nat)(q:Q4):Q4:=(og k c+q.1,1+q.2.1,k,c)
theorem Gb {T:Tb}(hp:Bl T){B:List Q4}{s k r c:Nat}{ch:List Q4}{q:Q4}{a6:Slot}(h6:aK a6)(h1:1<=k)(h3:k<=3)(hc:c<=64)(hch:ch.length<=900)(hq:B[s+c]? = some q) :
  aF T Bw (EK B s k r ch (sN c) a6) = .nx (EK B s k r (ch ++ [one k c q]) (sN c) (some (q4 q,.own))):=by
 have v0:∃ R,ev T (.var 0) (EK B s k r ch (sN c) a6) = .ok (qs B,R):=eK rfl;obtain⟨R,v0⟩:=v0;have e1:ev T (.bin .Add (.var 1) (.var 5)) (EK B s k r ch (sN c) a6) = .ok (.int ((s+c:Nat):Int),.mv []):=cR (aC rfl rfl) (aC rfl rfl);have e2:=jX v0 e1 (by rw[List.getElem?_map,hq];rfl) (ua q);have g1:aV T (.asg (.nm 6) (.ix (.var 0) (.bin .Add (.var 1) (.var 5))) false) (EK B s k r ch (sN c) a6) = .nx (EK B s k r ch (sN c) (some (q4 q,.own))):=aL (pA (aB _) h6) (show (6:Nat)<7 by decide) e2;have v6:ev T (.var 6) (EK B s k r ch (sN c) (some (q4 q,.own))) = .ok (q4 q,.mv []):=aC rfl rfl;have f0:ev T (.ix (.var 6) (.cst (.int (0)))) (EK B s k r ch (sN c) (some (q4 q,.own))) = .ok (.int (q.1:Int),.mv []):=cO (i:=0) v6 (aH _) rfl rfl;have f1:ev T (.ix (.var 6) (.cst (.int (1)))) (EK B s k r ch (sN c) (some (q4 q,.own))) = .ok (.int (q.2.1:Int),.mv []):=cO (i:=1) v6 (aH _) rfl rfl;have f2:ev T (.call 0 (.cons (.var 2) (.cons (.var 5) .nil))) (EK B s k r ch (sN c) (some (q4 q,.own))) = .ok (.int ((og k c:Nat):Int),.mv []):=fJ (aC rfl rfl) (aC rfl rfl) (hp k c h1 h3 (by omega));have f3:ev T (.bin .Add (.call 0 (.cons (.var 2) (.cons (.var 5) .nil))) (.ix (.var 6) (.cst (.int (0))))) (EK B s k r ch (sN c) (some (q4 q,.own))) = .ok (.int ((og k c+q.1:Nat):Int),.mv []):=cR f2 f0;have f4:ev T (.bin .Add (.cst (.int (1))) (.ix (.var 6) (.cst (.int (1))))) (EK B s k r ch (sN c) (some (q4 q,.own))) = .ok (.int ((1+q.2.1:Nat):Int),.mv []):=cR (x:=1) (aH _) f1;have f5:=uD f3 f4 (aC (T:=T) (env:=EK B s k r ch (sN c) (some (q4 q,.own))) (i:=2) (d:=.int (k:Int)) (t:=.own) rfl rfl) (aC (i:=5) (d:=.int (c:Int)) (t:=.own) rfl rfl);have g2:=jK (x:=4) (xs:=ch.map q4) (pA (B:=B) (s:=s) (k:=k) (r:=r) (ch:=ch) (aB (.int (c:Int))) (aB (q4 q))) rfl f5 (by rw[ao];exact iQ (by omega));have g2:aV T (.mut 4 .none .append (.cons (.tup (.cons (.bin .Add (.call 0 (.cons (.var 2) (.cons (.var 5) .nil))) (.ix (.var 6) (.cst (.int (0))))) (.cons (.bin .Add (.cst (.int (1))) (.ix (.var 6) (.cst (.int (1))))) (.cons (.var 2) (.cons (.var 5) .nil))))) .nil)) (EK B s k r ch (sN c) (some (q4 q,.own))) = .nx (EK B s k r (ch ++ [one k c q]) (sN c) (some (q4 q,.own))):=by
  rw[g2];show Fl.nx (EK B s k r ch (sN c) (some (q4 q,.own)) |>.set 4 (some (.lst (ch.map q4 ++ [q4 (one k c q)]),.own)))=_;rw[show ch.map q4 ++ [q4 (one k c q)]=(ch ++ [one k c q]).map q4 by rw[ie];rfl];rfl
 unfold Bw;rw[aF,g1,aD,aF,g2,aD,aF]
noncomputable def sF (k:Nat)(B:List Q4)(s m:Nat):List Q4:=(List.range m).map fun j=>one k (j+1) (B.getD (s+(j+1)) (0,0,0,0))
theorem kU (k:Nat)(B:List Q4)(s m:Nat):(sF k B s m).length=m:=by unfold sF;rw[ao,cm]
theorem tM {T:Tb}(hp:Bl T){B:List Q4}{s k r:Nat}(h1:1<=k)(h3:k<=3):∀(m c0:Nat) (ch:List Q4) (a5 a6:Slot),aK a5->aK a6->c0+m<=64->ch.length+m<=900->s+(c0+m)<B.length ->
  ∃ b5 b6,aK b5/\aK b6/\bU (.nm 5) [] (aF T Bw) (aQ ((c0+1:Nat):Int) 1 m) (EK B s k r ch a5 a6) = .nx (EK B s k r (ch++(List.range m).map fun j=>one k (c0+j+1) (B.getD (s+(c0+j+1)) (0,0,0,0))) b5 b6)
 |0,c0,ch,a5,a6,t5,t6,_,_,_=>⟨a5,a6,t5,t6,by rw[List.range_zero,fm,ax];rfl⟩
 | m+1,c0,ch,a5,a6,t5,t6,hc,hl,hB=>by
  have hq:B[s+(c0+1)]? = some (B.getD (s+(c0+1)) (0,0,0,0)):=by
   have hi:s+(c0+1)<B.length:=by omega
   rw[List.getD_eq_getElem?_getD,List.getElem?_eq_getElem hi];rfl
  have st:=Gb hp (a6:=a6) (r:=r) t6 h1 h3 (show c0+1<=64 by omega) (show ch.length<=900 by omega) hq;have hb:aZ [] (.nm 5) (.int ((c0+1:Nat):Int)) (EK B s k r ch a5 a6)=some (EK B s k r ch (sN (c0+1)) a6):=bY (pA t5 t6) (show (5:Nat)<7 by decide);obtain⟨b5,b6,u5,u6,q⟩:=tM hp (B:=B) (s:=s) (k:=k) (r:=r) h1 h3 m (c0+1) (ch ++ [one k (c0+1) (B.getD (s+(c0+1)) (0,0,0,0))]) (sN (c0+1)) (some (q4 (B.getD (s+(c0+1)) (0,0,0,0)),.own)) (aB _) (aB _) (by omega) (by rw[ag,br];omega) (by omega);refine⟨b5,b6,u5,u6,?_⟩;have el:((List.range m).map fun j=>one k (c0+1+j+1) (B.getD (s+(c0+1+j+1)) (0,0,0,0)))=(List.range m).map ((fun j=>one k (c0+j+1) (B.getD (s+(c0+j+1)) (0,0,0,0)))∘Nat.succ):=dq fun j _=>by
   show one k (c0+1+j+1) _=one k (c0+(j+1)+1) _;rw[show c0+1+j+1=c0+(j+1)+1 by omega]
  rw[mj,bB hb st,q,gc,av,fq,cf,el];rfl
theorem A9 {T:Tb}{env:En}{e1 e2:Ex}{m:Nat}{R R':Rt}(hm:m<=1000)(h1:ev T e1 env = .ok (.int 1,R))(h2:ev T e2 env = .ok (.int ((m+1:Nat):Int),R')):eX T (.rng2 e1 e2) env = .ok (aQ ((0+1:Nat):Int) 1 m,[]):=by
 rw[eX,h1,aA,h2,aA];dsimp only;rw[show eZ 1=true by decide,show eZ ((m+1:Nat):Int)=true by unfold eZ;exact cj ⟨by omega,by omega⟩,show (((m+1:Nat):Int) - 1).toNat=m by omega];rfl
theorem Hn {T:Tb}(hg:GL T)(hp:Bl T){B:List Q4}{s k r:Nat}(h1:1<=k)(h3:k<=3)(hB:s+min r 64<B.length):ret (aF T bCK (aG [qs B,.int (s:Int),.int (k:Int),.int (r:Int)] 7)) = .ok (qs (sF k B s (min r 64)),true):=by
 have hst:aG [qs B,.int (s:Int),.int (k:Int),.int (r:Int)] 7=[some (qs B,.sh []),sN s,sN k,sN r,none,none,none]:=rfl;have t0:Tame [some (qs B,.sh []),sN s,sN k,sN r,none,none,none]:=.cons (dX _) (.cons (aB _) (.cons (aB _) (.cons (aB _) (.cons aN (.cons aN (.cons aN .nil))))));have g1:aV T (.asg (.nm 4) (.lst .nil) false) [some (qs B,.sh []),sN s,sN k,sN r,none,none,none] = .nx (EK B s k r [] none none):=aL t0 (show (4:Nat)<7 by decide) (by rw[ev,aX];rfl);obtain⟨b5,b6,u5,u6,q⟩:=tM hp (B:=B) (s:=s) (k:=k) (r:=r) h1 h3 (min r 64) 0 [] none none aN aN (by omega) (by rw[bz];omega) (by omega);have em:ev T (.blt .min2 (.cons (.var 3) (.cons (.glb 7) .nil))) (EK B s k r [] none none) = .ok (.int ((min r 64:Nat):Int),.mv []):=by
  rw[ev,aX,aC (d:=.int (r:Int)) (t:=.own) rfl rfl,aA,aX,aR (hg 7 (by decide)),aA,aX,aA,aA,aA];show (gN (some (D.int (if (64:Int)<(r:Int) then 64 else (r:Int))))).bind _=_;have:(if (64:Int)<(r:Int) then 64 else (r:Int))=((min r 64:Nat):Int):=by split<;>omega
  rw[this,bQ,aA];rfl
 have hit:eX T (.rng2 (.cst (.int (1))) (.bin .Add (.blt .min2 (.cons (.var 3) (.cons (.glb 7) .nil))) (.cst (.int (1))))) (EK B s k r [] none none) = .ok (aQ ((0+1:Nat):Int) 1 (min r 64),[]) :=
  A9 (by omega) (aH _) (cR (y:=1) em (aH _))
 have g2:=cF hit q;rw[hst];unfold bCK;rw[aF,g1,aD,aF,g2,aD,aF,aV,be (d:=.lst ((sF k B s (min r 64)).map q4)) ?_ rfl]
 ·rfl
 ·show some (some (D.lst _,Tg.own))=_;rw[cz];congr 4;unfold sF;congr 1;refine dq fun j _=>?_
  rw[gh]
def yL (T:Tb):Prop:=∀(B:List Q4) (s k r:Nat),1<=k->k<=3->s+min r 64<B.length->T.cl 4 [qs B,.int (s:Int),.int (k:Int),.int (r:Int)] = .ok (qs (sF k B s (min r 64)),true)
noncomputable abbrev z4:Q4:=(0,0,0,0)
noncomputable def k4 (q:Q4):List Int:=[(q.1:Int),(q.2.1:Int),(q.2.2.1:Int),(q.2.2.2:Int)]
noncomputable def Af (l:List Q4):Q4:=l.getD (dJ (fun i j=>qB ((l.map k4).getD i []) ((l.map k4).getD j [])) (l.length - 1) 1 0) z4
theorem gK (lt:Nat->Nat->Bool):∀(k j m N:Nat),m<N->j+k<=N->dJ lt k j m<N
 |0,j,m,N,h,_=>h
 | k+1,j,m,N,h,h2=>by
  unfold dJ;refine gK lt k (j+1) _ N ?_ (by omega);split<;>omega
theorem A8 {l:List Q4}(h:l≠[]):Af l∈l:=by
 have h0:0<l.length:=List.length_pos_iff.mpr h;have hi:=gK (fun i j=>qB ((l.map k4).getD i []) ((l.map k4).getD j [])) (l.length - 1) 1 0 l.length h0 (by omega);unfold Af;rw[List.getD_eq_getElem?_getD,List.getElem?_eq_getElem hi];exact i0 hi
theorem wK:∀ l:List Q4,ky (l.map q4)=some (l.map k4)
 |[]=>rfl
 | q::l=>by
  show (jc [.int (q.1:Int),.int (q.2.1:Int),.int (q.2.2.1:Int),.int (q.2.2.2:Int)]).bind (fun k=>if k.isEmpty then none else (ky (l.map q4)).map (k :: ·))=_;rw[wK l];rfl
theorem Gf {l:List Q4}(h:l≠[]):minD (l.map q4)=some (q4 (Af l)):=by
 have h0:0<l.length:=List.length_pos_iff.mpr h;unfold minD;rw[if_neg (by rw[List.isEmpty_iff];simpa using h)];have hk:jc (l.map q4)=none:=by
  cases l with
  |nil=>exact absurd rfl h
  |cons q l=>rfl
 rw[hk];show (ky (l.map q4)).bind _=_;rw[wK];show (l.map q4)[_]? = _;rw[ao,List.getElem?_map];have hi:=gK (fun i j=>qB ((l.map k4).getD i []) ((l.map k4).getD j [])) (l.length - 1) 1 0 l.length h0 (by omega);unfold Af;rw[List.getD_eq_getElem?_getD,List.getElem?_eq_getElem hi];rfl
noncomputable def rn (k:Nat):List Nat->Nat
 |[]=>0
 |c::r=>if iE k c then rn k r+1 else 0
theorem uu (k:Nat):∀ t:List Nat,rn k t<=t.length
 |[]=>au _
 | c::r=>by
  have:=uu k r;unfold rn;rw[aw];split<;>omega
noncomputable def va (k:Nat)(C:List Q4)(m:Nat):List Q4:=(List.range m).map fun j=>one k (j+1) (C.getD j z4)
theorem ja (k:Nat)(C:List Q4)(m:Nat):(va k C m).length=m:=by unfold va;rw[ao,cm]
noncomputable def qA (t:List Nat)(C:List Q4):List Q4:=va 1 C (min (rn 1 t) 64)++va 2 C (min (rn 2 t) 64)++va 3 C (min (rn 3 t) 64)
noncomputable def bc:List Nat->List Q4
 |[]=>[z4]
 |c::r=>Af (qA (c::r) (bc r))::bc r
theorem lx:∀ t:List Nat,(bc t).length=t.length+1
 |[]=>rfl
 |c::r=>by unfold bc;rw[aw,aw,lx r]
theorem oo (k s m:Nat)(C:List Q4):sF k (List.replicate (s+1) z4++C) s m=va k C m:=by
 unfold sF va;refine dq fun j _=>?_
 rw[List.getD_eq_getElem?_getD,List.getD_eq_getElem?_getD,List.getElem?_append_right (by rw[bo];omega),bo,show s+(j+1) - (s+1)=j by omega]
noncomputable def AQ:bJ:=(.cons (.putd 2 (.var 5) (.ite (.cmp .In (.ix (.var 0) (.var 3)) (.ix (.glb 3) (.var 5))) (.bin .Add (.ix (.var 2) (.var 5)) (.cst (.int (1)))) (.cst (.int (0)))))
  (.cons (.mut 4 .none .extend (.cons (.call 4 (.cons (.var 1) (.cons (.var 3) (.cons (.var 5) (.cons (.ix (.var 2) (.var 5)) .nil))))) .nil))
  .nil))
noncomputable def Bx:bJ:=(.cons (.asg (.nm 4) (.lst .nil) false)
  (.cons (.forr (.nm 5) (.seq (.blt .list (.cons (.var 2) .nil))) AQ)
  (.cons (.setix 1 .none (.var 3) (.blt .min2 (.cons (.var 4) .nil)))
  .nil)))
noncomputable def bBC:bJ:=(.cons (.asg (.nm 1) (.bin .Mult (.lst (.cons (.tup (.cons (.cst (.int (0))) (.cons (.cst (.int (0))) (.cons (.cst (.int (0))) (.cons (.cst (.int (0))) .nil))))) .nil)) (.bin .Add (.blt .len (.cons (.var 0) .nil)) (.cst (.int (1))))) false)
  (.cons (.asg (.nm 2) (.ddsp [(0,0),(1,0),(2,0)]) false)
  (.cons (.forr (.nm 3) (.rng3 (.bin .Sub (.blt .len (.cons (.var 0) .nil)) (.cst (.int (1)))) (.neg (.cst (.int (1)))) (.neg (.cst (.int (1))))) Bx)
  (.cons (.ret (.var 1))
  .nil))))
noncomputable abbrev mp (rs:List (Int×MV)):Slot:=some (.mpi rs,.own)
noncomputable abbrev oQ (l:List Q4):Slot:=some (qs l,.own)
noncomputable abbrev EB (t:List Nat)(B:List Q4)(rs:List (Int×MV))(s:Nat)(ch:List Q4)(a5:Slot):En:=[sT t,oQ B,mp rs,sN s,oQ ch,a5]
theorem kT {t:List Nat}{B:List Q4}{rs:List (Int×MV)}{s:Nat}{ch:List Q4}{a5:Slot}(h5:aK a5):Tame (EB t B rs s ch a5):=.cons (aB _) (.cons (aB _) (.cons (aB _) (.cons (aB _) (.cons (aB _) (.cons h5 .nil)))))
theorem FG {T:Tb}{f:Nat}{e1 e2 e3 e4:Ex}{env:En}{d1 d2 d3 d4 r:D}{R1 R2 R3 R4:Rt}(h1:ev T e1 env = .ok (d1,R1))(h2:ev T e2 env = .ok (d2,R2))(h3:ev T e3 env = .ok (d3,R3))(h4:ev T e4 env = .ok (d4,R4))(h:T.cl f [d1,d2,d3,d4] = .ok (r,true)):ev T (.call f (.cons e1 (.cons e2 (.cons e3 (.cons e4 .nil))))) env = .ok (r,.mv []):=by
 rw[ev,aX,h1,aA,aX,h2,aA,aX,h3,aA,aX,h4,aA,aX,aA,aA,aA,aA,aA];show (T.cl f [d1,d2,d3,d4]).bind _=_;rw[h];rfl
theorem HM {T:Tb}(hg:GL T){env:En}{a b:Ex}{c k:Nat}{R R':Rt}(hc:c<128)(hk:k<4)(ha:ev T a env = .ok (.str (tx [c]),R))(hb:ev T b env = .ok (.int (k:Int),R')):ev T (.cmp .In a (.ix (.glb 3) b)) env = .ok (.bl (iE k c),.mv []):=by
 have e1:ev T (.ix (.glb 3) b) env = .ok (.str (KS k),.mv []):=by
  refine cO (i:=k) (aR (hg 3 (by decide))) hb ?_ rfl
  match k,hk with
  |0,_=>rfl
  |1,_=>rfl
  |2,_=>rfl
  |3,_=>rfl
 rw[ev,ha,aA,e1,aA];show (gN (some (qQ (tx [c]) (KS k)))).bind _=_;rw[kP c hc k hk];rfl
theorem yF {T:Tb}(hg:GL T)(hck:yL T){t:List Nat}{B:List Q4}{rs rs':List (Int×MV)}{s k c r r':Nat}{ch:List Q4}(ht:t.length<=900)(hc:c<128)(hts:t[s]? = some c)(h1:1<=k)(h3:k<=3)
  (hr:r'=if iE k c then r+1 else 0) (hf:B0 (.mpi rs) (.int (k:Int))=some (.int (r:Int))) (hp:ou rs (k:Int) (.int (r':Int))=rs') (hf':B0 (.mpi rs') (.int (k:Int))=some (.int (r':Int))) (hl:rs.length<=3) (hB:s+min r' 64<B.length) (hch:ch.length<=500) :
  aF T AQ (EB t B rs s ch (sN k)) = .nx (EB t B rs' s (ch++sF k B s (min r' 64)) (sN k)):=by
 have vt:ev T (.ix (.var 0) (.var 3)) (EB t B rs s ch (sN k)) = .ok (.str (tx [c]),.mv []):=wu (i:=s) (by omega) (aC (d:=.str (tx t)) (t:=.own) rfl rfl) (aC rfl rfl) hts;have ei:=HM hg hc (show k<4 by omega) vt (aC (T:=T) (env:=EB t B rs s ch (sN k)) (i:=5) (d:=.int (k:Int)) (t:=.own) rfl rfl);have vr:∀(rs0:List (Int×MV)) (r0:Nat) (ch0:List Q4),B0 (.mpi rs0) (.int (k:Int))=some (.int (r0:Int))->ev T (.ix (.var 2) (.var 5)) (EB t B rs0 s ch0 (sN k)) = .ok (.int (r0:Int),.mv []):=fun rs0 r0 ch0 h=>by
  rw[ev,be (i:=2) (d:=.mpi rs0) rfl rfl,aA,aC (i:=5) (d:=.int (k:Int)) (t:=.own) rfl rfl,aA,h];rfl
 have ev1:ev T (.ite (.cmp .In (.ix (.var 0) (.var 3)) (.ix (.glb 3) (.var 5))) (.bin .Add (.ix (.var 2) (.var 5)) (.cst (.int (1)))) (.cst (.int (0)))) (EB t B rs s ch (sN k)) = .ok (.int (r':Int),.mv []):=by
  rw[ev,ei,aA];show (gN (some (iE k c))).bind _=_;rw[bQ,aA,hr];by_cases hi:iE k c=true
  ·rw[if_pos hi,if_pos hi];exact cR (y:=1) (vr rs r ch hf) (aH _)
  ·rw[if_neg hi,if_neg hi];exact aH _
 have g1:=zc (T:=T) (x:=2) (m:=.int (r':Int)) (kT (t:=t) (B:=B) (rs:=rs) (s:=s) (ch:=ch) (aB (.int (k:Int)))) rfl (iq hl (by decide)) (aC (i:=5) (d:=.int (k:Int)) (t:=.own) rfl rfl) ev1 rfl;rw[hp] at g1;have g1:aV T (.putd 2 (.var 5) (.ite (.cmp .In (.ix (.var 0) (.var 3)) (.ix (.glb 3) (.var 5))) (.bin .Add (.ix (.var 2) (.var 5)) (.cst (.int (1)))) (.cst (.int (0))))) (EB t B rs s ch (sN k)) = .nx (EB t B rs' s ch (sN k)):=g1;have e2:ev T (.call 4 (.cons (.var 1) (.cons (.var 3) (.cons (.var 5) (.cons (.ix (.var 2) (.var 5)) .nil))))) (EB t B rs' s ch (sN k)) = .ok (qs (sF k B s (min r' 64)),.mv []) :=
  FG (be (d:=qs B) rfl rfl) (aC rfl rfl) (aC rfl rfl) (vr rs' r' ch hf') (hck B s k r' h1 h3 hB)
 have g2:=lj (x:=4) (xs:=ch.map q4) (ys:=(sF k B s (min r' 64)).map q4) (kT (t:=t) (B:=B) (rs:=rs') (s:=s) (ch:=ch) (aB (.int (k:Int)))) rfl e2 (lH _) (by rw[ao,ao,kU];exact iQ (by omega));have g2:aV T (.mut 4 .none .extend (.cons (.call 4 (.cons (.var 1) (.cons (.var 3) (.cons (.var 5) (.cons (.ix (.var 2) (.var 5)) .nil))))) .nil)) (EB t B rs' s ch (sN k)) = .nx (EB t B rs' s (ch++sF k B s (min r' 64)) (sN k)):=by
  rw[g2,<-ie];rfl
 unfold AQ;rw[aF,g1,aD,aF,g2,aD,aF]
noncomputable def r3 (a b c:Nat):List (Int×MV):=[(1,.int (a:Int)),(2,.int (b:Int)),(3,.int (c:Int))]
theorem jL (k c:Nat)(r:List Nat):rn k (c::r)=if iE k c then rn k r+1 else 0:=by rw[rn]
theorem Ae (s:Nat)(x z:Q4)(C:List Q4):((List.replicate (s+1) z++C).map q4).set s (q4 x)=(List.replicate s z++x::C).map q4:=by
 induction s with
 |zero=>rfl
 |succ s ih =>
  show q4 z::((List.replicate (s+1) z++C).map q4).set s (q4 x)=_;rw[ih];rfl
theorem CT {T:Tb}(hg:GL T)(hck:yL T){t r:List Nat}{s c:Nat}{a4 a5:Slot}(h4:aK a4)(h5:aK a5)(ht:t.length<=900)(hd:t.drop s=c::r)(hc:c<128)(hany:iE 3 c=true) :
  ∃ ch,aF T Bx [sT t,oQ (List.replicate (s+1) z4++bc r),mp (r3 (rn 1 r) (rn 2 r) (rn 3 r)),sN s,a4,a5] = .nx [sT t,oQ (List.replicate s z4++bc (c::r)),mp (r3 (rn 1 (c::r)) (rn 2 (c::r)) (rn 3 (c::r))),sN s,oQ ch,sN 3]:=by
 have hts:t[s]? = some c:=by
  have:=gx (fun l:List Nat=>l[0]?) hd;simpa using this
 have hlen:t.length=s+(r.length+1):=by
  have h1:=gx List.length hd;rw[c9,aw] at h1;omega
 have hB:∀ k,s+min (rn k (c::r)) 64<(List.replicate (s+1) z4++bc r).length:=fun k=>by
  rw[ag,bo,lx];have:=uu k (c::r);rw[aw] at this;omega
 have t0:Tame [sT t,oQ (List.replicate (s+1) z4++bc r),mp (r3 (rn 1 r) (rn 2 r) (rn 3 r)),sN s,a4,a5]:=.cons (aB _) (.cons (aB _) (.cons (aB _) (.cons (aB _) (.cons h4 (.cons h5 .nil)))));have g1:aV T (.asg (.nm 4) (.lst .nil) false) [sT t,oQ (List.replicate (s+1) z4++bc r),mp (r3 (rn 1 r) (rn 2 r) (rn 3 r)),sN s,a4,a5] = .nx (EB t (List.replicate (s+1) z4++bc r) (r3 (rn 1 r) (rn 2 r) (rn 3 r)) s [] a5):=aL t0 (show (4:Nat)<6 by decide) (by rw[ev,aX];rfl);have hit:eX T (.seq (.blt .list (.cons (.var 2) .nil))) (EB t (List.replicate (s+1) z4++bc r) (r3 (rn 1 r) (rn 2 r) (rn 3 r)) s [] a5) = .ok ([.int ((1:Nat):Int),.int ((2:Nat):Int),.int ((3:Nat):Int)],[]):=AG (ks:=r3 (rn 1 r) (rn 2 r) (rn 3 r)) rfl (by show (3:Nat)<=lim;decide);have i1:=yF hg hck (k:=1) (r:=rn 1 r) (r':=rn 1 (c::r)) (rs:=r3 (rn 1 r) (rn 2 r) (rn 3 r)) (rs':=r3 (rn 1 (c::r)) (rn 2 r) (rn 3 r)) (ch:=[]) ht hc hts (by decide) (by decide) (jL 1 c r) rfl rfl rfl (by show (3:Nat)<=3;decide) (hB 1) (by show (0:Nat)<=500;decide);have i2:=yF hg hck (k:=2) (r:=rn 2 r) (r':=rn 2 (c::r)) (rs:=r3 (rn 1 (c::r)) (rn 2 r) (rn 3 r)) (rs':=r3 (rn 1 (c::r)) (rn 2 (c::r)) (rn 3 r)) (ch:=[]++sF 1 (List.replicate (s+1) z4++bc r) s (min (rn 1 (c::r)) 64)) ht hc hts (by decide) (by decide) (jL 2 c r) rfl rfl rfl (by show (3:Nat)<=3;decide) (hB 2) (by rw[cz,kU];omega);have i3:=yF hg hck (k:=3) (r:=rn 3 r) (r':=rn 3 (c::r)) (rs:=r3 (rn 1 (c::r)) (rn 2 (c::r)) (rn 3 r)) (rs':=r3 (rn 1 (c::r)) (rn 2 (c::r)) (rn 3 (c::r))) (ch:=[]++sF 1 (List.replicate (s+1) z4++bc r) s (min (rn 1 (c::r)) 64)++sF 2 (List.replicate (s+1) z4++bc r) s (min (rn 2 (c::r)) 64)) ht hc hts (by decide) (by decide) (jL 3 c r) rfl rfl rfl (by show (3:Nat)<=3;decide) (hB 3) (by rw[cz,ag,kU,kU];omega);have bk:∀(rs:List (Int×MV)) (ch:List Q4) (a5:Slot) (k:Nat),aK a5->aZ [] (.nm 5) (.int (k:Int)) (EB t (List.replicate (s+1) z4++bc r) rs s ch a5)=some (EB t (List.replicate (s+1) z4++bc r) rs s ch (sN k)):=fun rs ch a5 k h=>bY (kT h) (show (5:Nat)<6 by decide)
 have g2:=cF hit (show bU (.nm 5) [] (aF T AQ) [.int ((1:Nat):Int),.int ((2:Nat):Int),.int ((3:Nat):Int)] (EB t (List.replicate (s+1) z4++bc r) (r3 (rn 1 r) (rn 2 r) (rn 3 r)) s [] a5) = .nx _ by
  rw[bB (bk _ _ _ 1 h5) i1,bB (bk _ _ _ 2 (aB _)) i2,bB (bk _ _ _ 3 (aB _)) i3];rfl)
 rw[oo,oo,oo,cz] at g2;have hca:va 1 (bc r) (min (rn 1 (c::r)) 64)++va 2 (bc r) (min (rn 2 (c::r)) 64)++va 3 (bc r) (min (rn 3 (c::r)) 64)=qA (c::r) (bc r):=rfl;rw[hca] at g2;have hne:qA (c::r) (bc r)≠[]:=by
  intro z;have:=gx List.length z;unfold qA at this;rw[ag,ag,ja,ja,ja,jL 3,if_pos hany] at this;have h0:([]:List Q4).length=0:=rfl;omega
 have em:ev T (.blt .min2 (.cons (.var 4) .nil)) (EB t (List.replicate (s+1) z4++bc r) (r3 (rn 1 (c::r)) (rn 2 (c::r)) (rn 3 (c::r))) s (qA (c::r) (bc r)) (sN 3)) = .ok (q4 (Af (qA (c::r) (bc r))),.mv []):=by
  rw[ev,aX,be (i:=4) (d:=qs (qA (c::r) (bc r))) rfl rfl,aA,aX,aA,aA,j6];show (gN (minD ((qA (c::r) (bc r)).map q4))).bind _=_;rw[Gf hne];rfl
 have g3:=t9 (x:=1) (k:=.var 3) (xs:=(List.replicate (s+1) z4++bc r).map q4) (l:=(s:Int)) (m:=s) (kT (t:=t) (B:=List.replicate (s+1) z4++bc r) (rs:=r3 (rn 1 (c::r)) (rn 2 (c::r)) (rn 3 (c::r))) (s:=s) (ch:=qA (c::r) (bc r)) (aB (.int ((3:Nat):Int)))) rfl (aC (T:=T) rfl rfl) (by
  rw[ao,ag,bo];exact lT (by omega)) em (by rw[ao,ag,bo,lx];exact iQ (by omega))
 have hset:((List.replicate (s+1) z4++bc r).map q4).set s (q4 (Af (qA (c::r) (bc r))))=(List.replicate s z4++bc (c::r)).map q4:=by
  rw[show bc (c::r)=Af (qA (c::r) (bc r))::bc r by rw[bc]];exact Ae s _ _ _
 rw[hset] at g3;refine⟨qA (c::r) (bc r),?_⟩;unfold Bx;rw[aF,g1,aD,aF,g2,aD,aF,g3,aD,aF];rfl
theorem AO (m:Nat):aQ (((m+1:Nat):Int) - 1) (-1) (m+1) = .int (m:Int)::aQ ((m:Int) - 1) (-1) m:=by
 rw[aQ,show (((m+1:Nat):Int) - 1)=(m:Int) by omega,show (m:Int) + -1=(m:Int) - 1 by omega]
theorem El {T:Tb}{env:En}{e1 e2 e3:Ex}{n:Nat}{R R' R2:Rt}(hn:n<=1000)(h1:ev T e1 env = .ok (.int ((n:Int) - 1),R))(h2:ev T e2 env = .ok (.int (-1),R'))(h3:ev T e3 env = .ok (.int (-1),R2)):eX T (.rng3 e1 e2 e3) env = .ok (aQ ((n:Int) - 1) (-1) n,[]):=by
 have hz:(Builtin.Range.rangeSize ((n:Int) - 1) (-1) (-1)).toNat=n:=by
  unfold Builtin.Range.rangeSize;rw[if_neg (by decide),show -(-1:Int)=1 from rfl,Int.ediv_one];by_cases h:(-1:Int)<(n:Int) - 1
  ·rw[if_pos h];omega
  ·rw[if_neg h];omega
 rw[eX,h1,aA,h2,aA,h3,aA];dsimp only;rw[hz,show eZ ((n:Int) - 1)=true by unfold eZ;exact cj ⟨by omega,by omega⟩];rfl
def Good (t:List Nat):Prop:=∀ c∈t,c<128/\iE 3 c=true
theorem t8 {T:Tb}(hg:GL T)(hck:yL T){t:List Nat}(ht:t.length<=900)(hG:Good t):∀(m:Nat) (a3 a4 a5:Slot),aK a3->aK a4->aK a5->m<=t.length->∃ b3 b4 b5,aK b3/\aK b4/\aK b5 /\
  bU (.nm 3) [] (aF T Bx) (aQ ((m:Int) - 1) (-1) m) [sT t,oQ (List.replicate m z4++bc (t.drop m)),mp (r3 (rn 1 (t.drop m)) (rn 2 (t.drop m)) (rn 3 (t.drop m))),a3,a4,a5] = .nx [sT t,oQ (bc t),mp (r3 (rn 1 t) (rn 2 t) (rn 3 t)),b3,b4,b5]
 |0,a3,a4,a5,h3,h4,h5,_=>⟨a3,a4,a5,h3,h4,h5,rfl⟩
 | m+1,a3,a4,a5,h3,h4,h5,hm=>by
  have hlt:m<t.length:=by omega
  have hd:t.drop m=t[m]::t.drop (m+1):=fh hlt;obtain⟨g1,g2⟩:=hG t[m] (i0 hlt);obtain⟨ch,st⟩:=CT hg hck h4 h5 ht hd g1 g2;rw[<-hd] at st;obtain⟨b3,b4,b5,u3,u4,u5,q⟩:=t8 hg hck ht hG m (sN m) (oQ ch) (sN 3) (aB _) (aB _) (aB _) (by omega);refine⟨b3,b4,b5,u3,u4,u5,?_⟩;have hb:aZ [] (.nm 3) (.int (m:Int)) [sT t,oQ (List.replicate (m+1) z4++bc (t.drop (m+1))),mp (r3 (rn 1 (t.drop (m+1))) (rn 2 (t.drop (m+1))) (rn 3 (t.drop (m+1)))),a3,a4,a5]=some [sT t,oQ (List.replicate (m+1) z4++bc (t.drop (m+1))),mp (r3 (rn 1 (t.drop (m+1))) (rn 2 (t.drop (m+1))) (rn 3 (t.drop (m+1)))),sN m,a4,a5] :=
   bY (.cons (aB _) (.cons (aB _) (.cons (aB _) (.cons h3 (.cons h4 (.cons h5 .nil)))))) (show (3:Nat)<6 by decide)
  rw[AO,bB hb st,q]
theorem G4 {j:Int}(h0:0<=j)(h1:j<=1000):mM .Mult (.lst [q4 z4]) (.int j)=some (qs (List.replicate j.toNat z4)):=by
 show (if -(2 ^ 63)<=j/\j<2 ^ 63 then (if D.flats [q4 z4] then ck (1*j.toNat) (.lst (List.replicate j.toNat [q4 z4]).flatten) else none) else none)=_;rw[if_pos ⟨by omega,by omega⟩,if_pos (show D.flats [q4 z4]=true from rfl)];unfold ck;rw[if_pos (iQ (by omega)),List.flatten_replicate_singleton];unfold qs;rw[List.map_replicate]
theorem Dr {T:Tb}(hg:GL T)(hck:yL T){t:List Nat}(ht:t.length<=900)(hG:Good t):ret (aF T bBC (aG [.str (tx t)] 6)) = .ok (qs (bc t),true):=by
 have hst:aG [.str (tx t)] 6=[sT t,none,none,none,none,none]:=rfl;have tn:=aN;have el:ev T (.lst (.cons (.tup (.cons (.cst (.int (0))) (.cons (.cst (.int (0))) (.cons (.cst (.int (0))) (.cons (.cst (.int (0))) .nil))))) .nil)) [sT t,none,none,none,none,none] = .ok (.lst [q4 z4],.mv []):=by
  rw[ev,aX,uD (aH _) (aH _) (aH _) (aH _),aA,aX,aA,aA];rfl
 have en:ev T (.bin .Add (.blt .len (.cons (.var 0) .nil)) (.cst (.int (1)))) [sT t,none,none,none,none,none] = .ok (.int ((t.length+1:Nat):Int),.mv []):=cR (y:=1) (gW (by omega) (aC rfl rfl)) (aH _);have em:ev T (.bin .Mult (.lst (.cons (.tup (.cons (.cst (.int (0))) (.cons (.cst (.int (0))) (.cons (.cst (.int (0))) (.cons (.cst (.int (0))) .nil))))) .nil)) (.bin .Add (.blt .len (.cons (.var 0) .nil)) (.cst (.int (1))))) [sT t,none,none,none,none,none] = .ok (qs (List.replicate (t.length+1) z4),.mv []):=by
  have hm:mM .Mult (.lst [q4 z4]) (.int ((t.length+1:Nat):Int))=some (qs (List.replicate (t.length+1) z4)):=by
   rw[G4 (by omega) (by omega),dm]
  rw[ev,el,aA,en,aA,hm,bQ,aA];unfold qs;rw[qz (lH _)]
 have g1:aV T (.asg (.nm 1) (.bin .Mult (.lst (.cons (.tup (.cons (.cst (.int (0))) (.cons (.cst (.int (0))) (.cons (.cst (.int (0))) (.cons (.cst (.int (0))) .nil))))) .nil)) (.bin .Add (.blt .len (.cons (.var 0) .nil)) (.cst (.int (1))))) false) [sT t,none,none,none,none,none] = .nx [sT t,oQ (List.replicate (t.length+1) z4),none,none,none,none] :=
  aL (.cons (aB _) (.cons tn (.cons tn (.cons tn (.cons tn (.cons tn .nil)))))) (show (1:Nat)<6 by decide) em
 have ed:ev T (.ddsp [(0,0),(1,0),(2,0)]) [sT t,oQ (List.replicate (t.length+1) z4),none,none,none,none] = .ok (.mpi (r3 0 0 0),.mv []):=by
  rw[ev];have:oj T.gl [(0,0),(1,0),(2,0)] []=some (r3 0 0 0):=by
   unfold oj oj oj oj;rw[hg 0 (by decide),hg 1 (by decide),hg 2 (by decide)];rfl
  rw[this];rfl
 have g2:aV T (.asg (.nm 2) (.ddsp [(0,0),(1,0),(2,0)]) false) [sT t,oQ (List.replicate (t.length+1) z4),none,none,none,none] = .nx [sT t,oQ (List.replicate (t.length+1) z4),mp (r3 0 0 0),none,none,none] :=
  aL (.cons (aB _) (.cons (aB _) (.cons tn (.cons tn (.cons tn (.cons tn .nil)))))) (show (2:Nat)<6 by decide) ed
 have hit:eX T (.rng3 (.bin .Sub (.blt .len (.cons (.var 0) .nil)) (.cst (.int (1)))) (.neg (.cst (.int (1)))) (.neg (.cst (.int (1))))) [sT t,oQ (List.replicate (t.length+1) z4),mp (r3 0 0 0),none,none,none] = .ok (aQ ((t.length:Int) - 1) (-1) t.length,[]) :=
  El (by omega) (qo (gW (by omega) (aC rfl rfl)) (aH _)) (by rw[ev,aH];rfl) (by rw[ev,aH];rfl)
 obtain⟨b3,b4,b5,u3,u4,u5,q⟩:=t8 hg hck ht hG t.length none none none tn tn tn (au _);rw[h9,show bc []=[z4] by rw[bc],<-List.replicate_succ'] at q;have g3:=cF hit q;rw[hst];unfold bBC;rw[aF,g1,aD,aF,g2,aD,aF,g3,aD,aF,aV,be (i:=1) (d:=qs (bc t)) rfl rfl];rfl
def Hq (T:Tb):Prop:=∀ t:List Nat,t.length<=900->Good t->T.cl 3 [.str (tx t)] = .ok (qs (bc t),true)
noncomputable abbrev Pe:=Nat×List Nat
noncomputable def pD (p:Pe):D:=.tup [.int (p.1:Int),.str (tx p.2)]
noncomputable def hd (t:List Nat):Q4:=(bc t).getD 0 z4
theorem tq:∀(s:Nat) (t:List Nat),s<=t.length->(bc t).drop s=bc (t.drop s)
 |0,t,_=>rfl
 |s+1,[],h=>absurd h (by simp)
 | s+1,c::r,h=>by
  rw[bc,List.drop_succ_cons,List.drop_succ_cons];exact tq s r (by rw[aw] at h;omega)
theorem G5 (t:List Nat)(s:Nat)(h:s<=t.length):(bc t)[s]? = some (hd (t.drop s)):=by
 have hl:s<(bc t).length:=by rw[lx];omega
 have h0:0<(bc (t.drop s)).length:=by rw[lx];omega
 unfold hd;rw[List.getD_eq_getElem?_getD,<-tq s t h,List.getElem?_drop,Nat.add_zero,List.getElem?_eq_getElem hl];rfl
theorem ya (k:Nat):∀(t:List Nat) (m:Nat),m<=rn k t->∀ c∈t.take m,iE k c=true
 |[],m,_,c,hc=>by rw[List.take_nil] at hc;cases hc
 |a::r,0,_,c,hc=>by cases hc
 | a::r,m+1,h,c,hc=>by
  unfold rn at h;split at h
  ·rename_i ha;rw[List.take_succ_cons] at hc;rcases iy.mp hc with rfl | hc
   ·exact ha
   ·exact ya k r m (by omega) c hc
  ·omega
theorem zN {k:Nat}{C:List Q4}{m:Nat}{q:Q4}(h:q∈va k C m):∃ j,j<m/\q=one k (j+1) (C.getD j z4):=by
 unfold va at h;obtain⟨j,hj,rfl⟩:=List.mem_map.mp h;exact⟨j,List.mem_range.mp hj,rfl⟩
structure ud (t:List Nat)(q:Q4):Prop where
 k1:1<=q.2.2.1
 k3:q.2.2.1<=3
 c1:1<=q.2.2.2
 c64:q.2.2.2<=64
 run:q.2.2.2<=rn q.2.2.1 t
theorem uZ {t:List Nat}{C:List Q4}{q:Q4}(h:q∈qA t C):ud t q:=by
 have key:∀ k,1<=k->k<=3->q∈va k C (min (rn k t) 64)->ud t q:=fun k h1 h3 hm=>by
  obtain⟨j,hj,rfl⟩:=zN hm;exact⟨h1,h3,Nat.succ_le_succ (dk j),show j+1<=64 by omega,show j+1<=rn k t by omega⟩
 unfold qA at h;rcases List.mem_append.mp h with h | h
 ·rcases List.mem_append.mp h with h | h
  ·exact key 1 (by decide) (by decide) h
  ·exact key 2 (by decide) (by decide) h
 ·exact key 3 (by decide) (by decide) h
theorem DE {c:Nat}{r:List Nat}{C:List Q4}(h:iE 3 c=true):qA (c::r) C≠[]:=by
 intro z;have:=gx List.length z;unfold qA at this;rw[ag,ag,ja,ja,ja,jL 3,if_pos h] at this;have h0:([]:List Q4).length=0:=rfl;omega
theorem zX (c:Nat)(r:List Nat):hd (c::r)=Af (qA (c::r) (bc r)):=by
 unfold hd;rw[bc];rfl
theorem me {c:Nat}{r:List Nat}(h:iE 3 c=true):ud (c::r) (hd (c::r)):=by
 rw[zX];exact uZ (A8 (DE h))
noncomputable def pc:Nat->List Nat->List Pe
 |0,_=>[]
 |n+1,t=>if t.isEmpty then [] else ((hd t).2.2.1,t.take (hd t).2.2.2)::pc n (t.drop (hd t).2.2.2)
theorem oN (n c:Nat)(r:List Nat):pc (n+1) (c::r)=((hd (c::r)).2.2.1,(c::r).take (hd (c::r)).2.2.2)::pc n ((c::r).drop (hd (c::r)).2.2.2):=by
 rw[pc];rfl
theorem rf:∀ n,pc n []=[]
 |0=>rfl
 |n+1=>rfl
noncomputable def AU:bJ:=(.cons (.asg (.nm 4) (.ix (.ix (.var 1) (.var 3)) (.cst (.int (2)))) false)
  (.cons (.asg (.nm 5) (.bin .Add (.var 3) (.ix (.ix (.var 1) (.var 3)) (.cst (.int (3))))) false)
  (.cons (.mut 2 .none .append (.cons (.tup (.cons (.var 4) (.cons (.sl (.var 0) (.some (.var 3)) (.some (.var 5))) .nil))) .nil))
  (.cons (.asg (.nm 3) (.var 5) false)
  .nil))))
noncomputable def bCT:bJ:=(.cons (.expr (.call 2 (.cons (.var 0) .nil)))
  (.cons (.asg (.nm 1) (.call 3 (.cons (.var 0) .nil)) false)
  (.cons (.asg (.nm 2) (.lst .nil) false)
  (.cons (.asg (.nm 3) (.cst (.int (0))) false)
  (.cons (.whl (.cmp .Lt (.var 3) (.blt .len (.cons (.var 0) .nil))) AU)
  (.cons (.ret (.var 2))
  .nil))))))
noncomputable abbrev oP (l:List Pe):Slot:=some (.lst (l.map pD),.own)
noncomputable abbrev EC (t:List Nat)(B:List Q4)(P:List Pe)(s:Nat)(a4 a5:Slot):En:=[sT t,oQ B,oP P,sN s,a4,a5]
theorem kR {t:List Nat}{B:List Q4}{P:List Pe}{s:Nat}{a4 a5:Slot}(h4:aK a4)(h5:aK a5):Tame (EC t B P s a4 a5):=.cons (aB _) (.cons (aB _) (.cons (aB _) (.cons (aB _) (.cons h4 (.cons h5 .nil)))))
theorem Iv {T:Tb}{t:List Nat}{B:List Q4}{P:List Pe}{s:Nat}{q:Q4}{a4 a5:Slot}(h4:aK a4)(h5:aK a5)(ht:t.length<=900)(hq:B[s]? = some q)(hs:s+q.2.2.2<=t.length)(hP:P.length<=900) :
  aF T AU (EC t B P s a4 a5) = .nx (EC t B (P ++ [(q.2.2.1,(t.drop s).take q.2.2.2)]) (s+q.2.2.2) (sN q.2.2.1) (sN (s+q.2.2.2))):=by
 have vq:∀ a4 a5,ev T (.ix (.var 1) (.var 3)) (EC t B P s a4 a5) = .ok (q4 q,.mv []):=fun a4 a5=>jX (ds:=B.map q4) (i:=s) (be (d:=qs B) rfl rfl) (aC rfl rfl) (by rw[List.getElem?_map,hq];rfl) (ua q)
 have e1:ev T (.ix (.ix (.var 1) (.var 3)) (.cst (.int (2)))) (EC t B P s a4 a5) = .ok (.int (q.2.2.1:Int),.mv []):=cO (i:=2) (vq _ _) (aH _) rfl rfl;have g1:aV T (.asg (.nm 4) (.ix (.ix (.var 1) (.var 3)) (.cst (.int (2)))) false) (EC t B P s a4 a5) = .nx (EC t B P s (sN q.2.2.1) a5):=aL (kR h4 h5) (show (4:Nat)<6 by decide) e1;have e2:ev T (.ix (.ix (.var 1) (.var 3)) (.cst (.int (3)))) (EC t B P s (sN q.2.2.1) a5) = .ok (.int (q.2.2.2:Int),.mv []):=cO (i:=3) (vq _ _) (aH _) rfl rfl;have e3:ev T (.bin .Add (.var 3) (.ix (.ix (.var 1) (.var 3)) (.cst (.int (3))))) (EC t B P s (sN q.2.2.1) a5) = .ok (.int ((s+q.2.2.2:Nat):Int),.mv []):=cR (aC rfl rfl) e2;have g2:aV T (.asg (.nm 5) (.bin .Add (.var 3) (.ix (.ix (.var 1) (.var 3)) (.cst (.int (3))))) false) (EC t B P s (sN q.2.2.1) a5) = .nx (EC t B P s (sN q.2.2.1) (sN (s+q.2.2.2))):=aL (kR (aB _) h5) (show (5:Nat)<6 by decide) e3;have e4:ev T (.sl (.var 0) (.some (.var 3)) (.some (.var 5))) (EC t B P s (sN q.2.2.1) (sN (s+q.2.2.2))) = .ok (.str (tx ((t.drop s).take q.2.2.2)),.mv []):=oR (by omega) (aC rfl rfl) (eR (aC (d:=.int (s:Int)) (t:=.own) rfl rfl)) (eR (aC (d:=.int ((s+q.2.2.2:Nat):Int)) (t:=.own) rfl rfl)) (Ai t s q.2.2.2 hs);have e5:=yV (aC (T:=T) (env:=EC t B P s (sN q.2.2.1) (sN (s+q.2.2.2))) (i:=4) (d:=.int (q.2.2.1:Int)) (t:=.own) rfl rfl) e4;have g3:=jK (x:=2) (xs:=P.map pD) (kR (t:=t) (B:=B) (P:=P) (s:=s) (aB (.int (q.2.2.1:Int))) (aB (.int ((s+q.2.2.2:Nat):Int)))) rfl e5 (by rw[ao];exact iQ (by omega));have g3:aV T (.mut 2 .none .append (.cons (.tup (.cons (.var 4) (.cons (.sl (.var 0) (.some (.var 3)) (.some (.var 5))) .nil))) .nil)) (EC t B P s (sN q.2.2.1) (sN (s+q.2.2.2))) = .nx (EC t B (P ++ [(q.2.2.1,(t.drop s).take q.2.2.2)]) s (sN q.2.2.1) (sN (s+q.2.2.2))):=by
  rw[g3,show (P.map pD ++ [D.tup [.int (q.2.2.1:Int),.str (tx ((t.drop s).take q.2.2.2))]])=(P ++ [(q.2.2.1,(t.drop s).take q.2.2.2)]).map pD by rw[ie];rfl];rfl
 have g4:aV T (.asg (.nm 3) (.var 5) false) (EC t B (P ++ [(q.2.2.1,(t.drop s).take q.2.2.2)]) s (sN q.2.2.1) (sN (s+q.2.2.2))) = .nx (EC t B (P ++ [(q.2.2.1,(t.drop s).take q.2.2.2)]) (s+q.2.2.2) (sN q.2.2.1) (sN (s+q.2.2.2))):=aL (kR (aB _) (aB _)) (show (3:Nat)<6 by decide) (aC rfl rfl);unfold AU;rw[aF,g1,aD,aF,g2,aD,aF,g3,aD,aF,g4,aD,aF]
theorem uA {T:Tb}{t:List Nat}{B:List Q4}{P:List Pe}{s:Nat}{a4 a5:Slot}(ht:t.length<=900):((ev T (.cmp .Lt (.var 3) (.blt .len (.cons (.var 0) .nil))) (EC t B P s a4 a5)).bind fun p=>gN (truth p.1)) = .ok (decide (s<t.length)):=by
 rw[oE (x:=s) (y:=t.length) (aC rfl rfl) (gW (by omega) (aC rfl rfl)),aA];rfl
theorem Good.drop {t:List Nat}(h:Good t)(n:Nat):Good (t.drop n):=fun c hc=>h c (List.mem_of_mem_drop hc)
theorem xn {T:Tb}{t:List Nat}(ht:t.length<=900)(hG:Good t):∀(n f s:Nat) (P:List Pe) (a4 a5:Slot),aK a4->aK a5->s<=t.length->t.length - s<=n->n<f->P.length+n<=900->∃ b4 b5,
  fW (fun env=>(ev T (.cmp .Lt (.var 3) (.blt .len (.cons (.var 0) .nil))) env).bind fun p=>gN (truth p.1)) (aF T AU) f (EC t (bc t) P s a4 a5) = .nx (EC t (bc t) (P++pc n (t.drop s)) t.length b4 b5)
 |n,0,s,P,a4,a5,_,_,_,_,h,_=>absurd h (Nat.not_lt_zero _)
 | n,f+1,s,P,a4,a5,h4,h5,hs,hn,hf,hP=>by
  by_cases hlt:s<t.length
  ·have hd':t.drop s=t[s]::t.drop (s+1):=fh hlt;obtain⟨g1,g2⟩:=hG t[s] (i0 hlt);have F:ud (t.drop s) (hd (t.drop s)):=by rw[hd'];exact me g2
   have hr:=uu (hd (t.drop s)).2.2.1 (t.drop s);have hrun:=F.run;have hc1:=F.c1;rw[c9] at hr;cases n with
   |zero=>omega
   |succ n =>
    obtain⟨b4,b5,q⟩:=xn ht hG n f (s+(hd (t.drop s)).2.2.2) (P ++ [((hd (t.drop s)).2.2.1,(t.drop s).take (hd (t.drop s)).2.2.2)]) (sN (hd (t.drop s)).2.2.1) (sN (s+(hd (t.drop s)).2.2.2)) (aB _) (aB _) (by omega) (by omega) (by omega) (by rw[ag,br];omega);refine⟨b4,b5,?_⟩;have hp:pc (n+1) (t.drop s)=((hd (t.drop s)).2.2.1,(t.drop s).take (hd (t.drop s)).2.2.2)::pc n ((t.drop s).drop (hd (t.drop s)).2.2.2):=by
     rw[hd',oN,<-hd']
    rw[w9 (by rw[uA ht,cj hlt]) (Iv h4 h5 ht (G5 t s hs) (by omega) (by omega)),q,hp,List.drop_drop,cf];rfl
  ·have e:s=t.length:=by omega
   refine⟨a4,a5,?_⟩;rw[w8 (by rw[uA ht,az hlt]),e,h9,rf,ax]
noncomputable def Ah:bJ:=(.cons (.ite (.cmp .NotIn (.var 2) (.ix (.glb 3) (.glb 2))) (.cons (.expr (.neg (.cst .non)))
  .nil) .nil)
  .nil)
noncomputable def bRS:bJ:=(.cons (.forr (.tp [1,2]) (.enum (.var 0)) Ah)
  .nil)
noncomputable def Cr (i:Nat)(t:List Nat):List D:=((t.map fun c=>D.str (tx [c])).zipIdx i).map fun q=>.tup [.int (q.2:Int),q.1]
theorem jr (i c:Nat)(t:List Nat):Cr i (c::t) = .tup [.int (i:Int),.str (tx [c])]::Cr (i+1) t:=rfl
theorem zu {T:Tb}{env:En}{e:Ex}{t:List Nat}(h:ev T e env = .ok (.str (tx t),.mv [])):eX T (.enum e) env = .ok (Cr 0 t,[]):=by
 rw[eX,h,aA];rfl
theorem Hc {T:Tb}(hg:GL T){env:En}{a:Ex}{c:Nat}{R:Rt}(hc:c<128)(ha:ev T a env = .ok (.str (tx [c]),R)):ev T (.cmp .NotIn a (.ix (.glb 3) (.glb 2))) env = .ok (.bl (!iE 3 c),.mv []):=by
 have e1:ev T (.ix (.glb 3) (.glb 2)) env = .ok (.str (KS 3),.mv []):=cO (i:=3) (aR (hg 3 (by decide))) (aR (hg 2 (by decide))) rfl rfl;rw[ev,ha,aA,e1,aA];show (gN ((some (qQ (tx [c]) (KS 3))).map (!·))).bind _=_;rw[kP c hc 3 (by decide)];rfl
theorem tL {t:List Nat}{a1 a2:Slot}(h1:aK a1)(h2:aK a2)(i c:Nat):aZ [] (.tp [1,2]) (.tup [.int (i:Int),.str (tx [c])]) [sT t,a1,a2]=some [sT t,sN i,sT [c]]:=mO (.cons (aB _) (.cons h1 (.cons h2 .nil))) (show (1:Nat)<3 by decide) (show (2:Nat)<3 by decide) rfl rfl
theorem tV {T:Tb}(hg:GL T){t:List Nat}:∀(l:List Nat) (i:Nat) (a1 a2:Slot),aK a1->aK a2->Good l->∃ b1 b2,aK b1/\aK b2/\bU (.tp [1,2]) [] (aF T Ah) (Cr i l) [sT t,a1,a2] = .nx [sT t,b1,b2]
 |[],i,a1,a2,h1,h2,_=>⟨a1,a2,h1,h2,rfl⟩
 | c::l,i,a1,a2,h1,h2,hG=>by
  obtain⟨g1,g2⟩:=hG c ak;obtain⟨b1,b2,u1,u2,q⟩:=tV hg (t:=t) l (i+1) (sN i) (sT [c]) (aB _) (aB _) fun d hd=>hG d (ah _ hd)
  refine⟨b1,b2,u1,u2,?_⟩;have e1:=Hc hg g1 (aC (T:=T) (env:=[sT t,sN i,sT [c]]) (i:=2) (d:=.str (tx [c])) (t:=.own) rfl rfl);rw[g2] at e1;rw[jr,bB (tL h1 h2 i c) (show aF T Ah [sT t,sN i,sT [c]] = .nx [sT t,sN i,sT [c]] by unfold Ah;rw[aF,ite_ff e1,aD,aF]),q]
theorem Ib {T:Tb}(hg:GL T){t:List Nat}(hG:Good t):ret (aF T bRS (aG [.str (tx t)] 3)) = .ok (.non,true):=by
 have hst:aG [.str (tx t)] 3=[sT t,none,none]:=rfl;obtain⟨b1,b2,u1,u2,q⟩:=tV hg (t:=t) t 0 none none aN aN hG;rw[hst];unfold bRS;rw[aF,cF (zu (aC rfl rfl)) q,aD,aF];rfl
def Hl (T:Tb):Prop:=∀ t:List Nat,Good t->T.cl 2 [.str (tx t)] = .ok (.non,true)
theorem Hx {T:Tb}(hf:1000<=T.fuel)(hrs:Hl T)(hbc:Hq T){t:List Nat}(ht:t.length<=400)(hG:Good t):ret (aF T bCT (aG [.str (tx t)] 6)) = .ok (.lst ((pc t.length t).map pD),true):=by
 have hst:aG [.str (tx t)] 6=[sT t,none,none,none,none,none]:=rfl;have tn:=aN;have g0:aV T (.expr (.call 2 (.cons (.var 0) .nil))) [sT t,none,none,none,none,none] = .nx [sT t,none,none,none,none,none]:=by
  rw[aV,fV (aC rfl rfl) (hrs t hG)];rfl
 have g1:aV T (.asg (.nm 1) (.call 3 (.cons (.var 0) .nil)) false) [sT t,none,none,none,none,none] = .nx [sT t,oQ (bc t),none,none,none,none] :=
  aL (.cons (aB _) (.cons tn (.cons tn (.cons tn (.cons tn (.cons tn .nil)))))) (show (1:Nat)<6 by decide) (fV (aC rfl rfl) (hbc t (by omega) hG))
 have g2:aV T (.asg (.nm 2) (.lst .nil) false) [sT t,oQ (bc t),none,none,none,none] = .nx [sT t,oQ (bc t),oP [],none,none,none] :=
  aL (.cons (aB _) (.cons (aB _) (.cons tn (.cons tn (.cons tn (.cons tn .nil)))))) (show (2:Nat)<6 by decide) (by rw[ev,aX];rfl)
 have g3:aV T (.asg (.nm 3) (.cst (.int (0))) false) [sT t,oQ (bc t),oP [],none,none,none] = .nx (EC t (bc t) [] 0 none none) :=
  aL (.cons (aB _) (.cons (aB _) (.cons (aB _) (.cons tn (.cons tn (.cons tn .nil)))))) (show (3:Nat)<6 by decide) (aH _)
 obtain⟨b4,b5,q⟩:=xn (T:=T) (show t.length<=900 by omega) hG t.length T.fuel 0 [] none none tn tn (dk _) (by omega) (by omega) (by rw[bz];omega);rw[hst];unfold bCT;rw[aF,g0,aD,aF,g1,aD,aF,g2,aD,aF,g3,aD,aF,aV,q,aD,aF,aV,be (i:=2) (d:=.lst ((pc t.length t).map pD)) rfl rfl];rfl
def FN (T:Tb):Prop:=∀ t:List Nat,t.length<=400->Good t->T.cl 1 [.str (tx t)] = .ok (.lst ((pc t.length t).map pD),true)
structure Piece (p:Pe):Prop where
 k1:1<=p.1
 k3:p.1<=3
 c1:1<=p.2.length
 c64:p.2.length<=64
 all:∀ c∈p.2,iE p.1 c=true
theorem gP:∀(n:Nat) (t:List Nat),Good t->∀ p∈pc n t,Piece p
 |0,t,_,p,hp=>by cases hp
 |n+1,[],_,p,hp=>by rw[rf] at hp;cases hp
 | n+1,c::r,hG,p,hp=>by
  rw[oN] at hp;have F:=me (r:=r) (hG c ak).2;have hl:(hd (c::r)).2.2.2<=(c::r).length:=bj F.run (uu _ _);rcases iy.mp hp with rfl | hp
  ·refine⟨F.k1,F.k3,?_,?_,ya _ _ _ F.run⟩
   ·show 1<=((c::r).take _).length;rw[bh,dz hl];exact F.c1
   ·show ((c::r).take _).length<=64;rw[bh,dz hl];exact F.c64
  ·exact gP n _ (hG.drop _) p hp
theorem kW:∀(n:Nat) (t:List Nat),Good t->t.length<=n->((pc n t).map (·.2)).flatten=t
 | 0,t,_,h=>by
  have:t=[]:=List.length_eq_zero_iff.mp (by omega);subst this;rfl
 |n+1,[],_,_=>by rw[rf];rfl
 | n+1,c::r,hG,h=>by
  have F:=me (r:=r) (hG c ak).2;have hc1:=F.c1;rw[oN,av,de,kW n _ (hG.drop _) (by rw[c9];omega)];exact List.take_append_drop _ _
open Pc.Fr (iD)
noncomputable def bMX:bJ:=(.cons (.asg (.nm 3) (.var 1) false)
  (.cons (.ite (.cmp .Gt (.blt .len (.cons (.var 0) .nil)) (.cst (.int (0)))) (.cons (.asg (.nm 3) (.ix (.var 0) (.bin .Mod (.var 1) (.blt .len (.cons (.var 0) .nil)))) false)
  .nil) .nil)
  (.cons (.ret (.bin .Mod (.bin .Add (.bin .Add (.bin .Add (.bin .Mult (.bin .Mod (.var 3) (.cst (.int (1000000007)))) (.cst (.int (69621)))) (.bin .Mult (.bin .Mult (.var 1) (.var 1)) (.cst (.int (7919))))) (.bin .Mult (.cst (.int (5))) (.var 1))) (.cst (.int (1234567)))) (.var 2)))
  .nil)))
noncomputable abbrev EM (cs:List Int)(k p:Int)(a:Slot):En:=[some (.lst (iD cs),.sh []),sI k,sI p,a]
theorem uj {cs:List Int}{k p:Int}{a:Slot}(h:aK a):Tame (EM cs k p a):=.cons (dX _) (.cons (aB _) (.cons (aB _) (.cons h .nil)))
theorem y4 {T:Tb}{cs:List Int}{k p v:Int}(hk:small k=true)(hp:0<p):∃ r,0<=r/\r<p/\ret (aF T (.cons (.ret (.bin .Mod (.bin .Add (.bin .Add (.bin .Add (.bin .Mult (.bin .Mod (.var 3) (.cst (.int (1000000007)))) (.cst (.int (69621)))) (.bin .Mult (.bin .Mult (.var 1) (.var 1)) (.cst (.int (7919))))) (.bin .Mult (.cst (.int (5))) (.var 1))) (.cst (.int (1234567)))) (.var 2))) .nil) (EM cs k p (sI v))) = .ok (.int r,true):=by
 have v1:ev T (.var 1) (EM cs k p (sI v)) = .ok (.int k,.mv []):=aC rfl rfl;have v2:ev T (.var 2) (EM cs k p (sI v)) = .ok (.int p,.mv []):=aC rfl rfl;have v3:ev T (.var 3) (EM cs k p (sI v)) = .ok (.int v,.mv []):=aC rfl rfl;have e1:=Fr.iN (by rw[show small 69621=true by decide,gy]) (dB (by decide) v3 (aH (.int 1000000007))) (aH (.int 69621));have e2:=Fr.iN (by rw[show small 7919=true by decide,gy]) (Fr.iN (by rw[hk];rfl) v1 v1) (aH (.int 7919));have e3:=Fr.iN (by rw[show small 5=true by decide];rfl) (aH (.int 5)) v1;have e4:=dB hp (bZ (bZ (bZ e1 e2) e3) (aH (.int 1234567))) v2;exact⟨_,fk _ (by omega),dt _ hp,eV e4⟩
theorem HY {T:Tb}{cs:List Int}{k p:Int}(hk:small k=true)(hp:0<p):∃ r,0<=r/\r<p/\ret (aF T bMX (aG [.lst (iD cs),.int k,.int p] 4)) = .ok (.int r,true):=by
 have hst:aG [.lst (iD cs),.int k,.int p] 4=EM cs k p none:=rfl;have g1:aV T (.asg (.nm 3) (.var 1) false) (EM cs k p none) = .nx (EM cs k p (sI k)):=aL (uj aN) (show (3:Nat)<4 by decide) (aC rfl rfl);obtain⟨R,v0⟩:∃ R,ev T (.var 0) (EM cs k p (sI k)) = .ok (.lst (iD cs),R):=eK rfl;have el:ev T (.blt .len (.cons (.var 0) .nil)) (EM cs k p (sI k)) = .ok (.int (cs.length:Int),.mv []):=by
  rw[dQ v0,show (iD cs).length=cs.length from ao ..]
 have ec:=pd (x:=cs.length) (y:=0) el (aH (.int 0));rw[hst];unfold bMX;rw[aF,g1,aD,aF,lL ec];by_cases h0:0<cs.length
 ·rw[if_pos h0];obtain⟨j,hj,hj2⟩:=iK (fk k (show (cs.length:Int)≠0 by omega)) (dt k (show (0:Int)<(cs.length:Int) by omega));have hj3:j<cs.length:=by omega
  have em:=dB (show (0:Int)<(cs.length:Int) by omega) (aC (T:=T) (env:=EM cs k p (sI k)) (i:=1) (d:=.int k) (t:=.own) rfl rfl) el;rw[hj] at em;have ex:=jX (i:=j) v0 em (by rw[List.getElem?_map,List.getElem?_eq_getElem hj3];rfl) rfl;have g2:aV T (.asg (.nm 3) (.ix (.var 0) (.bin .Mod (.var 1) (.blt .len (.cons (.var 0) .nil)))) false) (EM cs k p (sI k)) = .nx (EM cs k p (sI cs[j])):=aL (uj (aB _)) (show (3:Nat)<4 by decide) ex;rw[fS g2,aD];exact y4 hk hp
 ·rw[if_neg h0,gJ,aD];exact y4 hk hp
def xx (T:Tb):Prop:=∀(cs:List Int) (k p:Int),small k=true->0<p->∃ r,0<=r/\r<p/\T.cl 5 [.lst (iD cs),.int k,.int p] = .ok (.int r,true)
noncomputable def bSG:bJ:=(.cons (.ite (.cmp .Eq (.var 0) (.cst (.int (1)))) (.cons (.ret (.cst (.str ("0123456789" : PySem.Str))))
  .nil) .nil)
  (.cons (.ite (.cmp .Eq (.var 0) (.cst (.int (2)))) (.cons (.ret (.cst (.str (" ABCDEFGHIJKLMNOPQRSTUVWXYZ.,-:/" : PySem.Str))))
  .nil) .nil)
  (.cons (.asg (.nm 1) (.cst (.str (" !\"#$&'()*+,-./0123456789:;<=>?@ABCDEFGHIJKLMNOPQRSTUVWXYZ[\\]^_`" : PySem.Str))) false)
  (.cons (.ret (.bin .Add (.var 1) (.cst (.str ("abcdefghijklmnopqrstuvwxyz{|}~" : PySem.Str)))))
  .nil))))
theorem Im {T:Tb}{k:Nat}(h1:1<=k)(h3:k<=3):ret (aF T bSG (aG [.int (k:Int)] 2)) = .ok (.str (KS k),true):=by
 have:k=1\/k=2\/k=3:=by omega
 rcases this with rfl | rfl | rfl
 ·rfl
 ·rfl
 ·rfl
def HJ (T:Tb):Prop:=∀ k:Nat,1<=k->k<=3->T.cl 6 [.int (k:Int)] = .ok (.str (KS k),true)
noncomputable def vA:bJ:=(.cons (.asg (.nm 0) (.bin .Add (.bin .Mod (.bin .Mult (.var 0) (.cst (.int (48271)))) (.cst (.int (2147483647)))) (.var 4)) false)
  (.cons (.asg (.nm 3) (.bin .Add (.var 3) (.ix (.var 2) (.bin .Mod (.bin .FloorDiv (.var 0) (.cst (.int (64)))) (.blt .len (.cons (.var 2) .nil))))) false)
  .nil))
noncomputable def bRN:bJ:=(.cons (.asg (.nm 2) (.call 6 (.cons (.bin .Add (.cst (.int (1))) (.bin .Mod (.var 0) (.cst (.int (3))))) .nil)) false)
  (.cons (.asg (.nm 3) (.cst (.str ("" : PySem.Str))) false)
  (.cons (.forr (.nm 4) (.rng1 (.var 1)) vA)
  (.cons (.ret (.var 3))
  .nil))))
noncomputable abbrev ER (d n:Int)(S cs:List Nat)(a:Slot):En:=[sI d,sI n,sT S,sT cs,a]
theorem fD {d n:Int}{S cs:List Nat}{a:Slot}(h:aK a):Tame (ER d n S cs a):=.cons (aB _) (.cons (aB _) (.cons (aB _) (.cons (aB _) (.cons h .nil))))
theorem EN {cs:List Nat}(hl:cs.length<=1000){i:Int}(h0:0<=i)(h1:i<cs.length){T:Tb}{env:En}{a b:Ex}{R R':Rt}(ha:ev T a env = .ok (.str (tx cs),R))(hb:ev T b env = .ok (.int i,R')):∃ c∈cs,ev T (.ix a b) env = .ok (.str (tx [c]),.mv []):=by
 obtain⟨j,rfl,_⟩:=iK h0 h1;have hj:j<cs.length:=by omega
 exact⟨cs[j],i0 hj,wu hl ha hb (List.getElem?_eq_getElem hj)⟩
theorem HU {T:Tb}{d n k:Int}{S cs:List Nat}(hS:S.length<=100)(hS0:0<S.length)(hcs:cs.length<=200):∃ d',∃ c∈S,aF T vA (ER d n S cs (sI k)) = .nx (ER d' n S (cs ++ [c]) (sI k)):=by
 have e1:=bZ (dB (by decide) (Fr.iN (by rw[show small 48271=true by decide,gy]) (aC (T:=T) (env:=ER d n S cs (sI k)) (i:=0) (d:=.int d) (t:=.own) rfl rfl) (aH (.int 48271))) (aH (.int 2147483647))) (aC (i:=4) (d:=.int k) (t:=.own) rfl rfl);have g1:=aL (i:=0) (fD (d:=d) (n:=n) (S:=S) (cs:=cs) (aB (.int k))) (show (0:Nat)<5 by decide) e1;have g1:aV T (.asg (.nm 0) (.bin .Add (.bin .Mod (.bin .Mult (.var 0) (.cst (.int (48271)))) (.cst (.int (2147483647)))) (.var 4)) false) (ER d n S cs (sI k)) = .nx (ER (d*48271%2147483647+k) n S cs (sI k)):=g1;generalize d*48271%2147483647+k=d' at g1;have v2:ev T (.var 2) (ER d' n S cs (sI k)) = .ok (.str (tx S),.mv []):=aC rfl rfl;have e2:=dB (show (0:Int)<(S.length:Int) by omega) (gZ (by decide) (by decide) (aC (T:=T) (env:=ER d' n S cs (sI k)) (i:=0) (d:=.int d') (t:=.own) rfl rfl) (aH (.int 64))) (gW (by omega) v2);obtain⟨c,hc,e3⟩:=EN (by omega) (fk _ (by omega)) (dt _ (show (0:Int)<(S.length:Int) by omega)) v2 e2;have e4:=jR (aC (T:=T) (env:=ER d' n S cs (sI k)) (i:=3) (d:=.str (tx cs)) (t:=.own) rfl rfl) e3 (by rw[br];omega);have g2:=aL (i:=3) (fD (d:=d') (n:=n) (S:=S) (cs:=cs) (aB (.int k))) (show (3:Nat)<5 by decide) e4;refine⟨d',c,hc,?_⟩;unfold vA;rw[aF,g1,aD,aF,g2,aD,aF];rfl
theorem tw {T:Tb}{n:Int}{S:List Nat}(hS:S.length<=100)(hS0:0<S.length):∀(l:List Int) (d:Int) (cs:List Nat) (a:Slot),aK a->cs.length+l.length<=100->(∀ c∈cs,c∈S)->∃ d' cs' a',aK a'/\cs'.length=cs.length+l.length/\(∀ c∈cs',c∈S)/\bU (.nm 4) [] (aF T vA) (l.map D.int) (ER d n S cs a) = .nx (ER d' n S cs' a')
 |[],d,cs,a,h,_,hc=>⟨d,cs,a,h,rfl,hc,rfl⟩
 | k::l,d,cs,a,h,hl,hc=>by
  rw[aw] at hl;obtain⟨d1,c,hcS,st⟩:=HU (T:=T) (d:=d) (n:=n) (k:=k) (cs:=cs) hS hS0 (by omega);obtain⟨d',cs',a',t',q1,q2,q⟩:=tw (T:=T) (n:=n) hS hS0 l d1 (cs ++ [c]) (sI k) (aB _) (by rw[ag,br];omega) (fun x hx=>by
   rcases List.mem_append.mp hx with hx | hx
   ·exact hc x hx
   ·rw[ir.mp hx];exact hcS)
  refine⟨d',cs',a',t',by rw[q1,ag,br,aw];omega,q2,?_⟩;have hb:aZ [] (.nm 4) (.int k) (ER d n S cs a)=some (ER d n S cs (sI k)):=bY (fD h) (show (4:Nat)<5 by decide);rw[av,bB hb st];exact q
theorem kn_b {k:Nat}(h1:1<=k)(h3:k<=3):(kn k).length<=100/\0<(kn k).length:=by
 obtain⟨a,b,c⟩:=Eo;have:k=1\/k=2\/k=3:=by omega
 rcases this with rfl | rfl | rfl<;>omega
theorem zI {k:Nat}(h3:k<=3){cs:List Nat}(h:∀ c∈cs,c∈kn k):Good cs:=fun c hc=>⟨by have:=E9 k (by omega) c (h c hc);omega,Dx k (by omega) c (h c hc)⟩
theorem D8 {T:Tb}(hsg:HJ T){d:Int}(n:Nat)(hn:n<=100):∃ cs,cs.length=n/\Good cs/\ret (aF T bRN (aG [.int d,.int (n:Int)] 5)) = .ok (.str (tx cs),true):=by
 have hst:aG [.int d,.int (n:Int)] 5=[sI d,sI (n:Int),none,none,none]:=rfl;have tn:=aN;obtain⟨j,hj,hj2⟩:=iK (fk d (show (3:Int)≠0 by decide)) (dt d (show (0:Int)<3 by decide));have em:=dB (show (0:Int)<3 by decide) (aC (T:=T) (env:=[sI d,sI (n:Int),none,none,none]) (i:=0) (d:=.int d) (t:=.own) rfl rfl) (aH (.int 3));rw[hj] at em;have ep:=cR (x:=1) (aH (.int 1)) em;have hk1:1<=1+j:=by omega
 have hk3:1+j<=3:=by omega
 obtain⟨hb1,hb2⟩:=kn_b hk1 hk3;have ec:=fV ep (hsg (1+j) hk1 hk3);rw[FH] at ec;have hgd:∀ cs:List Nat,(∀ c∈cs,c∈kn (1+j))->Good cs:=fun cs h=>zI hk3 h
 generalize kn (1+j)=S at *;have g1:aV T (.asg (.nm 2) (.call 6 (.cons (.bin .Add (.cst (.int (1))) (.bin .Mod (.var 0) (.cst (.int (3))))) .nil)) false) [sI d,sI (n:Int),none,none,none] = .nx [sI d,sI (n:Int),sT S,none,none]:=aL (.cons (aB _) (.cons (aB _) (.cons tn (.cons tn (.cons tn .nil))))) (show (2:Nat)<5 by decide) ec;have g2:aV T (.asg (.nm 3) (.cst (.str ("" : PySem.Str))) false) [sI d,sI (n:Int),sT S,none,none] = .nx (ER d (n:Int) S [] none):=rfl;obtain⟨d',cs,a',t',q1,q2,q⟩:=tw (T:=T) (n:=(n:Int)) hb1 hb2 ((List.range n).map fun k=>((0+k:Nat):Int)) d [] none tn (by rw[List.length_map,List.length_range];simpa using hn) (fun _ h=>(nomatch h));have hit:eX T (.rng1 (.var 1)) (ER d (n:Int) S [] none) = .ok (((List.range n).map fun k=>((0+k:Nat):Int)).map D.int,[]):=by
  rw[zC (m:=n) (aC rfl rfl) (by omega),eY,fq];rfl
 have g3:=cF hit q;refine⟨cs,by rw[q1,bz,ao,cm];omega,hgd cs q2,?_⟩;rw[hst];unfold bRN;rw[aF,g1,aD,aF,g2,aD,aF,g3,aD];exact eV (aC rfl rfl)
def y8 (T:Tb):Prop:=∀(d:Int) (n:Nat),n<=100->∃ cs,cs.length=n/\Good cs/\T.cl 7 [.int d,.int (n:Int)] = .ok (.str (tx cs),true)
noncomputable def AW:bJ:=(.cons (.asg (.nm 5) (.call 5 (.cons (.var 0) (.cons (.var 4) (.cons (.cst (.int (2147483587))) .nil)))) false)
  (.cons (.asg (.nm 6) (.bin .Add (.cst (.int (1))) (.bin .Mod (.bin .FloorDiv (.var 5) (.cst (.int (9)))) (.cst (.int (5))))) false)
  (.cons (.ite (.cmp .Eq (.bin .Mod (.bin .FloorDiv (.var 5) (.cst (.int (45)))) (.cst (.int (5)))) (.cst (.int (1)))) (.cons (.asg (.nm 6) (.bin .Add (.cst (.int (1))) (.bin .Mod (.bin .FloorDiv (.var 5) (.cst (.int (225)))) (.cst (.int (90))))) false)
  .nil) .nil)
  (.cons (.asg (.nm 3) (.bin .Add (.var 3) (.call 7 (.cons (.bin .Add (.cst (.int (1))) (.bin .FloorDiv (.var 5) (.cst (.int (7))))) (.cons (.var 6) .nil)))) false)
  (.cons (.asg (.nm 4) (.bin .Add (.var 4) (.cst (.int (1)))) false)
  .nil)))))
noncomputable def bTX:bJ:=(.cons (.asg (.nm 2) (.bin .Mod (.bin .FloorDiv (.call 5 (.cons (.var 0) (.cons (.cst (.int (0))) (.cons (.cst (.int (2147483629))) .nil)))) (.cst (.int (5)))) (.bin .Add (.var 1) (.cst (.int (1))))) false)
  (.cons (.asg (.nm 3) (.cst (.str ("" : PySem.Str))) false)
  (.cons (.asg (.nm 4) (.cst (.int (1))) false)
  (.cons (.whl (.cmp .Lt (.blt .len (.cons (.var 3) .nil)) (.var 2)) AW)
  (.cons (.ret (.sl (.var 3) .none (.some (.var 2))))
  .nil)))))
noncomputable abbrev ET (cs:List Int)(m:Int)(n:Nat)(t:List Nat)(k:Nat)(a5 a6:Slot):En:=[some (.lst (iD cs),.sh []),sI m,sN n,sT t,sN k,a5,a6]
theorem jy {cs:List Int}{m:Int}{n:Nat}{t:List Nat}{k:Nat}{a5 a6:Slot}(h5:aK a5)(h6:aK a6):Tame (ET cs m n t k a5 a6):=.cons (dX _) (.cons (aB _) (.cons (aB _) (.cons (aB _) (.cons (aB _) (.cons h5 (.cons h6 .nil))))))
theorem y0 {T:Tb}{env:En}{a b:Ex}{i j:Int}{R R':Rt}(ha:ev T a env = .ok (.int i,R))(hb:ev T b env = .ok (.int j,R')):ev T (.cmp .Eq a b) env = .ok (.bl (decide (i=j)),.mv []):=by
 rw[ev,ha,aA,hb,aA];show (gN (D.eqf 40 (.int i) (.int j))).bind _=_;have:D.eqf 40 (.int i) (.int j)=some (decide (i=j)):=by
  show some (i==j)=_;congr 1
 rw[this];rfl
theorem G7 {T:Tb}(hmx:xx T)(hrn:y8 T){cs:List Int}{m:Int}{n:Nat}{t:List Nat}{k:Nat}{a5 a6:Slot}(h5:aK a5)(h6:aK a6)(hk:k<=1000)(ht:t.length<=400)(hG:Good t) :
  ∃ t' b5 b6,aK b5/\aK b6/\Good t'/\t.length<t'.length/\t'.length<=t.length+90/\aF T AW (ET cs m n t k a5 a6) = .nx (ET cs m n t' (k+1) b5 b6):=by
 obtain⟨d,d0,d1,ed⟩:=hmx cs (k:Int) 2147483587 (yi (by omega) (by omega)) (by decide);obtain⟨R,v0⟩:∃ R,ev T (.var 0) (ET cs m n t k a5 a6) = .ok (.lst (iD cs),R):=eK rfl;have g1:aV T (.asg (.nm 5) (.call 5 (.cons (.var 0) (.cons (.var 4) (.cons (.cst (.int (2147483587))) .nil)))) false) (ET cs m n t k a5 a6) = .nx (ET cs m n t k (sI d) a6):=aL (jy h5 h6) (show (5:Nat)<7 by decide) (qb v0 (aC rfl rfl) (aH _) ed);have lg:∀(a6:Slot) (x y:Int),0<x->x<1073741824->0<y->ev T (.bin .Add (.cst (.int (1))) (.bin .Mod (.bin .FloorDiv (.var 5) (.cst (.int x))) (.cst (.int y)))) (ET cs m n t k (sI d) a6) = .ok (.int (1+d / x%y),.mv []):=fun a6 x y h1 h2 h3 =>
  bZ (aH _) (dB h3 (gZ h1 h2 (aC rfl rfl) (aH _)) (aH _))
 have g2:aV T (.asg (.nm 6) (.bin .Add (.cst (.int (1))) (.bin .Mod (.bin .FloorDiv (.var 5) (.cst (.int (9)))) (.cst (.int (5))))) false) (ET cs m n t k (sI d) a6) = .nx (ET cs m n t k (sI d) (sI (1+d / 9%5))):=aL (jy (aB _) h6) (show (6:Nat)<7 by decide) (lg a6 9 5 (by decide) (by decide) (by decide));have g3:∃ l:Nat,1<=l/\l<=90/\aV T (.ite (.cmp .Eq (.bin .Mod (.bin .FloorDiv (.var 5) (.cst (.int (45)))) (.cst (.int (5)))) (.cst (.int (1)))) (.cons (.asg (.nm 6) (.bin .Add (.cst (.int (1))) (.bin .Mod (.bin .FloorDiv (.var 5) (.cst (.int (225)))) (.cst (.int (90))))) false) .nil) .nil) (ET cs m n t k (sI d) (sI (1+d / 9%5))) = .nx (ET cs m n t k (sI d) (sI (l:Int))):=by
  have ec:=y0 (dB (show (0:Int)<5 by decide) (gZ (show (0:Int)<45 by decide) (by decide) (aC (T:=T) (env:=ET cs m n t k (sI d) (sI (1+d / 9%5))) (i:=5) (d:=.int d) (t:=.own) rfl rfl) (aH (.int 45))) (aH (.int 5))) (aH (.int 1));rw[lL ec];split
  ·have p0:=fk (d / 225) (show (90:Int)≠0 by decide);have p1:=dt (d / 225) (show (0:Int)<90 by decide);refine⟨(1+d / 225%90).toNat,by omega,by omega,?_⟩;rw[show (((1+d / 225%90).toNat:Nat):Int)=1+d / 225%90 by omega];exact fS (aL (jy (aB _) (aB _)) (show (6:Nat)<7 by decide) (lg _ 225 90 (by decide) (by decide) (by decide)))
  ·have p0:=fk (d / 9) (show (5:Int)≠0 by decide);have p1:=dt (d / 9) (show (0:Int)<5 by decide);refine⟨(1+d / 9%5).toNat,by omega,by omega,?_⟩;rw[show (((1+d / 9%5).toNat:Nat):Int)=1+d / 9%5 by omega];exact gJ
 obtain⟨l,l1,l90,g3⟩:=g3;obtain⟨r,r1,r2,er⟩:=hrn (1+d / 7) l (by omega);have e4:=fJ (bZ (aH (T:=T) (env:=ET cs m n t k (sI d) (sI (l:Int))) (.int 1)) (gZ (show (0:Int)<7 by decide) (by decide) (aC (i:=5) (d:=.int d) (t:=.own) rfl rfl) (aH (.int 7)))) (aC (i:=6) (d:=.int (l:Int)) (t:=.own) rfl rfl) er;have e5:=jR (aC (T:=T) (env:=ET cs m n t k (sI d) (sI (l:Int))) (i:=3) (d:=.str (tx t)) (t:=.own) rfl rfl) e4 (by omega);have g4:=aL (i:=3) (jy (cs:=cs) (m:=m) (n:=n) (t:=t) (k:=k) (aB (.int d)) (aB (.int (l:Int)))) (show (3:Nat)<7 by decide) e5;have g4:aV T (.asg (.nm 3) (.bin .Add (.var 3) (.call 7 (.cons (.bin .Add (.cst (.int (1))) (.bin .FloorDiv (.var 5) (.cst (.int (7))))) (.cons (.var 6) .nil)))) false) (ET cs m n t k (sI d) (sI (l:Int))) = .nx (ET cs m n (t++r) k (sI d) (sI (l:Int))):=g4;have g5:aV T (.asg (.nm 4) (.bin .Add (.var 4) (.cst (.int (1)))) false) (ET cs m n (t++r) k (sI d) (sI (l:Int))) = .nx (ET cs m n (t++r) (k+1) (sI d) (sI (l:Int))):=aL (jy (aB _) (aB _)) (show (4:Nat)<7 by decide) (cR (y:=1) (aC rfl rfl) (aH _));refine⟨t++r,sI d,sI (l:Int),aB _,aB _,fun c hc=>?_,by rw[ag];omega,by rw[ag];omega,?_⟩
 ·rcases List.mem_append.mp hc with h | h
  ·exact hG c h
  ·exact r2 c h
 ·unfold AW;rw[aF,g1,aD,aF,g2,aD,aF,g3,aD,aF,g4,aD,aF,g5,aD,aF]
theorem uC {T:Tb}{cs:List Int}{m:Int}{n:Nat}{t:List Nat}{k:Nat}{a5 a6:Slot}(ht:t.length<=900):((ev T (.cmp .Lt (.blt .len (.cons (.var 3) .nil)) (.var 2)) (ET cs m n t k a5 a6)).bind fun p=>gN (truth p.1)) = .ok (decide (t.length<n)):=by
 rw[oE (x:=t.length) (y:=n) (gW (by omega) (aC rfl rfl)) (aC rfl rfl),aA];rfl
theorem zd {T:Tb}(hmx:xx T)(hrn:y8 T){cs:List Int}{m:Int}{n:Nat}(hn:n<=300):∀(f k:Nat) (t:List Nat) (a5 a6:Slot),aK a5->aK a6->n - t.length<f->t.length<=n+90->k+(n - t.length)<=900->Good t->∃ t' k' b5 b6,aK b5/\aK b6/\Good t'/\n<=t'.length/\t'.length<=n+90 /\
  fW (fun env=>(ev T (.cmp .Lt (.blt .len (.cons (.var 3) .nil)) (.var 2)) env).bind fun p=>gN (truth p.1)) (aF T AW) f (ET cs m n t k a5 a6) = .nx (ET cs m n t' k' b5 b6)
 |0,k,t,a5,a6,_,_,h,_,_,_=>absurd h (Nat.not_lt_zero _)
 | f+1,k,t,a5,a6,h5,h6,hf,ht,hk,hG=>by
  by_cases hlt:t.length<n
  ·obtain⟨t1,b5,b6,u5,u6,G1,l1,l2,st⟩:=G7 hmx hrn (cs:=cs) (m:=m) (n:=n) (k:=k) h5 h6 (by omega) (show t.length<=400 by omega) hG;obtain⟨t',k',c5,c6,w5,w6,G2,q1,q2,q⟩:=zd hmx hrn hn f (k+1) t1 b5 b6 u5 u6 (by omega) (by omega) (by omega) G1;refine⟨t',k',c5,c6,w5,w6,G2,q1,q2,?_⟩;rw[w9 (by rw[uC (by omega),cj hlt]) st,q]
  ·refine⟨t,k,a5,a6,h5,h6,hG,by omega,ht,?_⟩;rw[w8 (by rw[uC (by omega),az hlt])]
theorem CD {T:Tb}(hf:1000<=T.fuel)(hmx:xx T)(hrn:y8 T){cs:List Int}(m:Nat)(hm:m<=300):∃ t,Good t/\t.length<=m/\ret (aF T bTX (aG [.lst (iD cs),.int (m:Int)] 7)) = .ok (.str (tx t),true):=by
 have hst:aG [.lst (iD cs),.int (m:Int)] 7=[some (.lst (iD cs),.sh []),sI (m:Int),none,none,none,none,none]:=rfl;have tn:=aN;obtain⟨d,d0,d1,ed⟩:=hmx cs 0 2147483629 (by decide) (by decide);obtain⟨R,v0⟩:∃ R,ev T (.var 0) [some (.lst (iD cs),.sh []),sI (m:Int),none,none,none,none,none] = .ok (.lst (iD cs),R):=eK rfl;have e1:=dB (show (0:Int)<(m:Int)+1 by omega) (gZ (show (0:Int)<5 by decide) (by decide) (qb v0 (aH (.int 0)) (aH (.int 2147483629)) ed) (aH (.int 5))) (bZ (aC (T:=T) (env:=[some (.lst (iD cs),.sh []),sI (m:Int),none,none,none,none,none]) (i:=1) (d:=.int (m:Int)) (t:=.own) rfl rfl) (aH (.int 1)));obtain⟨n,hn,hn2⟩:=iK (fk (d / 5) (show (m:Int)+1≠0 by omega)) (dt (d / 5) (show (0:Int)<(m:Int)+1 by omega));rw[hn] at e1;have hnm:n<=m:=by omega
 have g1:aV T (.asg (.nm 2) (.bin .Mod (.bin .FloorDiv (.call 5 (.cons (.var 0) (.cons (.cst (.int (0))) (.cons (.cst (.int (2147483629))) .nil)))) (.cst (.int (5)))) (.bin .Add (.var 1) (.cst (.int (1))))) false) [some (.lst (iD cs),.sh []),sI (m:Int),none,none,none,none,none] = .nx [some (.lst (iD cs),.sh []),sI (m:Int),sN n,none,none,none,none] :=
  aL (.cons (dX _) (.cons (aB _) (.cons tn (.cons tn (.cons tn (.cons tn (.cons tn .nil))))))) (show (2:Nat)<7 by decide) e1
 have g2:aV T (.asg (.nm 3) (.cst (.str ("" : PySem.Str))) false) [some (.lst (iD cs),.sh []),sI (m:Int),sN n,none,none,none,none] = .nx [some (.lst (iD cs),.sh []),sI (m:Int),sN n,sT [],none,none,none]:=rfl;have g3:aV T (.asg (.nm 4) (.cst (.int (1))) false) [some (.lst (iD cs),.sh []),sI (m:Int),sN n,sT [],none,none,none] = .nx (ET cs (m:Int) n [] 1 none none):=rfl;obtain⟨t,k',b5,b6,u5,u6,hG,q1,q2,q⟩:=zd hmx hrn (cs:=cs) (m:=(m:Int)) (n:=n) (by omega) T.fuel 1 [] none none tn tn (by rw[bz];omega) (by rw[bz];omega) (by rw[bz];omega) (fun _ h=>(nomatch h));refine⟨t.take n,fun c hc=>hG c (List.mem_of_mem_take hc),by rw[bh];omega,?_⟩;rw[hst];unfold bTX;rw[aF,g1,aD,aF,g2,aD,aF,g3,aD,aF,aV,q,aD];exact eV (oR (by omega) (aC rfl rfl) jG (eR (aC (d:=.int (n:Int)) (t:=.own) rfl rfl)) (yo t n))
def TXok (T:Tb):Prop:=∀(cs:List Int) (m:Nat),m<=300->∃ t,Good t/\t.length<=m/\T.cl 8 [.lst (iD cs),.int (m:Int)] = .ok (.str (tx t),true)
open Pc.Fr (iD eU)
theorem pI {α:Type}{T:Tb}{own:Nat}{pick:List Nat}{t:kG}{it:qS}{e:Ex}{env:En}{l:List α}{R:List Nat}{g r:α->D}(hit:eX T it env = .ok (l.map g,R))(hl:l.length<=1000)
  (hg:∀ a∈l,dC (aZ [] t (g a) (dA env own pick)) (vU T .none) (ev T e) = .ok (some (r a,.mv []))):ev T (.comp own pick t it .none e) env = .ok (.lst (l.map r),.mv []):=by
 rw[ev,hit,aA,kA (f:=fun d=>dC (aZ [] t d (dA env own pick)) (vU T .none) (ev T e)) (c:=fun _=>true) (r:=r) (fun a ha=>by rw[hg a ha];rfl),aA];dsimp only;rw[List.filter_eq_self.mpr fun _ _=>rfl,if_pos (by rw[ao];exact iQ hl),if_pos,fq]
 ·rfl
 ·rw[cw];intro q hq;obtain⟨a,_,rfl⟩:=List.mem_map.mp hq;show ((r a).flat || true)=true;rw[gy]
theorem Ci {T:Tb}{e:Ex}{env:En}{d:D}(h:ev T e env = .ok (d,.mv [])):dC (some env) (vU T .none) (ev T e) = .ok (some (d,.mv [])):=by
 unfold dC;dsimp only;rw[vU,aA,if_pos rfl,h,aA]
noncomputable def rF:bJ:=.cons (.ret (.cst (.bl false))) .nil
noncomputable def e0:Ex:=.ix (.var 0) (.cst (.int (0)))
noncomputable def e1:Ex:=.ix (.var 0) (.cst (.int (1)))
end Pc.Ct
end
section
namespace Pc.Gn
open PySem Pc Pc.Sm Pc.Lw Pc.Gr Pc.Nw Pc.Ct
open Pc.Fr (iD)
theorem wJ {n:Nat}(h:n<=20000):n<=lim:=bj h (by decide)
theorem Fp {n:Nat}(h:n<=20000):eZ (n:Int)=true:=by simp[eZ];omega
noncomputable def bBO:bJ:=(.cons (.ret (.comp 1 [0] (.nm 0) (.rng3 (.bin .Sub (.var 1) (.cst (.int (1)))) (.neg (.cst (.int (1)))) (.neg (.cst (.int (1))))) .none (.bin .BitAnd (.bin .RShift (.var 1) (.var 0)) (.cst (.int (1))))))
  .nil)
noncomputable def bF (x:Int):Nat->List Int
 |0=>[]
 |n+1=>x / 2 ^ n%2::bF x n
theorem bT (x:Int):∀ n,(bF x n).length=n
 |0=>rfl
 |n+1=>by rw[bF,aw,bT]
theorem jh (x:Int):∀ n:Nat,(hV ((n:Int) - 1) (-1) n).map (fun w=>x / 2 ^ w.toNat%2)=bF x n
 |0=>rfl
 | n+1=>by
  rw[hV,bF,av];have e:((n+1:Nat):Int) - 1=(n:Int):=by omega
  rw[e,dm,<-jh x n];rfl
theorem qu:∀(n:Nat) (i:Int),i∈hV ((n:Int) - 1) (-1) n->0<=i
 |0,i,h=>by cases h
 | n+1,i,h=>by
  rw[hV] at h;have e:((n+1:Nat):Int) - 1=(n:Int):=by omega
  rw[e] at h;rcases iy.mp h with rfl | h
  ·omega
  ·exact qu n i h
theorem t4 {T:Tb}(x:Int)(c:Nat)(hx:0<=x)(hc:c<=60):ret (aF T bBO (aG [.int x,.int (c:Int)] 2)) = .ok (.lst (iD (bF x c)),true):=by
 have h1:eZ ((c:Int) - 1)=true:=by simp[eZ];omega
 have h2:eZ (-1)=true:=by decide
 have hit:eX T (.rng3 (.bin .Sub (.var 1) (.cst (.int (1)))) (.neg (.cst (.int (1)))) (.neg (.cst (.int (1))))) [some (.int x,.own),some (.int c,.own)] = .ok ((hV ((c:Int) - 1) (-1) c).map D.int,[]):=by
  unfold eX;simp[ev,aA,bQ,fH,Pc.binI,D.flat,fF,h1,h2,vp,m7]
 have hgo:fR (fun d=>dC (aZ [] (.nm 0) d (dA [some (.int x,.own),some (.int c,.own)] 1 [0])) (vU T .none) (ev T (.bin .BitAnd (.bin .RShift (.var 1) (.var 0)) (.cst (.int (1)))))) ((hV ((c:Int) - 1) (-1) c).map D.int) = .ok ((hV ((c:Int) - 1) (-1) c).map fun w=>(D.int (x / 2 ^ w.toNat%2),Rt.mv [])):=by
  refine lK (g:=fun w=>.int (x / 2 ^ w.toNat%2)) fun i hi=>?_
  have hi:=qu c i hi;have hb:Builtin.bitAnd (x / 2 ^ i.toNat) 1=x / 2 ^ i.toNat%2:=r6 (Int.ediv_nonneg hx (Int.pow_nonneg (by decide)));simp[dA,aZ,put,dC,vU,aA,ev,bQ,fH,Pc.binI,D.flat,aU,fF,hi,hb,Tg.drop]
 have hl:(hV ((c:Int) - 1) (-1) c).length=c:=by
  have:=gx List.length (jh x c);rw[ao,bT] at this;exact this
 have hlim:c<=lim:=bj hc (by decide);simp only[bBO,aG,List.map_cons,List.map_nil,aU,D.flat,if_true,List.length_cons,List.length_nil,Nat.sub_self,List.replicate_zero,List.append_nil,aF,aV];unfold ev;rw[hit,aA,hgo,aA];dsimp only;rw[if_pos (by rw[List.length_map,hl];exact hlim),if_pos (by simp[D.flat]),aY];have:(hV ((c:Int) - 1) (-1) c).map (fun w=>D.int (x / 2 ^ w.toNat%2))=(bF x c).map D.int:=by
  rw[<-jh,fq];rfl
 simp[By,Pc.ret,gF,Function.comp_def,this]
def mF (T:Tb):Prop:=∀(x:Int) (c:Nat),0<=x->c<=60->T.cl 9 [.int x,.int (c:Int)] = .ok (.lst (iD (bF x c)),true)
noncomputable def C2:bJ:=(.cons (.asg (.nm 1) (.bin .Add (.bin .Mult (.cst (.int (2))) (.var 1)) (.var 2)) false)
  .nil)
noncomputable def bNO:bJ:=(.cons (.asg (.nm 1) (.cst (.int (0))) false)
  (.cons (.forr (.nm 2) (.seq (.var 0)) C2)
  (.cons (.ret (.var 1))
  .nil)))
noncomputable def num (l:List Int):Int:=l.foldl (fun x y=>2*x+y) 0
theorem GU (T:Tb)(S:List D)(a b:Int):aF T C2 [some (.lst S,.sh []),sI a,sI b] = .nx [some (.lst S,.sh []),sI (2*a+b),sI b]:=rfl
theorem tW (T:Tb)(S:List D):∀(l:List Int) (a:Int) (o:Slot),aK o->∃ o',bU (.nm 2) [] (aF T C2) (iD l) [some (.lst S,.sh []),sI a,o] = .nx [some (.lst S,.sh []),sI (l.foldl (fun x y=>2*x+y) a),o']
 |[],a,o,_=>⟨o,rfl⟩
 | b::l,a,o,h=>by
  obtain⟨o',q⟩:=tW T S l (2*a+b) (sI b) (aB _);refine⟨o',?_⟩;have hb:aZ [] (.nm 2) (.int b) [some (.lst S,.sh []),sI a,o]=some [some (.lst S,.sh []),sI a,sI b]:=bY (.cons (dX _) (.cons (aB _) (.cons h .nil))) (show (2:Nat)<3 by decide);rw[iD,av,bB hb (GU T S a b)];exact q
theorem Gd {T:Tb}(l:List Int):ret (aF T bNO (aG [.lst (iD l)] 3)) = .ok (.int (num l),true):=by
 have hst:aG [.lst (iD l)] 3=[some (.lst (iD l),.sh []),none,none]:=rfl;rw[hst];have g1:aV T (.asg (.nm 1) (.cst (.int (0))) false) [some (.lst (iD l),.sh []),none,none] = .nx [some (.lst (iD l),.sh []),sI 0,none]:=rfl;obtain⟨o',q⟩:=tW T (iD l) l 0 none aN;have hit:eX T (.seq (.var 0)) [some (.lst (iD l),.sh []),sI 0,none] = .ok (iD l,[]):=rfl;have g2:=cF hit q;unfold bNO;rw[aF,g1,aD,aF,g2,aD];exact eV (aC rfl rfl)
def F9 (T:Tb):Prop:=∀ l:List Int,T.cl 10 [.lst (iD l)] = .ok (.int (num l),true)
noncomputable def iF (k c:Nat):Int:=match qh .sfind (.str (KS k)) [.str (tx [c])] with
 | some (.int j)=>j
 |_=>-1
noncomputable def Bg (k c:Nat):Bool:=(match qh .sindex (.str (KS k)) [.str (tx [c])] with
 | some (.int j)=>j==iF k c
 |_=>false)&&(match qh .sfind (.str (KS k)) [.str (tx [c])] with
 | some (.int j)=>j==iF k c
 |_=>false)&&decide (0<=iF k c/\iF k c<2 ^ (2*k+1))
theorem cX2:(kn 2).all (Bg 2)=true:=by decide +kernel
theorem cX3:(kn 3).all (Bg 3)=true:=by decide +kernel
theorem z7 {k c:Nat}(hk:k=2\/k=3)(hc:c∈kn k):qh .sindex (.str (KS k)) [.str (tx [c])]=some (.int (iF k c))/\qh .sfind (.str (KS k)) [.str (tx [c])]=some (.int (iF k c))/\0<=iF k c/\iF k c<2 ^ (2*k+1):=by
 have h:Bg k c=true:=by
  rcases hk with rfl | rfl
  ·exact cw.mp cX2 c hc
  ·exact cw.mp cX3 c hc
 unfold Bg at h;rw[aj,aj] at h;obtain⟨⟨h1,h2⟩,h3⟩:=h;have h3:=iu h3;refine⟨?_,?_,h3.1,h3.2⟩
 ·split at h1
  ·rename_i j e;rw[e,fw.mp h1]
  ·cases h1
 ·split at h2
  ·rename_i j e;rw[e,fw.mp h2]
  ·cases h2
noncomputable def qt (g:List Nat):Int:=match PySem.intText? (tx g) with
 |some n=>n
 |none=>-1
noncomputable def xb (g:List Nat):Bool:=(match PySem.intText? (tx g) with
 |some n=>n==qt g
 |none=>false)&&decide (0<=qt g/\qt g<2 ^ fb g.length)
theorem cV1:(kn 1).all (fun a=>xb [a])=true:=by decide +kernel
theorem cV2:(kn 1).all (fun a=>(kn 1).all fun b=>xb [a,b])=true:=by decide +kernel
theorem cV3:(kn 1).all (fun a=>(kn 1).all fun b=>(kn 1).all fun c=>xb [a,b,c])=true:=by decide +kernel
theorem sS {g:List Nat}(h0:0<g.length)(h3:g.length<=3)(hg:∀ c∈g,c∈kn 1):PySem.intText? (tx g)=some (qt g)/\0<=qt g/\qt g<2 ^ fb g.length:=by
 have h:xb g=true:=by
  match g,h0,h3,hg with
  |[a],_,_,hg=>exact List.all_eq_true.mp cV1 a (hg a (by simp))
  |[a,b],_,_,hg=>exact List.all_eq_true.mp (List.all_eq_true.mp cV2 a (hg a (by simp))) b (hg b (by simp))
  |[a,b,c],_,_,hg=>exact List.all_eq_true.mp (List.all_eq_true.mp (List.all_eq_true.mp cV3 a (hg a (by simp))) b (hg b (by simp))) c (hg c (by simp))
 unfold xb at h;rw[aj] at h;have h2:=iu h.2;refine⟨?_,h2.1,h2.2⟩;have h1:=h.1;split at h1
 ·rename_i n e;rw[e,fw.mp h1]
 ·cases h1
noncomputable def pb (G:List (Int×Nat)):List Int:=(G.map fun q=>bF q.1 q.2).flatten
theorem kj (a b:List Int):iD (a++b)=iD a++iD b:=ie ..
theorem bM (a:List Int):(iD a).length=a.length:=ao ..
noncomputable abbrev oI (l:List Int):Slot:=some (.lst (iD l),.own)
open Pc.Fr (iD)
noncomputable def Br:bJ:=(.cons (.mut 2 .none .extend (.cons (.call 9 (.cons (.mth .sindex (.ix (.glb 3) (.var 0)) (.cons (.var 3) .nil)) (.cons (.ix (.glb 4) (.var 0)) .nil))) .nil))
  .nil)
noncomputable def bSB:bJ:=(.cons (.asg (.nm 2) (.lst .nil) false)
  (.cons (.forr (.nm 3) (.seq (.var 1)) Br)
  (.cons (.ret (.var 2))
  .nil)))
noncomputable abbrev E3 (k:Nat)(cs:List Nat)(L:List Int)(o:Slot):En:=[sN k,sT cs,oI L,o]
theorem tU {k:Nat}{cs:List Nat}{L:List Int}{o:Slot}(h:aK o):Tame (E3 k cs L o):=.cons (aB _) (.cons (aB _) (.cons (aB _) (.cons h .nil)))
theorem glk {T:Tb}(hg:GL T)(env:En):∀ k:Nat,k=2\/k=3->env[0]? = some (sN k)->ev T (.ix (.glb 3) (.var 0)) env = .ok (.str (KS k),.mv [])/\ev T (.ix (.glb 4) (.var 0)) env = .ok (.int ((2*k+1:Nat):Int),.mv []):=by
 intro k hk h0;have v0:ev T (.var 0) env = .ok (.int (k:Int),.mv []):=aC h0 rfl;rcases hk with rfl | rfl
 ·exact⟨cO (i:=2) (aR (hg 3 (by decide))) v0 rfl rfl,cO (i:=2) (aR (hg 4 (by decide))) v0 rfl rfl⟩
 ·exact⟨cO (i:=3) (aR (hg 3 (by decide))) v0 rfl rfl,cO (i:=3) (aR (hg 4 (by decide))) v0 rfl rfl⟩
theorem HP {T:Tb}(hg:GL T)(hb:mF T)(k:Nat)(hk:k=2\/k=3)(cs:List Nat)(L:List Int)(c:Nat)(hc:c∈kn k)(hL:L.length<=900):aF T Br (E3 k cs L (sT [c])) = .nx (E3 k cs (L++bF (iF k c) (2*k+1)) (sT [c])):=by
 obtain⟨x1,x2,x3,x4⟩:=z7 hk hc;obtain⟨e1,e2⟩:=glk hg (E3 k cs L (sT [c])) k hk rfl;have e3:ev T (.mth .sindex (.ix (.glb 3) (.var 0)) (.cons (.var 3) .nil)) (E3 k cs L (sT [c])) = .ok (.int (iF k c),.mv []):=by
  rw[ev,e1,aA,aX,aC (d:=.str (tx [c])) (t:=.own) rfl rfl,aA,aX,aA,aA,j6];dsimp only;rw[x1];rfl
 have e4:ev T (.call 9 (.cons (.mth .sindex (.ix (.glb 3) (.var 0)) (.cons (.var 3) .nil)) (.cons (.ix (.glb 4) (.var 0)) .nil))) (E3 k cs L (sT [c])) = .ok (.lst (iD (bF (iF k c) (2*k+1))),.mv []):=fJ e3 e2 (hb _ _ x3 (by omega));have hbl:=bT (iF k c) (2*k+1);have g:=lj (x:=2) (tU (k:=k) (cs:=cs) (L:=L) (aB (.str (tx [c])))) rfl e4 (fM _) (by rw[bM,bM,hbl];exact iQ (by omega));have g':aV T (.mut 2 .none .extend (.cons (.call 9 (.cons (.mth .sindex (.ix (.glb 3) (.var 0)) (.cons (.var 3) .nil)) (.cons (.ix (.glb 4) (.var 0)) .nil))) .nil)) (E3 k cs L (sT [c])) = .nx (E3 k cs (L++bF (iF k c) (2*k+1)) (sT [c])):=by
  rw[g];show Fl.nx [sN k,sT cs,some (.lst (iD L++iD (bF (iF k c) (2*k+1))),.own),sT [c]]=_;rw[<-kj]
 unfold Br;rw[aF,g',aD];rfl
noncomputable def xy (k:Nat)(cs:List Nat):List (Int×Nat):=cs.map fun c=>(iF k c,2*k+1)
theorem ux {T:Tb}(hg:GL T)(hB:mF T)(k:Nat)(hk:k=2\/k=3)(zy:List Nat):∀(cs:List Nat) (L:List Int) (o:Slot),aK o->(∀ c∈cs,c∈kn k)->L.length+7*cs.length<=900->∃ o',aK o'/\bU (.nm 3) [] (aF T Br) (cs.map fun c=>D.str (tx [c])) (E3 k zy L o) = .nx (E3 k zy (L++pb (xy k cs)) o')
 |[],L,o,h,_,_=>⟨o,h,by rw[show pb (xy k [])=[] from rfl,ax];rfl⟩
 | c::cs,L,o,h,hc,hl=>by
  rw[aw] at hl;have hin:=HP hg hB k hk zy L c (hc c ak) (by omega);obtain⟨o',t',q⟩:=ux hg hB k hk zy cs (L++bF (iF k c) (2*k+1)) (sT [c]) (aB _) (fun x hx=>hc x (ah _ hx)) (by rw[ag,bT];omega);refine⟨o',t',?_⟩;have hb:aZ [] (.nm 3) (.str (tx [c])) (E3 k zy L o)=some (E3 k zy L (sT [c])):=bY (tU h) (show (3:Nat)<4 by decide);rw[av,bB hb hin,q];show Fl.nx (E3 k zy ((L++bF (iF k c) (2*k+1))++pb (xy k cs)) o')=Fl.nx (E3 k zy (L++(bF (iF k c) (2*k+1)++pb (xy k cs))) o');rw[cf]
theorem yb {T:Tb}{env:En}{e:Ex}{cs:List Nat}(hl:cs.length<=1000)(h:ev T e env = .ok (.str (tx cs),.mv [])):eX T (.seq e) env = .ok (cs.map fun c=>D.str (tx [c]),[]):=by
 rw[eX,h,aA];have:rm (.str (tx cs))=some (cs.map fun c=>D.str (tx [c])):=by
  show (if (tx cs).length<=lim then some (cs.map fun c=>D.str ⟨#[c]⟩) else none)=_;rw[if_pos (we hl)];rfl
 dsimp only;rw[this];rfl
theorem HB {T:Tb}(hg:GL T)(hB:mF T)(k:Nat)(hk:k=2\/k=3)(cs:List Nat)(hc:∀ c∈cs,c∈kn k)(hl:cs.length<=64):ret (aF T bSB (aG [.int (k:Int),.str (tx cs)] 4)) = .ok (.lst (iD (pb (xy k cs))),true):=by
 have hst:aG [.int (k:Int),.str (tx cs)] 4=[sN k,sT cs,none,none]:=rfl;rw[hst];have g1:aV T (.asg (.nm 2) (.lst .nil) false) [sN k,sT cs,none,none] = .nx (E3 k cs [] none):=rfl;obtain⟨o',t',q⟩:=ux hg hB k hk cs cs [] none aN hc (by simp;omega);have g2:=cF (yb (by omega) (aC (T:=T) (env:=E3 k cs [] none) (i:=1) (d:=.str (tx cs)) (t:=.own) rfl rfl)) q;rw[cz] at g2;generalize pb (xy k cs)=B at *;unfold bSB;rw[aF,g1,aD,aF,g2,aD];have v2:ev T (.var 2) (E3 k cs B o') = .ok (.lst (iD B),.mv [2]):=be rfl rfl;rw[aF,aV,v2,aY];rfl
def Dn (T:Tb):Prop:=∀(k:Nat),k=2\/k=3->∀ cs:List Nat,(∀ c∈cs,c∈kn k)->cs.length<=64->T.cl 13 [.int (k:Int),.str (tx cs)] = .ok (.lst (iD (pb (xy k cs))),true)
noncomputable def ch:Nat->List Nat->List (List Nat)
 |0,_=>[]
 |m+1,cs=>cs.take 3::ch m (cs.drop 3)
noncomputable def rR (cs:List Nat):Nat:=(cs.length+2) / 3
noncomputable def ls (m:Nat)(cs:List Nat):List (Int×Nat):=(ch m cs).map fun g=>(qt g,fb g.length)
theorem GX (n:Nat):(Builtin.Range.rangeSize 0 (n:Int) 3).toNat=(n+2) / 3:=by
 unfold Builtin.Range.rangeSize;rw[if_pos (by decide)];by_cases h:(0:Int)<(n:Int)
 ·rw[if_pos h];omega
 ·rw[if_neg h];omega
theorem Ay (T:Tb)(env:En)(e1 e2:Ex)(n:Nat)(hn:n<=1000){R:Rt}(h1:ev T e1 env = .ok (.int (n:Int),R)){R2:Rt}(h2:ev T e2 env = .ok (.int 3,R2)):eX T (.rng3 (.cst (.int (0))) e1 e2) env = .ok (aQ 0 3 ((n+2) / 3),[]):=by
 rw[eX,aH,aA,h1,aA,h2,aA];dsimp only;have a1:eZ 0=true:=by decide
 have a2:=Ce hn;have a3:((3:Int) != 0)=true:=by decide
 have a4:decide ((3:Int).natAbs<1073741824)=true:=by decide
 rw[a1,a2,a3,a4,GX];rfl
theorem zf (cs:List Nat)(s:Nat)(h:s<=cs.length)(hl:cs.length<=1000):FD (.str (tx cs)) (some (s:Int)) (some ((s:Int)+3))=some (.str (tx ((cs.drop s).take 3))):=by
 show (if (tx cs).length<=lim then some (D.str ⟨(cut cs (some (s:Int)) (some ((s:Int)+3))).toArray⟩) else none)=_;rw[if_pos (we hl)];have:cut cs (some (s:Int)) (some ((s:Int)+3))=(cs.drop s).take 3:=by
  unfold cut;have h1:bL cs.length 0 (some (s:Int))=s:=by
   unfold bL;dsimp only;rw[if_neg (by omega),dm];omega
  have h2:bL cs.length cs.length (some ((s:Int)+3))=min (s+3) cs.length:=by
   unfold bL;dsimp only;rw[if_neg (by omega),show ((s:Int)+3).toNat=s+3 by omega]
  dsimp only;rw[h1,h2];by_cases hc:s+3<=cs.length
  ·rw[dz hc,show s+3 - s=3 by omega]
  ·rw[Nat.min_eq_right (by omega),eh (by rw[c9];omega),eh (by rw[c9];omega)]
 rw[this];rfl
theorem Hs {T:Tb}(hg:GL T)(env:En)(e:Ex){R:Rt}:∀ m:Nat,0<m->m<=3->ev T e env = .ok (.int (m:Int),R)->ev T (.ix (.glb 8) e) env = .ok (.int (fb m:Nat),.mv [])
 |1,_,_,h=>cO (i:=1) (aR (hg 8 (by decide))) h rfl rfl
 |2,_,_,h=>cO (i:=2) (aR (hg 8 (by decide))) h rfl rfl
 |3,_,_,h=>cO (i:=3) (aR (hg 8 (by decide))) h rfl rfl
 |m+4,_,h,_=>absurd h (by omega)
theorem z0 {T:Tb}{env:En}{e:Ex}{g:List Nat}(h0:0<g.length)(h3:g.length<=3)(hg:∀ c∈g,c∈kn 1)(h:ev T e env = .ok (.str (tx g),.mv [])):ev T (.blt .int (.cons e .nil)) env = .ok (.int (qt g),.mv []):=by
 obtain⟨a,_,_⟩:=sS h0 h3 hg;rw[ev,aX,aX,h,aA,aA,aA,j6];have:kH .int [.str (tx g)]=some (.int (qt g)):=by
  show (if (tx g).length<=640 then (PySem.intText? (tx g)).map D.int else none)=_;rw[if_pos (by rw[lZ];omega),a];rfl
 dsimp only;rw[this,bQ,aA,fF]
theorem wU {m:Nat}(h:m<=3):fb m<=10:=by
 unfold fb;split<;>omega
noncomputable def Aj:bJ:=(.cons (.asg (.nm 3) (.sl (.var 0) (.some (.var 2)) (.some (.bin .Add (.var 2) (.glb 9)))) false)
  (.cons (.mut 1 .none .extend (.cons (.call 9 (.cons (.blt .int (.cons (.var 3) .nil)) (.cons (.ix (.glb 8) (.blt .len (.cons (.var 3) .nil))) .nil))) .nil))
  .nil))
noncomputable def bFB:bJ:=(.cons (.asg (.nm 1) (.lst .nil) false)
  (.cons (.forr (.nm 2) (.rng3 (.cst (.int (0))) (.blt .len (.cons (.var 0) .nil)) (.glb 9)) Aj)
  (.cons (.ret (.var 1))
  .nil)))
noncomputable abbrev E2 (cs:List Nat)(L:List Int)(o2 o3:Slot):En:=[sT cs,oI L,o2,o3]
theorem ox {cs:List Nat}{L:List Int}{o2 o3:Slot}(h2:aK o2)(h3:aK o3):Tame (E2 cs L o2 o3):=.cons (aB _) (.cons (aB _) (.cons h2 (.cons h3 .nil)))
theorem GV {T:Tb}(hg:GL T)(hB:mF T)(cs:List Nat)(hcs:cs.length<=64)(hk:∀ c∈cs,c∈kn 1)(L:List Int)(hL:L.length<=900)(s:Nat)(hs:s<cs.length)(o3:Slot)(t3:aK o3):aF T Aj (E2 cs L (sN s) o3) = .nx (E2 cs (L++bF (qt ((cs.drop s).take 3)) (fb ((cs.drop s).take 3).length)) (sN s) (sT ((cs.drop s).take 3))):=by
 have to:=aB;have es:ev T (.sl (.var 0) (.some (.var 2)) (.some (.bin .Add (.var 2) (.glb 9)))) (E2 cs L (sN s) o3) = .ok (.str (tx ((cs.drop s).take 3)),.mv []):=by
  have v0:ev T (.var 0) (E2 cs L (sN s) o3) = .ok (.str (tx cs),.mv []):=aC rfl rfl;have v2:ev T (.var 2) (E2 cs L (sN s) o3) = .ok (.int (s:Int),.mv []):=aC rfl rfl;have v3:ev T (.bin .Add (.var 2) (.glb 9)) (E2 cs L (sN s) o3) = .ok (.int ((s:Int)+3),.mv []):=bZ v2 (aR (hg 9 (by decide)));rw[ev,v0,aA,jB,v2,aA];dsimp only;rw[aA,jB,v3,aA];dsimp only;rw[aA,zf cs s (by omega) (by omega)];rfl
 have hg1:0<((cs.drop s).take 3).length:=by rw[bh,c9];omega
 have hg2:((cs.drop s).take 3).length<=3:=by rw[bh];omega
 have hg3:∀ c∈(cs.drop s).take 3,c∈kn 1:=fun c hc=>hk c (List.mem_of_mem_drop (List.mem_of_mem_take hc))
 generalize (cs.drop s).take 3=g at *;have g1:aV T (.asg (.nm 3) (.sl (.var 0) (.some (.var 2)) (.some (.bin .Add (.var 2) (.glb 9)))) false) (E2 cs L (sN s) o3) = .nx (E2 cs L (sN s) (sT g)):=aL (ox (to _) t3) (show (3:Nat)<4 by decide) es;have v3:ev T (.var 3) (E2 cs L (sN s) (sT g)) = .ok (.str (tx g),.mv []):=aC rfl rfl;obtain⟨_,hv0,hv1⟩:=sS hg1 hg2 hg3;have hfb:=wU hg2;have e4:ev T (.call 9 (.cons (.blt .int (.cons (.var 3) .nil)) (.cons (.ix (.glb 8) (.blt .len (.cons (.var 3) .nil))) .nil))) (E2 cs L (sN s) (sT g)) = .ok (.lst (iD (bF (qt g) (fb g.length))),.mv []):=fJ (z0 hg1 hg2 hg3 v3) (Hs hg _ _ g.length hg1 hg2 (gW (by omega) v3)) (hB _ _ hv0 (by omega));have hbl:=bT (qt g) (fb g.length);have gg:=lj (x:=1) (ox (cs:=cs) (L:=L) (to (.int (s:Int))) (to (.str (tx g)))) rfl e4 (fM _) (by rw[bM,bM,hbl];exact iQ (by omega));have gg':aV T (.mut 1 .none .extend (.cons (.call 9 (.cons (.blt .int (.cons (.var 3) .nil)) (.cons (.ix (.glb 8) (.blt .len (.cons (.var 3) .nil))) .nil))) .nil)) (E2 cs L (sN s) (sT g)) = .nx (E2 cs (L++bF (qt g) (fb g.length)) (sN s) (sT g)):=by
  rw[gg];show Fl.nx [sT cs,some (.lst (iD L++iD (bF (qt g) (fb g.length))),.own),sN s,sT g]=_;rw[<-kj]
 unfold Aj;rw[aF,g1,aD,aF,gg',aD];rfl
theorem ints3 (s m:Nat):aQ (s:Int) 3 (m+1) = .int (s:Int)::aQ ((s+3:Nat):Int) 3 m:=by
 rw[aQ,show (s:Int)+3=((s+3:Nat):Int) by omega]
theorem um {T:Tb}(hg:GL T)(hB:mF T)(cs:List Nat)(hcs:cs.length<=64)(hk:∀ c∈cs,c∈kn 1):∀(m s:Nat) (L:List Int) (o2 o3:Slot),aK o2->aK o3->s+3*m<cs.length+3->L.length+10*m<=900->∃ o2' o3',aK o2'/\aK o3'/\bU (.nm 2) [] (aF T Aj) (aQ (s:Int) 3 m) (E2 cs L o2 o3) = .nx (E2 cs (L++pb (ls m (cs.drop s))) o2' o3')
 |0,s,L,o2,o3,h2,h3,_,_=>⟨o2,o3,h2,h3,by rw[show pb (ls 0 (cs.drop s))=[] from rfl,ax];rfl⟩
 | m+1,s,L,o2,o3,h2,h3,hs,hl=>by
  have hin:=GV hg hB cs hcs hk L (by omega) s (by omega) o3 h3;have hfb:=wU (show ((cs.drop s).take 3).length<=3 by rw[bh];omega);obtain⟨p2,p3,u2,u3,q⟩:=um hg hB cs hcs hk m (s+3) (L++bF (qt ((cs.drop s).take 3)) (fb ((cs.drop s).take 3).length)) (sN s) (sT ((cs.drop s).take 3)) (aB _) (aB _) (by omega) (by rw[ag,bT];omega);refine⟨p2,p3,u2,u3,?_⟩;have hb:aZ [] (.nm 2) (.int (s:Int)) (E2 cs L o2 o3)=some (E2 cs L (sN s) o3):=bY (ox h2 h3) (show (2:Nat)<4 by decide);rw[ints3,bB hb hin,q];show Fl.nx (E2 cs ((L++bF (qt ((cs.drop s).take 3)) (fb ((cs.drop s).take 3).length))++pb (ls m (cs.drop (s+3)))) p2 p3)=Fl.nx (E2 cs (L++(bF (qt ((cs.drop s).take 3)) (fb ((cs.drop s).take 3).length)++pb (ls m ((cs.drop s).drop 3)))) p2 p3);rw[cf,List.drop_drop]
theorem Fx {T:Tb}(hg:GL T)(hB:mF T)(cs:List Nat)(hc:∀ c∈cs,c∈kn 1)(hl:cs.length<=64):ret (aF T bFB (aG [.str (tx cs)] 4)) = .ok (.lst (iD (pb (ls (rR cs) cs))),true):=by
 have hst:aG [.str (tx cs)] 4=[sT cs,none,none,none]:=rfl;rw[hst];have g1:aV T (.asg (.nm 1) (.lst .nil) false) [sT cs,none,none,none] = .nx (E2 cs [] none none):=rfl;obtain⟨o2,o3,t2,t3,q⟩:=um hg hB cs hl hc ((cs.length+2) / 3) 0 [] none none aN aN (by omega) (by simp;omega);have v0:ev T (.var 0) (E2 cs [] none none) = .ok (.str (tx cs),.mv []):=aC rfl rfl;have hit:=Ay T (E2 cs [] none none) _ (.glb 9) cs.length (by omega) (gW (by omega) v0) (R2:=.mv []) (aR (hg 9 (by decide)));have g2:=cF hit q;rw[cz,List.drop_zero] at g2;unfold rR;generalize pb (ls ((cs.length+2) / 3) cs)=B at *;unfold bFB;rw[aF,g1,aD,aF,g2,aD];have v1:ev T (.var 1) (E2 cs B o2 o3) = .ok (.lst (iD B),.mv [1]):=be rfl rfl;rw[aF,aV,v1,aY];rfl
def CH (T:Tb):Prop:=∀ cs:List Nat,(∀ c∈cs,c∈kn 1)->cs.length<=64->T.cl 12 [.str (tx cs)] = .ok (.lst (iD (pb (ls (rR cs) cs))),true)
noncomputable def rC (k:Nat)(cs:List Nat):List (Int×Nat):=if k=1 then ls (rR cs) cs else xy k cs
noncomputable def gG (k:Nat)(cs:List Nat):List (Int×Nat):=[((k:Int),2),((cs.length:Int) - 1,6)]++rC k cs
theorem i9 {T:Tb}{env:En}{a b:Ex}{x y:List Int}{R R':Rt}(h:ev T a env = .ok (.lst (iD x),R))(h':ev T b env = .ok (.lst (iD y),R'))(hl:x.length+y.length<=20000):ev T (.bin .Add a b) env = .ok (.lst (iD (x++y)),.mv []):=by
 rw[ev,h,aA,h',aA];have:mM .Add (.lst (iD x)) (.lst (iD y))=some (.lst (iD (x++y))):=by
  show ck ((iD x).length+(iD y).length) (.lst (iD x++iD y))=_;unfold ck;rw[if_pos (by rw[bM,bM];exact wJ hl),kj]
 rw[this,bQ,aA,gT]
theorem rz:∀(G:List (Int×Nat)),(∀ q∈G,q.2<=10)->(pb G).length<=10*G.length
 |[],_=>dk _
 | q::G,h=>by
  have:=rz G fun x hx=>h x (ah _ hx)
  have hq:=h q ak;show (bF q.1 q.2++pb G).length<=_;rw[ag,bT,aw];omega
theorem q5:∀(m:Nat) (cs:List Nat),(ch m cs).length=m
 |0,_=>rfl
 |m+1,cs=>by rw[ch,aw,q5 m]
theorem Cc:∀(m:Nat) (cs:List Nat),∀ g∈ch m cs,g.length<=3
 | m+1,cs,g,hg=>by
  rcases iy.mp hg with rfl | hg
  ·rw[bh];omega
  ·exact Cc m _ g hg
theorem B7 {k:Nat}(hk:k=1\/k=2\/k=3){cs:List Nat}(hl:cs.length<=64):(rC k cs).length<=64/\∀ q∈rC k cs,q.2<=10:=by
 unfold rC;split
 ·constructor
  ·unfold ls rR;rw[ao,q5];omega
  ·intro q hq;obtain⟨g,_,rfl⟩:=List.mem_map.mp hq;exact wU (Cc _ _ g ‹_›)
 ·constructor
  ·unfold xy;rw[ao];exact hl
  ·intro q hq;obtain⟨c,_,rfl⟩:=List.mem_map.mp hq;show 2*k+1<=10;omega
noncomputable def bPB:bJ:=(.cons (.asg (.nm 1) (.ix (.var 0) (.cst (.int (0)))) false)
  (.cons (.asg (.nm 2) (.ix (.var 0) (.cst (.int (1)))) false)
  (.cons (.asg (.nm 3) (.bin .Add (.call 9 (.cons (.var 1) (.cons (.glb 5) .nil))) (.call 9 (.cons (.bin .Sub (.blt .len (.cons (.var 2) .nil)) (.cst (.int (1)))) (.cons (.glb 6) .nil)))) false)
  (.cons (.ite (.cmp .Eq (.var 1) (.glb 0)) (.cons (.ret (.bin .Add (.var 3) (.call 12 (.cons (.var 2) .nil))))
  .nil) .nil)
  (.cons (.ret (.bin .Add (.var 3) (.call 13 (.cons (.var 1) (.cons (.var 2) .nil)))))
  .nil)))))
theorem Hz {T:Tb}(hg:GL T)(hB:mF T)(hF:CH T)(hS:Dn T)(k:Nat)(hk:k=1\/k=2\/k=3)(cs:List Nat)(hc:∀ c∈cs,c∈kn k)(h0:0<cs.length)(hl:cs.length<=64):ret (aF T bPB (aG [.tup [.int (k:Int),.str (tx cs)]] 4)) = .ok (.lst (iD (pb (gG k cs))),true):=by
 have hst:aG [.tup [.int (k:Int),.str (tx cs)]] 4=[some (.tup [.int (k:Int),.str (tx cs)],.own),none,none,none]:=rfl;rw[hst];have to:=aB;have g1:aV T (.asg (.nm 1) (.ix (.var 0) (.cst (.int (0)))) false) [some (.tup [.int (k:Int),.str (tx cs)],.own),none,none,none] = .nx [some (.tup [.int (k:Int),.str (tx cs)],.own),sN k,none,none]:=rfl;have g2:aV T (.asg (.nm 2) (.ix (.var 0) (.cst (.int (1)))) false) [some (.tup [.int (k:Int),.str (tx cs)],.own),sN k,none,none] = .nx [some (.tup [.int (k:Int),.str (tx cs)],.own),sN k,sT cs,none]:=rfl;have tp0:aK (some (D.tup [.int (k:Int),.str (tx cs)],Tg.own)):=to _;generalize (some (D.tup [.int (k:Int),.str (tx cs)],Tg.own):Slot)=p0 at *;have v1:∀ o,ev T (.var 1) [p0,sN k,sT cs,o] = .ok (.int (k:Int),.mv []):=fun _=>aC rfl rfl
 have v2:∀ o,ev T (.var 2) [p0,sN k,sT cs,o] = .ok (.str (tx cs),.mv []):=fun _=>aC rfl rfl
 have x1:ev T (.call 9 (.cons (.var 1) (.cons (.glb 5) .nil))) [p0,sN k,sT cs,none] = .ok (.lst (iD (bF (k:Int) 2)),.mv []):=fJ (v1 none) (aR (d:=.int ((2:Nat):Int)) (hg 5 (by decide))) (hB _ 2 (by omega) (by omega));have x2:ev T (.bin .Sub (.blt .len (.cons (.var 2) .nil)) (.cst (.int (1)))) [p0,sN k,sT cs,none] = .ok (.int ((cs.length:Int) - 1),.mv []):=by
  rw[ev,gW (by omega) (v2 none),aA,aH,aA,fH];rfl
 have x3:ev T (.call 9 (.cons (.bin .Sub (.blt .len (.cons (.var 2) .nil)) (.cst (.int (1)))) (.cons (.glb 6) .nil))) [p0,sN k,sT cs,none] = .ok (.lst (iD (bF ((cs.length:Int) - 1) 6)),.mv []):=fJ x2 (aR (d:=.int ((6:Nat):Int)) (hg 6 (by decide))) (hB _ 6 (by omega) (by omega));have x4:=i9 x1 x3 (by rw[bT,bT];omega);have hGe:pb (gG k cs)=(bF (k:Int) 2++bF ((cs.length:Int) - 1) 6)++pb (rC k cs):=by
  show bF (k:Int) 2++(bF ((cs.length:Int) - 1) 6++pb (rC k cs))=_;rw[cf]
 have hHl:(bF (k:Int) 2++bF ((cs.length:Int) - 1) 6).length=8:=by rw[ag,bT,bT]
 rw[hGe];generalize bF (k:Int) 2++bF ((cs.length:Int) - 1) 6=HD at *;have g3:aV T (.asg (.nm 3) (.bin .Add (.call 9 (.cons (.var 1) (.cons (.glb 5) .nil))) (.call 9 (.cons (.bin .Sub (.blt .len (.cons (.var 2) .nil)) (.cst (.int (1)))) (.cons (.glb 6) .nil)))) false) [p0,sN k,sT cs,none] = .nx [p0,sN k,sT cs,oI HD]:=aL (.cons tp0 (.cons (to _) (.cons (to _) (.cons aN .nil)))) (show (3:Nat)<4 by decide) x4;have v3:ev T (.var 3) [p0,sN k,sT cs,oI HD] = .ok (.lst (iD HD),.mv [3]):=be rfl rfl;have gb:=B7 hk hl;have hpl:=rz (rC k cs) gb.2;have xc:ev T (.cmp .Eq (.var 1) (.glb 0)) [p0,sN k,sT cs,oI HD] = .ok (.bl ((k:Int)==1),.mv []):=by
  rw[ev,v1,aA,aR (hg 0 (by decide)),aA];rfl
 unfold bPB;rw[aF,g1,aD,aF,g2,aD,aF,g3,aD];by_cases h1:k=1
 ·subst h1;have y:=fV (f:=12) (v2 (oI HD)) (hF cs hc hl);have hgr:rC 1 cs=ls (rR cs) cs:=rfl;rw[<-hgr] at y;have z:=i9 v3 y (by omega);rw[aF,aV,xc,aY];have:truth (.bl (((1:Nat):Int)==1))=some true:=rfl;dsimp only;rw[this];dsimp only;rw[aF,aV,z,aY];rfl
 ·have hk':k=2\/k=3:=by omega
  have y:=fJ (f:=13) (v1 (oI HD)) (v2 (oI HD)) (hS k hk' cs hc hl);have hgr:rC k cs=xy k cs:=by unfold rC;rw[if_neg h1]
  rw[<-hgr] at y;have z:=i9 v3 y (by omega);have hne:((k:Int)==1)=false:=by rw[ig];omega
  rw[hne] at xc;rw[aF,ite_ff xc,aD];exact eV z
noncomputable def PB (p:Pe):List Int:=pb (gG p.1 p.2)
def Bs (T:Tb):Prop:=∀ p:Pe,Piece p->T.cl 11 [pD p] = .ok (.lst (iD (PB p)),true)
theorem xp {k c:Nat}(h:iE k c=true):c∈kn k:=by
 unfold iE at h;exact List.contains_iff_mem.mp h
theorem xt {T:Tb}(hg:GL T)(hB:mF T)(hF:CH T)(hS:Dn T){p:Pe}(h:Piece p):ret (aF T bPB (aG [pD p] 4)) = .ok (.lst (iD (PB p)),true) :=
 Hz hg hB hF hS p.1 (by have:=h.k1;have:=h.k3;omega) p.2 (fun c hc=>xp (h.all c hc)) (by have:=h.c1;omega) h.c64
theorem CY {p:Pe}(h:Piece p):(PB p).length<=18*p.2.length:=by
 have hk:p.1=1\/p.1=2\/p.1=3:=by have:=h.k1;have:=h.k3;omega
 have gb:=B7 hk h.c64;have c1:=h.c1;have e:(rC p.1 p.2).length<=p.2.length:=by
  unfold rC;split
  ·unfold ls rR;rw[ao,q5];omega
  ·unfold xy;rw[ao];omega
 have:=rz (rC p.1 p.2) gb.2;have hh:(PB p).length=8+(pb (rC p.1 p.2)).length:=by
  show (bF (p.1:Int) 2++(bF ((p.2.length:Int) - 1) 6++pb (rC p.1 p.2))).length=_;rw[ag,ag,bT,bT];omega
 omega
noncomputable def qT (P:List Pe):List Int:=(P.map PB).flatten
theorem kX:∀(P:List Pe),(∀ p∈P,Piece p)->(qT P).length<=18*((P.map (·.2)).flatten).length
 |[],_=>dk _
 | p::P,h=>by
  have a:=CY (h p ak);have b:=kX P fun q hq=>h q (ah _ hq)
  show (PB p++qT P).length<=18*(p.2++(P.map (·.2)).flatten).length;rw[ag,ag];omega
open Pc.Fr (iD)
structure Fs (T:Tb):Prop where
 g:GL T
 e:T.gl 10 = .int 0
 b:T.gl 11 = .int 6
 f:T.gl 12 = .tup [.int 42,.int 21]
theorem Hj (n:Nat):(Builtin.Range.rangeSize 0 (n:Int) 6).toNat=(n+5) / 6:=by
 unfold Builtin.Range.rangeSize;rw[if_pos (by decide)];by_cases h:(0:Int)<(n:Int)
 ·rw[if_pos h];omega
 ·rw[if_neg h];omega
theorem B4:∀(m s:Nat),aQ (s:Int) 6 m=(List.range m).map fun j=>D.int ((s+6*j:Nat):Int)
 |0,s=>rfl
 | m+1,s=>by
  rw[aQ,show (s:Int)+6=((s+6:Nat):Int) by omega,B4 m,gc,av,fq];congr 1;refine dq fun j _=>?_
  show D.int ((s+6+6*j:Nat):Int)=D.int ((s+6*(j+1):Nat):Int);rw[show s+6+6*j=s+6*(j+1) by omega]
theorem Gw {T:Tb}{env:En}{e1 e2:Ex}{n:Nat}(hn:n<=20000){R R2:Rt}(h1:ev T e1 env = .ok (.int (n:Int),R))(h2:ev T e2 env = .ok (.int 6,R2)):eX T (.rng3 (.cst (.int (0))) e1 e2) env = .ok ((List.range ((n+5) / 6)).map fun j=>D.int ((6*j:Nat):Int),[]):=by
 rw[eX,aH,aA,h1,aA,h2,aA];dsimp only;have a1:eZ 0=true:=by decide
 have a2:=Fp hn;have a3:((6:Int) != 0)=true:=by decide
 have a4:decide ((6:Int).natAbs<1073741824)=true:=by decide
 rw[a1,a2,a3,a4,Hj];have:=B4 ((n+5) / 6) 0;simp only[Nat.zero_add] at this;rw[<-this];rfl
theorem wB {T:Tb}{env:En}{a:Ex}{lo hi:l9}{B r:List Int}{l h:Option Int}{R:Rt}(ha:ev T a env = .ok (.lst (iD B),R))(e1:jB T lo env = .ok l)(e2:jB T hi env = .ok h)(hr:FD (.lst (iD B)) l h=some (.lst (iD r))):ev T (.sl a lo hi) env = .ok (.lst (iD r),.mv []):=by
 rw[ev,ha,aA,e1,aA,e2,aA,hr,bQ,aA,gT]
noncomputable def bGB:bJ:=(.cons (.ret (.comp 1 [0] (.nm 0) (.rng3 (.cst (.int (0))) (.blt .len (.cons (.var 0) .nil)) (.glb 11)) .none (.call 10 (.cons (.sl (.var 1) (.some (.var 0)) (.some (.bin .Add (.var 0) (.glb 11)))) .nil))))
  .nil)
noncomputable def gr (B:List Int):List Int:=(List.range ((B.length+5) / 6)).map fun j=>num ((B.drop (6*j)).take 6)
theorem CP (B:List Int):(gr B).length=(B.length+5) / 6:=by
 unfold gr;rw[ao,cm]
theorem Gh {T:Tb}(hg:Fs T)(hN:F9 T){B:List Int}(hl:B.length<=5000)(h6:B.length%6=0):ret (aF T bGB (aG [.lst (iD B)] 1)) = .ok (.lst (iD (gr B)),true):=by
 have hst:aG [.lst (iD B)] 1=[some (.lst (iD B),.sh [])]:=rfl;rw[hst];have v0:ev T (.var 0) [some (.lst (iD B),.sh [])] = .ok (.lst (iD B),.sh []):=rfl;have el:=dQ v0;rw[bM] at el;have hit:=Gw (by omega) el (aR (hg.b));have k:=pI (own:=1) (pick:=[0]) (t:=.nm 0) (e:=(.call 10 (.cons (.sl (.var 1) (.some (.var 0)) (.some (.bin .Add (.var 0) (.glb 11)))) .nil))) (r:=fun j=>D.int (num ((B.drop (6*j)).take 6))) hit (by rw[cm];omega) (fun j hj=>by
  have hj:=List.mem_range.mp hj;have hb:aZ [] (.nm 0) (.int ((6*j:Nat):Int)) (dA [some (.lst (iD B),.sh [])] 1 [0])=some [sN (6*j),some (.lst (iD B),.sh [])]:=rfl;rw[hb];refine Ci (fV (wB (B:=B) (r:=(B.drop (6*j)).take 6) (eK rfl).choose_spec (eR (i:=((6*j:Nat):Int)) (aC rfl rfl)) (eR (i:=((6*j:Nat):Int)+6) (bZ (aC rfl rfl) (aR hg.b))) ?_) (hN _));have:=Ad (iD B) (6*j) 6 (by rw[bM];omega);rw[show ((6:Nat):Int)=6 from rfl] at this;rw[this,iD,<-List.map_drop,<-List.map_take])
 unfold bGB;have e:(List.range ((B.length+5) / 6)).map (fun j=>D.int (num ((B.drop (6*j)).take 6)))=iD (gr B):=by
  unfold gr;rw[iD,fq];rfl
 rw[e] at k;exact eV k
def Ht (T:Tb):Prop:=∀ B:List Int,B.length<=5000->B.length%6=0->T.cl 16 [.lst (iD B)] = .ok (.lst (iD (gr B)),true)
noncomputable def DP:bJ:=(.cons (.mut 1 .none .extend (.cons (.call 11 (.cons (.var 2) .nil)) .nil))
  .nil)
noncomputable def cBG:Ex:=(.cmp .NotEq (.bin .Mod (.blt .len (.cons (.var 1) .nil)) (.glb 11)) (.cst (.int (0))))
noncomputable def C3:bJ:=(.cons (.mut 1 .none .append (.cons (.cst (.int (0))) .nil))
  .nil)
noncomputable def bBG:bJ:=(.cons (.asg (.nm 1) (.lst .nil) false)
  (.cons (.forr (.nm 2) (.seq (.call 1 (.cons (.var 0) .nil))) DP)
  (.cons (.mut 1 .none .extend (.cons (.call 9 (.cons (.glb 10) (.cons (.glb 5) .nil))) .nil))
  (.cons (.whl cBG C3)
  (.cons (.ret (.call 16 (.cons (.var 1) .nil)))
  .nil)))))
noncomputable abbrev EG (t:List Nat)(B:List Int)(o:Slot):En:=[sT t,oI B,o]
theorem oO {t:List Nat}{B:List Int}{o:Slot}(h:aK o):Tame (EG t B o):=.cons (aB _) (.cons (aB _) (.cons h .nil))
theorem BL {T:Tb}{t:List Nat}{B L:List Int}{o:Slot}{e:Ex}(h:aK o)(he:ev T e (EG t B o) = .ok (.lst (iD L),.mv []))(hl:B.length+L.length<=20000):aV T (.mut 1 .none .extend (.cons e .nil)) (EG t B o) = .nx (EG t (B++L) o):=by
 rw[lj (x:=1) (oO (t:=t) (B:=B) h) rfl he (fM _) (by rw[bM,bM];exact wJ hl),<-kj];rfl
theorem tJ {T:Tb}(hP:Bs T){t:List Nat}:∀(P:List Pe) (B:List Int) (o:Slot),aK o->(∀ p∈P,Piece p)->B.length+(qT P).length<=20000->∃ o',aK o'/\bU (.nm 2) [] (aF T DP) (P.map pD) (EG t B o) = .nx (EG t (B++qT P) o')
 |[],B,o,h,_,_=>⟨o,h,by rw[show qT []=[] from rfl,ax];rfl⟩
 | p::P,B,o,h,hp,hl=>by
  have e:qT (p::P)=PB p++qT P:=rfl;rw[e,ag] at hl;have g:aV T (.mut 1 .none .extend (.cons (.call 11 (.cons (.var 2) .nil)) .nil)) (EG t B (some (pD p,.own))) = .nx (EG t (B++PB p) (some (pD p,.own))):=BL (aB _) (fV (aC rfl rfl) (hP p (hp p ak))) (by omega);obtain⟨o',t',q⟩:=tJ hP (t:=t) P (B++PB p) (some (pD p,.own)) (aB _) (fun q hq=>hp q (ah _ hq)) (by rw[ag];omega);refine⟨o',t',?_⟩;have hb:aZ [] (.nm 2) (pD p) (EG t B o)=some (EG t B (some (pD p,.own))):=bY (oO h) (show (2:Nat)<3 by decide);rw[av,bB hb (show aF T DP _=_ from fS g),q,e,cf]
theorem sY {T:Tb}(hg:Fs T){t:List Nat}{B:List Int}{o:Slot}:((ev T cBG (EG t B o)).bind fun p=>gN (truth p.1)) = .ok (decide (B.length%6≠0)):=by
 have el:=dQ (be (T:=T) (env:=EG t B o) (i:=1) (d:=.lst (iD B)) rfl rfl);rw[bM] at el;have em:=dB (show (0:Int)<6 by decide) el (aR hg.b);rw[show (B.length:Int)%6=((B.length%6:Nat):Int) by omega] at em;have:=Fg (y:=0) em (aH (.int 0));unfold cBG;rw[this,aA];rfl
theorem wV {T:Tb}(hg:Fs T){t:List Nat}{o:Slot}(h:aK o):∀(r f:Nat) (B:List Int),r<f->r<6->(B.length+r)%6=0->B.length+r<=20000->fW (fun env=>(ev T cBG env).bind fun p=>gN (truth p.1)) (aF T C3) f (EG t B o) = .nx (EG t (B++List.replicate r 0) o)
 |r,0,B,h1,_,_,_=>absurd h1 (Nat.not_lt_zero _)
 | 0,f+1,B,_,_,h3,_=>by
  rw[w8 (by rw[sY hg,az (by omega)]),List.replicate_zero,ax]
 | r+1,f+1,B,h1,h2,h3,h4=>by
  have g:aV T (.mut 1 .none .append (.cons (.cst (.int (0))) .nil)) (EG t B o) = .nx (EG t (B ++ [0]) o):=by
   rw[jK (x:=1) (oO (t:=t) (B:=B) h) rfl (aH (.int 0)) (by rw[bM];exact wJ (by omega)),show iD B ++ [D.int 0]=iD (B ++ [0]) by rw[kj];rfl];rfl
  rw[w9 (by rw[sY hg,cj (by omega)]) (show aF T C3 _=_ from fS g),wV hg h r f (B ++ [0]) (by omega) (by omega) (by rw[ag,br];omega) (by rw[ag,br];omega),cf];rfl
noncomputable def qM (n:Nat):Nat:=(6 - n%6)%6
noncomputable def tb (t:List Nat):List Int:=qT (pc t.length t) ++ [0,0]
noncomputable def vS (t:List Nat):List Int:=tb t++List.replicate (qM (tb t).length) 0
noncomputable def tg (t:List Nat):List Int:=gr (vS t)
theorem rg {t:List Nat}(hG:Good t):(tb t).length<=18*t.length+2/\2<=(tb t).length:=by
 have h:=kX (pc t.length t) (gP _ _ hG);rw[kW _ _ hG (au _)] at h;unfold tb;rw[ag];exact⟨Nat.add_le_add_right h 2,Nat.le_add_left _ _⟩
theorem oU {t:List Nat}(hG:Good t):(vS t).length<=18*t.length+8/\(vS t).length%6=0/\(vS t).length=(tb t).length+qM (tb t).length:=by
 have h:=(rg hG).1;have e:(vS t).length=(tb t).length+qM (tb t).length:=by
  unfold vS;rw[ag,bo]
 unfold qM at *;refine⟨?_,?_,e⟩<;>omega
theorem zq {t:List Nat}(hG:Good t):1<=(tg t).length/\(tg t).length<=3*t.length+3/\(tg t).length=((tb t).length+5) / 6:=by
 obtain⟨h1,h2,h3⟩:=oU hG;obtain⟨h4,h5⟩:=rg hG;unfold tg;rw[CP];unfold qM at h3;refine⟨?_,?_,?_⟩<;>omega
theorem HK {T:Tb}(hf:1000<=T.fuel)(hg:Fs T)(hC:FN T)(hB:mF T)(hP:Bs T)(hR:Ht T){t:List Nat}(ht:t.length<=200)(hG:Good t):ret (aF T bBG (aG [.str (tx t)] 3)) = .ok (.lst (iD (tg t)),true):=by
 have hst:aG [.str (tx t)] 3=[sT t,none,none]:=rfl;rw[hst];have tn:=aN;have hpl:=kX (pc t.length t) (gP _ _ hG);rw[kW _ _ hG (au _)] at hpl;have g1:aV T (.asg (.nm 1) (.lst .nil) false) [sT t,none,none] = .nx (EG t [] none):=aL (.cons (aB _) (.cons tn (.cons tn .nil))) (show (1:Nat)<3 by decide) (by rw[ev,aX];rfl);have hit:eX T (.seq (.call 1 (.cons (.var 0) .nil))) (EG t [] none) = .ok ((pc t.length t).map pD,[]):=by
  rw[eX,fV (aC rfl rfl) (hC t (by omega) hG),aA];rfl
 obtain⟨o,h,q⟩:=tJ hP (t:=t) (pc t.length t) [] none tn (gP _ _ hG) (by rw[bz];omega);rw[cz] at q;have g2:=cF hit q;have g3:aV T (.mut 1 .none .extend (.cons (.call 9 (.cons (.glb 10) (.cons (.glb 5) .nil))) .nil)) (EG t (qT (pc t.length t)) o) = .nx (EG t (tb t) o) :=
  BL (L:=[0,0]) h (fJ (aR hg.e) (aR (d:=.int ((2:Nat):Int)) (hg.g 5 (by decide))) (hB 0 2 (by decide) (by decide))) (by show _+2<=_;omega)
 obtain⟨l1,l2,l3⟩:=oU hG;have hp6:qM (tb t).length<6:=Nat.mod_lt _ (by decide);have g4:=wV hg (t:=t) h (qM (tb t).length) T.fuel (tb t) (by omega) hp6 (by rw[<-l3];exact l2) (by omega);have k:=fV (be (T:=T) (env:=EG t (vS t) o) (i:=1) (d:=.lst (iD (vS t))) rfl rfl) (hR (vS t) (by omega) l2);unfold bBG;rw[aF,g1,aD,aF,g2,aD,aF,g3,aD,aF,aV,g4,aD];exact eV k
def GB (T:Tb):Prop:=∀ t:List Nat,t.length<=200->Good t->T.cl 15 [.str (tx t)] = .ok (.lst (iD (tg t)),true)
noncomputable def bFG:bJ:=(.cons (.ite (.cmp .Gt (.blt .len (.cons (.var 0) .nil)) (.var 1)) (.cons (.expr (.neg (.cst .non)))
  .nil) .nil)
  (.cons (.asg (.nm 2) (.bin .Sub (.var 1) (.blt .len (.cons (.var 0) .nil))) false)
  (.cons (.ret (.bin .Add (.var 0) (.comp 1 [] (.nm 0) (.rng1 (.var 2)) .none (.ix (.glb 12) (.bin .Mod (.var 0) (.blt .len (.cons (.glb 12) .nil)))))))
  .nil)))
noncomputable def fi (n:Nat):Int:=if n%2=0 then 42 else 21
noncomputable def iO (n:Nat):List Int:=(List.range n).map fi
theorem HH {T:Tb}(hg:Fs T){L:List Int}{r:Nat}(hr:L.length<=r)(h:r<=1000):ret (aF T bFG (aG [.lst (iD L),.int (r:Int)] 3)) = .ok (.lst (iD (L++iO (r - L.length))),true):=by
 have hst:aG [.lst (iD L),.int (r:Int)] 3=[some (.lst (iD L),.sh []),sN r,none]:=rfl;rw[hst];have te:Tame [some (.lst (iD L),.sh []),sN r,none]:=.cons (dX _) (.cons (aB _) (.cons aN .nil));have el:∀ o,ev T (.blt .len (.cons (.var 0) .nil)) [some (.lst (iD L),.sh []),sN r,o] = .ok (.int (L.length:Int),.mv []):=fun o=>by
  have:=dQ (T:=T) (env:=[some (.lst (iD L),.sh []),sN r,o]) (e:=.var 0) (xs:=iD L) (R:=.sh []) rfl;rw[bM] at this;exact this
 have ec:=pd (el none) (aC (T:=T) (i:=1) (d:=.int (r:Int)) (t:=.own) rfl rfl);have g1:=lL (a:=(.cons (.expr (.neg (.cst .non))) .nil)) (b:=.nil) ec;rw[if_neg (by omega),gJ] at g1;have g2:aV T (.asg (.nm 2) (.bin .Sub (.var 1) (.blt .len (.cons (.var 0) .nil))) false) [some (.lst (iD L),.sh []),sN r,none] = .nx [some (.lst (iD L),.sh []),sN r,sN (r - L.length)] :=
  aL te (show (2:Nat)<3 by decide) (j7 hr (aC rfl rfl) (el none))
 have hit:=zC (aC (T:=T) (env:=[some (.lst (iD L),.sh []),sN r,sN (r - L.length)]) (i:=2) (d:=.int ((r - L.length:Nat):Int)) (t:=.own) rfl rfl) (by omega);rw[eY] at hit;have k:=pI (own:=1) (pick:=[]) (t:=.nm 0) (e:=(.ix (.glb 12) (.bin .Mod (.var 0) (.blt .len (.cons (.glb 12) .nil))))) (r:=fun j=>D.int (fi j)) hit (by rw[cm];omega) (fun j hj=>by
  have hb:aZ [] (.nm 0) (.int ((0+j:Nat):Int)) (dA [some (.lst (iD L),.sh []),sN r,sN (r - L.length)] 1 [])=some [sN (0+j)]:=rfl;rw[hb,gh];have el2:=Fr.zz (aR (T:=T) (env:=[sN j]) hg.f);have em:=dB (show (0:Int)<2 by decide) (aC (T:=T) (env:=[sN j]) (i:=0) (d:=.int (j:Int)) (t:=.own) rfl rfl) el2;rw[show (j:Int)%2=((j%2:Nat):Int) by omega] at em;refine Ci (cO (i:=j%2) (aR hg.f) em ?_ rfl);unfold fi;have:j%2<2:=Nat.mod_lt _ (by decide)
  match j%2,this with
  |0,_=>rfl
  |1,_=>rfl)
 have e:(List.range (r - L.length)).map (fun j=>D.int (fi j))=iD (iO (r - L.length)):=by
  unfold iO;rw[iD,fq];rfl
 rw[e] at k;have ka:=i9 (T:=T) (env:=[some (.lst (iD L),.sh []),sN r,sN (r - L.length)]) (a:=.var 0) (x:=L) (R:=.sh []) rfl k (by
  have:(iO (r - L.length)).length=r - L.length:=by unfold iO;rw[ao,cm]
  omega)
 unfold bFG;rw[aF,g1,aD,aF,g2,aD];exact eV ka
def HE (T:Tb):Prop:=∀(L:List Int) (r:Nat),L.length<=r->r<=1000->T.cl 17 [.lst (iD L),.int (r:Int)] = .ok (.lst (iD (L++iO (r - L.length))),true)
noncomputable def bTG:bJ:=(.cons (.ret (.call 17 (.cons (.call 15 (.cons (.var 0) .nil)) (.cons (.var 1) .nil))))
  .nil)
theorem De {T:Tb}(hB:GB T)(hF:HE T){t:List Nat}{r:Nat}(ht:t.length<=200)(hG:Good t)(hr:(tg t).length<=r)(h:r<=1000):ret (aF T bTG (aG [.str (tx t),.int (r:Int)] 2)) = .ok (.lst (iD (tg t++iO (r - (tg t).length))),true):=by
 have hst:aG [.str (tx t),.int (r:Int)] 2=[sT t,sN r]:=rfl;rw[hst];unfold bTG;exact eV (fJ (fV (aC rfl rfl) (hB t ht hG)) (aC rfl rfl) (hF _ _ hr h))
def TGok (T:Tb):Prop:=∀(t:List Nat) (r:Nat),t.length<=200->Good t->(tg t).length<=r->r<=1000->T.cl 14 [.str (tx t),.int (r:Int)] = .ok (.lst (iD (tg t++iO (r - (tg t).length))),true)
end Pc.Gn
end
section
namespace K08
open PySem Pc
noncomputable def b0:bJ:=(.cons (.asg (.nm 2) (.bin .Add (.glb 5) (.glb 6)) false)
  (.cons (.ite (.cmp .Eq (.var 0) (.glb 0)) (.cons (.ret (.bin .Add (.bin .Add (.var 2) (.bin .Mult (.ix (.glb 8) (.glb 9)) (.bin .FloorDiv (.var 1) (.glb 9)))) (.ix (.glb 8) (.bin .Mod (.var 1) (.glb 9)))))
  .nil) .nil)
  (.cons (.ret (.bin .Add (.var 2) (.bin .Mult (.ix (.glb 4) (.var 0)) (.var 1))))
  .nil)))
noncomputable def b1:bJ:=(.cons (.expr (.call 2 (.cons (.var 0) .nil)))
  (.cons (.asg (.nm 1) (.call 3 (.cons (.var 0) .nil)) false)
  (.cons (.asg (.nm 2) (.lst .nil) false)
  (.cons (.asg (.nm 3) (.cst (.int (0))) false)
  (.cons (.whl (.cmp .Lt (.var 3) (.blt .len (.cons (.var 0) .nil))) (.cons (.asg (.nm 4) (.ix (.ix (.var 1) (.var 3)) (.cst (.int (2)))) false)
  (.cons (.asg (.nm 5) (.bin .Add (.var 3) (.ix (.ix (.var 1) (.var 3)) (.cst (.int (3))))) false)
  (.cons (.mut 2 .none .append (.cons (.tup (.cons (.var 4) (.cons (.sl (.var 0) (.some (.var 3)) (.some (.var 5))) .nil))) .nil))
  (.cons (.asg (.nm 3) (.var 5) false)
  .nil)))))
  (.cons (.ret (.var 2))
  .nil))))))
noncomputable def b2:bJ:=(.cons (.forr (.tp [1,2]) (.enum (.var 0)) (.cons (.ite (.cmp .NotIn (.var 2) (.ix (.glb 3) (.glb 2))) (.cons (.expr (.neg (.cst .non)))
  .nil) .nil)
  .nil))
  .nil)
noncomputable def b3:bJ:=(.cons (.asg (.nm 1) (.bin .Mult (.lst (.cons (.tup (.cons (.cst (.int (0))) (.cons (.cst (.int (0))) (.cons (.cst (.int (0))) (.cons (.cst (.int (0))) .nil))))) .nil)) (.bin .Add (.blt .len (.cons (.var 0) .nil)) (.cst (.int (1))))) false)
  (.cons (.asg (.nm 2) (.ddsp [(0,0),(1,0),(2,0)]) false)
  (.cons (.forr (.nm 3) (.rng3 (.bin .Sub (.blt .len (.cons (.var 0) .nil)) (.cst (.int (1)))) (.neg (.cst (.int (1)))) (.neg (.cst (.int (1))))) (.cons (.asg (.nm 4) (.lst .nil) false)
  (.cons (.forr (.nm 5) (.seq (.blt .list (.cons (.var 2) .nil))) (.cons (.putd 2 (.var 5) (.ite (.cmp .In (.ix (.var 0) (.var 3)) (.ix (.glb 3) (.var 5))) (.bin .Add (.ix (.var 2) (.var 5)) (.cst (.int (1)))) (.cst (.int (0)))))
  (.cons (.mut 4 .none .extend (.cons (.call 4 (.cons (.var 1) (.cons (.var 3) (.cons (.var 5) (.cons (.ix (.var 2) (.var 5)) .nil))))) .nil))
  .nil)))
  (.cons (.setix 1 .none (.var 3) (.blt .min2 (.cons (.var 4) .nil)))
  .nil))))
  (.cons (.ret (.var 1))
  .nil))))
noncomputable def b4:bJ:=(.cons (.asg (.nm 4) (.lst .nil) false)
  (.cons (.forr (.nm 5) (.rng2 (.cst (.int (1))) (.bin .Add (.blt .min2 (.cons (.var 3) (.cons (.glb 7) .nil))) (.cst (.int (1))))) (.cons (.asg (.nm 6) (.ix (.var 0) (.bin .Add (.var 1) (.var 5))) false)
  (.cons (.mut 4 .none .append (.cons (.tup (.cons (.bin .Add (.call 0 (.cons (.var 2) (.cons (.var 5) .nil))) (.ix (.var 6) (.cst (.int (0))))) (.cons (.bin .Add (.cst (.int (1))) (.ix (.var 6) (.cst (.int (1))))) (.cons (.var 2) (.cons (.var 5) .nil))))) .nil))
  .nil)))
  (.cons (.ret (.var 4))
  .nil)))
noncomputable def b5:bJ:=(.cons (.asg (.nm 3) (.var 1) false)
  (.cons (.ite (.cmp .Gt (.blt .len (.cons (.var 0) .nil)) (.cst (.int (0)))) (.cons (.asg (.nm 3) (.ix (.var 0) (.bin .Mod (.var 1) (.blt .len (.cons (.var 0) .nil)))) false)
  .nil) .nil)
  (.cons (.ret (.bin .Mod (.bin .Add (.bin .Add (.bin .Add (.bin .Mult (.bin .Mod (.var 3) (.cst (.int (1000000007)))) (.cst (.int (69621)))) (.bin .Mult (.bin .Mult (.var 1) (.var 1)) (.cst (.int (7919))))) (.bin .Mult (.cst (.int (5))) (.var 1))) (.cst (.int (1234567)))) (.var 2)))
  .nil)))
noncomputable def b6:bJ:=(.cons (.ite (.cmp .Eq (.var 0) (.cst (.int (1)))) (.cons (.ret (.cst (.str ("0123456789" : PySem.Str))))
  .nil) .nil)
  (.cons (.ite (.cmp .Eq (.var 0) (.cst (.int (2)))) (.cons (.ret (.cst (.str (" ABCDEFGHIJKLMNOPQRSTUVWXYZ.,-:/" : PySem.Str))))
  .nil) .nil)
  (.cons (.asg (.nm 1) (.cst (.str (" !\"#$&'()*+,-./0123456789:;<=>?@ABCDEFGHIJKLMNOPQRSTUVWXYZ[\\]^_`" : PySem.Str))) false)
  (.cons (.ret (.bin .Add (.var 1) (.cst (.str ("abcdefghijklmnopqrstuvwxyz{|}~" : PySem.Str)))))
  .nil))))
noncomputable def b7:bJ:=(.cons (.asg (.nm 2) (.call 6 (.cons (.bin .Add (.cst (.int (1))) (.bin .Mod (.var 0) (.cst (.int (3))))) .nil)) false)
  (.cons (.asg (.nm 3) (.cst (.str ("" : PySem.Str))) false)
  (.cons (.forr (.nm 4) (.rng1 (.var 1)) (.cons (.asg (.nm 0) (.bin .Add (.bin .Mod (.bin .Mult (.var 0) (.cst (.int (48271)))) (.cst (.int (2147483647)))) (.var 4)) false)
  (.cons (.asg (.nm 3) (.bin .Add (.var 3) (.ix (.var 2) (.bin .Mod (.bin .FloorDiv (.var 0) (.cst (.int (64)))) (.blt .len (.cons (.var 2) .nil))))) false)
  .nil)))
  (.cons (.ret (.var 3))
  .nil))))
noncomputable def b8:bJ:=(.cons (.asg (.nm 2) (.bin .Mod (.bin .FloorDiv (.call 5 (.cons (.var 0) (.cons (.cst (.int (0))) (.cons (.cst (.int (2147483629))) .nil)))) (.cst (.int (5)))) (.bin .Add (.var 1) (.cst (.int (1))))) false)
  (.cons (.asg (.nm 3) (.cst (.str ("" : PySem.Str))) false)
  (.cons (.asg (.nm 4) (.cst (.int (1))) false)
  (.cons (.whl (.cmp .Lt (.blt .len (.cons (.var 3) .nil)) (.var 2)) (.cons (.asg (.nm 5) (.call 5 (.cons (.var 0) (.cons (.var 4) (.cons (.cst (.int (2147483587))) .nil)))) false)
  (.cons (.asg (.nm 6) (.bin .Add (.cst (.int (1))) (.bin .Mod (.bin .FloorDiv (.var 5) (.cst (.int (9)))) (.cst (.int (5))))) false)
  (.cons (.ite (.cmp .Eq (.bin .Mod (.bin .FloorDiv (.var 5) (.cst (.int (45)))) (.cst (.int (5)))) (.cst (.int (1)))) (.cons (.asg (.nm 6) (.bin .Add (.cst (.int (1))) (.bin .Mod (.bin .FloorDiv (.var 5) (.cst (.int (225)))) (.cst (.int (90))))) false)
  .nil) .nil)
  (.cons (.asg (.nm 3) (.bin .Add (.var 3) (.call 7 (.cons (.bin .Add (.cst (.int (1))) (.bin .FloorDiv (.var 5) (.cst (.int (7))))) (.cons (.var 6) .nil)))) false)
  (.cons (.asg (.nm 4) (.bin .Add (.var 4) (.cst (.int (1)))) false)
  .nil))))))
  (.cons (.ret (.sl (.var 3) .none (.some (.var 2))))
  .nil)))))
noncomputable def b9:bJ:=(.cons (.ret (.comp 1 [0] (.nm 0) (.rng3 (.bin .Sub (.var 1) (.cst (.int (1)))) (.neg (.cst (.int (1)))) (.neg (.cst (.int (1))))) .none (.bin .BitAnd (.bin .RShift (.var 1) (.var 0)) (.cst (.int (1))))))
  .nil)
noncomputable def b10:bJ:=(.cons (.asg (.nm 1) (.cst (.int (0))) false)
  (.cons (.forr (.nm 2) (.seq (.var 0)) (.cons (.asg (.nm 1) (.bin .Add (.bin .Mult (.cst (.int (2))) (.var 1)) (.var 2)) false)
  .nil))
  (.cons (.ret (.var 1))
  .nil)))
noncomputable def b11:bJ:=(.cons (.asg (.nm 1) (.ix (.var 0) (.cst (.int (0)))) false)
  (.cons (.asg (.nm 2) (.ix (.var 0) (.cst (.int (1)))) false)
  (.cons (.asg (.nm 3) (.bin .Add (.call 9 (.cons (.var 1) (.cons (.glb 5) .nil))) (.call 9 (.cons (.bin .Sub (.blt .len (.cons (.var 2) .nil)) (.cst (.int (1)))) (.cons (.glb 6) .nil)))) false)
  (.cons (.ite (.cmp .Eq (.var 1) (.glb 0)) (.cons (.ret (.bin .Add (.var 3) (.call 12 (.cons (.var 2) .nil))))
  .nil) .nil)
  (.cons (.ret (.bin .Add (.var 3) (.call 13 (.cons (.var 1) (.cons (.var 2) .nil)))))
  .nil)))))
noncomputable def b12:bJ:=(.cons (.asg (.nm 1) (.lst .nil) false)
  (.cons (.forr (.nm 2) (.rng3 (.cst (.int (0))) (.blt .len (.cons (.var 0) .nil)) (.glb 9)) (.cons (.asg (.nm 3) (.sl (.var 0) (.some (.var 2)) (.some (.bin .Add (.var 2) (.glb 9)))) false)
  (.cons (.mut 1 .none .extend (.cons (.call 9 (.cons (.blt .int (.cons (.var 3) .nil)) (.cons (.ix (.glb 8) (.blt .len (.cons (.var 3) .nil))) .nil))) .nil))
  .nil)))
  (.cons (.ret (.var 1))
  .nil)))
noncomputable def b13:bJ:=(.cons (.asg (.nm 2) (.lst .nil) false)
  (.cons (.forr (.nm 3) (.seq (.var 1)) (.cons (.mut 2 .none .extend (.cons (.call 9 (.cons (.mth .sindex (.ix (.glb 3) (.var 0)) (.cons (.var 3) .nil)) (.cons (.ix (.glb 4) (.var 0)) .nil))) .nil))
  .nil))
  (.cons (.ret (.var 2))
  .nil)))
noncomputable def b14:bJ:=(.cons (.ret (.call 17 (.cons (.call 15 (.cons (.var 0) .nil)) (.cons (.var 1) .nil))))
  .nil)
noncomputable def b15:bJ:=(.cons (.asg (.nm 1) (.lst .nil) false)
  (.cons (.forr (.nm 2) (.seq (.call 1 (.cons (.var 0) .nil))) (.cons (.mut 1 .none .extend (.cons (.call 11 (.cons (.var 2) .nil)) .nil))
  .nil))
  (.cons (.mut 1 .none .extend (.cons (.call 9 (.cons (.glb 10) (.cons (.glb 5) .nil))) .nil))
  (.cons (.whl (.cmp .NotEq (.bin .Mod (.blt .len (.cons (.var 1) .nil)) (.glb 11)) (.cst (.int (0)))) (.cons (.mut 1 .none .append (.cons (.cst (.int (0))) .nil))
  .nil))
  (.cons (.ret (.call 16 (.cons (.var 1) .nil)))
  .nil)))))
noncomputable def b16:bJ:=(.cons (.ret (.comp 1 [0] (.nm 0) (.rng3 (.cst (.int (0))) (.blt .len (.cons (.var 0) .nil)) (.glb 11)) .none (.call 10 (.cons (.sl (.var 1) (.some (.var 0)) (.some (.bin .Add (.var 0) (.glb 11)))) .nil))))
  .nil)
noncomputable def b17:bJ:=(.cons (.ite (.cmp .Gt (.blt .len (.cons (.var 0) .nil)) (.var 1)) (.cons (.expr (.neg (.cst .non)))
  .nil) .nil)
  (.cons (.asg (.nm 2) (.bin .Sub (.var 1) (.blt .len (.cons (.var 0) .nil))) false)
  (.cons (.ret (.bin .Add (.var 0) (.comp 1 [] (.nm 0) (.rng1 (.var 2)) .none (.ix (.glb 12) (.bin .Mod (.var 0) (.blt .len (.cons (.glb 12) .nil)))))))
  .nil)))
noncomputable def b18:bJ:=(.cons (.asg (.nm 1) (.lst .nil) false)
  (.cons (.forr (.nm 2) (.seq (.call 1 (.cons (.var 0) .nil))) (.cons (.asg (.nm 1) (.bin .Add (.var 1) (.call 11 (.cons (.var 2) .nil))) false)
  .nil))
  (.cons (.asg (.nm 1) (.bin .Add (.var 1) (.lst (.cons (.cst (.int (0))) (.cons (.cst (.int (0))) .nil)))) false)
  (.cons (.asg (.nm 3) (.lst .nil) false)
  (.cons (.forr (.nm 4) (.rng3 (.cst (.int (0))) (.blt .len (.cons (.var 1) .nil)) (.cst (.int (6)))) (.cons (.asg (.nm 5) (.cst (.int (0))) false)
  (.cons (.forr (.nm 6) (.rng1 (.cst (.int (6)))) (.cons (.asg (.nm 5) (.bin .Mult (.cst (.int (2))) (.var 5)) false)
  (.cons (.ite (.cmp .Lt (.bin .Add (.var 4) (.var 6)) (.blt .len (.cons (.var 1) .nil))) (.cons (.asg (.nm 5) (.bin .Add (.var 5) (.ix (.var 1) (.bin .Add (.var 4) (.var 6)))) false)
  .nil) .nil)
  .nil)))
  (.cons (.mut 3 .none .append (.cons (.var 5) .nil))
  .nil))))
  (.cons (.ret (.var 3))
  .nil))))))
noncomputable def b19:bJ:=(.cons (.asg (.nm 3) (.call 14 (.cons (.var 0) (.cons (.var 2) .nil))) false)
  (.cons (.ite (.or (.not (.blt (.isi "list") (.cons (.var 3) .nil))) (.cmp .NotEq (.blt .len (.cons (.var 3) .nil)) (.var 2))) (.cons (.ret (.cst (.bl false)))
  .nil) .nil)
  (.cons (.asg (.nm 4) (.blt .list (.cons (.var 3) .nil)) false)
  (.cons (.setix 3 .none (.cst (.int (0))) (.cst (.int (64))))
  (.cons (.mut 3 .none .append (.cons (.cst (.int (42))) .nil))
  (.cons (.ite (.or (.cmp .NotEq (.sl (.var 4) .none (.some (.blt .len (.cons (.var 1) .nil)))) (.var 1)) (.cmp .NotEq (.call 14 (.cons (.var 0) (.cons (.var 2) .nil))) (.var 4))) (.cons (.ret (.cst (.bl false)))
  .nil) .nil)
  (.cons (.forr (.nm 5) (.rng1 (.var 2)) (.cons (.ite (.or (.not (.blt (.isi "int") (.cons (.ix (.var 4) (.var 5)) .nil))) (.blt (.isi "bool") (.cons (.ix (.var 4) (.var 5)) .nil))) (.cons (.ret (.cst (.bl false)))
  .nil) .nil)
  (.cons (.ite (.and (.cmp .GtE (.var 5) (.blt .len (.cons (.var 1) .nil))) (.cmp .NotEq (.ix (.var 4) (.var 5)) (.ix (.lst (.cons (.cst (.int (42))) (.cons (.cst (.int (21))) .nil))) (.bin .Mod (.bin .Sub (.var 5) (.blt .len (.cons (.var 1) .nil))) (.cst (.int (2))))))) (.cons (.ret (.cst (.bl false)))
  .nil) .nil)
  .nil)))
  (.cons (.ret (.cst (.bl true)))
  .nil))))))))
noncomputable def Ed:bJ:=(.cons (.ite (.cmp .Gt (.blt .len (.cons (.call 15 (.cons (.var 0) .nil)) .nil)) (.var 1)) (.cons (.ret (.cst (.bl true))) .nil) .nil)
  (.cons (.ret (.neg (.cst .non))) .nil))
noncomputable def Fm:bJ:=(.cons (.expr (.call 6 (.cons (.cst (.int (1))) .nil)))
  (.cons (.expr (.ite (.blt (.isi "str") (.cons (.var 0) .nil)) (.cst .non) (.neg (.cst .non))))
  (.cons (.forr (.tp [2,3]) (.enum (.var 0)) (.cons (.ite (.cmp .NotIn (.var 3) (.ix (.glb 3) (.glb 2))) (.cons (.ret (.ite (.cmp .Lt (.var 2) (.cst (.int (18446744073709551616)))) (.var 2) (.neg (.cst .non)))) .nil) .nil)
  .nil))
  (.cons (.ret (.neg (.cst .non))) .nil))))
noncomputable def b22:bJ:=(.cons (.asg (.nm 1) (.call 8 (.cons (.var 0) (.cons (.cst (.int (40))) .nil))) false)
  (.cons (.ite (.cmp .Eq (.bin .Mod (.call 5 (.cons (.var 0) (.cons (.cst (.int (80))) (.cons (.cst (.int (2147483647))) .nil)))) (.cst (.int (8)))) (.cst (.int (1)))) (.cons (.asg (.nm 1) (.bin .Add (.var 1) (.bin .Mult (.cst (.str ("q" : PySem.Str))) (.cst (.int (90))))) false)
  .nil) .nil)
  (.cons (.asg (.nm 2) (.call 18 (.cons (.var 1) .nil)) false)
  (.cons (.asg (.nm 3) (.blt .len (.cons (.var 2) .nil)) false)
  (.cons (.asg (.nm 4) (.call 5 (.cons (.var 0) (.cons (.cst (.int (81))) (.cons (.cst (.int (2147483563))) .nil)))) false)
  (.cons (.forr (.nm 5) (.seq (.lst (.cons (.var 3) (.cons (.bin .Add (.var 3) (.bin .Mod (.var 4) (.cst (.int (20))))) (.cons (.cst (.int (133))) .nil))))) (.cons (.ite (.and (.cmp .LtE (.var 5) (.cst (.int (133)))) (.and (.cmp .LtE (.var 3) (.var 5)) (.not (.call 19 (.cons (.var 1) (.cons (.var 2) (.cons (.var 5) .nil))))))) (.cons (.ret (.cst (.bl false)))
  .nil) .nil)
  (.cons (.ite (.and (.cmp .LtE (.var 5) (.cst (.int (133)))) (.and (.cmp .Gt (.var 3) (.var 5)) (.not (.call 20 (.cons (.var 1) (.cons (.var 5) .nil)))))) (.cons (.ret (.cst (.bl false)))
  .nil) .nil)
  .nil)))
  (.cons (.ite (.or (.not (.call 20 (.cons (.var 1) (.cons (.blt .min2 (.cons (.cst (.int (133))) (.cons (.bin .Sub (.var 3) (.cst (.int (1)))) .nil))) .nil)))) (.not (.call 20 (.cons (.var 1) (.cons (.cst (.int (0))) .nil))))) (.cons (.ret (.cst (.bl false)))
  .nil) .nil)
  (.cons (.asg (.nm 6) (.bin .Mod (.bin .FloorDiv (.var 4) (.cst (.int (20)))) (.bin .Add (.blt .len (.cons (.var 1) .nil)) (.cst (.int (1))))) false)
  (.cons (.asg (.nm 7) (.bin .Add (.bin .Add (.sl (.var 1) .none (.some (.var 6))) (.cst (.str ("\n" : PySem.Str)))) (.sl (.var 1) (.some (.var 6)) .none)) false)
  (.cons (.forr (.nm 5) (.seq (.lst (.cons (.cst (.int (0))) (.cons (.blt .min2 (.cons (.cst (.int (133))) (.cons (.var 3) .nil))) .nil)))) (.cons (.asg (.nm 8) (.call 21 (.cons (.var 7) (.cons (.var 5) .nil))) false)
  (.cons (.ite (.or (.not (.blt (.isi "int") (.cons (.var 8) .nil))) (.or (.blt (.isi "bool") (.cons (.var 8) .nil)) (.cmp .NotEq (.var 8) (.var 6)))) (.cons (.ret (.cst (.bl false)))
  .nil) .nil)
  .nil)))
  (.cons (.ret (.cst (.bl true)))
  .nil)))))))))))
noncomputable def fns:List Fn:=[⟨2,3,b0⟩,⟨1,6,b1⟩,⟨1,3,b2⟩,⟨1,6,b3⟩,⟨4,7,b4⟩,⟨3,4,b5⟩,⟨1,2,b6⟩,⟨2,5,b7⟩,⟨2,7,b8⟩,⟨2,2,b9⟩,⟨1,3,b10⟩,⟨1,4,b11⟩,⟨1,4,b12⟩,⟨2,4,b13⟩,⟨2,2,b14⟩,⟨1,3,b15⟩,⟨1,1,b16⟩,⟨2,3,b17⟩,⟨1,7,b18⟩,⟨3,6,b19⟩,⟨2,2,Ed⟩,⟨2,4,Fm⟩,⟨1,9,b22⟩]
noncomputable def gl:Nat->D
 |0=>.int 1
 |1=>.int 2
 |2=>.int 3
 |3=>.tup [.str ("" : PySem.Str),.str ("0123456789" : PySem.Str),.str (" ABCDEFGHIJKLMNOPQRSTUVWXYZ.,-:/" : PySem.Str),.str (" !\"#$&'()*+,-./0123456789:;<=>?@ABCDEFGHIJKLMNOPQRSTUVWXYZ[\\]^_`abcdefghijklmnopqrstuvwxyz{|}~" : PySem.Str)]
 |4=>.tup [.int 0,.int 0,.int 5,.int 7]
 |5=>.int 2
 |6=>.int 6
 |7=>.int 64
 |8=>.tup [.int 0,.int 4,.int 7,.int 10]
 |9=>.int 3
 |10=>.int 0
 |11=>.int 6
 |12=>.tup [.int 42,.int 21]
 |_=>.non
noncomputable abbrev T (n:Nat):Tb:=⟨Pc.run fns gl 1000 n,gl,1000⟩
theorem mz (n:Nat):(T n).cl=Pc.run fns gl 1000 n:=rfl
end K08
end
section
namespace K08
open PySem Pc Pc.Sm Pc.Lw Pc.Gr Pc.Nw Pc.Ct Pc.Gn
open Pc.Fr (iD eU)
theorem gL (n:Nat):GL (T n):=fun i hi=>by
 match i,hi with
 |0,_=>rfl
 |1,_=>rfl
 |2,_=>rfl
 |3,_=>rfl
 |4,_=>rfl
 |5,_=>rfl
 |6,_=>rfl
 |7,_=>rfl
 |8,_=>rfl
 |9,_=>rfl
theorem gL8 (n:Nat):Fs (T n):=⟨gL n,rfl,rfl,rfl⟩
theorem pL (n:Nat):Bl (T (n+1)):=fun k c h1 h3 hc=>by
 rw[mz,bK (F:=⟨2,3,b0⟩) rfl rfl];exact HR (gL n) h1 h3 hc
theorem cK (n:Nat):yL (T (n+2)):=fun B s k r h1 h3 hB=>by
 rw[mz,bK (F:=⟨4,7,b4⟩) rfl rfl];exact Hn (gL (n+1)) (pL n) h1 h3 hB
theorem bC (n:Nat):Hq (T (n+3)):=fun t ht hG=>by
 rw[mz,bK (F:=⟨1,6,b3⟩) rfl rfl];exact Dr (gL (n+2)) (cK n) ht hG
theorem rS (n:Nat):Hl (T (n+1)):=fun t hG=>by
 rw[mz,bK (F:=⟨1,3,b2⟩) rfl rfl];exact Ib (gL n) hG
theorem cT (n:Nat):FN (T (n+4)):=fun t ht hG=>by
 rw[mz,bK (F:=⟨1,6,b1⟩) rfl rfl];exact Hx (au _) (rS (n+2)) (bC n) ht hG
theorem mX (n:Nat):xx (T (n+1)):=fun cs k p hk hp=>by
 obtain⟨r,h0,h1,h2⟩:=HY (T:=T n) (cs:=cs) hk hp;refine⟨r,h0,h1,?_⟩;rw[mz,bK (F:=⟨3,4,b5⟩) rfl rfl];exact h2
theorem sG (n:Nat):HJ (T (n+1)):=fun k h1 h3=>by
 rw[mz,bK (F:=⟨1,2,b6⟩) rfl rfl];exact Im h1 h3
theorem rN (n:Nat):y8 (T (n+2)):=fun d m hm=>by
 obtain⟨cs,h1,h2,h3⟩:=D8 (sG n) (d:=d) m hm;refine⟨cs,h1,h2,?_⟩;rw[mz,bK (F:=⟨2,5,b7⟩) rfl rfl];exact h3
theorem tX (n:Nat):TXok (T (n+3)):=fun cs m hm=>by
 obtain⟨t,h1,h2,h3⟩:=CD (T:=T (n+2)) (au _) (mX (n+1)) (rN n) (cs:=cs) m hm;refine⟨t,h1,h2,?_⟩;rw[mz,bK (F:=⟨2,7,b8⟩) rfl rfl];exact h3
theorem bO (n:Nat):mF (T (n+1)):=fun x c hx hc=>by
 rw[mz,bK (F:=⟨2,2,b9⟩) rfl rfl];exact t4 x c hx hc
theorem nO (n:Nat):F9 (T (n+1)):=fun l=>by
 rw[mz,bK (F:=⟨1,3,b10⟩) rfl rfl];exact Gd l
theorem fB (n:Nat):CH (T (n+2)):=fun cs hc hl=>by
 rw[mz,bK (F:=⟨1,4,b12⟩) rfl rfl];exact Fx (gL (n+1)) (bO n) cs hc hl
theorem sB (n:Nat):Dn (T (n+2)):=fun k hk cs hc hl=>by
 rw[mz,bK (F:=⟨2,4,b13⟩) rfl rfl];exact HB (gL (n+1)) (bO n) k hk cs hc hl
theorem pB (n:Nat):Bs (T (n+3)):=fun p h=>by
 rw[mz,bK (F:=⟨1,4,b11⟩) rfl rfl];exact xt (gL (n+2)) (bO (n+1)) (fB n) (sB n) h
theorem gB (n:Nat):Ht (T (n+2)):=fun B hl h6=>by
 rw[mz,bK (F:=⟨1,1,b16⟩) rfl rfl];exact Gh (gL8 (n+1)) (nO n) hl h6
theorem bG (n:Nat):GB (T (n+5)):=fun t ht hG=>by
 rw[mz,bK (F:=⟨1,3,b15⟩) rfl rfl];exact HK (au _) (gL8 (n+4)) (cT n) (bO (n+3)) (pB (n+1)) (gB (n+2)) ht hG
theorem fG (n:Nat):HE (T (n+1)):=fun L r hr h=>by
 rw[mz,bK (F:=⟨2,3,b17⟩) rfl rfl];exact HH (gL8 n) hr h
theorem tG (n:Nat):TGok (T (n+6)):=fun t r ht hG hr h=>by
 rw[mz,bK (F:=⟨2,2,b14⟩) rfl rfl];exact De (bG n) (fG (n+4)) ht hG hr h
theorem tF (n:Nat){t:List Nat}{r:Nat}(ht:t.length<=200)(hG:Good t)(h:r<(tg t).length):(T (n+6)).cl 20 [.str (tx t),.int (r:Int)] = .ok (.bl true,true):=by
 rw[mz,bK (F:=⟨2,2,Ed⟩) rfl rfl];have hst:aG [.str (tx t),.int (r:Int)] 2=[sT t,sN r]:=rfl;dsimp only;rw[hst];have el:=dQ (fV (f:=15) (aC (T:=T (n+5)) (env:=[sT t,sN r]) (i:=0) (d:=.str (tx t)) (t:=.own) rfl rfl) (bG n t ht hG));rw[bM] at el;have ec:=pd el (aC (T:=T (n+5)) (env:=[sT t,sN r]) (i:=1) (d:=.int (r:Int)) (t:=.own) rfl rfl);unfold Ed;rw[aF,lL ec,if_pos h];rfl
noncomputable def jg:Nat->List Nat->Option Nat
 |_,[]=>none
 |i,c::r=>if qQ (tx [c]) s3 then jg (i+1) r else some i
theorem ug {x:Nat}{rest:List Nat}(hx:x<128)(hb:iE 3 x=false):∀(t:List Nat) (i:Nat),Good t->jg i (t++x::rest)=some (i+t.length)
 | [],i,_=>by
  have:qQ (tx [x]) s3=false:=by rw[<-hb];exact kP x hx 3 (by decide)
  show (if qQ (tx [x]) s3 then _ else some i)=_;rw[this];rfl
 | c::t,i,hG=>by
  obtain⟨g1,g2⟩:=hG c ak;have:qQ (tx [c]) s3=true:=by rw[<-g2];exact kP c g1 3 (by decide)
  show (if qQ (tx [c]) s3 then jg (i+1) (t++x::rest) else some i)=_;rw[this,if_pos rfl,ug hx hb t (i+1) fun d hd=>hG d (ah _ hd),aw];congr 1;omega
theorem yU {T:Tb}(hg:GL T){env:En}{a:Ex}{c:Nat}{R:Rt}(ha:ev T a env = .ok (.str (tx [c]),R)):ev T (.cmp .NotIn a (.ix (.glb 3) (.glb 2))) env = .ok (.bl (decide (¬ qQ (tx [c]) s3=true)),.mv []):=by
 have e1:ev T (.ix (.glb 3) (.glb 2)) env = .ok (.str s3,.mv []):=cO (i:=3) (aR (hg 3 (by decide))) (aR (hg 2 (by decide))) rfl rfl;rw[ev,ha,aA,e1,aA];show (gN ((some (qQ (tx [c]) s3)).map (!·))).bind _=_;cases qQ (tx [c]) s3<;>rfl
noncomputable def DY:bJ:=(.cons (.ite (.cmp .NotIn (.var 3) (.ix (.glb 3) (.glb 2))) (.cons (.ret (.ite (.cmp .Lt (.var 2) (.cst (.int (18446744073709551616)))) (.var 2) (.neg (.cst .non)))) .nil) .nil)
  .nil)
noncomputable def eD:Ex:=.call 6 (.cons (.cst (.int (1))) .nil)
noncomputable def eS:Ex:=.ite (.blt (.isi "str") (.cons (.var 0) .nil)) (.cst .non) (.neg (.cst .non))
theorem xY:Fm=(.cons (.expr eD) (.cons (.expr eS) (.cons (.forr (.tp [2,3]) (.enum (.var 0)) DY) (.cons (.ret (.neg (.cst .non))) .nil)))):=rfl
noncomputable abbrev EP (t:List Nat)(r a2 a3:Slot):En:=[sT t,r,a2,a3]
theorem tf {t:List Nat}{r a2 a3:Slot}(hr:aK r)(h2:aK a2)(h3:aK a3)(i c:Nat):aZ [] (.tp [2,3]) (.tup [.int (i:Int),.str (tx [c])]) (EP t r a2 a3)=some (EP t r (sN i) (sT [c])):=mO (.cons (aB _) (.cons hr (.cons h2 (.cons h3 .nil)))) (show (2:Nat)<4 by decide) (show (3:Nat)<4 by decide) rfl rfl
theorem DG {T:Tb}{t:List Nat}{r:Slot}{i c:Nat}:aF T (.cons (.ret (.ite (.cmp .Lt (.var 2) (.cst (.int (18446744073709551616)))) (.var 2) (.neg (.cst .non)))) .nil) (EP t r (sN i) (sT [c]))=if i<18446744073709551616 then .rt (.int (i:Int)) true else .bad:=by
 have v2:ev T (.var 2) (EP t r (sN i) (sT [c])) = .ok (.int (i:Int),.mv []):=aC rfl rfl;have ec:=oE (y:=18446744073709551616) v2 (aH (.int 18446744073709551616));rw[aF,aV,ev,ec,aA];by_cases h:i<18446744073709551616
 ·rw[cj h,if_pos h];dsimp only[truth];rw[v2];rfl
 ·have en:ev T (.neg (.cst .non)) (EP t r (sN i) (sT [c])) = .bad:=by rw[ev,aH];rfl
  rw[az h,if_neg h];dsimp only[truth];simp only[bQ,aA,Bool.false_eq_true,if_false,en];rfl
theorem pf {T:Tb}(hg:GL T){t:List Nat}{r:Slot}(hr:aK r):∀(l:List Nat) (i:Nat) (a2 a3:Slot),aK a2->aK a3 ->
  match jg i l with
  |some k=>bU (.tp [2,3]) [] (aF T DY) (Cr i l) (EP t r a2 a3)=if k<18446744073709551616 then .rt (.int (k:Int)) true else .bad
  |none=>∃ e,bU (.tp [2,3]) [] (aF T DY) (Cr i l) (EP t r a2 a3) = .nx e
 |[],i,a2,a3,h2,h3=>⟨_,rfl⟩
 | c::l,i,a2,a3,h2,h3=>by
  have e1:=yU hg (aC (T:=T) (env:=EP t r (sN i) (sT [c])) (i:=3) (d:=.str (tx [c])) (t:=.own) rfl rfl);have ih:=pf hg (t:=t) hr l (i+1) (sN i) (sT [c]) (aB _) (aB _);have hf:jg i (c::l)=if qQ (tx [c]) s3 then jg (i+1) l else some i:=rfl
  rw[hf];by_cases h:qQ (tx [c]) s3=true
  ·rw[if_pos h];rw[az (not_not_intro h)] at e1;have hn:aF T DY (EP t r (sN i) (sT [c])) = .nx (EP t r (sN i) (sT [c])):=by unfold DY;rw[aF,ite_ff e1,aD,aF]
   rw[jr,bB (tf hr h2 h3 i c) hn];exact ih
  ·rw[if_neg h];rw[cj h] at e1;have hb:aF T DY (EP t r (sN i) (sT [c]))=if i<18446744073709551616 then .rt (.int (i:Int)) true else .bad:=by
    unfold DY;rw[aF,aV,e1,aY];dsimp only[truth];rw[DG];split<;>rfl
   dsimp only;rw[jr]
   conv=>lhs;unfold bU
   rw[tf hr h2 h3 i c];dsimp only;rw[hb];by_cases hk:i<18446744073709551616
   ·rw[if_pos hk]
   ·rw[if_neg hk]
theorem Gj {T:Tb}{t:List Nat}{r a2 a3:Slot}:eX T (.enum (.var 0)) (EP t r a2 a3) = .ok (Cr 0 t,[]):=zu (aC rfl rfl)
theorem zr (n:Nat){t:List Nat}{k r:Nat}(h:jg 0 t=some k)(hk:k<18446744073709551616):(T (n+2)).cl 21 [.str (tx t),.int (r:Int)] = .ok (.int (k:Int),true):=by
 rw[mz,bK (F:=⟨2,4,Fm⟩) rfl rfl];have hst:aG [.str (tx t),.int (r:Int)] 4=EP t (sN r) none none:=rfl;dsimp only;rw[hst,xY];have g0:aV (T (n+1)) (.expr eD) (EP t (sN r) none none) = .nx (EP t (sN r) none none):=by
  rw[aV];show gO _ (ev (T (n+1)) (.call 6 (.cons (.cst (.int ((1:Nat):Int))) .nil)) _) _=_;rw[fV (aH _) (sG n 1 (by decide) (by decide))];rfl
 have g1:aV (T (n+1)) (.expr eS) (EP t (sN r) none none) = .nx (EP t (sN r) none none):=by
  rw[aV];unfold eS;rw[ev,eU (n:="str") (b:=true) (aC (i:=0) (d:=.str (tx t)) (t:=.own) rfl rfl) rfl,aA];dsimp only[truth];rw[aH];rfl
 have q:=pf (gL (n+1)) (t:=t) (aB (.int (r:Int))) t 0 none none aN aN;rw[h] at q;dsimp only at q;rw[if_pos hk] at q;rw[aF,g0,aD,aF,g1,aD,aF,aV,Gj,aY];have e0:lock [] (EP t (sN r) none none)=EP t (sN r) none none:=rfl;dsimp only;rw[jN,q];rfl
open Pc.Fr (iD eU)
noncomputable def dL1:bJ:=(.cons (.asg (.nm 1) (.bin .Add (.var 1) (.call 11 (.cons (.var 2) .nil))) false)
  .nil)
noncomputable def dI:bJ:=(.cons (.asg (.nm 5) (.bin .Mult (.cst (.int (2))) (.var 5)) false)
  (.cons (.ite (.cmp .Lt (.bin .Add (.var 4) (.var 6)) (.blt .len (.cons (.var 1) .nil))) (.cons (.asg (.nm 5) (.bin .Add (.var 5) (.ix (.var 1) (.bin .Add (.var 4) (.var 6)))) false)
  .nil) .nil)
  .nil))
noncomputable def dO:bJ:=(.cons (.asg (.nm 5) (.cst (.int (0))) false)
  (.cons (.forr (.nm 6) (.rng1 (.cst (.int (6)))) dI)
  (.cons (.mut 3 .none .append (.cons (.var 5) .nil))
  .nil)))
theorem C5:b18=(.cons (.asg (.nm 1) (.lst .nil) false)
  (.cons (.forr (.nm 2) (.seq (.call 1 (.cons (.var 0) .nil))) dL1)
  (.cons (.asg (.nm 1) (.bin .Add (.var 1) (.lst (.cons (.cst (.int (0))) (.cons (.cst (.int (0))) .nil)))) false)
  (.cons (.asg (.nm 3) (.lst .nil) false)
  (.cons (.forr (.nm 4) (.rng3 (.cst (.int (0))) (.blt .len (.cons (.var 1) .nil)) (.cst (.int (6)))) dO)
  (.cons (.ret (.var 3))
  .nil)))))):=rfl
noncomputable abbrev ED (t:List Nat)(B:List Int)(a2 a3 a4 a5 a6:Slot):En:=[sT t,oI B,a2,a3,a4,a5,a6]
theorem eM {t:List Nat}{B:List Int}{a2 a3 a4 a5 a6:Slot}(h2:aK a2)(h3:aK a3)(h4:aK a4)(h5:aK a5)(h6:aK a6):Tame (ED t B a2 a3 a4 a5 a6):=.cons (aB _) (.cons (aB _) (.cons h2 (.cons h3 (.cons h4 (.cons h5 (.cons h6 .nil))))))
theorem tn:aK none:=aN
theorem ue {T:Tb}(hP:Bs T){t:List Nat}:∀(P:List Pe) (B:List Int) (o:Slot),aK o->(∀ p∈P,Piece p)->B.length+(qT P).length<=20000->∃ o',aK o'/\bU (.nm 2) [] (aF T dL1) (P.map pD) (ED t B o none none none none) = .nx (ED t (B++qT P) o' none none none none)
 |[],B,o,h,_,_=>⟨o,h,by rw[show qT []=[] from rfl,ax];rfl⟩
 | p::P,B,o,h,hp,hl=>by
  have e:qT (p::P)=PB p++qT P:=rfl;rw[e,ag] at hl;have k:=i9 (be (T:=T) (env:=ED t B (some (pD p,.own)) none none none none) (i:=1) (d:=.lst (iD B)) rfl rfl) (fV (aC (i:=2) (d:=pD p) (t:=.own) rfl rfl) (hP p (hp p ak))) (by omega);have g:aV T (.asg (.nm 1) (.bin .Add (.var 1) (.call 11 (.cons (.var 2) .nil))) false) (ED t B (some (pD p,.own)) none none none none) = .nx (ED t (B++PB p) (some (pD p,.own)) none none none none):=aL (eM (aB _) tn tn tn tn) (show (1:Nat)<7 by decide) k;obtain⟨o',t',q⟩:=ue hP (t:=t) P (B++PB p) (some (pD p,.own)) (aB _) (fun q hq=>hp q (ah _ hq)) (by rw[ag];omega);refine⟨o',t',?_⟩;have hb:aZ [] (.nm 2) (pD p) (ED t B o none none none none)=some (ED t B (some (pD p,.own)) none none none none):=bY (eM h tn tn tn tn) (show (2:Nat)<7 by decide);rw[av,bB hb (show aF T dL1 _=_ from fS g),q,e,cf]
theorem d_in {T:Tb}{t:List Nat}{B:List Int}{a2 a3:Slot}{a k:Nat}{g:Int}(h2:aK a2)(h3:aK a3):aF T dI (ED t B a2 a3 (sN a) (sI g) (sN k)) = .nx (ED t B a2 a3 (sN a) (sI (2*g+B.getD (a+k) 0)) (sN k)):=by
 have g1:aV T (.asg (.nm 5) (.bin .Mult (.cst (.int (2))) (.var 5)) false) (ED t B a2 a3 (sN a) (sI g) (sN k)) = .nx (ED t B a2 a3 (sN a) (sI (2*g)) (sN k)):=aL (eM h2 h3 (aB _) (aB _) (aB _)) (show (5:Nat)<7 by decide) (Fr.iN (by rw[show small 2=true by decide];rfl) (aH (.int 2)) (aC rfl rfl));have e1:ev T (.bin .Add (.var 4) (.var 6)) (ED t B a2 a3 (sN a) (sI (2*g)) (sN k)) = .ok (.int ((a+k:Nat):Int),.mv []):=cR (aC rfl rfl) (aC rfl rfl);have v1:ev T (.var 1) (ED t B a2 a3 (sN a) (sI (2*g)) (sN k)) = .ok (.lst (iD B),.mv [1]):=be rfl rfl;have el:=dQ v1;rw[bM] at el;have ec:=oE e1 el;have g2:aV T (.ite (.cmp .Lt (.bin .Add (.var 4) (.var 6)) (.blt .len (.cons (.var 1) .nil))) (.cons (.asg (.nm 5) (.bin .Add (.var 5) (.ix (.var 1) (.bin .Add (.var 4) (.var 6)))) false) .nil) .nil) (ED t B a2 a3 (sN a) (sI (2*g)) (sN k)) = .nx (ED t B a2 a3 (sN a) (sI (2*g+B.getD (a+k) 0)) (sN k)):=by
  rw[lL ec];by_cases h:a+k<B.length
  ·rw[if_pos h];have ex:ev T (.ix (.var 1) (.bin .Add (.var 4) (.var 6))) (ED t B a2 a3 (sN a) (sI (2*g)) (sN k)) = .ok (.int (B.getD (a+k) 0),.mv []):=jX v1 e1 (by rw[List.getElem?_map,List.getElem?_eq_getElem h,List.getD_eq_getElem?_getD,List.getElem?_eq_getElem h];rfl) rfl;exact fS (aL (eM h2 h3 (aB _) (aB _) (aB _)) (show (5:Nat)<7 by decide) (bZ (aC rfl rfl) ex))
  ·rw[if_neg h,gJ,List.getD_eq_getElem?_getD,List.getElem?_eq_none (by omega)];show Fl.nx _=Fl.nx (ED t B a2 a3 (sN a) (sI (2*g+0)) (sN k));rw[Int.add_zero]
 unfold dI;rw[aF,g1,aD,aF,g2,aD,aF]
theorem B5 {T:Tb}{t:List Nat}{B:List Int}{a2 a3:Slot}{a:Nat}(h2:aK a2)(h3:aK a3):∀(l:List Nat) (g:Int) (o:Slot),aK o->∃ o',aK o'/\bU (.nm 6) [] (aF T dI) (l.map fun k=>D.int ((0+k:Nat):Int)) (ED t B a2 a3 (sN a) (sI g) o) = .nx (ED t B a2 a3 (sN a) (sI (l.foldl (fun g k=>2*g+B.getD (a+k) 0) g)) o')
 |[],g,o,h=>⟨o,h,rfl⟩
 | k::l,g,o,h=>by
  obtain⟨o',t',q⟩:=B5 (T:=T) (t:=t) (B:=B) (a:=a) h2 h3 l (2*g+B.getD (a+k) 0) (sN k) (aB _);refine⟨o',t',?_⟩;have hb:aZ [] (.nm 6) (.int ((0+k:Nat):Int)) (ED t B a2 a3 (sN a) (sI g) o)=some (ED t B a2 a3 (sN a) (sI g) (sN k)):=by
   rw[gh];exact bY (eM h2 h3 (aB _) (aB _) h) (show (6:Nat)<7 by decide)
  rw[av,bB hb (d_in h2 h3),q];rfl
noncomputable def dg (B:List Int)(a:Nat):Int:=(List.range 6).foldl (fun g k=>2*g+B.getD (a+k) 0) 0
theorem BU {T:Tb}{t:List Nat}{B:List Int}{a2:Slot}(h2:aK a2):∀(l:List Nat) (L:List Int) (o4 o5 o6:Slot),aK o4->aK o5->aK o6->L.length+l.length<=20000->∃ p4 p5 p6,aK p4/\aK p5/\aK p6/\bU (.nm 4) [] (aF T dO) (l.map fun j=>D.int ((6*j:Nat):Int)) (ED t B a2 (oI L) o4 o5 o6) = .nx (ED t B a2 (oI (L++l.map fun j=>dg B (6*j))) p4 p5 p6)
 |[],L,o4,o5,o6,h4,h5,h6,_=>⟨o4,o5,o6,h4,h5,h6,by rw[fm,fm,ax];rfl⟩
 | j::l,L,o4,o5,o6,h4,h5,h6,hl=>by
  rw[aw] at hl;have g1:aV T (.asg (.nm 5) (.cst (.int (0))) false) (ED t B a2 (oI L) (sN (6*j)) o5 o6) = .nx (ED t B a2 (oI L) (sN (6*j)) (sI 0) o6):=aL (eM h2 (aB _) (aB _) h5 h6) (show (5:Nat)<7 by decide) (aH _);have hit:=zC (T:=T) (env:=ED t B a2 (oI L) (sN (6*j)) (sI 0) o6) (e:=.cst (.int (6))) (m:=6) (aH _) (by decide);rw[eY] at hit;obtain⟨o',t',q⟩:=B5 (T:=T) (t:=t) (B:=B) (a:=6*j) h2 (aB (.lst (iD L))) (List.range 6) 0 o6 h6;have g2:=cF hit q;have g3:aV T (.mut 3 .none .append (.cons (.var 5) .nil)) (ED t B a2 (oI L) (sN (6*j)) (sI (dg B (6*j))) o') = .nx (ED t B a2 (oI (L ++ [dg B (6*j)])) (sN (6*j)) (sI (dg B (6*j))) o'):=by
   rw[jK (x:=3) (eM (t:=t) (B:=B) h2 (aB (.lst (iD L))) (aB (.int ((6*j:Nat):Int))) (aB (.int (dg B (6*j)))) t') rfl (aC rfl rfl) (by rw[bM];exact wJ (by omega)),show iD L ++ [D.int (dg B (6*j))]=iD (L ++ [dg B (6*j)]) by rw[kj];rfl];rfl
  obtain⟨p4,p5,p6,u4,u5,u6,z⟩:=BU (T:=T) (t:=t) (B:=B) h2 l (L ++ [dg B (6*j)]) (sN (6*j)) (sI (dg B (6*j))) o' (aB _) (aB _) t' (by rw[ag,br];omega);refine⟨p4,p5,p6,u4,u5,u6,?_⟩;have hb:aZ [] (.nm 4) (.int ((6*j:Nat):Int)) (ED t B a2 (oI L) o4 o5 o6)=some (ED t B a2 (oI L) (sN (6*j)) o5 o6):=bY (eM h2 (aB _) h4 h5 h6) (show (4:Nat)<7 by decide);have hin:aF T dO (ED t B a2 (oI L) (sN (6*j)) o5 o6) = .nx (ED t B a2 (oI (L ++ [dg B (6*j)])) (sN (6*j)) (sI (dg B (6*j))) o'):=by
   unfold dO;rw[aF,g1,aD,aF,g2,aD,aF,show (List.range 6).foldl (fun g k=>2*g+B.getD (6*j+k) 0) 0=dg B (6*j) from rfl,g3,aD,aF]
  rw[av,bB hb hin,z,av,cf];rfl
theorem Gz {B:List Int}{r j:Nat}(h:6*j+6<=B.length+r):((B++List.replicate r 0).drop (6*j)).take 6=(List.range 6).map fun k=>B.getD (6*j+k) 0:=by
 apply List.ext_getElem
 ·rw[bh,c9,ag,bo,ao,cm];omega
 ·intro i h1 h2;rw[ao,cm] at h2;rw[List.getElem_take,List.getElem_drop,List.getElem_map,List.getElem_range,List.getD_eq_getElem?_getD];by_cases hb:6*j+i<B.length
  ·rw[List.getElem_append_left hb,List.getElem?_eq_getElem hb];rfl
  ·rw[List.getElem_append_right (by omega),List.getElem_replicate,List.getElem?_eq_none (by omega)];rfl
theorem Dv {t:List Nat}(hG:Good t):((List.range (((tb t).length+5) / 6)).map fun j=>dg (tb t) (6*j))=tg t:=by
 obtain⟨h1,h2,h3⟩:=oU hG;unfold tg gr;have e:((vS t).length+5) / 6=((tb t).length+5) / 6:=by
  unfold qM at h3;omega
 rw[e];refine dq fun j hj=>?_
 have hj:=List.mem_range.mp hj;have:((vS t).drop (6*j)).take 6=(List.range 6).map fun k=>(tb t).getD (6*j+k) 0:=by
  unfold vS;refine Gz ?_;rw[<-h3];omega
 rw[this];unfold num dg;rw[List.foldl_map]
theorem Dl (n:Nat){t:List Nat}(ht:t.length<=200)(hG:Good t):(T (n+5)).cl 18 [.str (tx t)] = .ok (.lst (iD (tg t)),true):=by
 rw[mz,bK (F:=⟨1,7,b18⟩) rfl rfl];have hst:aG [.str (tx t)] 7=[sT t,none,none,none,none,none,none]:=rfl;dsimp only;rw[hst,C5];have hpl:=kX (pc t.length t) (gP _ _ hG);rw[kW _ _ hG (au _)] at hpl;obtain⟨l1,l2⟩:=rg hG;have g1:aV (T (n+4)) (.asg (.nm 1) (.lst .nil) false) [sT t,none,none,none,none,none,none] = .nx (ED t [] none none none none none):=aL (.cons (aB _) (.cons tn (.cons tn (.cons tn (.cons tn (.cons tn (.cons tn .nil))))))) (show (1:Nat)<7 by decide) (by rw[ev,aX];rfl);have hit:eX (T (n+4)) (.seq (.call 1 (.cons (.var 0) .nil))) (ED t [] none none none none none) = .ok ((pc t.length t).map pD,[]):=by
  rw[eX,fV (aC rfl rfl) (cT n t (by omega) hG),aA];rfl
 obtain⟨o,h,q⟩:=ue (pB (n+1)) (t:=t) (pc t.length t) [] none tn (gP _ _ hG) (by rw[bz];omega);rw[cz] at q;have g2:=cF hit q;have ez:ev (T (n+4)) (.lst (.cons (.cst (.int (0))) (.cons (.cst (.int (0))) .nil))) (ED t (qT (pc t.length t)) o none none none none) = .ok (.lst (iD [0,0]),.mv []):=by
  rw[ev,aX,aH,aA,aX,aH,aA,aX,aA,aA,aA];rfl
 have g3:aV (T (n+4)) (.asg (.nm 1) (.bin .Add (.var 1) (.lst (.cons (.cst (.int (0))) (.cons (.cst (.int (0))) .nil)))) false) (ED t (qT (pc t.length t)) o none none none none) = .nx (ED t (tb t) o none none none none):=aL (eM h tn tn tn tn) (show (1:Nat)<7 by decide) (i9 (be (i:=1) rfl rfl) ez (by show _+2<=_;omega));have g4:aV (T (n+4)) (.asg (.nm 3) (.lst .nil) false) (ED t (tb t) o none none none none) = .nx (ED t (tb t) o (oI []) none none none):=aL (eM h tn tn tn tn) (show (3:Nat)<7 by decide) (by rw[ev,aX];rfl);have el:=dQ (be (T:=T (n+4)) (env:=ED t (tb t) o (oI []) none none none) (i:=1) (d:=.lst (iD (tb t))) rfl rfl);rw[bM] at el;have hit2:=Gw (by omega) el (aH (.int 6));obtain⟨p4,p5,p6,u4,u5,u6,z⟩:=BU (T:=T (n+4)) (t:=t) (B:=tb t) h (List.range (((tb t).length+5) / 6)) [] none none none tn tn tn (by rw[bz,cm];omega);rw[cz,Dv hG] at z;have g5:=cF hit2 z;rw[aF,g1,aD,aF,g2,aD,aF,g3,aD,aF,g4,aD,aF,g5,aD,aF,aV,be (i:=3) (d:=.lst (iD (tg t))) rfl rfl];rfl
open Pc.Fr (iD eU)
noncomputable def rF:bJ:=.cons (.ret (.cst (.bl false))) .nil
noncomputable def Hi:Ex:=.or (.not (.blt (.isi "list") (.cons (.var 3) .nil))) (.cmp .NotEq (.blt .len (.cons (.var 3) .nil)) (.var 2))
noncomputable def GY:Ex:=.or (.cmp .NotEq (.sl (.var 4) .none (.some (.blt .len (.cons (.var 1) .nil)))) (.var 1)) (.cmp .NotEq (.call 14 (.cons (.var 0) (.cons (.var 2) .nil))) (.var 4))
noncomputable def GP:Ex:=.or (.not (.blt (.isi "int") (.cons (.ix (.var 4) (.var 5)) .nil))) (.blt (.isi "bool") (.cons (.ix (.var 4) (.var 5)) .nil))
noncomputable def Hk:Ex:=.and (.cmp .GtE (.var 5) (.blt .len (.cons (.var 1) .nil))) (.cmp .NotEq (.ix (.var 4) (.var 5)) (.ix (.lst (.cons (.cst (.int (42))) (.cons (.cst (.int (21))) .nil))) (.bin .Mod (.bin .Sub (.var 5) (.blt .len (.cons (.var 1) .nil))) (.cst (.int (2))))))
noncomputable def l19:bJ:=(.cons (.ite GP rF .nil) (.cons (.ite Hk rF .nil) .nil))
theorem DM:b19=(.cons (.asg (.nm 3) (.call 14 (.cons (.var 0) (.cons (.var 2) .nil))) false)
  (.cons (.ite Hi rF .nil)
  (.cons (.asg (.nm 4) (.blt .list (.cons (.var 3) .nil)) false)
  (.cons (.setix 3 .none (.cst (.int (0))) (.cst (.int (64))))
  (.cons (.mut 3 .none .append (.cons (.cst (.int (42))) .nil))
  (.cons (.ite GY rF .nil)
  (.cons (.forr (.nm 5) (.rng1 (.var 2)) l19)
  (.cons (.ret (.cst (.bl true)))
  .nil)))))))):=rfl
noncomputable abbrev ER (t:List Nat)(L:List Int)(r:Nat)(a3 a4 a5:Slot):En:=[sT t,some (.lst (iD L),.sh []),sN r,a3,a4,a5]
theorem fD {t:List Nat}{L:List Int}{r:Nat}{a3 a4 a5:Slot}(h3:aK a3)(h4:aK a4)(h5:aK a5):Tame (ER t L r a3 a4 a5):=.cons (aB _) (.cons (dX _) (.cons (aB _) (.cons h3 (.cons h4 (.cons h5 .nil)))))
theorem uz (n:Nat):(iO n).length=n:=by unfold iO;rw[ao,cm]
theorem B9 (L:List Int):D.eqf 40 (.lst (iD L)) (.lst (iD L))=some true:=by
 rw[Bq 38,cu]
theorem CV {T:Tb}{t:List Nat}{L:List Int}{r k:Nat}{a3:Slot}(h3:aK a3)(hr:L.length<=r)(hk:k<r):aF T l19 (ER t L r a3 (oI (L++iO (r - L.length))) (sN k)) = .nx (ER t L r a3 (oI (L++iO (r - L.length))) (sN k)):=by
 have v4:ev T (.var 4) (ER t L r a3 (oI (L++iO (r - L.length))) (sN k)) = .ok (.lst (iD (L++iO (r - L.length))),.mv [4]):=be rfl rfl;have v5:ev T (.var 5) (ER t L r a3 (oI (L++iO (r - L.length))) (sN k)) = .ok (.int (k:Int),.mv []):=aC rfl rfl;have hl:k<(L++iO (r - L.length)).length:=by rw[ag,uz];omega
 have ex:ev T (.ix (.var 4) (.var 5)) (ER t L r a3 (oI (L++iO (r - L.length))) (sN k)) = .ok (.int (L++iO (r - L.length))[k],.mv []):=jX v4 v5 (by rw[List.getElem?_map,List.getElem?_eq_getElem hl];rfl) rfl;have g1:aV T (.ite GP rF .nil) (ER t L r a3 (oI (L++iO (r - L.length))) (sN k)) = .nx (ER t L r a3 (oI (L++iO (r - L.length))) (sN k)):=ite_ff (mU (lN (eU (n:="int") (b:=true) ex rfl)) (eU (n:="bool") (b:=false) ex rfl));have el:ev T (.blt .len (.cons (.var 1) .nil)) (ER t L r a3 (oI (L++iO (r - L.length))) (sN k)) = .ok (.int (L.length:Int),.mv []):=by
  have:=dQ (T:=T) (env:=ER t L r a3 (oI (L++iO (r - L.length))) (sN k)) (e:=.var 1) (xs:=iD L) (R:=.sh []) rfl;rw[bM] at this;exact this
 have eg:ev T (.cmp .GtE (.var 5) (.blt .len (.cons (.var 1) .nil))) (ER t L r a3 (oI (L++iO (r - L.length))) (sN k)) = .ok (.bl (decide (L.length<=k)),.mv []):=by
  rw[ev,v5,aA,el,aA];have:jo .GtE (.int (k:Int)) (.int (L.length:Int))=some (decide (L.length<=k)):=by
   show some (decide ((L.length:Int)<=(k:Int)))=_;congr 1;exact decide_eq_decide.mpr (by omega)
  rw[this];rfl
 have ed:ev T Hk (ER t L r a3 (oI (L++iO (r - L.length))) (sN k)) = .ok (.bl (decide (L.length<=k/\False)),.mv []):=by
  refine jE eg fun hlk=>?_
  have em:=dB (show (0:Int)<2 by decide) (j7 hlk v5 el) (aH (.int 2));rw[show ((k - L.length:Nat):Int)%2=(((k - L.length)%2:Nat):Int) by omega] at em;have e0:ev T (.lst (.cons (.cst (.int (42))) (.cons (.cst (.int (21))) .nil))) (ER t L r a3 (oI (L++iO (r - L.length))) (sN k)) = .ok (.lst [.int 42,.int 21],.mv []):=by
   rw[ev,aX,aH,aA,aX,aH,aA,aX,aA,aA,aA];rfl
  have e1:=jX (d:=.int (fi (k - L.length))) e0 em (by
   unfold fi;have:(k - L.length)%2<2:=Nat.mod_lt _ (by decide)
   match (k - L.length)%2,this with
   |0,_=>rfl
   |1,_=>rfl) rfl
  have e2:(L++iO (r - L.length))[k]=fi (k - L.length):=by
   rw[List.getElem_append_right hlk];unfold iO;rw[List.getElem_map,List.getElem_range]
  rw[e2] at ex;exact iR ex e1 (by show some (fi (k - L.length)==fi (k - L.length))=_;rw[cu])
 rw[decide_eq_false (by simp)] at ed;unfold l19;rw[aF,g1,aD,aF,ite_ff ed,aD,aF]
theorem yB {T:Tb}{t:List Nat}{L:List Int}{r:Nat}{a3:Slot}(h3:aK a3)(hr:L.length<=r):∀(l:List Nat) (o:Slot),aK o->(∀ k∈l,k<r)->∃ o',aK o'/\bU (.nm 5) [] (aF T l19) (l.map fun k=>D.int ((0+k:Nat):Int)) (ER t L r a3 (oI (L++iO (r - L.length))) o) = .nx (ER t L r a3 (oI (L++iO (r - L.length))) o')
 |[],o,h,_=>⟨o,h,rfl⟩
 | k::l,o,h,hl=>by
  obtain⟨o',t',q⟩:=yB (T:=T) (t:=t) h3 hr l (sN k) (aB _) fun x hx=>hl x (ah _ hx)
  refine⟨o',t',?_⟩;have hb:aZ [] (.nm 5) (.int ((0+k:Nat):Int)) (ER t L r a3 (oI (L++iO (r - L.length))) o)=some (ER t L r a3 (oI (L++iO (r - L.length))) (sN k)):=by
   rw[gh];exact bY (fD h3 (aB _) h) (show (5:Nat)<6 by decide)
  rw[av,bB hb (CV h3 hr (hl k ak)),q]
theorem zP (n:Nat){t:List Nat}{r:Nat}(ht:t.length<=200)(hG:Good t)(hr:(tg t).length<=r)(h:r<=1000):(T (n+7)).cl 19 [.str (tx t),.lst (iD (tg t)),.int (r:Int)] = .ok (.bl true,true):=by
 rw[mz,bK (F:=⟨3,6,b19⟩) rfl rfl];have hst:aG [.str (tx t),.lst (iD (tg t)),.int (r:Int)] 6=ER t (tg t) r none none none:=rfl;dsimp only;rw[hst,DM];have h1:=(zq hG).1;have ct:=tG n t r ht hG hr h;generalize tg t=L at *;have hFl:(L++iO (r - L.length)).length=r:=by rw[ag,uz];omega
 have htk:(L++iO (r - L.length)).take L.length=L:=List.take_left' rfl;have cl:∀ a3 a4 a5,ev (T (n+6)) (.call 14 (.cons (.var 0) (.cons (.var 2) .nil))) (ER t L r a3 a4 a5) = .ok (.lst (iD (L++iO (r - L.length))),.mv []):=fun a3 a4 a5=>fJ (aC rfl rfl) (aC rfl rfl) ct
 have lp:=fun a3 h3=>yB (T:=T (n+6)) (t:=t) (L:=L) (r:=r) (a3:=a3) h3 hr (List.range r) none tn (fun k hk=>List.mem_range.mp hk)
 generalize hF:L++iO (r - L.length)=F at *;have g1:aV (T (n+6)) (.asg (.nm 3) (.call 14 (.cons (.var 0) (.cons (.var 2) .nil))) false) (ER t L r none none none) = .nx (ER t L r (oI F) none none):=aL (fD tn tn tn) (show (3:Nat)<6 by decide) (cl _ _ _);have v3:ev (T (n+6)) (.var 3) (ER t L r (oI F) none none) = .ok (.lst (iD F),.mv [3]):=be rfl rfl;have el:=dQ v3;rw[bM,hFl] at el;have g2:aV (T (n+6)) (.ite Hi rF .nil) (ER t L r (oI F) none none) = .nx (ER t L r (oI F) none none):=ite_ff (mU (lN (eU (n:="list") (b:=true) v3 rfl)) (iR el (aC rfl rfl) (by show some ((r:Int)==(r:Int))=_;rw[cu])));have e3:ev (T (n+6)) (.blt .list (.cons (.var 3) .nil)) (ER t L r (oI F) none none) = .ok (.lst (iD F),.mv []):=by
  rw[ev,aX,aX,v3,aA,aA,aA,j6];show (gN (some (D.lst (iD F)))).bind _=_;rw[bQ,aA,gT]
 have g3:aV (T (n+6)) (.asg (.nm 4) (.blt .list (.cons (.var 3) .nil)) false) (ER t L r (oI F) none none) = .nx (ER t L r (oI F) (oI F) none):=aL (fD (aB _) tn tn) (show (4:Nat)<6 by decide) e3;have g4:=t9 (T:=T (n+6)) (x:=3) (m:=0) (fD (t:=t) (L:=L) (r:=r) (aB (.lst (iD F))) (aB (.lst (iD F))) tn) rfl (aH (.int 0)) (show Pc.kd (iD F).length ((0:Nat):Int)=some 0 from lT (by rw[bM];omega)) (aH (.int 64)) (by rw[bM];exact iQ (by omega));have g4:∃ X:List D,X.length=r/\aV (T (n+6)) (.setix 3 .none (.cst (.int (0))) (.cst (.int (64)))) (ER t L r (oI F) (oI F) none) = .nx (ER t L r (some (.lst X,.own)) (oI F) none):=⟨_,by rw[gq,bM,hFl],g4⟩;obtain⟨X,hX,g4⟩:=g4;have g5:=jK (T:=T (n+6)) (x:=3) (fD (t:=t) (L:=L) (r:=r) (aB (.lst X)) (aB (.lst (iD F))) tn) rfl (aH (.int 42)) (by rw[hX];exact wJ (by omega));have g5:∃ Y:List D,aV (T (n+6)) (.mut 3 .none .append (.cons (.cst (.int (42))) .nil)) (ER t L r (some (.lst X,.own)) (oI F) none) = .nx (ER t L r (some (.lst Y,.own)) (oI F) none):=⟨_,g5⟩;obtain⟨Y,g5⟩:=g5;have v4:ev (T (n+6)) (.var 4) (ER t L r (some (.lst Y,.own)) (oI F) none) = .ok (.lst (iD F),.mv [4]):=be rfl rfl;have el1:ev (T (n+6)) (.blt .len (.cons (.var 1) .nil)) (ER t L r (some (.lst Y,.own)) (oI F) none) = .ok (.int (L.length:Int),.mv []):=by
  have:=dQ (T:=T (n+6)) (env:=ER t L r (some (.lst Y,.own)) (oI F) none) (e:=.var 1) (xs:=iD L) (R:=.sh []) rfl;rw[bM] at this;exact this
 have es:ev (T (n+6)) (.sl (.var 4) .none (.some (.blt .len (.cons (.var 1) .nil)))) (ER t L r (some (.lst Y,.own)) (oI F) none) = .ok (.lst (iD L),.mv []):=by
  refine wB v4 jG (eR el1) ?_;show some (D.lst (cut (iD F) none (some (L.length:Int))))=_;have:cut (iD F) none (some (L.length:Int))=iD (F.take L.length):=by
   unfold cut bL;simp only[List.drop_zero,Nat.sub_zero];rw[if_neg (by omega),dm,bM,dz (by omega),iD,<-List.map_take]
  rw[this,htk]
 have g6:aV (T (n+6)) (.ite GY rF .nil) (ER t L r (some (.lst Y,.own)) (oI F) none) = .nx (ER t L r (some (.lst Y,.own)) (oI F) none):=ite_ff (mU (iR (d:=.lst (iD L)) es (show ev (T (n+6)) (.var 1) _ = .ok (.lst (iD L),.sh []) from rfl) (B9 L)) (iR (cl _ _ _) v4 (B9 F)));have hit:=zC (aC (T:=T (n+6)) (env:=ER t L r (some (.lst Y,.own)) (oI F) none) (i:=2) (d:=.int (r:Int)) (t:=.own) rfl rfl) h;rw[eY] at hit;obtain⟨o',_,q⟩:=lp (some (.lst Y,.own)) (aB _);have g7:=cF hit q;rw[aF,g1,aD,aF,g2,aD,aF,g3,aD,aF,g4,aD,aF,g5,aD,aF,g6,aD,aF,g7,aD];exact eV (aH _)
open Pc.Fr (iD eU)
noncomputable def Cw:Ex:=.cmp .Eq (.bin .Mod (.call 5 (.cons (.var 0) (.cons (.cst (.int (80))) (.cons (.cst (.int (2147483647))) .nil)))) (.cst (.int (8)))) (.cst (.int (1)))
noncomputable def eQ:Ex:=.bin .Mult (.cst (.str ("q" : PySem.Str))) (.cst (.int (90)))
noncomputable def GA:Ex:=.and (.cmp .LtE (.var 5) (.cst (.int (133)))) (.and (.cmp .LtE (.var 3) (.var 5)) (.not (.call 19 (.cons (.var 1) (.cons (.var 2) (.cons (.var 5) .nil))))))
noncomputable def FZ:Ex:=.and (.cmp .LtE (.var 5) (.cst (.int (133)))) (.and (.cmp .Gt (.var 3) (.var 5)) (.not (.call 20 (.cons (.var 1) (.cons (.var 5) .nil)))))
noncomputable def l22:bJ:=.cons (.ite GA rF .nil) (.cons (.ite FZ rF .nil) .nil)
noncomputable def FE:Ex:=.or (.not (.call 20 (.cons (.var 1) (.cons (.blt .min2 (.cons (.cst (.int (133))) (.cons (.bin .Sub (.var 3) (.cst (.int (1)))) .nil))) .nil)))) (.not (.call 20 (.cons (.var 1) (.cons (.cst (.int (0))) .nil))))
noncomputable def Ei:Ex:=.bin .Add (.bin .Add (.sl (.var 1) .none (.some (.var 6))) (.cst (.str ("\n" : PySem.Str)))) (.sl (.var 1) (.some (.var 6)) .none)
noncomputable def Ga:Ex:=.or (.not (.blt (.isi "int") (.cons (.var 8) .nil))) (.or (.blt (.isi "bool") (.cons (.var 8) .nil)) (.cmp .NotEq (.var 8) (.var 6)))
noncomputable def m22:bJ:=.cons (.asg (.nm 8) (.call 21 (.cons (.var 7) (.cons (.var 5) .nil))) false) (.cons (.ite Ga rF .nil) .nil)
noncomputable def Et:qS:=.seq (.lst (.cons (.var 3) (.cons (.bin .Add (.var 3) (.bin .Mod (.var 4) (.cst (.int (20))))) (.cons (.cst (.int (133))) .nil))))
noncomputable def Ek:qS:=.seq (.lst (.cons (.cst (.int (0))) (.cons (.blt .min2 (.cons (.cst (.int (133))) (.cons (.var 3) .nil))) .nil)))
noncomputable def t22:bJ:=(.cons (.asg (.nm 2) (.call 18 (.cons (.var 1) .nil)) false)
  (.cons (.asg (.nm 3) (.blt .len (.cons (.var 2) .nil)) false)
  (.cons (.asg (.nm 4) (.call 5 (.cons (.var 0) (.cons (.cst (.int (81))) (.cons (.cst (.int (2147483563))) .nil)))) false)
  (.cons (.forr (.nm 5) Et l22)
  (.cons (.ite FE rF .nil)
  (.cons (.asg (.nm 6) (.bin .Mod (.bin .FloorDiv (.var 4) (.cst (.int (20)))) (.bin .Add (.blt .len (.cons (.var 1) .nil)) (.cst (.int (1))))) false)
  (.cons (.asg (.nm 7) Ei false)
  (.cons (.forr (.nm 5) Ek m22)
  (.cons (.ret (.cst (.bl true)))
  .nil)))))))))
theorem CS:b22=(.cons (.asg (.nm 1) (.call 8 (.cons (.var 0) (.cons (.cst (.int (40))) .nil))) false)
  (.cons (.ite Cw (.cons (.asg (.nm 1) (.bin .Add (.var 1) eQ) false) .nil) .nil) t22)):=rfl
noncomputable abbrev EL (cs:List Int)(t:List Nat)(a2 a3 a4 a5 a6 a7 a8:Slot):En:=[some (.lst (iD cs),.sh []),sT t,a2,a3,a4,a5,a6,a7,a8]
theorem fC {cs:List Int}{t:List Nat}{a2 a3 a4 a5 a6 a7 a8:Slot}(h2:aK a2)(h3:aK a3)(h4:aK a4)(h5:aK a5)(h6:aK a6)(h7:aK a7)(h8:aK a8):Tame (EL cs t a2 a3 a4 a5 a6 a7 a8):=.cons (dX _) (.cons (aB _) (.cons h2 (.cons h3 (.cons h4 (.cons h5 (.cons h6 (.cons h7 (.cons h8 .nil))))))))
theorem xf {T:Tb}{env:En}{a b:Ex}{x y:Nat}{R R':Rt}(h:ev T a env = .ok (.int (x:Int),R))(h':ev T b env = .ok (.int (y:Int),R')):ev T (.cmp .LtE a b) env = .ok (.bl (decide (x<=y)),.mv []):=by
 rw[ev,h,aA,h',aA];have:jo .LtE (.int (x:Int)) (.int (y:Int))=some (decide (x<=y)):=by
  show some (decide ((x:Int)<=(y:Int)))=_;congr 1;exact decide_eq_decide.mpr (by omega)
 rw[this];rfl
theorem eF {p:Prop}[Decidable p](h:¬ p):decide p=false:=az h
theorem turn {cs:List Int}{t:List Nat}{a4:Slot}{r:Nat}(ht:t.length<=200)(hG:Good t):aF (T 8) l22 (EL cs t (oI (tg t)) (sN (tg t).length) a4 (sN r) none none none) = .nx (EL cs t (oI (tg t)) (sN (tg t).length) a4 (sN r) none none none):=by
 have hroom:=fun h h2=>zP 1 (t:=t) (r:=r) ht hG h h2
 have hlong:=fun h=>tF 2 (t:=t) (r:=r) ht hG h
 generalize tg t=L at *;have v5:ev (T 8) (.var 5) (EL cs t (oI L) (sN L.length) a4 (sN r) none none none) = .ok (.int (r:Int),.mv []):=aC rfl rfl;have v3:ev (T 8) (.var 3) (EL cs t (oI L) (sN L.length) a4 (sN r) none none none) = .ok (.int (L.length:Int),.mv []):=aC rfl rfl;have v1:ev (T 8) (.var 1) (EL cs t (oI L) (sN L.length) a4 (sN r) none none none) = .ok (.str (tx t),.mv []):=aC rfl rfl;have v2:ev (T 8) (.var 2) (EL cs t (oI L) (sN L.length) a4 (sN r) none none none) = .ok (.lst (iD L),.mv [2]):=be rfl rfl;have e0:=xf (y:=133) v5 (aH (.int 133));have eb:ev (T 8) GA (EL cs t (oI L) (sN L.length) a4 (sN r) none none none) = .ok (.bl (decide (r<=133/\(L.length<=r/\False))),.mv []) :=
  jE e0 fun h1=>jE (xf v3 v5) fun h2=>by
   rw[lN (qb v1 v2 v5 (hroom h2 (by omega))),eF (fun z:False=>z)]
 have ec:ev (T 8) FZ (EL cs t (oI L) (sN L.length) a4 (sN r) none none none) = .ok (.bl (decide (r<=133/\(r<L.length/\False))),.mv []) :=
  jE e0 fun h1=>jE (pd v3 v5) fun h2=>by
   rw[lN (fJ v1 v5 (hlong h2)),eF (fun z:False=>z)]
 rw[eF (fun z=>z.2.2)] at eb;rw[eF (fun z=>z.2.2)] at ec;unfold l22;rw[aF,ite_ff eb,aD,aF,ite_ff ec,aD,aF]
theorem BW {cs:List Int}{t:List Nat}{a4:Slot}(h4:aK a4)(ht:t.length<=200)(hG:Good t):∀(l:List Nat) (o:Slot),aK o->∃ o',aK o'/\bU (.nm 5) [] (aF (T 8) l22) (l.map fun (r:Nat)=>D.int (r:Int)) (EL cs t (oI (tg t)) (sN (tg t).length) a4 o none none none) = .nx (EL cs t (oI (tg t)) (sN (tg t).length) a4 o' none none none)
 |[],o,h=>⟨o,h,rfl⟩
 | r::l,o,h=>by
  obtain⟨o',t',q⟩:=BW (cs:=cs) h4 ht hG l (sN r) (aB _);refine⟨o',t',?_⟩;have hb:aZ [] (.nm 5) (.int (r:Int)) (EL cs t (oI (tg t)) (sN (tg t).length) a4 o none none none)=some (EL cs t (oI (tg t)) (sN (tg t).length) a4 (sN r) none none none):=bY (fC (aB _) (aB _) h4 h tn tn tn) (show (5:Nat)<9 by decide);rw[av,bB hb (turn ht hG),q]
theorem BP {cs:List Int}{t s:List Nat}{a2 a3 a4:Slot}{a:Nat}(h2:aK a2)(h3:aK a3)(h4:aK a4)(hs:jg 0 s=some a)(ha:a<18446744073709551616):∀(l:List Nat) (o o8:Slot),aK o->aK o8->∃ o' o8',bU (.nm 5) [] (aF (T 8) m22) (l.map fun (r:Nat)=>D.int (r:Int)) (EL cs t a2 a3 a4 o (sN a) (sT s) o8) = .nx (EL cs t a2 a3 a4 o' (sN a) (sT s) o8')
 |[],o,o8,h,h8=>⟨o,o8,rfl⟩
 | r::l,o,o8,h,h8=>by
  obtain⟨o',o8',q⟩:=BP (cs:=cs) (t:=t) h2 h3 h4 hs ha l (sN r) (sN a) (aB _) (aB _);refine⟨o',o8',?_⟩;have hb:aZ [] (.nm 5) (.int (r:Int)) (EL cs t a2 a3 a4 o (sN a) (sT s) o8)=some (EL cs t a2 a3 a4 (sN r) (sN a) (sT s) o8):=bY (fC h2 h3 h4 h (aB _) (aB _) h8) (show (5:Nat)<9 by decide);have g1:aV (T 8) (.asg (.nm 8) (.call 21 (.cons (.var 7) (.cons (.var 5) .nil))) false) (EL cs t a2 a3 a4 (sN r) (sN a) (sT s) o8) = .nx (EL cs t a2 a3 a4 (sN r) (sN a) (sT s) (sN a)):=aL (fC h2 h3 h4 (aB _) (aB _) (aB _) h8) (show (8:Nat)<9 by decide) (fJ (aC rfl rfl) (aC rfl rfl) (zr 6 hs ha));have v8:ev (T 8) (.var 8) (EL cs t a2 a3 a4 (sN r) (sN a) (sT s) (sN a)) = .ok (.int (a:Int),.mv []):=aC rfl rfl;have v6:ev (T 8) (.var 6) (EL cs t a2 a3 a4 (sN r) (sN a) (sT s) (sN a)) = .ok (.int (a:Int),.mv []):=aC rfl rfl;have ec:ev (T 8) Ga (EL cs t a2 a3 a4 (sN r) (sN a) (sT s) (sN a)) = .ok (.bl false,.mv []):=mU (lN (eU (n:="int") (b:=true) v8 rfl)) (mU (eU (n:="bool") (b:=false) v8 rfl) (iR v8 v6 (by show some ((a:Int)==(a:Int))=_;rw[cu])));have hin:aF (T 8) m22 (EL cs t a2 a3 a4 (sN r) (sN a) (sT s) o8) = .nx (EL cs t a2 a3 a4 (sN r) (sN a) (sT s) (sN a)):=by
   unfold m22;rw[aF,g1,aD,aF,ite_ff ec,aD,aF]
  rw[av,bB hb hin,q]
theorem rest {cs:List Int}{t:List Nat}(ht:t.length<=200)(hG:Good t):ret (aF (T 8) t22 (EL cs t none none none none none none none)) = .ok (.bl true,true):=by
 obtain⟨hl1,hl2,_⟩:=zq hG;have g1:aV (T 8) (.asg (.nm 2) (.call 18 (.cons (.var 1) .nil)) false) (EL cs t none none none none none none none) = .nx (EL cs t (oI (tg t)) none none none none none none):=aL (fC tn tn tn tn tn tn tn) (show (2:Nat)<9 by decide) (fV (aC rfl rfl) (Dl 3 ht hG));have el:=dQ (be (T:=T 8) (env:=EL cs t (oI (tg t)) none none none none none none) (i:=2) (d:=.lst (iD (tg t))) rfl rfl);rw[bM] at el;have g2:aV (T 8) (.asg (.nm 3) (.blt .len (.cons (.var 2) .nil)) false) (EL cs t (oI (tg t)) none none none none none none) = .nx (EL cs t (oI (tg t)) (sN (tg t).length) none none none none none):=aL (fC (aB _) tn tn tn tn tn tn) (show (3:Nat)<9 by decide) el;obtain⟨d,d0,_,ed⟩:=mX 7 cs 81 2147483563 (by decide) (by decide);obtain⟨d,rfl⟩:∃ d':Nat,d=(d':Int):=⟨d.toNat,by omega⟩;obtain⟨R,v0⟩:∃ R,ev (T 8) (.var 0) (EL cs t (oI (tg t)) (sN (tg t).length) none none none none none) = .ok (.lst (iD cs),R):=eK rfl;have g3:aV (T 8) (.asg (.nm 4) (.call 5 (.cons (.var 0) (.cons (.cst (.int (81))) (.cons (.cst (.int (2147483563))) .nil)))) false) (EL cs t (oI (tg t)) (sN (tg t).length) none none none none none) = .nx (EL cs t (oI (tg t)) (sN (tg t).length) (sN d) none none none none):=aL (fC (aB _) (aB _) tn tn tn tn tn) (show (4:Nat)<9 by decide) (qb v0 (aH _) (aH _) ed);have la:=fun l=>BW (cs:=cs) (a4:=sN d) (aB _) ht hG l none tn
 have lg:=fun (r:Nat) h=>tF 2 (t:=t) (r:=r) ht hG h
 generalize tg t=L at *;have hitA:eX (T 8) Et (EL cs t (oI L) (sN L.length) (sN d) none none none none) = .ok ([L.length,L.length+d%20,133].map fun (r:Nat)=>D.int (r:Int),[]):=by
  have em:=dB (show (0:Int)<20 by decide) (aC (T:=T 8) (env:=EL cs t (oI L) (sN L.length) (sN d) none none none none) (i:=4) (d:=.int (d:Int)) (t:=.own) rfl rfl) (aH (.int 20));rw[show (d:Int)%20=((d%20:Nat):Int) by omega] at em;have ep:=cR (aC (T:=T 8) (env:=EL cs t (oI L) (sN L.length) (sN d) none none none none) (i:=3) (d:=.int (L.length:Int)) (t:=.own) rfl rfl) em;unfold Et;rw[eX,ev,aX,aC (i:=3) (d:=.int (L.length:Int)) (t:=.own) rfl rfl,aA,aX,ep,aA,aX,aH,aA,aX,aA,aA,aA,aA];rfl
 obtain⟨o5,h5,q⟩:=la [L.length,L.length+d%20,133];have g4:=cF hitA q;have v1:∀ a5 a6 a7 a8,ev (T 8) (.var 1) (EL cs t (oI L) (sN L.length) (sN d) a5 a6 a7 a8) = .ok (.str (tx t),.mv []):=fun _ _ _ _=>aC rfl rfl
 have v3:∀ a5 a6 a7 a8,ev (T 8) (.var 3) (EL cs t (oI L) (sN L.length) (sN d) a5 a6 a7 a8) = .ok (.int (L.length:Int),.mv []):=fun _ _ _ _=>aC rfl rfl
 have em1:=Fr.sW (aH (T:=T 8) (env:=EL cs t (oI L) (sN L.length) (sN d) o5 none none none) (.int 133)) (j7 hl1 (v3 o5 none none none) (aH (.int 1)));obtain⟨r1,hr1,hr1'⟩:∃ r1:Nat,(if ((L.length - 1:Nat):Int)<133 then ((L.length - 1:Nat):Int) else 133)=(r1:Int)/\r1<L.length:=by
  split
  ·exact⟨L.length - 1,rfl,by omega⟩
  ·exact⟨133,rfl,by omega⟩
 rw[hr1] at em1;have ed':ev (T 8) FE (EL cs t (oI L) (sN L.length) (sN d) o5 none none none) = .ok (.bl false,.mv []):=mU (lN (fJ (v1 _ _ _ _) em1 (lg r1 hr1'))) (lN (fJ (v1 _ _ _ _) (aH (.int ((0:Nat):Int))) (lg 0 (by omega))));have g5:=ite_ff (a:=rF) ed';have em:=dB (show (0:Int)<(t.length:Int)+1 by omega) (gZ (show (0:Int)<20 by decide) (by decide) (aC (T:=T 8) (env:=EL cs t (oI L) (sN L.length) (sN d) o5 none none none) (i:=4) (d:=.int (d:Int)) (t:=.own) rfl rfl) (aH (.int 20))) (bZ (gW (by omega) (v1 _ _ _ _)) (aH (.int 1)));obtain⟨a,ha,ha2⟩:=iK (fk ((d:Int) / 20) (show (t.length:Int)+1≠0 by omega)) (dt ((d:Int) / 20) (show (0:Int)<(t.length:Int)+1 by omega));rw[ha] at em;have hat:a<=t.length:=by omega
 have g6:aV (T 8) (.asg (.nm 6) (.bin .Mod (.bin .FloorDiv (.var 4) (.cst (.int (20)))) (.bin .Add (.blt .len (.cons (.var 1) .nil)) (.cst (.int (1))))) false) (EL cs t (oI L) (sN L.length) (sN d) o5 none none none) = .nx (EL cs t (oI L) (sN L.length) (sN d) o5 (sN a) none none):=aL (fC (aB _) (aB _) (aB _) h5 tn tn tn) (show (6:Nat)<9 by decide) em;have v6:ev (T 8) (.var 6) (EL cs t (oI L) (sN L.length) (sN d) o5 (sN a) none none) = .ok (.int (a:Int),.mv []):=aC rfl rfl;have es:ev (T 8) Ei (EL cs t (oI L) (sN L.length) (sN d) o5 (sN a) none none) = .ok (.str (tx (t.take a ++ [10]++t.drop a)),.mv []) :=
  jR (jR (oR (by omega) (v1 _ _ _ _) jG (eR v6) (yo t a)) (show ev (T 8) (.cst (.str ("\n" : PySem.Str))) _ = .ok (.str (tx [10]),.mv []) by rw[show (("\n" : PySem.Str))=tx [10] by decide +kernel];exact aH _) (by rw[bh,br];omega)) (oR (by omega) (v1 _ _ _ _) (eR v6) jG (vW t a)) (by rw[ag,bh,br,c9];omega)
 have g7:aV (T 8) (.asg (.nm 7) Ei false) (EL cs t (oI L) (sN L.length) (sN d) o5 (sN a) none none) = .nx (EL cs t (oI L) (sN L.length) (sN d) o5 (sN a) (sT (t.take a ++ [10]++t.drop a)) none):=aL (fC (aB _) (aB _) (aB _) h5 (aB _) tn tn) (show (7:Nat)<9 by decide) es;have hfb:=ug (x:=10) (rest:=t.drop a) (by decide) (by decide +kernel) (t.take a) 0 fun c hc=>hG c (List.mem_of_mem_take hc)
 rw[bh,dz hat,gh,show t.take a++10::t.drop a=t.take a ++ [10]++t.drop a by rw[cf];rfl] at hfb;generalize t.take a ++ [10]++t.drop a=s at *;have em2:=Fr.sW (aH (T:=T 8) (env:=EL cs t (oI L) (sN L.length) (sN d) o5 (sN a) (sT s) none) (.int 133)) (v3 o5 (sN a) (sT s) none);obtain⟨r2,hr2⟩:∃ r2:Nat,(if (L.length:Int)<133 then (L.length:Int) else 133)=(r2:Int):=by
  split
  ·exact⟨L.length,rfl⟩
  ·exact⟨133,rfl⟩
 rw[hr2] at em2;have hitB:eX (T 8) Ek (EL cs t (oI L) (sN L.length) (sN d) o5 (sN a) (sT s) none) = .ok ([0,r2].map fun (r:Nat)=>D.int (r:Int),[]):=by
  unfold Ek;rw[eX,ev,aX,aH,aA,aX,em2,aA,aX,aA,aA,aA];rfl
 obtain⟨p5,p8,z⟩:=BP (cs:=cs) (t:=t) (a2:=oI L) (a3:=sN L.length) (a4:=sN d) (aB _) (aB _) (aB _) hfb (by omega) [0,r2] o5 none h5 tn;have g8:=cF hitB z;unfold t22;rw[aF,g1,aD,aF,g2,aD,aF,g3,aD,aF,g4,aD,aF,g5,aD,aF,g6,aD,aF,g7,aD,aF,g8,aD];exact eV (aH _)
theorem q90 {T:Tb}{env:En}:ev T eQ env = .ok (.str (tx (List.replicate 90 113)),.mv []):=by
 unfold eQ;rw[ev,aH,aA,aH,aA];have:mM .Mult (.str ("q" : PySem.Str)) (.int 90)=some (.str (tx (List.replicate 90 113))):=by
  show (if 1<(90:Int)/\(90:Int)<=1000/\0<("q" : PySem.Str).length/\("q" : PySem.Str).length<=1000 then some (D.str (qI ("q" : PySem.Str) (90:Int).toNat)) else none)=_;rw[if_pos (by decide +kernel)];have:qI ("q" : PySem.Str) (90:Int).toNat=tx (List.replicate 90 113):=by decide +kernel
  rw[this]
 rw[this];rfl
theorem law (ns:List Int)(hl:ns.length<=63):∃ fr,Pc.run fns gl 1000 9 22 [.lst (ns.map D.int)] = .ok (.bl true,fr):=by
 have hst:aG [.lst (ns.map D.int)] 9=[some (.lst (iD ns),.sh []),none,none,none,none,none,none,none,none]:=rfl;obtain⟨t0,hG0,hl0,et⟩:=tX 5 ns 40 (by decide);have g1:aV (T 8) (.asg (.nm 1) (.call 8 (.cons (.var 0) (.cons (.cst (.int (40))) .nil))) false) [some (.lst (iD ns),.sh []),none,none,none,none,none,none,none,none] = .nx (EL ns t0 none none none none none none none):=aL (.cons (dX _) (.cons tn (.cons tn (.cons tn (.cons tn (.cons tn (.cons tn (.cons tn (.cons tn .nil))))))))) (show (1:Nat)<9 by decide) (fJ (d1:=.lst (iD ns)) (R1:=.sh []) rfl (aH _) et);obtain⟨r,_,_,er⟩:=mX 7 ns 80 2147483647 (by decide) (by decide);obtain⟨R,v0⟩:∃ R,ev (T 8) (.var 0) (EL ns t0 none none none none none none none) = .ok (.lst (iD ns),R):=eK rfl;have ec:ev (T 8) Cw (EL ns t0 none none none none none none none) = .ok (.bl (decide (r%8=1)),.mv []):=Ct.y0 (dB (show (0:Int)<8 by decide) (qb v0 (aH _) (aH _) er) (aH _)) (aH _);have g2:∃ t:List Nat,Good t/\t.length<=130/\aV (T 8) (.ite Cw (.cons (.asg (.nm 1) (.bin .Add (.var 1) eQ) false) .nil) .nil) (EL ns t0 none none none none none none none) = .nx (EL ns t none none none none none none none):=by
  rw[lL ec];split
  ·refine⟨t0++List.replicate 90 113,fun c hc=>?_,by rw[ag,bo];omega,fS (aL (fC tn tn tn tn tn tn tn) (show (1:Nat)<9 by decide) (jR (aC rfl rfl) q90 (by rw[bo];omega)))⟩;rcases List.mem_append.mp hc with h | h
   ·exact hG0 c h
   ·rw[List.eq_of_mem_replicate h];exact⟨by decide,by decide +kernel⟩
  ·exact⟨t0,hG0,by omega,gJ⟩
 obtain⟨t,hG,htl,g2⟩:=g2;refine⟨true,?_⟩;rw[bK (F:=⟨1,9,b22⟩) rfl rfl];dsimp only;rw[hst,CS,aF,g1,aD,aF,g2,aD];exact rest (by omega) hG
end K08
end
section
namespace Pc
open PySem PySem.Spec PyProof.Rows L2
theorem lh {K:PySem.W.Frag}{h:Heap}{C:Addr}{bmB:List Value}{newId:String}(kin:K.In h)(q:PySem.W.excIn K C bmB newId=true) :
  ∃ bm N nm qn bs hdct sn sub ab col dd k0 k1 k2 k3 k5 mN,h.get? C=some (excClassObj nm qn C N bs bm hdct sn sub ab col dd k0 k1 k2 k3 k5 newId)/\h.Ns N mN/\mN "__init__" = none/\OwnTail h bmB bm:=by
 unfold PySem.W.excIn at q;split at q
 ·rename_i dd cd sl ho;split at q
  ·rename_i C' bm k0 k1 k2 k3 n k5 hm hs;simp only[Bool.and_eq_true,beq_iff_eq,Bool.not_eq_true'] at q;obtain⟨⟨⟨⟨⟨rfl,rfl⟩,hdel⟩,ht⟩,hok⟩,hni⟩:=q;obtain⟨nm,bs,mro,ns,qn,hd,sn,sub,ab,col,del⟩:=cd;dsimp only at hm hdel hok hni;subst hm hdel;have hsl:sl = #[k0,k1,k2,k3,some (.builtin n),k5]:=by
    obtain⟨l⟩:=sl;simp only at hs;rw[hs]
   subst hsl;exact⟨bm,ns,nm,qn,bs,hd,sn,sub,ab,col,dd,k0,k1,k2,k3,k5,_,kin _ _ ho,.of_isNs (il kin hok),gp kin hok hni,PySem.W.tail_of_in kin ht⟩
  ·cases q
 ·cases q
section
variable {X:Cx}
theorem yW {x:Str}{C:Addr}{bmB:List Value}{B newId initId:String}{np cpos pos:Pos}{e:Expr}{es:List Expr}{t:TA}{W:Hp->Prop}(hc:X.calm=true)(hg:Gl X x)(hm:X.mg x=some (.ref C))(q:PySem.W.excIn X.K C bmB newId=true)(FB:ExcBaseFacts B newId initId bmB)(ha:PA X (e::es) t)
  (hw:∀(pins:List (Addr×Obj)) (σ:L2.St) (H:Hp) (s:Shared) (h':Heap) (a:Addr) (us:List Value),W H->Inv X pins σ H s->Heap.MadeExcOf s.heap h' a (.ref C) us->X.xe (.ref a) { s with heap:=h' })
  (hl:∀ σ H Q,t σ H Q->t σ H fun vs H'=>vs.length<=sizeLine/\Q vs H')
  (he:starEach (e::es) X.env=(false,eval e X.env)::starEach es X.env:=by rfl) (hpl:(backTo cpos (starEach es X.env)).any (·.1)=false:=by rfl) (hd:(x==("__debug__" : Str))=false:=by decide) :
  PS X (.Raise (some (.Call (.Name x np) (e::es) [] cpos)) none pos) (fun D σ H=>t σ H fun vs H'=>W H'):=by
 intro pins s σ H D I h;obtain⟨bm,N,nm,qn,bs,hdct,sn,sub,ab,col,dd,k0,k1,k2,k3,k5,mN,hC,hN,hni,T⟩:=lh I.ok.mod.kin q;refine wpAny_Raise_call_subT (C:=C) (nm:=nm) (q:=qn) (N:=N) (bs:=bs) (bm:=bm) (hdct:=hdct) (sn:=sn) (sub:=sub) (ab:=ab) (col:=col) (dd:=dd) (k0:=k0) (k1:=k1) (k2:=k2) (k3:=k3) (k5:=k5)
  FB (mN:=mN) (T.hasType FB.hasBase) (I.ok.hd hc) (by rw[he];show (false || (backTo cpos (starEach es X.env)).any (·.1))=false;rw[hpl];rfl) hni (dU I hg hm ⟨rfl,?_⟩ hd)
 have ha':=ha cpos pins s σ H _ I (hl σ H _ h);rw[he] at ha' ⊢;refine Calls.evalArgs_plain (wpAny_mono ha' (fun us s₂ h₂=>?_) fun _ _ y=>y);obtain⟨vs,H2,I2,r2,l2,w2⟩:=h₂;exact⟨rfl,by rw[<-r2.length];exact l2,I2.bk _ _ hC,hN.keeps I2.bk,T.keeps I2.bk,fun h' a hx=>hw pins σ H2 s₂ h' a us w2 I2 hx⟩
end
def Bf (B:Heap)(fr:List Addr)(H':Hp)(h h':Heap):Prop:=∀ b o,h'.get? b=some o->b∈fr\/B.get? b=some o\/(h.get? b=none/\H' b=none)
noncomputable def o9 (P:Program)(w:World):oS:=fun outer H s E e s'=>∃ a C a0 H' B,e = .ref a/\s'.os=s.os/\AllBare s'.gens/\Un (cQ outer) [] H H' s.heap s'.heap/\iG P w H' s'.heap /\
 Heap.FlyingW B outer a C a0 s'.heap/\Bf B (cQ outer) H' s.heap s'.heap/\E C none H'
theorem lr {P:Program}{w:World}{H:Hp}{h h':Heap}(x:iG P w H h)(k:∀ b o,H b≠none->h.get? b=some o->h'.get? b=some o):iG P w H h':=fun a o e =>
 (x a o e).stay (fun b u hb q=>k b u (by rcases hb with rfl | hb<;>(intro z;simp_all)) q) (fun _ q=>q) fun _ _ q=>q
theorem qL {P:Program}{w:World}{K:PySem.W.Frag}{mg:Str->Option Value}{base:Heap}{N:List Str}{qual:Str}{scope:Scope}{f:Addr}{cd:Value}{A:Around}{outer:List Env}{s:Shared}{H:Hp}{E:XK}
  {pins:List (Addr×Obj)}{σ:L2.St}{H1:Hp}{s1:Shared}{h2:Heap}{a:Addr}{C:Value}{us:List Value}(I:Inv (bX (o9 P w) P w K mg base N qual scope f cd A outer s H E) pins σ H1 s1)
  (hx:Heap.MadeExcOf s1.heap h2 a C us) (hE:E C none H1):(bX (o9 P w) P w K mg base N qual scope f cd A outer s H E).xe (.ref a) { s1 with heap:=h2 }:=by
 have hst:=I.stack;have hin:∀ env∈(envOfC qual scope s.heap.objs.size f cd::outer),∀ b,env.frame=some b->b∈cQ (envOfC qual scope s.heap.objs.size f cd::outer):=fun env he b hb=>List.mem_filterMap.mpr ⟨env,he,hb⟩
 show wpAny (model P w) (A.deeper (envOfC qual scope s.heap.objs.size f cd)) (leaving (envOfC qual scope s.heap.objs.size f cd) (.ref a)) _ _ _;refine wpAny_leaves_madeW (base:=PySem.W.hideAll s1.heap (cQ (envOfC qual scope s.heap.objs.size f cd::outer))) (h:=s1.heap) (outer:=outer) I.ok.frames rfl (fun b o q=>ik _ q) (PySem.W.funFrames_hide hst hin) hx fun h' t fl tup hbn uts=>?_
 have L0:∀ b o,s.heap.get? b=some o->b≠s.heap.objs.size:=fun b o e=>ba (Heap.lt_size e)
 have fr:cQ (envOfC qual scope s.heap.objs.size f cd::outer)=s.heap.objs.size::cQ outer:=rfl;have stay:∀ b o,s1.heap.get? b=some o->b≠s.heap.objs.size->b∉cQ outer->h'.get? b=some o:=fun b o e h1 h2=>fl.1 b o (gj _ e (by
  rw[fr];intro z;rcases iy.mp z with z | z
  ·exact h1 z
  ·exact h2 z))
 have fslot:∀ b o,s1.heap.get? b=some o->b∈cQ outer->∃ sl,h'.get? b=some { o with slots:=sl }:=fun b o e hb=>by
  obtain⟨_,o',e',hd⟩:=hst.mem (b:=b) (show b∈s.heap.objs.size::cQ outer from ah _ hb);rw[e] at e';cases e';exact uts b o (hx.keeps b o e) hd
 have bs:=I.base;have nofr:∀ b,H1 b≠none->b≠s.heap.objs.size/\b∉cQ outer:=fun b hb=>by
  have:=I.stkFree;refine⟨fun z=>hb (this b (show b∈s.heap.objs.size::cQ outer by rw[z];exact ak)),fun z=>hb (this b (show b∈s.heap.objs.size::cQ outer from ah _ z))⟩
 refine⟨a,C,.ref t,H1,_,rfl,I.os,I.bare,⟨fun b o e n hf _=>?_,fun b o e n hf _=>?_,fun b o e n _=>bs.free b o e n (by simp[bX]),fun b o e _=>?_,bs.tups,bs.frzs,bs.tbls⟩,lr I.hok fun b o hb e=>stay b o e (nofr b hb).1 (nofr b hb).2,fl,fun b o e=>?_,hE⟩
 ·exact stay b o (bs.keep b o e n hf (by simp[bX])) (L0 b o e) hf
 ·obtain⟨sl,e1⟩:=bs.slot b o e n hf (by simp[bX]);obtain⟨sl',e2⟩:=fslot b _ e1 hf;exact⟨sl',e2⟩
 ·obtain⟨o1,e1⟩:=bs.there b o e (by simp[bX]);by_cases hf:b∈cQ outer
  ·obtain⟨sl',e2⟩:=fslot b _ e1 hf;exact⟨_,e2⟩
  ·exact⟨o1,stay b o1 e1 (L0 b o e) hf⟩
 ·by_cases hf:b∈cQ outer
  ·exact .inl hf
  ·cases e1:s1.heap.get? b with
   |none =>
    refine .inr (.inr ⟨?_,?_⟩)
    ·cases e0:s.heap.get? b with
     |none=>rfl
     |some o0 =>
      obtain⟨o1,e2⟩:=bs.there b o0 e0 (by simp[bX]);rw[e1] at e2;cases e2
    ·cases e0:H1 b with
     |none=>rfl
     |some u =>
      obtain⟨ob,e2⟩:=cJ.live' (I.hok b u e0);rw[e1] at e2;cases e2
   |some o1 =>
    by_cases hL:b=s.heap.objs.size
    ·refine .inr (.inr ⟨?_,?_⟩)
     ·rw[hL];cases e0:s.heap.get? s.heap.objs.size with
      |none=>rfl
      |some o0=>exact absurd rfl (L0 _ _ e0)
     ·cases e0:H1 b with
      |none=>rfl
      |some u=>exact absurd hL (nofr b (by rw[e0];simp)).1
    ·have:=stay b o1 e1 hL hf;rw[e] at this;cases this;refine .inr (.inl (gj _ e1 ?_));rw[fr];intro z;rcases iy.mp z with z | z
     ·exact hL z
     ·exact hf z
structure zx (X:Cx)(H H':Hp)(s:Shared)(B h:Heap):Prop where
 un:Un (cQ X.stack) [] H H' s.heap h
 hok:iG X.prog X.w H' h
 bf:Bf B (cQ X.stack) H' s.heap h
section
variable {X:Cx}{pins:List (Addr×Obj)}{σ:L2.St}{H H':Hp}{s:Shared}{B h h':Heap}
theorem zx.frFree (F:zx X H H' s B h)(I:Inv X pins σ H s):∀ b∈cQ X.stack,H' b=none:=fun b hb=>by
 obtain⟨_,o,e,_⟩:=I.stack.mem hb;exact F.un.free b o e (I.stkFree b hb) (by simp)
theorem zx.next (F:zx X H H' s B h)(I:Inv X pins σ H s)(st:B.StaysIn h')(fr:∀ b∈cQ X.stack,∃ o,h.get? b=some o/\∀ vs,o.data≠.fields vs)(ut:h.UpToSlots h'):zx X H H' s B h':=by
 have keep:∀ b o,h.get? b=some o->b∉cQ X.stack->(s.heap.get? b≠none\/H' b≠none)->h'.get? b=some o:=fun b o e hf hn=>by
  rcases F.bf b o e with z | z | ⟨z1,z2⟩
  ·exact absurd z hf
  ·exact st b o z
  ·rcases hn with hn | hn
   ·exact absurd z1 hn
   ·exact absurd z2 hn
 have slot:∀ b o,h.get? b=some o->b∈cQ X.stack->∃ sl,h'.get? b=some { o with slots:=sl }:=fun b o e hf=>by
  obtain⟨o',e',hd⟩:=fr b hf;rw[e] at e';cases e';exact ut b o e hd
 refine⟨⟨fun b o e n hf _=>?_,fun b o e n hf _=>?_,fun b o e n hx=>F.un.free b o e n hx,fun b o e hx=>?_,F.un.tups,F.un.frzs,F.un.tbls⟩,lr F.hok fun b o hb e=>?_,fun b o e=>?_⟩
 ·exact keep b o (F.un.keep b o e n hf (by simp)) hf (.inl (by rw[e];simp))
 ·obtain⟨sl,e1⟩:=F.un.slot b o e n hf (by simp);obtain⟨sl',e2⟩:=slot b _ e1 hf;exact⟨sl',e2⟩
 ·obtain⟨o1,e1⟩:=F.un.there b o e (by simp);by_cases hf:b∈cQ X.stack
  ·obtain⟨sl',e2⟩:=slot b _ e1 hf;exact⟨_,e2⟩
  ·exact⟨o1,keep b o1 e1 hf (.inl (by rw[e];simp))⟩
 ·exact keep b o e (fun z=>hb (F.frFree I b z)) (.inr hb)
 ·by_cases hf:b∈cQ X.stack
  ·exact .inl hf
  ·cases e1:h.get? b with
   |none =>
    refine .inr (.inr ⟨?_,?_⟩)
    ·cases e0:s.heap.get? b with
     |none=>rfl
     |some o0 =>
      obtain⟨o1,e2⟩:=F.un.there b o0 e0 (by simp);rw[e1] at e2;cases e2
    ·cases e0:H' b with
     |none=>rfl
     |some u =>
      obtain⟨ob,e2⟩:=cJ.live' (F.hok b u e0);rw[e1] at e2;cases e2
   |some o1 =>
    rcases F.bf b o1 e1 with z | z | z
    ·exact absurd z hf
    ·have:=st b o1 z;rw[e] at this;cases this;exact .inr (.inl z)
    ·exact .inr (.inr z)
theorem zx.inv {g':Array GenState}{d':Drawn}{t':Nat}(F:zx X H H' s B h)(I:Inv X pins σ H s)(hg:AllBare g'):Inv X pins σ H' { s with heap:=h,gens:=g',drawn:=d',toks:=t' } :=
 I.call (ch:=[]) F.un F.hok hg fun b z=>nomatch z
theorem zm {E:XK}{e:Value}{s':Shared}(c:o9 X.prog X.w X.stack H s E e s'):∃ a C a0 H' B,e = .ref a/\s'.os=s.os/\AllBare s'.gens/\zx X H H' s B s'.heap/\Heap.FlyingW B X.stack a C a0 s'.heap/\E C none H':=by
 obtain⟨a,C,a0,H',B,e1,e2,e3,e4,e5,e6,e7,e8⟩:=c;exact⟨a,C,a0,H',B,e1,e2,e3,⟨e4,e5,e7⟩,e6,e8⟩
theorem cV {a:Addr}{C a0:Value}(f:Heap.FlyingW B X.stack a C a0 h):∀ b∈cQ X.stack,∃ o,h.get? b=some o/\∀ vs,o.data≠.fields vs:=fun b hb=>(f.2.2.1.mem hb).2
theorem kz {a L:Addr}{C a0:Value}(f:Heap.HeldW B X.stack a C a0 L h):∀ b∈cQ X.stack,∃ o,h.get? b=some o/\∀ vs,o.data≠.fields vs:=fun b hb=>(f.2.2.1.mem hb).2
noncomputable abbrev markX (X:Cx)(a:Addr):Cx:={ X with A:=X.A.mark (some (.ref a)),calm:=false,xe:=fun _ _=>False }
theorem pK (I:Inv X pins σ H s)(a:Addr)(hf:(X.A.mark (some (.ref a))).frames=some X.stack):Inv (markX X a) pins σ H s :=
 ⟨⟨I.ok.mod,I.ok.kind,I.ok.glob,I.ok.blt,I.ok.above,I.ok.inj,I.ok.has,I.ok.cab,fun z=>(by cases z),hf,I.ok.stk,I.ok.exf,I.ok.bs,I.ok.bsz,I.ok.noex,I.ok.exfs,I.ok.funs,I.ok.frf⟩,I.os,I.bare,I.base,I.loc,I.cell,I.free,I.freeC,I.pin,I.hok,I.len⟩
end
section
variable {M:Model}{A:Around}{E:Value->Shared->Prop}{prog:Program}{w:World}
theorem kx {nm q:Str}{C N:Addr}{bs bm:List Value}{hdct:Bool}{sn:List Str}{sub:List Value}{ab:Bool}{col:Option Bool}{dd:Option Addr}{k0 k1 k2 k3 k5:Option Value}{newId:String}
  {nm' q':Str}{C' N':Addr}{bs' bm':List Value}{hdct':Bool}{sn':List Str}{sub':List Value}{ab':Bool}{col':Option Bool}{dd':Option Addr}{j0 j1 j2 j3 j5:Option Value}{newId':String}
  {h:Heap}{g:Array GenState}{d:Drawn}{t:Nat}{os:OsState}{e:Addr}{oe:Obj}{Q:Bool->Shared->Prop}
  (hC:h.get? C=some (excClassObj nm q C N bs bm hdct sn sub ab col dd k0 k1 k2 k3 k5 newId)) (hC':h.get? C'=some (excClassObj nm' q' C' N' bs' bm' hdct' sn' sub' ab' col' dd' j0 j1 j2 j3 j5 newId')) (he:h.get? e=some oe) (hcls:oe.cls = .ref C)
  (hbase:bm'.contains (.type "BaseException")=true) (hq:Q ((Value.ref C::bm).contains (.ref C')) ⟨h,g,d,t,os⟩):wpAny M A (excMatches (.ref e) (.ref C')) Q E ⟨h,g,d,t,os⟩:=by
 have hcB:(Value.ref C'::bm').contains (.type "BaseException")=true:=by rw[eo,hbase,gy]
 have f:=tc_notTuple;unfold excMatches
 repeat (first | (with_reducible refine wpAny_loadPart_at he ?_;rw[hcls]) | with_reducible refine wpAny_loadPart_at hC' ?_ | (with_reducible refine wpAny_isSubtype_exc hC' ?_;rw[hcB]) | (with_reducible refine wpAny_isSubtype_exc hC ?_) | wp_step)
 cases hb:(Value.ref C::bm).contains (.ref C')<;>(rw[hb] at hq;first | exact hq | (wp_walk;exact hq))
end
section
variable {X:Cx}{pins:List (Addr×Obj)}{σ:L2.St}{H:Hp}{s:Shared}{D:Ends}
noncomputable def lY (X:Cx)(pins:List (Addr×Obj))(σ:L2.St)(W:Value->Hp->Prop)(e:Value)(s1:Shared):Prop :=
 ∃ H0 s0 a C a0 H' B,Inv X pins σ H0 s0/\e = .ref a/\s1.os=s0.os/\AllBare s1.gens/\zx X H0 H' s0 B s1.heap/\Heap.FlyingW B X.stack a C a0 s1.heap/\W C H'
def wd (K:PySem.W.Frag)(C Cd:Addr):Prop:=∃(bmB:List Value) (newId:String) (cd:ClassData) (c0:Value) (dd:Option Addr) (sl:Array (Option Value)),PySem.W.excIn K C bmB newId=true/\K.lookup C=some ⟨c0,dd,.cls cd,sl⟩/\cd.mro.contains (.ref Cd)=true
end
section
variable {X:Cx}{pins:List (Addr×Obj)}{σ:L2.St}{H:Hp}{s:Shared}{D:Ends}
theorem pT {M:Model}{A:Around}{E:Value->Shared->Prop}{i:Nat}{x:Str}{v:V}{Q:Unit->Shared->Prop}(I:Inv X pins σ H s)(hN:X.N.Nodup)(hi:X.N[i]? = some x)(hk:X.env.scope.names.lookup x=some .local)(hv:σ[i]? = some (some v))
  (h:∀ s',Inv X pins (σ.set i none) H s'->Q () s'):wpAny M A (unbindName X.env x) Q E s:=by
 obtain⟨m,hn,hl⟩:=id I.loc;have hcls:(X.env.scope.kind == .class || (X.env.scope.kind == .module&&X.env.locals != X.env.globals))=false:=by rw[I.ok.kind];rfl
 have hiσ:i<σ.length:=by rw[I.len];exact (List.getElem?_eq_some_iff.mp hi).1
 have cne:=I.cne;have tracked:∀{a:Addr}{h':Heap},(∃ o,s.heap.get? a=some o/\H a=none)->Heap.SameBut a s.heap h'->iG X.prog X.w H h':=fun {a h'} ha hs b ob e=>by
  obtain⟨_,_,hfree⟩:=ha;refine (I.hok b ob e).stay (fun c w' hc q=>(hs.2 c ?_).trans q) (fun _ q=>q) fun _ _ q=>q
  rintro rfl;rcases hc with rfl | hc
  ·rw[hfree] at e;cases e
  ·rw[hfree] at hc;cases hc
 have hm:∃ u,m x=some u:=by
  obtain⟨u,_,q⟩:=hl i x v hi hv (.inl hk);rcases q with ⟨_,e⟩ | ⟨k,_⟩
  ·exact⟨u,e⟩
  ·have:X.env.kindOf x=some .local:=hk;rcases k with k | k<;>(rw[this] at k;cases k)
 obtain⟨u,hu⟩:=hm;refine wpAny_unbindName_local hk hn hu hcls fun h' u' hn' hs=>?_
 obtain⟨oL,_,_,hoL,_⟩:=id hn;refine h _ ⟨I.ok,I.os,I.bare,⟨fun b o e n hb hx=>?_,fun b o e n hb hx=>?_,I.base.free,fun b o e hx=>?_,I.base.tups,I.base.frzs,I.base.tbls⟩,⟨_,hn',fun j y v' e1 e2 e3=>?_⟩,fun y c e=>?_,I.free,I.freeC,fun p hp=>?_,tracked ⟨oL,hoL,I.free⟩ hs,by simpa using I.len⟩
 ·exact (hs.2 b (ba (ay (Heap.lt_size e) I.ok.above))).trans (I.base.keep b o e n hb hx)
 ·obtain⟨sl,e1⟩:=I.base.slot b o e n hb hx;exact⟨sl,(hs.2 b (ba (ay (Heap.lt_size e) I.ok.above))).trans e1⟩
 ·obtain⟨o',e1⟩:=I.base.there b o e hx;exact⟨o',(hs.2 b (ba (ay (Heap.lt_size e) I.ok.above))).trans e1⟩
 ·by_cases hj:j=i
  ·subst hj;rw[List.getElem?_set_self hiσ] at e2;cases e2
  ·rw[List.getElem?_set_ne (cy hj)] at e2;obtain⟨u',r',q⟩:=hl j y v' e1 e2 e3;refine⟨u',r',?_⟩;rcases q with ⟨k,e⟩ | ⟨k,c,e,z⟩
   ·refine .inl ⟨k,?_⟩;have:y≠x:=fun e=>hj (lD hN e1 (e ▸ hi))
    simp[this,e]
   ·exact .inr ⟨k,c,e,z.sameBut hs (cne y c e)⟩
 ·obtain⟨w',z⟩:=I.cell y c e;exact⟨w',z.sameBut hs (cne y c e)⟩
 ·obtain⟨e,n,ne,nf,d⟩:=I.pin p hp;exact⟨(hs.2 p.1 ne).trans e,n,ne,nf,d⟩
theorem dM {M:Model}{A:Around}{E:Value->Shared->Prop}{i:Nat}{x:Str}{pos:Pos}{Q:Unit->Shared->Prop}(I:Inv X pins σ H s)(hN:X.N.Nodup)(hi:X.N[i]? = some x)(hk:X.env.scope.names.lookup x=some .local)
  (h:∀ s',Inv X pins (σ.set i none) H s'->Q () s'):wpAny M A (do bindName X.env x .none;unbindBehindTheSuite X.env x pos) Q E s:=by
 refine wpAny_bind (wpAny_bindName (gQ I hN hi (.inl hk) (show RelV .non .none from rfl) (fun s1 I1=>?_) (.inr hk)));unfold unbindBehindTheSuite;refine wpAny_onRaise (pT I1 hN hi hk (List.getElem?_set_self (by rw[I.len];exact (List.getElem?_eq_some_iff.mp hi).1)) fun s2 I2=>h s2 ?_);rw[List.set_set] at I2;exact I2
noncomputable abbrev hZ (X:Cx)(a:Addr)(o:Obj):Cx:={ X with A:=X.A.mark (some (.ref a)),calm:=false,xe:=fun _ _=>False,pn:=(a,o)::X.pn }
theorem nP (I:Inv X pins σ H s)(a:Addr)(o:Obj)(hf:(X.A.mark (some (.ref a))).frames=some X.stack)(ha:s.heap.get? a=some o/\H a=none/\a≠X.env.locals/\a∉X.fs/\∀ v,o.data≠.cell v):Inv (hZ X a o) pins σ H s :=
 ⟨⟨I.ok.mod,I.ok.kind,I.ok.glob,I.ok.blt,I.ok.above,I.ok.inj,I.ok.has,I.ok.cab,fun z=>(by cases z),hf,I.ok.stk,I.ok.exf,I.ok.bs,I.ok.bsz,I.ok.noex,I.ok.exfs,I.ok.funs,I.ok.frf⟩,I.os,I.bare,I.base,I.loc,I.cell,I.free,I.freeC,fun p hp=>by
  rcases iy.mp hp with rfl | hp
  ·exact ha
  ·exact I.pin p hp,I.hok,I.len⟩
theorem cC {a:Addr}{o:Obj}(I:Inv (hZ X a o) pins σ H s)(ok:X.Ok):Inv X pins σ H s:=⟨ok,I.os,I.bare,I.base,I.loc,I.cell,I.free,I.freeC,fun p hp=>I.pin p (ah _ hp),I.hok,I.len⟩
noncomputable def oY (D:Ends)(i:Nat):Ends:={ nx:=fun σ H=>D.nx (σ.set i none) H,rt:=D.rt,bk:=fun σ H=>D.bk (σ.set i none) H,ct:=fun σ H=>D.ct (σ.set i none) H }
theorem Dy (hs:X.stack=X.env::X.outer)(hf:X.env.frame=some X.env.locals)(ok:X.Ok){body:List Stmt}{x n:Str}{i:Nat}{Cd:Addr}{bmD:List Value}{newD:String}{np hp pos:Pos}{b₀:Stmt}{suite:List Stmt}{ts:Addr->TS}{W:Value->Hp->Prop}(hN:X.N.Nodup)(hi:X.N[i]? = some n)(hk:X.env.scope.names.lookup n=some .local)
  (hg:Gl X x) (hm:X.mg x=some (.ref Cd)) (qD:PySem.W.excIn X.K Cd bmD newD=true) (hB:bmD.contains (.type "BaseException")=true)
  (hsu:∀ a o C H',W C H'->o.cls=C->(∃ vs,o.data = .fields vs)->iZ (hZ X a o) (b₀::suite) (ts a))
  (hw:∀ C H',W C H'->(∃ c,C = .ref c/\wd X.K c Cd)/\∀ a,ts a (oY D i) (σ.set i (some (.ref a))) H') (hd:(x==("__debug__" : Str))=false:=by decide)
  (hb:wpAny (model X.prog X.w) X.A (execs body X.env) (SP X pins D) (lY X pins σ W) s) :
  wpAny (model X.prog X.w) X.A (exec (.Try body [.ExceptHandler (some (.Name x np)) (some n) (b₀::suite) hp] [] [] pos) X.env) (SP X pins D) X.xe s:=by
 refine wpAny_Try_except (wpAny_mono hb (fun f s1 h1=>?_) fun e s1 h1=>?_)
 ·cases f with
  |next=>exact wpAny_pure h1
  |brk=>exact h1
  |cont=>exact h1
  |ret u=>exact h1
 obtain⟨H0,s0,a,C,a0,H',B,I0,rfl,ho,hbr,F1,f1,w1⟩:=h1;obtain⟨⟨c,rfl,bmB,newId,cd,c0,dd0,sl0,qC,lC,mC⟩,hts⟩:=hw C H' w1;have f1':=f1;rw[hs] at f1';refine wpAny_looks_onW (by rw[ok.frames,hs]) hf f1' fun h2 g2 u2=>?_
 rw[<-hs] at g2;have F2:=F1.next I0 g2.1 (cV f1) u2;refine wpAny_landsW g2 fun h3 f3 u3=>?_
 have F3:=F2.next I0 f3.1 (kz g2) u3;have e3:({ s1 with heap:=h3 }:Shared)={ s0 with heap:=h3,gens:=s1.gens,drawn:=s1.drawn,toks:=s1.toks }:=by
  cases s1;cases s0;cases ho;rfl
 have I3:Inv X pins σ H' { s1 with heap:=h3 }:=by
  rw[e3];exact F3.inv I0 hbr
 have M3:=pK I3 a ok.frames;refine wpAny_handleBy_cons (codeAny_handlers_test (dU (X:=markX X a) M3 hg hm ?_ hd)) (by intro q;cases q);obtain⟨bm',N',nm',qn',bs',hdct',sn',sub',ab',col',dd',j0,j1,j2,j3,j5,mN',hD,hND,hniD,TD⟩:=lh I3.kIn qD;obtain⟨bm,N,nm,qn,bs,hdct,sn,sub,ab,col,dd,k0,k1,k2,k3,k5,mN,hC,hNC,hniC,TC⟩:=lh I3.kIn qC;obtain⟨oe,he,hcl⟩:=f3.there;have hmro:(Value.ref c::bm).contains (.ref Cd)=true:=by
  have:=I3.kIn _ _ lC;rw[hC] at this;cases this;exact mC
 refine kx hC hD he hcl (TD.hasType hB) ?_;rw[hmro];refine codeAny_handlers_suite_as ?_;refine lands_againW f3 fun h4 f4 u4=>?_
 have F4:=F3.next I0 f4.1 (cV f3) u4;have e4:({ s1 with heap:=h4 }:Shared)={ s0 with heap:=h4,gens:=s1.gens,drawn:=s1.drawn,toks:=s1.toks }:=by
  cases s1;cases s0;cases ho;rfl
 have I4:Inv X pins σ H' { s1 with heap:=h4 }:=by
  rw[e4];exact F4.inv I0 hbr
 obtain⟨o4,vs4,e5,c5,d5,_⟩:=f4.first;have nofr:a∉cQ X.stack:=fun z=>by
  obtain⟨o',e',hd'⟩:=cV f4 a z;rw[e5] at e';cases e';exact hd' vs4 d5
 have hnone:H' a=none:=by
  rcases F4.bf a o4 e5 with z | z | z
  ·exact absurd z nofr
  ·rw[f4.2.1] at z;cases z
  ·exact z.2
 have hstk:cQ X.stack=X.env.locals::X.fs:=by
  rw[hs];unfold cQ;rw[gm,hf];rfl
 rw[hstk] at nofr;have P4:Inv (hZ X a o4) pins σ H' { s1 with heap:=h4 }:=nP I4 a o4 ok.frames ⟨e5,hnone,fun z=>nofr (by rw[z];exact ak),fun z=>nofr (ah _ z),fun v z=>by rw[d5] at z;cases z⟩;refine gQ (X:=hZ X a o4) P4 hN hi (.inl hk) (show RelV (.ref a) (.ref a) from rfl) (fun s5 I5=>?_) (.inr hk);refine wpAny_mono (hsu a o4 _ H' w1 c5 ⟨vs4,d5⟩ pins s5 _ H' (oY D i) I5 (hts a)) (fun f s6 h6=>?_) fun _ _ z=>z.elim
 cases f with
 |next =>
  obtain⟨σ',H6,I6,q⟩:=h6;exact dM (cC I6 ok) hN hi hk fun s7 I7=>⟨_,H6,I7,q⟩
 |brk =>
  obtain⟨σ',H6,I6,q⟩:=h6;exact dM (cC I6 ok) hN hi hk fun s7 I7=>⟨_,H6,I7,q⟩
 |cont =>
  obtain⟨σ',H6,I6,q⟩:=h6;exact dM (cC I6 ok) hN hi hk fun s7 I7=>⟨_,H6,I7,q⟩
 |ret u =>
  obtain⟨v,σ',H6,I6,r,q⟩:=h6;exact dM (cC I6 ok) hN hi hk fun s7 I7=>⟨v,_,H6,I7,r,q⟩
end
inductive iM (h:Heap) (bmB:List Value) (ns:List Str):List Value->Prop
 | base:iM h bmB ns bmB
 | own {A:Addr}{c0:Value}{dd:Option Addr}{cd:ClassData}{sl:Array (Option Value)}{mA:Str->Option Value}{tl:List Value} :
   h.get? A=some { cls:=c0,dict:=dd,data:=.cls cd,slots:=sl }->h.Ns cd.ns mA->(∀ n∈ns,mA n=none)->iM h bmB ns tl->iM h bmB ns (.ref A::tl)
noncomputable def pF:List Str:=["__getattribute__","__getattr__","__class__"]
section
variable {M:Model}{A:Around}{E:Value->Shared->Prop}{h:Heap}{g:Array GenState}{d:Drawn}{t:Nat}{os:OsState}
theorem vj {bmB tl:List Value}{ns:List Str}{n:Str}{y:Option Value}{Q:Option Value->Shared->Prop}(hn:n∈ns)(T:iM h bmB ns tl)(hrest:lookupAlong bmB n=pure y)(hq:Q y ⟨h,g,d,t,os⟩) :
  wpAny M A (lookupAlong tl n) Q E ⟨h,g,d,t,os⟩:=by
 induction T with
 |base=>rw[hrest];exact wpAny_pure hq
 |own hA hN hni _ ih =>
  rw[lookupAlong_cons];refine wpAny_bind (wpAny_classOwn_cls hA hN ?_);rw[hni n hn];exact ih
variable {nm q:Str}{C N:Addr}{bs bm bmB:List Value}{hdct:Bool}{sn:List Str}{sub:List Value}{ab:Bool}{col:Option Bool}{dd:Option Addr}{k0 k1 k2 k3 k5:Option Value}{B newId:String}
theorem eT {mN:Str->Option Value}{ns:List Str}{n:Str}{y:Option Value}{Q:Option Value->Shared->Prop}(hn:n∈ns)
  (hC:h.get? C=some (excClassObj nm q C N bs bm hdct sn sub ab col dd k0 k1 k2 k3 k5 newId)) (hN:h.Ns N mN) (hmN:∀ n∈ns,mN n=none) (T:iM h bmB ns bm) (hbm:mroOf (.type B)=pure bmB)
  (hB:typeLookup (.type B) n=pure y) (hq:Q y ⟨h,g,d,t,os⟩):wpAny M A (typeLookup (.ref C) n) Q E ⟨h,g,d,t,os⟩:=by
 have hrest:lookupAlong bmB n=pure y:=by rw[typeLookup_eq,hbm] at hB;exact hB
 rw[typeLookup_eq];refine wpAny_bind (wpAny_mroOf_exc hC ?_);rw[lookupAlong_cons];refine wpAny_bind (wpAny_classOwn_exc hC hN ?_);rw[hmN n hn];exact vj hn T hrest hq
end
theorem zg:typeLookup (.type "ValueError") "__class__" = pure (some (.builtin "object.__class__")):=by rw[typeLookup_type,builtinLookup_eq_fast];kernel_rfl
noncomputable abbrev gA:List Value:=[.type "ValueError",.type "Exception",.type "BaseException",.type "object"]
section
variable {prog:Program}{w:World}{A:Around}{E:Value->Shared->Prop}{h:Heap}{g:Array GenState}{d:Drawn}{t:Nat}{os:OsState}{a:Addr}{o:Obj}
 {nm q:Str}{C N:Addr}{bs bm:List Value}{hdct:Bool}{sn:List Str}{sub:List Value}{ab:Bool}{col:Option Bool}{dd:Option Addr}{k0 k1 k2 k3 k5:Option Value}{newId:String}{mN:Str->Option Value}
theorem AI {R:Result->Shared->Prop}(hC:h.get? C=some (excClassObj nm q C N bs bm hdct sn sub ab col dd k0 k1 k2 k3 k5 newId))(T:OwnTail h gA bm)(hx:h.get? a=some o)(hc:o.cls = .ref C)(hq:R (.ok (.ret (.ref C))) ⟨h,g,d,t,os⟩) :
  codeAny (model prog w) A (.call (.builtin "getset_descriptor.__get__") ⟨[.builtin "object.__class__",.ref a,.ref C],[]⟩) R ⟨h,g,d,t,os⟩:=by
 have hT5:(⟨h,g,d,t,os⟩:Shared).TypeIs (.builtin "object.__class__") "getset_descriptor":=F.typeOf_object_class;have hcB:(Value.ref C::bm).contains (.type (".".intercalate ("object.__class__".cutAt '.').dropLast))=true:=by
  rw[F.owner_object_class,eo,T.hasType (show gA.contains (.type "object")=true by decide)];rfl
 refine codeAny_call_builtin F.slot_gs_get.plain F.entry_gs_get (F.slot_gs_get.check _ _ _ _ _ _ _ _ hT5 (F.args_gs_get _ _ _) ?_)
 repeat (any_goals (first | assumption | (with_reducible refine wpAny_loadPart_at hx ?_;rw[hc]) | (with_reducible refine wpAny_isSubtype_exc hC ?_;rw[hcB]) | wp_step))
 refine⟨Code.quiet_builtin _ (by decide +kernel),codeAny_builtin F.entry_object_class ?_⟩
 repeat (any_goals (first | assumption | (with_reducible refine wpAny_loadPart_at hx ?_;rw[hc]) | wp_step))
theorem pR {M:Model}{nameV:Value}{Q:Unit->Shared->Prop}(hC:h.get? C=some (excClassObj nm q C N bs bm hdct sn sub ab col dd k0 k1 k2 k3 k5 newId))(T:OwnTail h gA bm)
  (hx:h.get? a=some o) (hc:o.cls = .ref C) (hq:Q () ⟨h,g,d,t,os⟩):wpAny M A (checkBuiltinCall "BaseException.__getattribute__" ⟨[.ref a,nameV],[]⟩) Q E ⟨h,g,d,t,os⟩:=by
 have hk:builtinKind "BaseException.__getattribute__" = some .slot:=by decide +kernel
 have hsplit:splitId "BaseException.__getattribute__" = some ("BaseException","__getattribute__"):=by decide +kernel
 have hcB:(Value.ref C::bm).contains (.type "BaseException")=true:=by rw[eo,T.hasType (show gA.contains (.type "BaseException")=true by decide)];rfl
 have ha:=F.args_bexc_ga (.ref a) nameV;simp only[checkBuiltinCall,hk,hsplit];refine wpAny_bind ?_
 ·unfold isInstance
  repeat (first | (with_reducible refine wpAny_loadPart_at hx ?_;rw[hc]) | (with_reducible refine wpAny_isSubtype_exc hC ?_;rw[hcB]) | wp_step)
  exact hq
theorem uS {tk:Tok}{Q:Fin->Shared->Prop}(hC:h.get? C=some (excClassObj nm q C N bs bm hdct sn sub ab col dd k0 k1 k2 k3 k5 newId))(hN:h.Ns N mN)(hmN:∀ n∈pF,mN n=none)(T:OwnTail h gA bm)(TN:iM h gA pF bm)
  (hx:h.get? a=some o) (hc:o.cls = .ref C) (hq:Q (.done (.ret (.ref C))) ⟨h,g,d,t,os⟩) :
  wpAny (model prog w) A (Builtin.«object.__getattribute__» ⟨[.ref a,.str "__class__" tk],[]⟩) Q E ⟨h,g,d,t,os⟩:=by
 have hT5:(⟨h,g,d,t,os⟩:Shared).TypeIs (.builtin "object.__class__") "getset_descriptor":=F.typeOf_object_class;have f5:=F.typeOf_object_class;have f6:=F.slot_gs_get.lookup;have f7:=F.slot_gs_set.lookup;have hmA:("__class__" : Str)∈pF:=.tail _ (.tail _ (.head _))
 repeat (any_goals (first | assumption | (with_reducible refine wpAny_loadPart_at hx ?_;rw[hc]) | with_reducible refine eT hmA hC hN hmN TN F.attrBase_ValueError.mro zg ?_ | wp_step))
 refine AI hC T hx hc ?_
 repeat (any_goals (first | assumption | wp_step))
theorem yM {tk:Tok}{R:Result->Shared->Prop}(hC:h.get? C=some (excClassObj nm q C N bs bm hdct sn sub ab col dd k0 k1 k2 k3 k5 newId))(hN:h.Ns N mN)(hmN:∀ n∈pF,mN n=none)(T:OwnTail h gA bm)(TN:iM h gA pF bm)
  (hx:h.get? a=some o) (hc:o.cls = .ref C) (hq:R (.ok (.ret (.ref C))) ⟨h,g,d,t,os⟩) :
  codeAny (model prog w) A (.call (.builtin "BaseException.__getattribute__") ⟨[.ref a,.str "__class__" tk],[]⟩) R ⟨h,g,d,t,os⟩ :=
 codeAny_call_builtin F.attrBase_ValueError.ga.plain F.entry_bexc_ga (pR hC T hx hc (uS hC hN hmN T TN hx hc hq))
theorem CZ {tk:Tok}{fill expr:Bool}{Q:Value->Shared->Prop}(hC:h.get? C=some (excClassObj nm q C N bs bm hdct sn sub ab col dd k0 k1 k2 k3 k5 newId))(hN:h.Ns N mN)(hmN:∀ n∈pF,mN n=none)(T:OwnTail h gA bm)(TN:iM h gA pF bm)
  (hx:h.get? a=some o) (hc:o.cls = .ref C) (hq:Q (.ref C) ⟨h,g,d,t,os⟩) :
  wpAny (model prog w) A (getAttrBy (.ref a) (.str "__class__" tk) fill expr) Q E ⟨h,g,d,t,os⟩:=by
 have f3:=F.attrBase_ValueError.ga.bind (.ref a);have hx0:(expr&&onTheHeap (Value.builtin "BaseException.__getattribute__"))=false:=by cases expr<;>rfl
 have hx2:(Value.builtin "BaseException.__getattribute__" == Value.builtin "object.__getattribute__")=false:=by decide +kernel
 have hx1:(onTheHeap (Value.ref C)&&Value.builtin "BaseException.__getattribute__" == Value.builtin "object.__getattribute__")=false:=by rw[hx2];rfl
 have hm1:("__getattribute__" : Str)∈pF:=.head _;have hm2:("__getattr__" : Str)∈pF:=.tail _ (.head _)
 repeat (any_goals (first | assumption | (with_reducible refine wpAny_loadPart_at hx ?_;rw[hc]) | with_reducible refine eT hm1 hC hN hmN TN F.attrBase_ValueError.mro F.attrBase_ValueError.ga.lookup ?_ | with_reducible refine eT hm2 hC hN hmN TN F.attrBase_ValueError.mro F.attrBase_ValueError.noGetattr ?_ | wp_step))
 refine yM hC hN hmN T TN hx hc ?_
 repeat (any_goals (first | assumption | wp_step))
theorem zw {Q:Option Value->Shared->Prop}(hC:h.get? C=some (excClassObj nm q C N bs bm hdct sn sub ab col dd k0 k1 k2 k3 k5 newId))(hN:h.Ns N mN)(hmN:∀ n∈pF,mN n=none)(T:OwnTail h gA bm)(TN:iM h gA pF bm)
  (hx:h.get? a=some o) (hc:o.cls = .ref C) (hq:Q (some (.ref C)) ⟨h,g,d,t+1,os⟩):wpAny (model prog w) A (getAttr? (.ref a) "__class__") Q E ⟨h,g,d,t,os⟩:=by
 unfold getAttr? getAttrBy?
 repeat (any_goals (first | assumption | with_reducible apply CZ hC hN hmN T TN hx hc | wp_step))
end
section
variable {prog:Program}{w:World}{A:Around}{E:Value->Shared->Prop}{h:Heap}{g:Array GenState}{d:Drawn}{t:Nat}{os:OsState}{a:Addr}{o:Obj}
 {nm q:Str}{C N:Addr}{bs bm:List Value}{hdct:Bool}{sn:List Str}{sub:List Value}{ab:Bool}{col:Option Bool}{dd:Option Addr}{k0 k1 k2 k3 k5:Option Value}{newId:String}{mN:Str->Option Value}
 {nm' q':Str}{C' N':Addr}{bs' bm':List Value}{hdct':Bool}{sn':List Str}{sub':List Value}{ab':Bool}{col':Option Bool}{dd':Option Addr}{j0 j1 j2 j3 j5:Option Value}{newId':String}
theorem uR:isSubtype (.type "type") (.type "type")=pure true:=by rw[isSubtype_type];kernel_rfl
theorem pX {dep:Int}{tk:Tok}{Q:Fin->Shared->Prop}(hC:h.get? C=some (excClassObj nm q C N bs bm hdct sn sub ab col dd k0 k1 k2 k3 k5 newId))(hN:h.Ns N mN)(hmN:∀ n∈pF,mN n=none)(T:OwnTail h gA bm)(TN:iM h gA pF bm)
  (hD:h.get? C'=some (excClassObj nm' q' C' N' bs' bm' hdct' sn' sub' ab' col' dd' j0 j1 j2 j3 j5 newId')) (hx:h.get? a=some o) (hc:o.cls = .ref C)
  (hq:∀ t',Q (.done (.ret (.bool ((Value.ref C::bm).contains (.ref C'))))) ⟨h,g,d,t',os⟩) :
  wpAny (model prog w) A (Builtin.«isinstance.nested» ⟨[.ref a,.ref C',.int dep tk],[]⟩) Q E ⟨h,g,d,t,os⟩:=by
 have f:=uR;by_cases e:(Value.ref C==Value.ref C')=true
 ·have hq1:=hq t;have:(Value.ref C::bm).contains (.ref C')=true:=by
   rw[eo,fw.mp e];simp
  rw[this] at hq1
  repeat (any_goals (first | assumption | (with_reducible refine wpAny_loadPart_at hx ?_;rw[hc]) | wp_step))
 ·have e':(Value.ref C==Value.ref C')=false:=by simpa using e
  cases hb:(Value.ref C::bm).contains (.ref C') with
  |true =>
   have hq1:=hq t;rw[hb] at hq1
   repeat (any_goals (first | assumption | (with_reducible refine wpAny_loadPart_at hx ?_;rw[hc]) | with_reducible refine wpAny_loadPart_at hD ?_ | (with_reducible refine wpAny_isSubtype_exc hC ?_;rw[hb]) | wp_step))
  |false =>
   have hq1:=hq (t+1);rw[hb] at hq1
   repeat (any_goals (first | assumption | (with_reducible refine wpAny_loadPart_at hx ?_;rw[hc]) | with_reducible refine wpAny_loadPart_at hD ?_ | with_reducible refine wpAny_loadPart_at hC ?_ | (with_reducible refine wpAny_isSubtype_exc hC ?_;rw[hb]) | with_reducible apply zw hC hN hmN T TN hx hc | wp_step))
theorem ze {dep:Int}{tk:Tok}{Q:Fin->Shared->Prop}(hC:h.get? C=some (excClassObj nm q C N bs bm hdct sn sub ab col dd k0 k1 k2 k3 k5 newId))(T:OwnTail h gA bm)
  (hx:h.get? a=some o) (hc:o.cls = .ref C) (hq:Q (.done (.ret (.bool true))) ⟨h,g,d,t,os⟩) :
  wpAny (model prog w) A (Builtin.«isinstance.nested» ⟨[.ref a,.type "ValueError",.int dep tk],[]⟩) Q E ⟨h,g,d,t,os⟩:=by
 have hb:(Value.ref C::bm).contains (.type "ValueError")=true:=by rw[eo,T.hasType (show gA.contains (.type "ValueError")=true by decide)];rfl
 have hty:typeOf (.type "ValueError")=pure (.type "type"):=by kernel_rfl
 have e':(Value.ref C==Value.type "ValueError")=false:=rfl
 repeat (any_goals (first | assumption | (with_reducible refine wpAny_loadPart_at hx ?_;rw[hc]) | (with_reducible refine wpAny_isSubtype_exc hC ?_;rw[hb]) | wp_step))
end
noncomputable def tz (K:PySem.W.Frag):List Value->Bool
 |[]=>gA == []
 |v::r=>(v::r)==gA || match v with
  |.ref A=>(match K.lookup A with
   |some ⟨_,_,.cls cd,_⟩=>PySem.W.nsOkIn K cd.ns&&pF.all (fun n=>PySem.W.nsIn K cd.ns n==some none)&&tz K r
   |_=>false)
  |_=>false
noncomputable def lW (K:PySem.W.Frag)(C:Addr):Bool:=PySem.W.excIn K C gA "ValueError.__new__" && (match K.lookup C with
 |some ⟨_,_,.cls cd,_⟩=>PySem.W.nsOkIn K cd.ns&&pF.all (fun n=>PySem.W.nsIn K cd.ns n==some none)&&tz K cd.mro.tail
 |_=>false)
noncomputable def dF (K:PySem.W.Frag)(C D:Addr):Bool:=match K.lookup C with
 |some ⟨_,_,.cls cd,_⟩=>cd.mro.contains (.ref D)
 |_=>false
theorem qG {K:PySem.W.Frag}{h:Heap}(kin:K.In h):∀{l:List Value},tz K l=true->iM h gA pF l
 | [],e=>by
  have e:(gA==([]:List Value))=true:=e;rw[<-fw.mp e];exact .base
 | v::r,e=>by
  unfold tz at e;rcases Bool.or_eq_true_iff.mp e with q | q
  ·rw[fw.mp q];exact .base
  ·split at q
   ·split at q
    ·rename_i ho;simp only[Bool.and_eq_true,List.all_eq_true,beq_iff_eq] at q;exact .own (kin _ _ ho) (.of_isNs (il kin q.1.1)) (fun n hn=>gp kin q.1.1 (q.1.2 n hn)) (qG kin q.2)
    ·cases q
   ·cases q
structure G6 (K:PySem.W.Frag)(h:Heap)(C:Addr)(bm:List Value):Prop where
 ex:∃ nm q N bs hdct sn sub ab col dd k0 k1 k2 k3 k5 mN,h.get? C=some (excClassObj nm q C N bs bm hdct sn sub ab col dd k0 k1 k2 k3 k5 "ValueError.__new__")/\h.Ns N mN/\∀ n∈pF,mN n=none
 tail:OwnTail h gA bm
 tn:iM h gA pF bm
 over:∀ D,dF K C D=(Value.ref C::bm).contains (.ref D)
theorem zW {K:PySem.W.Frag}{h:Heap}{C:Addr}(kin:K.In h)(q:lW K C=true):∃ bm,G6 K h C bm:=by
 unfold lW at q;rw[aj] at q;obtain⟨bm,N,nm,qn,bs,hdct,sn,sub,ab,col,dd,k0,k1,k2,k3,k5,mN,hC,hN,hni,T⟩:=lh kin q.1;have q2:=q.2;split at q2
 ·rename_i c0 d0 cd sl ho;simp only[Bool.and_eq_true,List.all_eq_true,beq_iff_eq] at q2;obtain⟨⟨e1,e2⟩,e3⟩:=q2;have hk:=kin _ _ ho;rw[hC] at hk;have hcd:cd.mro = .ref C::bm/\cd.ns=N:=by
   injection hk with hk
   injection hk with _ _ hdat _
   injection hdat with hdat
   subst hdat;exact⟨rfl,rfl⟩
  refine⟨bm,⟨nm,qn,N,bs,hdct,sn,sub,ab,col,dd,k0,k1,k2,k3,k5,mN,hC,hN,fun n hn=>PySem.W.ns_none_of kin hN (by rw[<-hcd.2];exact e2 n hn)⟩,T,?_,fun D=>?_⟩
  ·rw[hcd.1] at e3;exact qG kin e3
  ·unfold dF;rw[ho];show cd.mro.contains (.ref D)=_;rw[hcd.1]
 ·cases q2
noncomputable def jV (K:PySem.W.Frag)(D:Addr):Bool:=match K.lookup D with
 |some ⟨.type "type",_,.cls cd,sl⟩=>(match cd.mro,sl.toList with
  | .ref C'::_,[_,_,_,_,some (.builtin _),_]=>C'==D && !cd.hasDel
  |_,_=>false)
 |_=>false
theorem jM {K:PySem.W.Frag}{h:Heap}{D:Addr}(kin:K.In h)(q:jV K D=true) :
  ∃ bm N nm qn bs hdct sn sub ab col dd k0 k1 k2 k3 k5 newId,h.get? D=some (excClassObj nm qn D N bs bm hdct sn sub ab col dd k0 k1 k2 k3 k5 newId):=by
 unfold jV at q;split at q
 ·rename_i dd cd sl ho;split at q
  ·rename_i C' bm k0 k1 k2 k3 n k5 hm hs;simp only[Bool.and_eq_true,beq_iff_eq,Bool.not_eq_true'] at q;obtain⟨rfl,hdel⟩:=q;obtain⟨nm,bs,mro,ns,qn,hd,sn,sub,ab,col,del⟩:=cd;dsimp only at hm hdel;subst hm hdel;have hsl:sl = #[k0,k1,k2,k3,some (.builtin n),k5]:=by
    obtain⟨l⟩:=sl;simp only at hs;rw[hs]
   subst hsl;exact⟨bm,ns,nm,qn,bs,hd,sn,sub,ab,col,dd,k0,k1,k2,k3,k5,n,kin _ _ ho⟩
  ·cases q
 ·cases q
def CJ (K:PySem.W.Frag)(C:Addr):Prop:=∀{h:Heap},K.In h->∃ bm,G6 K h C bm
theorem Ea {K:PySem.W.Frag}{C:Addr}(q:lW K C=true):CJ K C:=fun kin=>zW kin q
section
variable {prog:Program}{w:World}{A:Around}{E:Value->Shared->Prop}{K:PySem.W.Frag}
theorem AH {s:Shared}{a C D:Addr}{o:Obj}{Q:Value->Shared->Prop}(kin:K.In s.heap)(qC:CJ K C)(qD:jV K D=true)(hx:s.heap.get? a=some o)(hc:o.cls = .ref C)(hq:∀ t',Q (.bool (dF K C D)) { s with toks:=t' }) :
  wpAny (model prog w) A (call (.builtin "isinstance") [.ref a,.ref D]) Q E s:=by
 obtain⟨bm,FC⟩:=qC kin;obtain⟨nm,q,N,bs,hdct,sn,sub,ab,col,dd,k0,k1,k2,k3,k5,mN,hC,hN,hmN⟩:=FC.ex;obtain⟨bm',N',nm',q',bs',hdct',sn',sub',ab',col',dd',j0,j1,j2,j3,j5,nI,hD⟩:=jM kin qD;obtain⟨h,g,d,t,os⟩:=s;refine call_isinstance_of (pX hC hN hmN FC.tail FC.tn hD hx hc fun t'=>?_) (by intro e;cases e);rw[<-FC.over D];exact hq t'
theorem Am {s:Shared}{a C:Addr}{o:Obj}{Q:Value->Shared->Prop}(kin:K.In s.heap)(qC:CJ K C)(hx:s.heap.get? a=some o)(hc:o.cls = .ref C)(hq:Q (.bool true) s) :
  wpAny (model prog w) A (call (.builtin "isinstance") [.ref a,.type "ValueError"]) Q E s:=by
 obtain⟨bm,FC⟩:=qC kin;obtain⟨nm,q,N,bs,hdct,sn,sub,ab,col,dd,k0,k1,k2,k3,k5,mN,hC,hN,hmN⟩:=FC.ex;obtain⟨h,g,d,t,os⟩:=s;exact call_isinstance_of (ze hC FC.tail hx hc hq) (by intro e;cases e)
theorem AS {a C D:Addr}{o:Obj}(qC:CJ K C)(qD:jV K D=true)(hc:o.cls = .ref C):Answers (fun s=>K.In s.heap/\s.heap.get? a=some o) (.ref a) (.ref D) (dF K C D):=by
 intro dep tk prog w A R s hs;obtain⟨⟨kin,hx⟩,hq⟩:=hs;obtain⟨bm,FC⟩:=qC kin;obtain⟨nm,q,N,bs,hdct,sn,sub,ab,col,dd,k0,k1,k2,k3,k5,mN,hC,hN,hmN⟩:=FC.ex;obtain⟨bm',N',nm',q',bs',hdct',sn',sub',ab',col',dd',j0,j1,j2,j3,j5,nI,hD⟩:=jM kin qD;obtain⟨h,g,d,t,os⟩:=s;refine pX hC hN hmN FC.tail FC.tn hD hx hc fun t'=>?_
 rw[<-FC.over D];exact hq t'
theorem sM {a C:Addr}{o:Obj}(qC:CJ K C)(hc:o.cls = .ref C):∀{Ds:List Addr},(∀ D∈Ds,jV K D=true)->AnswersAll (fun s=>K.In s.heap/\s.heap.get? a=some o) (.ref a) (Ds.map Value.ref) (Ds.map (dF K C))
 |[],_=>trivial
 |D::Ds,h=>⟨AS qC (h D ak) hc,sM qC hc fun x hx=>h x (ah _ hx)⟩
theorem A2 {s:Shared}{a C tp:Addr}{o ot:Obj}{n:Nat}{Ds:List Addr}{Q:Value->Shared->Prop}(kin:K.In s.heap)(qC:CJ K C)(qD:∀ D∈Ds,jV K D=true)(hx:s.heap.get? a=some o)(hc:o.cls = .ref C)
  (ht:s.heap.get? tp=some ot) (htc:ot.cls = .type "tuple") (htd:ot.data = .seq (Ds.map Value.ref).toArray n) (hq:∀ t',Q (.bool ((Ds.map (dF K C)).any id)) { s with toks:=t' }) :
  wpAny (model prog w) A (call (.builtin "isinstance") [.ref a,.ref tp]) Q E s:=by
 refine call_isinstance_of ?_ (by intro e;cases e);obtain⟨h,g,d,t,os⟩:=s;have hT2:(⟨h,g,d,t,os⟩:Shared).TypeIs (.ref tp) "tuple":=⟨_,ht,htc⟩;have f1:=F.isi_sub_tuple;have ne:(Value.ref C==Value.ref tp)=false:=by
  rw[ig];intro e;cases e;obtain⟨bm,FC⟩:=qC kin;obtain⟨nm,q,N,bs,hdct,sn,sub,ab,col,dd,k0,k1,k2,k3,k5,mN,hC,hN,hmN⟩:=FC.ex;rw[ht] at hC;cases hC;cases htd
 repeat (any_goals (first | assumption | (with_reducible refine wpAny_loadPart_at hx ?_;rw[hc]) | with_reducible refine wpAny_seqItems ht htd ?_ | wp_step))
 refine wpAny_arrayLoop ?_;simp only[Option.getD_some,List.toList_toArray];refine isinstance_items (dep:=0) (P:=fun s=>K.In s.heap/\s.heap.get? a=some o) (fun s tk h=>h) (Ds.map Value.ref) (Ds.map (dF K C)) _ _ (sM qC hc qD) ⟨kin,hx⟩ fun tk'=>?_
 cases hv:(Ds.map (dF K C)).any id with
 |true =>
  simp only[if_true]
  repeat (any_goals (first | assumption | wp_step))
  exact hv ▸ hq tk'
 |false =>
  simp only[Bool.false_eq_true,if_false]
  repeat (any_goals (first | assumption | wp_step))
  exact hv ▸ hq tk'
end
section
variable {X:Cx}{pins:List (Addr×Obj)}{σ:L2.St}{H:Hp}{s:Shared}{D:Ends}{k:Nat}{f:Addr}{fd:FuncData}{ps:List Str}{sp:Sp}{dvs:List V}{ds:List Value}{W:Value->Hp->Prop}
theorem yD {e:Expr}{pos:Pos}{Q:VK}(I:Inv X pins σ H s)(h:wpAny (model X.prog X.w) X.A (eval e X.env) (EP X pins σ Q) (lY X pins σ W) s)(hq:∀ v H',Q v H'->D.nx σ H')(hs:swapsWith e none pos.line X.env=pure false:=by rfl) :
  wpAny (model X.prog X.w) X.A (execs [.Expr e pos] X.env) (SP X pins D) (lY X pins σ W) s:=by
 refine wpAny_execs_cons (wpAny_mono (Q:=SP X pins D) (wpAny_Expr_any (wpAny_mono h (fun v s1 ⟨x,H1,I1,r1,q1⟩=>⟨σ,H1,I1,hq x H1 q1⟩) fun _ _ z=>z) I.quiet hs) (fun f s1 q=>?_) fun _ _ z=>z);cases f with
 |next=>exact wpAny_execs_nil q
 |ret v=>exact q
 |brk=>exact q
 |cont=>exact q
end
section
variable {X:Cx}{a C:Addr}{o:Obj}
def yZ (K:PySem.W.Frag)(a C:Addr):List V->Hp->VK->Prop:=fun xs H Q =>
 (∃ D,xs=[.ref a,.ref D]/\jV K D=true/\Q (.bl (dF K C D)) H)\/(xs=[.ref a,.ty "ValueError"]/\Q (.bl true) H) \/
  ∃(p:Addr) (Ds:List Addr),xs=[.ref a,.ref p]/\H p=some (.tup (Ds.map V.ref))/\(∀ D∈Ds,jV K D=true)/\Q (.bl ((Ds.map (dF K C)).any id)) H
theorem mP:∀{Ds:List Addr}{us:List Value},aM (Ds.map V.ref) us->us=Ds.map Value.ref
 |[],_,.nil=>rfl
 | D::Ds,_,.cons r v=>by
  rw[mP v];have r:_=Value.ref D:=r;rw[r];rfl
theorem rh (qC:CJ X.K C)(hc:o.cls = .ref C):fL (hZ X a o) (.builtin "isinstance") (yZ X.K a C):=by
 intro pins s σ H xs us Q I r h;have hx:s.heap.get? a=some o:=(I.pin (a,o) (bg _ ak)).1;have kin:X.K.In s.heap:=I.kIn;rcases h with ⟨D,rfl,qD,q⟩ | ⟨rfl,q⟩ | ⟨p,Ds,rfl,hp,qD,q⟩
 ·obtain⟨u,w',rfl,r1,r2⟩:=r.two;cases r1;cases r2;exact AH kin qC qD hx hc fun t'=>⟨.bl _,H,I.kept (t':=t') fun b o e=>e,rfl,q⟩
 ·obtain⟨u,w',rfl,r1,r2⟩:=r.two;cases r1;cases r2;exact Am kin qC hx hc ⟨.bl true,H,I,rfl,q⟩
 ·obtain⟨u,w',rfl,r1,r2⟩:=r.two;cases r1;cases r2;obtain⟨_,its,rv,ot,e1,e2,n,e3⟩:=I.hok p _ hp;have:=mP rv;subst this;exact A2 kin qC qD hx hc e1 e2 e3 fun t'=>⟨.bl _,H,I.kept (t':=t') fun b o e=>e,rfl,q⟩
theorem ke (qC:lW X.K C=true)(hc:o.cls = .ref C):fL (hZ X a o) (.builtin "isinstance") (yZ X.K a C):=rh (Ea qC) hc
end
def Df.Bd (d:Df):Prop:=∀(kV doc pm:Value) (an:Option Addr) (cdv ct:Value) (us:List Value),us.length=d.ps.length->bindArgs (PySem.W.fnOf d.nm d.nm (dY d.st) (aW d.st) (aE d.st) .none kV doc pm an cdv ct) ⟨us,[]⟩=pure (d.ps.zip us)
def Df.OkX (p:Pg)(fo:List Str)(d:Df):Prop:=d.Ok p\/(d.Bd/\d.nm∈fo)
theorem Df.OkX.bd {p:Pg}{fo:List Str}{d:Df}(h:d.OkX p fo):d.Bd:=by
 rcases h with h | h
 ·exact h.bd
 ·exact h.1
theorem dW {p:Pg}{d:Df}{n:Nat}(h:d.Fp p n=true):bW d.N d.ps (aE d.st):=by
 unfold Df.Fp at h;simp only[Bool.and_eq_true,decide_eq_true_eq,Bool.not_eq_true',List.all_eq_true] at h;obtain⟨⟨⟨⟨⟨⟨h1,h2⟩,h3⟩,h4⟩,h5⟩,h6⟩,h7⟩:=h;exact⟨h1,h2,h3,h4,h5,fun x hx=>jH (h6 x hx),h7⟩
section
variable {p:Pg}{P:Program}{w:World}{K:Frag}{mg:Str->Option Value}{base:Heap}
def lU (p:Pg)(P:Program)(w:World)(K:Frag)(mg:Str->Option Value)(base:Heap)(n:Nat):Prop:=∀(i:Nat) (d:Df),p.dfs[i]? = some d->∀ f fd,L2.m8 K d.nm d.nm d.st f fd->ki P w K mg base vB n f fd d.ps (Cv K d.ps.length (p.run n i))
def oZ (p:Pg)(fo:List Str)(P:Program)(w:World)(K:Frag)(mg:Str->Option Value)(base:Heap):Prop:=∀(n i:Nat) (d:Df),p.dfs[i]? = some d->d.nm∈fo->lU p P w K mg base n->∀ f fd,L2.m8 K d.nm d.nm d.st f fd->ki P w K mg base vB (n+1) f fd d.ps (Cv K d.ps.length (p.run (n+1) i))
theorem As {fo:List Str}(hp:∀ d∈p.dfs,d.OkX p fo)(hi:p.In K mg)(hh:vT w K)(hf:oZ p fo P w K mg base):∀ n,lU p P w K mg base n:=by
 intro n
 induction n with
 |zero =>
  intro i d hd f fd F;refine⟨fun vs H Q E h=>jO h,fun A outer s H args us vs Q E hr he hb hv hs=>?_⟩;obtain⟨ds,G,_,_,r,h,_⟩:=hs;cases h
 |succ n ih =>
  intro i d hd f fd F;rcases hp d (List.mem_of_getElem? hd) with ⟨⟨m,hb⟩,S,_⟩ | ⟨_,hn⟩
  rotate_left
  ·exact hf n i d hd hn ih f fd F
  refine F.ok S (fun vs H Q E h=>jO h) fun cdv A outer s H vs Q E hr hs=>?_
  have C:qq (bX vB P w K mg base d.N d.nm (aE d.st) f cdv A outer s H E).nox (p.sc d) ⟨p.run n,p.gl,p.fuel⟩:=by
   refine⟨⟨rfl,S.nd,fun x h=>qw h,fun x h=>⟨jH h,.inl rfl⟩,fun x h=>t7 h,fun x h=>h,?_,rfl,fun j x hj=>?_,fun j x hj=>hi.gl j x hj,fun x h=>hi.blt x h⟩,rfl,S.kind,PassesOwn.never⟩
   ·exact⟨iq (Nat.add_le_add_left (by decide:40<=64) _) hr.units,hh⟩
   ·obtain⟨e,he,hx⟩:=nz hj;obtain⟨f',fd',F',M'⟩:=hi.fn j e he;have B':=F'.binds (hp e (List.mem_of_getElem? he)).bd;subst hx;refine⟨f',fd',e.ps,n,ih j e he f' fd' F',hr,M',F'.kp,B',fun ds r h=>?_⟩;have h:p.run n j ds = .ok r:=h;cases n with
    |zero=>cases h
    |succ n =>
     unfold Pg.run Pc.run at h;have:p.fns[j]? = some ⟨e.ps.length,e.N.length,e.body⟩:=by unfold Pg.fns;rw[List.getElem?_map,he];rfl
     rw[this] at h;dsimp only at h;by_cases hl:ds.length=e.ps.length
     ·exact hl
     ·rw[if_neg hl] at h;cases h
  refine⟨_,(BV C m).2 _ _ hb,?_⟩;obtain⟨ds,G,hl,rs,r,hrun,k⟩:=hs;unfold Pg.run Pc.run at hrun;have:p.fns[i]? = some ⟨d.ps.length,d.N.length,d.body⟩:=by unfold Pg.fns;rw[List.getElem?_map,hd];rfl
  rw[this] at hrun;dsimp only at hrun;rw[if_pos hl] at hrun;have hN:ds.length<=d.N.length:=by
   rw[hl,<-S.pre,bh];exact gi _ _
  obtain⟨F0,re,hF⟩:=entry rs hN;refine⟨fun a=>H a≠none,fun a=>H a=none\/a∈G,aG ds d.N.length,F0,re,fun j a ha=>.inr (hF j a ha),fun a h=>.inl (Classical.not_not.mp h),?_⟩;show post K _ _ _ _ H _ (aF ⟨p.run n,p.gl,p.fuel⟩ d.body (aG ds d.N.length));have hrun:(match aF ⟨p.run n,p.gl,p.fuel⟩ d.body (aG ds d.N.length) with
   |.rt d fr=>Rs.ok (d,fr)
   |.nx _=>.ok (.non,true)
   |.xc e _=>.exc e
   |_=>.bad) = .ok r:=hrun
  cases hq:aF ⟨p.run n,p.gl,p.fuel⟩ d.body (aG ds d.N.length) with
  |rt dd fr =>
   rw[hq] at hrun;cases hrun;intro v H' G' rp ev z fz;exact k v H' G' (iJ ev) rp z fun hf=>let ⟨a,b⟩:=fz hf;⟨a,fun x hx=>⟨Classical.not_not.mp (b x hx).1,(b x hx).2⟩⟩
  |nx e =>
   rw[hq] at hrun;cases hrun;intro σ' H' F' af;exact k .non H' [] (iJ af.ev) .non (fun _ h=>(nomatch h)) fun _=>⟨bt,fun _ h=>(nomatch h)⟩
  |bk e=>rw[hq] at hrun;cases hrun
  |ct e=>rw[hq] at hrun;cases hrun
  |xc e e'=>rw[hq] at hrun;cases hrun
  |bad=>rw[hq] at hrun;cases hrun
end
theorem Gg {l:PySem.W.OpenLaw}{q:Program}{loose:List Str}{XP:(Str->Option Value)->Heap->Prop}{YP:World->Heap->Prop}{d:DefRec}{K:Params->PySem.W.Frag}(p:Pg)(fo:List Str)(n i:Nat)(x:Str)(e:Df)(hn:l.most=some 63)(hdf:d.params.defaults=[])
  (hY:∀(w:World) (h:Heap),YP w h->(K w.params).In h) (hd:p.dfs[i]? = some e) (hps:e.ps=[x]) (hnm:d.name=e.nm) (hr:fE n callerA) (ok:sx (Df.OkX p fo) p.dfs) (st:∀ w:World,qU p (K w.params)) (hL:∀ w:World,noL (K w.params)=true) (hH:∀ w:World,vT w (K w.params))
  (hf:∀(w:World) (mg:Str->Option Value) (h base:Heap),(K w.params).In h->h.Ns mainGlobals mg->p.In (K w.params) mg->oZ p fo l.prog w (K w.params) mg base)
  (law:∀ ns:List Int,ns.length<=63->∃ fr,p.run n i [.lst (ns.map D.int)] = .ok (.bl true,fr)) :
  PySem.W.WalkO q loose XP YP l.row.toRowW d [] (fun f vs=>PySem.call f vs):=by
 refine L2.Au (n:=63) (k:=n) (x:=x) (CX:=fun _=>vB) (sp:=fun w=>Cv (K w.params) 1 (p.run n i)) hn (by decide) hdf hr hY (fun w mg fa h KX G hm=>?_) (fun w H a ns hl _ hS=>?_) fun _ _ _ _ _ z=>z
 ·have I:=(st w).isin KX G;obtain⟨f,fd,F,m⟩:=I.fn i e hd;rw[hnm,m] at hm;obtain rfl:f=fa:=by cases hm;rfl
  refine⟨fd,fun s u=>?_,fun base kb nb=>?_⟩
  ·obtain⟨oc,od,kV,doc,pm,an,cdv,ct,osl,rfl,lk,hcd⟩:=F.ex;have:=(cA ok e (List.mem_of_getElem? hd)).bd kV doc pm an cdv ct [u] (by rw[hps];rfl);rw[hps] at this;exact .of_eq this
  ·have:=As (P:=l.prog) (w:=w) (base:=base) (cA ok) I (hH w) (hf w mg h base KX G I) n i e hd f fd F;rw[hps] at this;exact this
 ·obtain⟨fr,h⟩:=law ns hl;exact Dt (hL w) hS h
def Cls (K:Frag)(x:Str)(C:Addr):Prop:=PySem.W.nsIn K mainGlobals x=some (some (.ref C))/\lW K C=true
theorem oK {K:Frag}{C:Addr}(h:lW K C=true):PySem.W.excIn K C gA "ValueError.__new__" = true:=by
 unfold lW at h;rw[aj] at h;exact h.1
theorem wa {K:Frag}{C D:Addr}(h:lW K C=true)(o:dF K C D=true):wd K C D:=by
 unfold dF at o;split at o
 ·rename_i c0 dd cd sl hl;exact⟨_,_,cd,c0,dd,sl,oK h,hl,o⟩
 ·cases o
structure iC (k:Nat)(A:Around):Prop where
 hd:A.handled=none
 dp:A.depth+3*k+6<recursionLimit
 un:A.units+16*k+203<cLine
theorem iC.of {k:Nat}{A:Around}(r:fE (k+1) A)(env:Env):iC k (A.deeper env) :=
 ⟨r.hd,by have:=r.dp;show A.depth+1+3*k+6<_;omega,by have:=r.un;show A.units+3+16*k+203<_;omega⟩
theorem iC.deeper {k:Nat}{A:Around}(r:iC k A)(env:Env):fE k (A.deeper env) :=
 ⟨r.hd,by have:=r.dp;show A.depth+1+3*k+5<_;omega,by have:=r.un;show A.units+3+16*k+200<_;omega⟩
structure cZ (P:Program)(w:World)(K:PySem.W.Frag)(mg:Str->Option Value)(base:Heap)(CX:oS)(RP:Around->Prop)(f:Addr)(fd:FuncData)(ps:List Str)(sp:Sp):Prop where
 len:∀ vs H Q E,sp vs H Q E->vs.length=ps.length
 run:∀(A:Around) (outer:List Env) (s:Shared) (H:Hp) (args:PySem.Args) (us:List Value) (vs:List V) (Q:VK) (E:XK),RP A->xB P w K mg base A outer s H->BindsTo s fd args (ps.zip us)->aM vs us->sp vs H Q E ->
  codeAny (model P w) A (.call (.ref f) args) (CR CX outer P w H s Q E) s
section
variable {P:Program}{w:World}{K:PySem.W.Frag}{mg:Str->Option Value}{base:Heap}{f:Addr}{fd:FuncData}{ps N:List Str}{sp:Sp}
theorem cZ.plain {CX:oS}{k:Nat}(F:cZ P w K mg base CX (fE k) f fd ps sp):ki P w K mg base CX k f fd ps sp:=⟨F.len,F.run⟩
theorem iP {CX:oS}{RP:Around->Prop}{x qual:Str}{st:Stmt}(F:L2.m8 K x qual st f fd)(S:bW N ps (aE st))(hRP:∀ A,RP A->A.handled=none/\A.depth<recursionLimit)(len:∀ vs H Q E,sp vs H Q E->vs.length=ps.length)
  (hbody:∀(cdv:Value) (A:Around) (outer:List Env) (s:Shared) (H:Hp) (vs:List V) (Q:VK) (E:XK),RP A->sp vs H Q E ->
   ∃ t,iZ (bX CX P w K mg base N qual (aE st) f cdv A outer s H E) (aW st) t/\t { nx:=fun _ H'=>Q .non H',rt:=Q } (L2.start N vs) H):cZ P w K mg base CX RP f fd ps sp:=by
 obtain⟨oc,od,kV,doc,pm,an,cdv,ct,osl,rfl,lk,hcd⟩:=F.ex;refine⟨len,fun A outer s H args us vs Q E hr e0 hb r hsp=>?_⟩;have hl:=len _ _ _ _ hsp;have KX:K.In s.heap:=e0.mod.kin.keeps fun b o e=>(e0.bs b o e).1
 have lim:s.heap.NoLimit:=e0.mod.nolimit.keeps fun b o e=>(e0.bs b o e).1
 have hkind:∀ y∈ps.zip us,(aE st).names.lookup y.1=some .local\/((aE st).names.lookup y.1=some .cell/\((cellsFrom (s.heap.objs.size+1) (aE st).names []).lookup y.1).isSome=true):=fun ⟨n,v⟩ hy=>by
  rcases S.par n (i6 hy).1 with q | q
  ·exact .inl q
  ·exact .inr ⟨q,i4 _ _ _ (.inl q)⟩
 refine codeAny_call_function (hRP A hr).2 (KX _ _ lk) rfl S.co S.gen rfl (PySem.W.codeRec_of KX hcd) (hb _ _ _ _ ?_);refine wpAny_newFunctionEnv_cells S.kind hkind fun env he s1 x=>?_
 subst he;refine⟨lim.keeps x.toInCall.keep,codeAny_func ?_⟩;obtain⟨t,ht,hq⟩:=hbody cdv A outer s H vs Q E hr hsp;have I:Inv (bX CX P w K mg base N qual (aE st) f cdv A outer s H E) [] (L2.start N vs) H s1:=m5 S (hRP A hr).1 e0 hl r x;refine wpAny_mono (ht [] s1 (L2.start N vs) H _ I hq) (fun fl s' hs=>?_) fun e s' hs=>hs
 have fin:∀{σ':L2.St}{H':Hp}{v:V}{u:Value},Inv (bX CX P w K mg base N qual (aE st) f cdv A outer s H E) [] σ' H' s'->RelV v u->Q v H'->CE outer P w H s Q u s' :=
  fun {σ' H' v u} J rv q=>⟨v,H',J.os,J.bare,J.base,J.hok,rv,q⟩
 cases fl with
 |ret u =>
  obtain⟨v,σ',H',J,rv,q⟩:=hs;exact fin J rv q
 |next =>
  obtain⟨σ',H',J,q⟩:=hs;exact fin (v:=V.non) (u:=Value.none) J rfl q
 |brk =>
  obtain⟨_,_,_,q⟩:=hs;exact False.elim q
 |cont =>
  obtain⟨_,_,_,q⟩:=hs;exact False.elim q
end
section
variable {X:Cx}{pins:List (Addr×Obj)}{σ:L2.St}{H:Hp}{s:Shared}{D:Ends}{RP:Around->Prop}{f:Addr}{fd:FuncData}{ps:List Str}{sp:Sp}{dvs:List V}{ds:List Value}{W:Value->Hp->Prop}
theorem Ap {Q:VK}{us:List Value}{vs:List V}(F:cZ X.prog X.w X.K X.mg X.base (o9 X.prog X.w) RP f fd ps sp)(hr:RP X.A)(hb:Binds X.K fd ps ds)(hd:aM dvs ds)
  (I:Inv X pins σ H s) (r:aM vs us) (h:sp (vs++dvs) H Q (fun C _ H'=>W C H')):wpAny (model X.prog X.w) X.A (call (.ref f) us) (EP X pins σ Q) (lY X pins σ W) s:=by
 have r2:aM (vs++dvs) (us++ds):=r.append hd;have hl:(us++ds).length=ps.length:=by rw[<-r2.length];exact F.len _ _ _ _ h
 refine wpAny_call (codeAny_mono (F.run X.A X.stack s H ⟨us,[]⟩ (us++ds) (vs++dvs) Q _ hr I.env0 (hb s us I.kIn hl) r2 h) fun r s' hq=>?_);cases r with
 |error e =>
  have hq:o9 X.prog X.w X.stack H s (fun C _ H'=>W C H') e s':=hq;obtain⟨a,C,a0,H',B,e1,e2,e3,e4,e5,e6⟩:=zm (X:=X) hq;exact⟨H,s,a,C,a0,H',B,I,e1,e2,e3,e4,e5,e6⟩
 |ok fl =>
  cases fl with
  |ret u=>exact I.after hq
  |next=>exact False.elim hq
  |brk=>exact False.elim hq
  |cont=>exact False.elim hq
theorem vN {x:Str}{p pos:Pos}{e:Expr}{es:List Expr}{t:TA}{Q:VK}(F:cZ X.prog X.w X.K X.mg X.base (o9 X.prog X.w) RP f fd ps sp)(hr:RP X.A)(hg:Gl X x)(hm:X.mg x=some (.ref f))(hk:PySem.W.keepIn X.K (.ref f)=true)(hb:Binds X.K fd ps ds)(hd:aM dvs ds)
  (I:Inv X pins σ H s) (ha:PA X.nox (e::es) t) (h:t σ H fun vs H1=>sp (vs++dvs) H1 Q (fun C _ H'=>W C H')) (hdb:(x==("__debug__" : Str))=false:=by decide)
  (he:starEach (e::es) X.env=(false,eval e X.env)::starEach es X.env:=by rfl) (hpl:(backTo pos (starEach es X.env)).any (·.1)=false:=by rfl) :
  wpAny (model X.prog X.w) X.A (eval (.Call (.Name x p) (e::es) [] pos) X.env) (EP X pins σ Q) (lY X pins σ W) s:=by
 refine wpAny_Call_Name_kw (dU I hg hm ?_ hdb);refine f9 (h₀:=X.base) I.ok.mod.kin hk (wpAny_mono (ha pos pins s σ H _ (I.wish _) h) (fun us s1 ⟨vs,H1,I1,r,q⟩=>⟨I1.unwish.kIn,?_⟩) fun _ _ z=>False.elim z) he hpl;exact Ap F hr hb hd I1.unwish r q
end
section
variable {X:Cx}{S:Sc}{T:Tb}
theorem PS.nox {st:Stmt}{t:TS}(h:PS X.nox st t):PS X st t:=fun pins s σ H D I hw=>by
 have:=h pins s σ H D (I.wish _) hw;refine wpAny_mono this (fun f s1 q=>?_) fun _ _ z=>z.elim
 cases f with
 |next=>obtain⟨σ',H',J,q⟩:=q;exact⟨σ',H',J.unwish,q⟩
 |brk=>obtain⟨σ',H',J,q⟩:=q;exact⟨σ',H',J.unwish,q⟩
 |cont=>obtain⟨σ',H',J,q⟩:=q;exact⟨σ',H',J.unwish,q⟩
 |ret u=>obtain⟨v,σ',H',J,r,q⟩:=q;exact⟨v,σ',H',J.unwish,r,q⟩
end
section
variable {p:Pg}{P:Program}{w:World}{K:Frag}{mg:Str->Option Value}{base:Heap}
theorem sg {fo:List Str}{n:Nat}{CX:oS}{N:List Str}{nm:Str}{sc:Scope}{ps:List Str}{f:Addr}{cdv:Value}{A:Around}{outer:List Env}{s:Shared}{H:Hp}{E:XK}(hp:∀ d∈p.dfs,d.OkX p fo)(hi:p.In K mg)(hh:vT w K)(ih:lU p P w K mg base n)(S:bW N ps sc)
  (hr:fE n (A.deeper (envOfC nm sc s.heap.objs.size f cdv))):qq (bX CX P w K mg base N nm sc f cdv A outer s H E).nox ⟨N,sc,p.dfs.map (·.nm),p.rT,p.gH⟩ ⟨p.run n,p.gl,p.fuel⟩:=by
 refine⟨⟨rfl,S.nd,fun x h=>qw h,fun x h=>⟨jH h,.inl rfl⟩,fun x h=>t7 h,fun x h=>h,?_,rfl,fun j x hj=>?_,fun j x hj=>hi.gl j x hj,fun x h=>hi.blt x h⟩,rfl,S.kind,PassesOwn.never⟩
 ·exact⟨iq (Nat.add_le_add_left (by decide:40<=64) _) hr.units,hh⟩
 ·obtain⟨e,he,hx⟩:=nz hj;obtain⟨f',fd',F',M'⟩:=hi.fn j e he;have B':=F'.binds (hp e (List.mem_of_getElem? he)).bd;subst hx;refine⟨f',fd',e.ps,n,ih j e he f' fd' F',hr,M',F'.kp,B',fun ds r h=>?_⟩;have h:p.run n j ds = .ok r:=h;cases n with
  |zero=>cases h
  |succ n =>
   unfold Pg.run Pc.run at h;have:p.fns[j]? = some ⟨e.ps.length,e.N.length,e.body⟩:=by unfold Pg.fns;rw[List.getElem?_map,he];rfl
   rw[this] at h;dsimp only at h;by_cases hl:ds.length=e.ps.length
   ·exact hl
   ·rw[if_neg hl] at h;cases h
end
section
variable {X:Cx}{pins:List (Addr×Obj)}{σ:L2.St}{H:Hp}{s:Shared}{D:Ends}{W:Value->Hp->Prop}
end
def fZ (h:Heap)(e:Addr)(od:Option Addr):Prop:=∃ o,h.get? e=some o/\o.dict=od
theorem ma (o:Obj)(f):(o.mapFields f).dict=o.dict:=by
 unfold Obj.mapFields;split<;>rfl
section
variable {M:Model}{A:Around}{E:Value->Shared->Prop}{s:Shared}{base:Heap}{env:Env}{outer l:List Env}{L e:Addr}{oe:Obj}{vs:Array Value}{head a0 cls fl:Value}{hadNext:Bool}{od:Option Addr}
theorem wC {Q:Unit->Shared->Prop}(fr:A.frames=some (env::outer))(ff:s.heap.FunFrames base (env::outer))(ef:env.frame=some L)(at_:s.heap.get? e=some oe)(st:base.StaysIn s.heap)(nw:base.get? e=none)(da:oe.data = .fields vs)(sz:1<vs.size)
  (v0:vs[0]? = some a0) (k:∀ h',Heap.NotedW base (env::outer) e oe.cls a0 (rawInt L) s.heap h'->fZ h' e oe.dict->Q () { s with heap:=h' }) :
  wpAny M A (do let a <- frameOf env;let pl <- entryPlaceOf L hadNext;let b <- EntryCells.newEntry head a .none (rawInt L) .none pl;setField (.ref e) 1 b) Q E s:=by
 have nofr:e∉(env::outer).filterMap (·.frame):=fun z=>by
  obtain⟨_,o,ho,nf⟩:=ff.mem z;rw[at_] at ho;cases ho;exact nf vs da
 refine wpAny_bind (wpAny_frameOf_fun fr ff ef fun g so=>wpAny_bind (wpAny_entryPlaceOf fun pl hp=>?_));unfold EntryCells.newEntry newFields;refine wpAny_bind (wpAny_newObj_type ?_ (hp.sizeOk5 _ _ _ _ _));have at1:g.get? e=some oe:=(so.2.1 e nofr).trans at_;have st1:base.StaysIn g:=fun b o q=>(so.2.1 b fun z=>by rw[(ff.mem z).1] at q;cases q).trans (st b o q)
 generalize hT:({ cls:=.type "traceback",dict:=none,data:=.fields ([head,.ref L,.none,rawInt L,.none]++(if pl.isEmpty then List.replicate 6 Value.none else pl)).toArray }:Obj)=oT;have frT:oT.isFreed=false:=by subst hT;rfl
 have daT:oT.data = .fields ([head,.ref L,.none,rawInt L,.none]++(if pl.isEmpty then List.replicate 6 Value.none else pl)).toArray:=by subst hT;rfl
 have at2:=Heap.get?_push_of_some oT at1;refine wpAny_setField at2 da sz (k _ ?_ ?_)
 ·have ne:g.objs.size≠e:=Nat.ne_of_gt (Heap.lt_size at1);have da3:=Obj.data_mapFields da (·.setIfInBounds 1 (Value.ref g.objs.size));have at3:=Heap.get?_update_self (Obj.mapFields (·.setIfInBounds 1 (Value.ref g.objs.size))) at2 (Obj.isFreed_of_fields da3);have tb3:=(Heap.get?_update_other (g.push oT) (Obj.mapFields (·.setIfInBounds 1 (Value.ref g.objs.size))) (cy ne)).trans (Heap.get?_push_size g frT);have kp:∀ b o,b≠e->g.get? b=some o->((g.push oT).update e (Obj.mapFields (·.setIfInBounds 1 (Value.ref g.objs.size)))).get? b=some o:=fun b o hb q =>
   (Heap.get?_update_other _ _ (cy hb)).trans (Heap.get?_push_of_some _ q)
  have nrec:∀ b o,s.heap.get? b=some o->(∀ ws,o.data≠.fields ws)->b≠e:=fun b o q nf z=>by
   subst z;rw[at_] at q;cases q;exact nf vs da
  refine⟨fun b o q=>kp b o (fun z=>by rw[z,nw] at q;cases q) (st1 b o q),ff.of_keeps fun b o q nf=>?_,⟨_,_,g.objs.size,_,_,at3,⟨Obj.cls_mapFields _ _,by rw[Array.getElem?_setIfInBounds_ne (by decide)];exact v0⟩,da3,by simp[sz],st1.fresh,ne,tb3,daT,?_⟩,fun b o q nf=>?_⟩
  ·obtain⟨sl,q1⟩:=so.2.2 b o q;exact⟨_,kp b _ (nrec b o q nf) q1,rfl⟩
  ·rcases hp with rfl | ⟨_,_,_,_,_,_,_,rfl⟩<;>simp
  ·obtain⟨sl,q1⟩:=so.2.2 b o q;exact⟨sl,kp b _ (nrec b o q nf) q1⟩
 ·exact⟨_,Heap.get?_update_self _ at2 (Obj.isFreed_of_fields (Obj.data_mapFields da _)),ma _ _⟩
theorem kN {Q:Unit->Shared->Prop}(st:base.StaysIn s.heap)(ff:s.heap.FunFrames base l)(tr:s.heap.TracedAtW base e cls a0 fl)(dc:fZ s.heap e od)
  (k:∀ h',base.StaysIn h'->h'.FunFrames base l->h'.TracedW base e cls a0->(∀ b o,s.heap.get? b=some o->(∀ ws,o.data≠.fields ws)->h'.get? b=some o)->fZ h' e od->Q () { s with heap:=h' }) :
  wpAny M A (setFlight (.ref e) none) Q E s:=by
 obtain⟨ob,ws,T,oT,ts,e1,e2,e3,e4,e5,e6,e7,e8,e9⟩:=tr;have z3:3<ts.size:=(Array.getElem?_eq_some_iff.mp e9).1;have ot:∀ b,b≠T->(s.heap.update T (Obj.mapFields (·.setIfInBounds 3 ((none:Option Addr).elim Value.none fun f=>rawInt f)))).get? b=s.heap.get? b:=fun b hb=>Heap.get?_update_other _ _ (cy hb)
 have nrec:∀ b o,s.heap.get? b=some o->(∀ us,o.data≠.fields us)->b≠T:=fun b o q nf z=>by
  subst z;rw[e7] at q;cases q;exact nf ts e8
 unfold setFlight;refine wpAny_bind (wpAny_field e1 e3 e4 ?_);rw[if_pos (show (Value.ref T != Value.none)=true from by simp)];refine wpAny_setField e7 e8 z3 (k _ (fun b o q=>(ot b fun z=>by rw[z,e5] at q;cases q).trans (st b o q)) (ff.of_keeps fun b o q nf=>⟨o,(ot b (nrec b o q nf)).trans q,rfl⟩) ?_ (fun b o q nf=>(ot b (nrec b o q nf)).trans q) ?_)
 ·exact⟨ob,ws,T,_,_,(ot e (Ne.symm e6)).trans e1,e2,e3,e4,e5,e6,Heap.get?_update_self _ e7 (Obj.isFreed_of_fields (Obj.data_mapFields e8 _)),Obj.data_mapFields e8 _,by simp[z3]⟩
 ·obtain⟨o,q1,q2⟩:=dc;exact⟨o,(ot e (cy e6)).trans q1,q2⟩
theorem D3 {Q:Unit->Shared->Prop}(fr:A.frames=some (env::outer))(ff:s.heap.FunFrames base (env::outer))(ef:env.frame=some L)(at_:s.heap.get? e=some oe)(st:base.StaysIn s.heap)(nw:base.get? e=none)(da:oe.data = .fields vs)(v1:vs[1]? = some .none)
  (v0:vs[0]? = some a0) (k:∀ h',Heap.FlyingW base outer e oe.cls a0 h'->s.heap.UpToSlots h'->fZ h' e oe.dict->Q () { s with heap:=h' }):wpAny M A (leaving env (.ref e)) Q E s:=by
 unfold leaving noteFrame;simp only[ef];refine wpAny_bind (wpAny_bind (wpAny_field at_ da v1 ?_));rw[if_neg (by decide)];refine wC fr ff ef at_ st nw da (Array.getElem?_eq_some_iff.mp v1).1 v0 fun g ⟨n1,n2,n3,n4⟩ dc=>?_
 refine kN (s:={ s with heap:=g }) n1 n2 n3 dc fun h' k1 k2 k3 k4 k5=>k h' ⟨k1,nw,?_,k3⟩ (fun b o q nf=>?_) k5
 ·obtain⟨_,_,z⟩:=k2;exact z
 ·obtain⟨sl,q1⟩:=n4 b o q nf;exact⟨sl,k4 b _ q1 nf⟩
theorem Cs {Q:Unit->Shared->Prop}(fr:A.frames=some (env::outer))(ef:env.frame=some L)(f:Heap.FlyingW base (env::outer) e cls a0 s.heap)(dc:fZ s.heap e od)
  (k:∀ h',Heap.HeldW base (env::outer) e cls a0 L h'->s.heap.UpToSlots h'->fZ h' e od->Q () { s with heap:=h' }):wpAny M A (noteFrame (.ref e) env) Q E s:=by
 obtain⟨f1,f2,f3,ob,ws,T,oT,ts,e1,⟨rfl,e2⟩,e3,e4,e5,e6,e7,e8,e9⟩:=f;have hdic:ob.dict=od:=by
  obtain⟨o,q1,q2⟩:=dc;rw[e1] at q1;cases q1;exact q2
 unfold noteFrame;simp only[ef];refine wpAny_bind (wpAny_field e1 e3 e4 ?_);rw[if_pos (show (Value.ref T != Value.none)=true from by simp)];refine wpAny_bind (wpAny_field e7 e8 e9 ?_);rw[if_neg (show ¬ ((Value.none==rawInt L)=true) from by simp[rawInt])];refine wpAny_bind (wpAny_setField e7 e8 (Array.getElem?_eq_some_iff.mp e9).1 ?_);have ot:∀ b,b≠T->(s.heap.update T (Obj.mapFields (·.setIfInBounds 3 Value.none))).get? b=s.heap.get? b:=fun b hb=>Heap.get?_update_other _ _ (cy hb)
 have nrec:∀ b o,s.heap.get? b=some o->(∀ us,o.data≠.fields us)->b≠T:=fun b o q nf z=>by
  subst z;rw[e7] at q;cases q;exact nf ts e8
 refine wC fr (f3.of_keeps fun b o q nf=>⟨o,(ot b (nrec b o q nf)).trans q,rfl⟩) ef ((ot e (cy e6)).trans e1) (fun b o q=>(ot b fun z=>by rw[z,e5] at q;cases q).trans (f1 b o q)) f2 e3 (Array.getElem?_eq_some_iff.mp e4).1 e2 fun h' ⟨n1,n2,n3,n4⟩ d'=>?_
 exact k h' ⟨n1,f2,n2,n3⟩ (fun b o q nf=>n4 b o ((ot b (nrec b o q nf)).trans q) nf) (hdic ▸ d')
theorem onD {Q:Unit->Shared->Prop}(fr:A.frames=some (env::outer))(ef:env.frame=some L)(f:Heap.FlyingW base (env::outer) e cls a0 s.heap)(dc:fZ s.heap e od)
  (k:∀ h',Heap.FlyingW base outer e cls a0 h'->s.heap.UpToSlots h'->fZ h' e od->Q () { s with heap:=h' }):wpAny M A (leaving env (.ref e)) Q E s:=by
 unfold leaving;refine wpAny_bind (Cs fr ef f dc fun g ⟨n1,n2,n3,n4⟩ u d1=>?_);refine kN (s:={ s with heap:=g }) n1 n3 n4 d1 fun h' k1 k2 k3 k4 k5=>k h' ⟨k1,n2,?_,k3⟩ (u.trans fun b o q nf=>⟨o.slots,k4 b o q nf⟩) k5
 obtain⟨_,_,z⟩:=k2;exact z
theorem DH {Q:Unit->Shared->Prop}(f:Heap.HeldW base l e cls a0 L s.heap)(dc:fZ s.heap e od)(k:∀ h',Heap.FlyingW base l e cls a0 h'->s.heap.UpToSlots h'->fZ h' e od->Q () { s with heap:=h' }):wpAny M A (setFlight (.ref e) none) Q E s:=by
 obtain⟨f1,f2,f3,f4⟩:=f;exact kN f1 f3 f4 dc fun h' k1 k2 k3 k4 k5=>k h' ⟨k1,f2,k2,k3⟩ (fun b o q nf=>⟨o.slots,k4 b o q nf⟩) k5
theorem DB {Q:Unit->Shared->Prop}(f:Heap.FlyingW base l e cls a0 s.heap)(dc:fZ s.heap e od)(k:∀ h',Heap.FlyingW base l e cls a0 h'->s.heap.UpToSlots h'->fZ h' e od->Q () { s with heap:=h' }):wpAny M A (setFlight (.ref e) none) Q E s:=by
 obtain⟨f1,f2,f3,f4⟩:=f;exact kN f1 f3 f4.at dc fun h' k1 k2 k3 k4 k5=>k h' ⟨k1,f2,k2,k3⟩ (fun b o q nf=>⟨o.slots,k4 b o q nf⟩) k5
end
def Att (x:Str)(h:Heap)(e:Addr)(n:Int):Prop:=∃ dx m u,fZ h e (some dx)/\h.Ns dx m/\m x=some (.int n u)
noncomputable def tN (K:PySem.W.Frag)(ns:List Str):List Value->Bool
 |[]=>gA == []
 |v::r=>(v::r)==gA || match v with
  |.ref A=>(match K.lookup A with
   |some ⟨_,_,.cls cd,_⟩=>PySem.W.nsOkIn K cd.ns&&ns.all (fun n=>PySem.W.nsIn K cd.ns n==some none)&&tN K ns r
   |_=>false)
  |_=>false
theorem qp {K:PySem.W.Frag}{h:Heap}{ns:List Str}(kin:K.In h):∀{l:List Value},tN K ns l=true->iM h gA ns l
 | [],e=>by
  have e:(gA==([]:List Value))=true:=e;rw[<-fw.mp e];exact .base
 | v::r,e=>by
  unfold tN at e;rcases Bool.or_eq_true_iff.mp e with q | q
  ·rw[fw.mp q];exact .base
  ·split at q
   ·split at q
    ·rename_i ho;simp only[Bool.and_eq_true,List.all_eq_true,beq_iff_eq] at q;exact .own (kin _ _ ho) (.of_isNs (il kin q.1.1)) (fun n hn=>gp kin q.1.1 (q.1.2 n hn)) (qp kin q.2)
    ·cases q
   ·cases q
theorem rA {K:PySem.W.Frag}{h:Heap}{N:Addr}{m:Str->Option Value}{n:Str}{v:Value}(kin:K.In h)(G:h.Ns N m)(e:PySem.W.nsIn K N n=some (some v)):m n=some v:=by
 obtain⟨o,es,ep,ho,hd,_,hf⟩:=G;unfold PySem.W.nsIn at e;split at e
 ·rename_i q;have:=kin _ _ q;rw[ho] at this;cases this;cases hd;split at e
  ·rename_i he;rw[<-hf];unfold nsFind findBy;rw[<-Array.find?_toList,he];simpa using e
  ·split at e<;>cases e
 ·cases e
noncomputable def AM (K:PySem.W.Frag)(C:Addr)(ns:List Str)(fI:Addr):Bool:=match K.lookup C with
 |some ⟨.type "type",_,.cls cd,sl⟩=>(match cd.mro,sl.toList with
  | .ref C'::bm,[_,_,_,_,some (.builtin n),_]=>C'==C&&n == "ValueError.__new__" && !cd.hasDel&&cd.hasDict&&PySem.W.tailIn K gA bm&&tN K ns bm&&PySem.W.nsOkIn K cd.ns&&ns.all (fun n=>PySem.W.nsIn K cd.ns n==some none)&&PySem.W.nsIn K cd.ns "__init__" == some (some (.ref fI))
  |_,_=>false)
 |_=>false
structure IniF (K:PySem.W.Frag)(h:Heap)(C:Addr)(ns:List Str)(fI:Addr)(bm:List Value):Prop where
 ex:∃ nm q N bs sn sub ab col dd k0 k1 k2 k3 k5 mN,h.get? C=some (excClassObj nm q C N bs bm true sn sub ab col dd k0 k1 k2 k3 k5 "ValueError.__new__")/\h.Ns N mN/\(∀ n∈ns,mN n=none)/\mN "__init__" = some (.ref fI)
 tail:OwnTail h gA bm
 tn:iM h gA ns bm
theorem k6 {K:PySem.W.Frag}{h:Heap}{C fI:Addr}{ns:List Str}(kin:K.In h)(q:AM K C ns fI=true):∃ bm,IniF K h C ns fI bm:=by
 unfold AM at q;split at q
 ·rename_i dd cd sl ho;split at q
  ·rename_i C' bm k0 k1 k2 k3 n k5 hm hs;simp only[Bool.and_eq_true,beq_iff_eq,Bool.not_eq_true',List.all_eq_true] at q;obtain⟨⟨⟨⟨⟨⟨⟨⟨rfl,rfl⟩,hdel⟩,hdc⟩,ht⟩,hnt⟩,hok⟩,hnn⟩,hi⟩:=q;obtain⟨nm,bs,mro,ns',qn,hd,sn,sub,ab,col,del⟩:=cd;dsimp only at hm hdel hok hi hdc hnn;subst hm hdel hdc;have hsl:sl = #[k0,k1,k2,k3,some (.builtin "ValueError.__new__"),k5]:=by
    obtain⟨l⟩:=sl;simp only at hs;rw[hs]
   subst hsl;have G:h.Ns ns' _:=.of_isNs (il kin hok);exact⟨bm,⟨nm,qn,ns',bs,sn,sub,ab,col,dd,k0,k1,k2,k3,k5,_,kin _ _ ho,G,fun n hn=>gp kin hok (hnn n hn),rA kin G hi⟩,PySem.W.tail_of_in kin ht,qp kin hnt⟩
  ·cases q
 ·cases q
theorem qr {self:Value}{what:Str}{h:Heap}{bm:List Value}(T:OwnTail h gA bm):refuseLoop self what bm=refuseLoop self what gA:=by
 induction T with
 |base=>rfl
 |own _ _ _ _ ih=>rw[refuseLoop_ref];exact ih
section
variable {prog:Program}{w:World}{A:Around}{E:Value->Shared->Prop}{h:Heap}{g:Array GenState}{d:Drawn}{t:Nat}{os:OsState}{e:Addr}{oe:Obj}{vs:Array Value}{ns:List Str}
 {nm q:Str}{C N:Addr}{bs bm:List Value}{sn:List Str}{sub:List Value}{ab:Bool}{col:Option Bool}{dd:Option Addr}{k0 k1 k2 k3 k5:Option Value}{newId:String}{mN:Str->Option Value}{x:Str}{v:Value}
theorem xR {M:Model}{nameV:Value}{Q:Unit->Shared->Prop}(hC:h.get? C=some (excClassObj nm q C N bs bm true sn sub ab col dd k0 k1 k2 k3 k5 newId))(T:OwnTail h gA bm)(he:h.get? e=some oe)(hc:oe.cls = .ref C)(hq:Q () ⟨h,g,d,t,os⟩) :
  wpAny M A (checkBuiltinCall "object.__setattr__" ⟨[.ref e,nameV,v],[]⟩) Q E ⟨h,g,d,t,os⟩:=by
 have SF:=F.store_ValueError;have hcB:(Value.ref C::bm).contains (.type "object")=true:=by rw[eo,T.hasType (show gA.contains (.type "object")=true by decide),gy]
 have ha:=SF.args (.ref e) nameV v;simp only[checkBuiltinCall,SF.kind,SF.split];refine wpAny_bind ?_;unfold isInstance
 repeat (first | (with_reducible refine wpAny_loadPart_at he ?_;rw[hc]) | (with_reducible refine wpAny_isSubtype_exc hC ?_;rw[hcB]) | wp_step)
 exact hq
theorem set_own {Q:Unit->Shared->Prop}(hC:h.get? C=some (excClassObj nm q C N bs bm true sn sub ab col dd k0 k1 k2 k3 k5 newId))(hN:h.Ns N mN)(hmN:∀ n∈ns,mN n=none)(T:OwnTail h gA bm)(TN:iM h gA ns bm)(n1:("__setattr__" : Str)∈ns) (n2:x∈ns)
  (hB:typeLookup (.type "ValueError") x=pure none) (he:h.get? e=some oe) (hc:oe.cls = .ref C) (hdn:oe.dict=none) (hd:oe.data = .fields vs)
  (hq:∀ h' tk dx,h'.get? e=some { oe with dict:=some dx }->h.get? dx=none->h'.Ns dx (fun y=>if y=x then some v else none)->(∀ b o,b≠e->h.get? b=some o->h'.get? b=some o)->Q () ⟨h',g,d,tk,os⟩) :
  wpAny (model prog w) A (setAttr (.ref e) x v) Q E ⟨h,g,d,t,os⟩:=by
 have SF:=F.store_ValueError;have f3:=SF.slot.bind (.ref e);unfold setAttr callSpecial? specialOf
 repeat (any_goals (first | assumption | (with_reducible refine wpAny_loadPart_at he ?_;rw[hc]) | with_reducible refine eT n1 hC hN hmN TN SF.mro SF.slot.lookup ?_ | wp_step))
 refine codeAny_call_builtin SF.slot.plain SF.entry (xR hC T he hc ?_);have hpass:=SF.passes (.ref e);unfold Builtin.«object.__setattr__»
 repeat (first | rw[refuse_eq] | (rw[refuseLoop_ref,qr T,hpass]) | (with_reducible refine wpAny_loadPart_at he ?_;rw[hc]) | with_reducible refine wpAny_mroOf_exc hC ?_ | with_reducible refine eT n2 hC hN hmN TN SF.mro hB ?_ | wp_step)
 rw[hdn,if_neg (by simp[typeHasDict])];split
 ·rename_i z;cases z
 split
 ·rename_i z;rw[hd] at z;cases z
 have he1:(h.push { cls:=.type "dict",data:=.dict #[] }).get? e=some oe:=Heap.get?_push_of_some _ he;have ne:e≠h.objs.size:=ba (Heap.lt_size he);refine wpAny_bind (wpAny_alloc' (wpAny_bind (wpAny_update' he1 (wpAny_pure ?_))));have gd:((h.push { cls:=.type "dict",data:=.dict #[] }).update e fun o=>{ cls:=o.cls,dict:=some h.objs.size,data:=o.data,slots:=o.slots }).get? h.objs.size=some { cls:=.type "dict",data:=.dict #[] } :=
  (Heap.get?_update_ne _ _ _ _ ne.symm).trans (Heap.get?_push_at rfl rfl)
 have nd:((h.push { cls:=.type "dict",data:=.dict #[] }).update e fun o=>{ cls:=o.cls,dict:=some h.objs.size,data:=o.data,slots:=o.slots }).Ns h.objs.size (fun _=>none) :=
  ⟨_,#[],_,gd,rfl,fun _ z=>absurd z (by simp),fun _=>rfl⟩
 show wpAny _ _ (Builtin.ObjectAttr.storeInDict h.objs.size (.str x _) x v) _ _ _;unfold Builtin.ObjectAttr.storeInDict Builtin.ObjectAttr.newKeyGuard;refine wpAny_bind (wpAny_pure (wpAny_bind (wpAny_nsSet1 (Heap.Ns1.of_empty nd) fun h' hn' hs=>?_)));obtain⟨oD,esD,epD,hoD,hdD,hcD⟩:=hn'.count (Within.cons x v Within.nil);refine wpAny_bind (wpAny_lookBehind hoD (by rw[hdD];exact pastItsLine_dict (bj hcD (by rw[aw,bz,sizeLine_eq];omega))) ?_)
 repeat (any_goals (first | assumption | wp_step))
 refine hq h' _ h.objs.size ?_ (Heap.get?_none_of_le (au _)) hn'.ns fun b o hb q=>?_
 ·refine (hs.2 e ne).trans (Heap.get?_update_self _ he1 ?_);have fr:=(Heap.get?_some_iff.mp he).2;obtain⟨oc,od,odt,osl⟩:=oe;cases odt<;>first | rfl | exact fr
 ·exact (hs.2 b (ba (Heap.lt_size q))).trans ((Heap.get?_update_ne _ _ _ _ hb).trans (Heap.get?_push_of_some _ q))
end
noncomputable abbrev om (C:Addr)(t0:Addr):Obj:={ cls:=.ref C,data:=.fields #[.ref t0,.none,.none,.none,.bool false,.none] }
section
variable {prog:Program}{w:World}{A:Around}{E:Value->Shared->Prop}{h:Heap}{g:Array GenState}{d:Drawn}{t:Nat}{os:OsState}{e t0:Addr}{us:List Value}
 {nm q:Str}{C N fI:Addr}{bs bm:List Value}{hdct:Bool}{sn:List Str}{sub:List Value}{ab:Bool}{col:Option Bool}{dd:Option Addr}{k0 k1 k2 k3 k5:Option Value}{mN:Str->Option Value}
theorem u7 {Q:Value->Shared->Prop}(hC:h.get? C=some (excClassObj nm q C N bs bm hdct sn sub ab col dd k0 k1 k2 k3 k5 "ValueError.__new__")) (T:OwnTail h gA bm) (he:h.get? e=some (om C t0)) (hl:us.length<=sizeLine)
  (hq:∀ h' t1,h'.get? e=some (om C t1)->h.get? t1=none->(∀ b o,b≠e->h.get? b=some o->h'.get? b=some o)->Q .none ⟨h',g,d,t,os⟩) :
  wpAny (model prog w) A (call (.builtin "ValueError.__init__") (.ref e::us)) Q E ⟨h,g,d,t,os⟩:=by
 have FB:=ip;refine wpAny_call (codeAny_call_builtin FB.init.plain FB.initEntry (wpAny_check_init_subT FB T hC he rfl ?_))
 wp_walk
 have ne:e≠h.objs.size:=ba (Heap.lt_size he);refine hq _ h.objs.size ?_ (Heap.get?_none_of_le (au _)) fun b o hb z=>?_
 ·rw[Heap.get?_update_self _ (Heap.get?_push_of_some _ he) rfl];rfl
 ·rw[Heap.get?_update_other _ _ (cy hb)];exact Heap.get?_push_of_some _ z
theorem vw {Q:Value->Shared->Prop}(hC:h.get? C=some (excClassObj nm q C N bs bm hdct sn sub ab col dd k0 k1 k2 k3 k5 "ValueError.__new__")) (hN:h.Ns N mN) (T:OwnTail h gA bm) (hi:mN "__init__" = some (.ref fI)) {oI:Obj}(hf:h.get? fI=some oI) (hfc:oI.cls = .type "function") (hl:us.length<=sizeLine)
  (hq:∀ h' e t0,h'.get? e=some (om C t0)->h.get? e=none->(∀ b o,h.get? b=some o->h'.get? b=some o) ->
   wpAny (model prog w) (A.under (.builtin "type.__call__" ⟨.ref C::us,[]⟩)) (call (.ref fI) (.ref e::us)) (fun r s'=>r = .none/\Q (.ref e) s') E ⟨h',g,d,t,os⟩) :
  wpAny (model prog w) A (call (.ref C) us) Q E ⟨h,g,d,t,os⟩:=by
 have FB:=ip;have f1:=tc_lookup;have f2:=tc_bind (.ref C);have hT:(⟨h,g,d,t,os⟩:Shared).TypeIs (.ref C) "type":=⟨_,hC,rfl⟩;refine wpAny_call (codeAny_of_tree ?_);show wpAny _ _ (callAny (.ref C) _) _ _ _
 repeat (any_goals (first | assumption | with_reducible refine wpAny_loadPart_at hC ?_ | wp_step))
 refine⟨rfl,codeAny_call_builtin_at (Code.quiet_builtin _ (by decide +kernel)) entry_typeCall (wpAny_check_type_call_sub hC ?_)⟩
 repeat (first | with_reducible refine wpAny_loadPart_at hC ?_ | with_reducible refine wpAny_madeBy_exc hC ?_ | wp_step)
 refine codeAny_call_builtin_code (Code.quiet_builtin _ FB.quiet) (wpAny_check_new_subT FB T hC (codeAny_exc_new_subT FB T hC ?_ hl));show wpAny _ _ _ _ _ ⟨(h.push { cls:=.type "tuple",data:=.seq us.toArray }).push (om C h.objs.size),g,d,t,os⟩;generalize htu:({ cls:=.type "tuple",data:=.seq us.toArray }:Obj)=ot;have kp:∀ b o,h.get? b=some o->((h.push ot).push (om C h.objs.size)).get? b=some o:=fun b o z=>Heap.get?_push_of_some _ (Heap.get?_push_of_some _ z)
 have hC1:=kp _ _ hC;have hf1:=kp _ _ hf;have hN1:=hN.keeps kp;have hg:((h.push ot).push (om C h.objs.size)).get? (h.objs.size+1)=some (om C h.objs.size):=by
  subst htu
  heap_get
 have hcC:(Value.ref C::bm).contains (.ref C)=true:=by simp
 unfold isInstance
 repeat (first | with_reducible refine wpAny_loadPart_at hg ?_ | (with_reducible refine wpAny_isSubtype_exc hC1 ?_;rw[hcC]) | wp_step)
 show wpAny _ _ (typeLookup (.ref C) _) _ _ _;refine wpAny_typeLookup_tail hC1 hN1 (T.keeps kp) FB.mroIs FB.init.lookup ?_;rw[hi];refine wpAny_holding (wpAny_bind ?_);unfold bindSpecial;refine wpAny_bind (wpAny_typeOf (T:="function") ⟨_,hf1,hfc⟩ ?_);rw[if_pos (by decide)];refine wpAny_pure (wpAny_bind (wpAny_mono (hq _ _ _ hg (Heap.get?_none_of_le (Nat.le_succ _)) kp) (fun r s' z=>?_) fun _ _ z=>z));obtain⟨rfl,z⟩:=z
 wp_walk
 exact z
end
noncomputable abbrev ins (x:Str):List Str:=["__getattribute__","__getattr__","__class__","__setattr__",x]
noncomputable abbrev Bv (C t0 dx:Addr):Obj:={ cls:=.ref C,dict:=some dx,data:=.fields #[.ref t0,.none,.none,.none,.bool false,.none] }
structure B8 (st:Stmt)(S x:Str):Prop where
 ex:∃(c1 c2:Str) (p1 p2 p3 p4 p5 p6 p7 p8 p9 p10 p11 p12 p13 p14:Pos),aW st=[.Expr (.Call (.Attribute (.Name S p1) "__init__" p2) [.Name "self" p3,.JoinedStr [.Constant (.str c1) 0 p4,.FormattedValue (.Name x p5) (-1) none p6,.Constant (.str c2) 0 p7] p8] [] p9) p10,
   .Assign [.Attribute (.Name "self" p11) x p12] (.Name x p13) p14] /\
  (p2.endLine==p9.line)=true/\c1.length<=1000/\c2.length<=1000
 sc:bW ["self",x] ["self",x] (aE st)
 gl:(aE st).names.lookup S=some .globalImplicit
 l1:(aE st).names.lookup ("self" : Str)=some .local
 l2:(aE st).names.lookup x=some .local
 ne:x≠"self"
 db:(S==("__debug__" : Str))=false/\(x==("__debug__" : Str))=false
structure Bk (K:PySem.W.Frag)(mg:Str->Option Value)(S x qual:Str)(C cS fI:Addr)(fd:FuncData)(st:Stmt):Prop where
 hS:mg S=some (.ref cS)
 cls:AM K C (ins x) fI=true
 keep:PySem.W.keepIn K (.ref C)=true
 ga:PySem.W.specialIn K (.ref cS) "__getattribute__" = some (some (.builtin "type.__getattribute__"))
 rd:PySem.W.readsIn K cS (.type "type")=true
 fc:PySem.W.findCls K (.ref cS) (.type "type") "__init__" = some (.val (.builtin "ValueError.__init__"))
 F:L2.m8 K "__init__" qual st fI fd
 ft:(K.lookup fI).any (fun o=>o.cls == .type "function")=true
 bd:Binds K fd ["self",x] []
 s:B8 st S x
 nx:typeLookup (.type "ValueError") x=pure none
theorem log2_small {n:Int}(h:n.natAbs<2 ^ 64):n.natAbs.log2<1920:=by
 by_cases z:n.natAbs=0
 ·rw[z];decide
 ·have:=(Nat.log2_lt z).mpr h;omega
section
variable {P:Program}{w:World}{K:PySem.W.Frag}{mg:Str->Option Value}{base:Heap}{A:Around}{E:Value->Shared->Prop}{s:Shared}{e t0 C cS fI:Addr}{fd:FuncData}{st:Stmt}{S x qual:Str}{n:Int}{u:Tok}
theorem wA {Q:Value->Shared->Prop}(mod:Mod K mg base)(ks:∀ b o,base.get? b=some o->s.heap.get? b=some o)(k:Bk K mg S x qual C cS fI fd st)(hn:n.natAbs<2 ^ 64)(hd:A.depth<recursionLimit)(he:s.heap.get? e=some (om C t0))(hb:base.get? e=none)
  (hq:∀ s' t1 dx,s'.os=s.os->s'.gens=s.gens->s'.drawn=s.drawn->s'.heap.get? e=some (Bv C t1 dx)->(∃ m,s'.heap.Ns dx m/\m x=some (.int n u))->s.heap.get? dx=none->(∀ b o,b≠e->s.heap.get? b=some o->s'.heap.get? b=some o)->Q .none s') :
  wpAny (model P w) A (call (.ref fI) [.ref e,.int n u]) Q E s:=by
 obtain⟨oc,od,kV,doc,pm,an,cdv,ct,osl,rfl,lk,hcd⟩:=k.F.ex;obtain⟨c1,c2,p1,p2,p3,p4,p5,p6,p7,p8,p9,p10,p11,p12,p13,p14,hbody,hline,hc1,hc2⟩:=k.s.ex;have KX:K.In s.heap:=mod.kin.keeps ks;have lim:s.heap.NoLimit:=mod.nolimit.keeps ks;have sc:=k.s.sc;have hkind:∀ y∈[("self" : Str),x].zip [Value.ref e,.int n u],(aE st).names.lookup y.1=some .local\/((aE st).names.lookup y.1=some .cell/\((cellsFrom (s.heap.objs.size+1) (aE st).names []).lookup y.1).isSome=true):=fun y hy=>by
  rcases iy.mp hy with rfl | hy
  ·exact .inl k.s.l1
  ·rcases iy.mp hy with rfl | hy
   ·exact .inl k.s.l2
   ·cases hy
 refine wpAny_call (codeAny_call_function hd (KX _ _ lk) rfl sc.co sc.gen rfl (PySem.W.codeRec_of KX hcd) (k.bd s [.ref e,.int n u] KX rfl _ _ _ _ ?_));refine wpAny_newFunctionEnv_cells sc.kind hkind fun env henv s1 x1=>?_
 subst henv;refine⟨lim.keeps x1.toInCall.keep,codeAny_func ?_⟩;show wpAny _ (A.deeper (envOfC qual (aE st) s.heap.objs.size fI cdv)) (execs (aW st) (envOfC qual (aE st) s.heap.objs.size fI cdv)) _ _ _;rw[hbody];have hk0:(envOfC qual (aE st) s.heap.objs.size fI cdv).scope.kind = .function:=sc.kind;have hns:s1.heap.Ns s.heap.objs.size (bindL (envOfC qual (aE st) s.heap.objs.size fI cdv).kindOf ([("self" : Str),x].zip [Value.ref e,.int n u]) fun _=>none):=x1.toInCall.ns;obtain⟨h1,tk,rfl,kp1⟩:=x1.done;have nd:[("self" : Str),x].Nodup:=sc.nd;have m1:=iV (m:=fun _=>none) (kindOf:=(envOfC qual (aE st) s.heap.objs.size fI cdv).kindOf) (vs:=[Value.ref e,.int n u]) (i:=0) nd rfl rfl k.s.l1;have m2:=iV (m:=fun _=>none) (kindOf:=(envOfC qual (aE st) s.heap.objs.size fI cdv).kindOf) (vs:=[Value.ref e,.int n u]) (i:=1) nd rfl rfl k.s.l2;generalize hm:bindL (envOfC qual (aE st) s.heap.objs.size fI cdv).kindOf ([("self" : Str),x].zip [Value.ref e,.int n u]) (fun _=>none)=m at m1 m2 hns;have hns:h1.Ns s.heap.objs.size m:=hns;have ld1:∀{A':Around}{E':Value->Shared->Prop}{s':Shared}{p:Pos}{Q':Value->Shared->Prop},s'.heap.Ns s.heap.objs.size m->Q' (.ref e) s'->wpAny (model P w) A' (eval (.Name "self" p) (envOfC qual (aE st) s.heap.objs.size fI cdv)) Q' E' s' :=
  fun hn' hq'=>wpAny_Name (wpAny_loadName_local hk0 k.s.l1 hn' m1 hq') (by decide)
 have ld2:∀{A':Around}{E':Value->Shared->Prop}{s':Shared}{p:Pos}{Q':Value->Shared->Prop},s'.heap.Ns s.heap.objs.size m->Q' (.int n u) s'->wpAny (model P w) A' (eval (.Name x p) (envOfC qual (aE st) s.heap.objs.size fI cdv)) Q' E' s' :=
  fun hn' hq'=>wpAny_Name (wpAny_loadName_local hk0 k.s.l2 hn' m2 hq') k.s.db.2
 have hlog:=log2_small hn;have kb:∀ b o,base.get? b=some o->h1.get? b=some o:=fun b o z=>kp1 b o (ks b o z)
 have K1:K.In h1:=mod.kin.keeps kb;have eL:e≠s.heap.objs.size:=ba (Heap.lt_size he);have he1:=kp1 _ _ he;obtain⟨bm,FI⟩:=k6 K1 k.cls;obtain⟨nm,q,N,bs,sn,sub,ab,col,dd,k0,k1,k2,k3,k5,mN,hC,hN,hmN,hi⟩:=FI.ex;have neC:C≠e:=fun z=>by rw[z,he1] at hC;cases hC
 refine wpAny_execs_cons (wpAny_Expr_any ?_ (by simp[interactive,hk0]) rfl);rw[arm_eval_Call];refine wpAny_bind (Calls.Name_function_global hk0 k.s.gl (Calls.loadGlobal_global (mg:=mg) (show Heap.Ns _ mainGlobals mg from mod.glob.keeps kb) k.hS ?_) k.s.db.1);refine wpAny_bind (wpAny_standAt ?_);have hpos:methodCallPos true (.Name S p1) (envOfC qual (aE st) s.heap.objs.size fI cdv) p2 p9=pure p9:=by unfold methodCallPos;simp[hline]
 unfold methodCall;rw[show methodCallForm _ _ _=true from rfl];refine wpAny_bind (wpAny_holding (PySem.W.method_cls (name:="__init__") K1 k.ga (PySem.W.cls_value (name:="__init__") K1 k.rd k.fc rfl ?_)));refine wpAny_bind (wpAny_of_eq hpos ?_);refine PySem.W.callWith_of (P:=fun _=>True) rfl (fun h _=>⟨.machine,.inr (.inl rfl),.now⟩) ?_;refine Calls.evalArgs_plain (Calls.spliced_cons (ld1 hns (Calls.spliced_cons ?_)));have l1:(Str.ofString (toString n)).length<=2000:=by
  rw[PySem.ofString_length];have:=int_text_length_le (k:=1920) (by decide) hlog;omega
 show wpAny _ _ (eval (.JoinedStr [.Constant (.str c1) 0 p4,.FormattedValue (.Name x p5) (-1) none p6,.Constant (.str c2) 0 p7] p8) (envOfC qual (aE st) s.heap.objs.size fI cdv)) _ _ _;refine wpAny_JoinedStr (Calls.Constant_str ⟨c1,_,rfl,?_,wpAny_FormattedValue_plain (ld2 hns (wpAny_formatField_int hlog ⟨_,_,rfl,?_,Calls.Constant_str ⟨c2,_,rfl,?_,?_,Calls.spliced_nil ⟨trivial,?_⟩⟩⟩))⟩)
 any_goals (simp only[strLen_append,sizeLine_eq];have:(Str.empty).length=0:=rfl;omega)
 refine u7 hC FI.tail he1 (by rw[sizeLine_eq];exact (by decide:1<=16777216)) fun h2 t1 he2 hn2 kp2=>?_
 have ns2:h2.Ns s.heap.objs.size m:=by
  obtain⟨o,es,ep,z,r⟩:=hns;exact⟨o,es,ep,kp2 _ _ (cy eL) z,r⟩
 have kb2:∀ b o,base.get? b=some o->h2.get? b=some o:=fun b o z=>kp2 b o (fun y=>by rw[y,hb] at z;cases z) (kb b o z)
 obtain⟨bm',FI2⟩:=k6 (mod.kin.keeps kb2) k.cls;obtain⟨nm',q',N',bs',sn',sub',ab',col',dd',j0,j1,j2,j3,j5,mN',hC2,hN2,hmN2,hi2⟩:=FI2.ex;refine wpAny_execs_cons (plainObj_wpAny_Assign_Attribute (ld2 ns2 (ld1 ns2 ?_)) rfl);refine set_own (oe:=om C t1) hC2 hN2 hmN2 FI2.tail FI2.tn (by simp) (by simp) k.nx he2 rfl rfl rfl fun h3 tk3 dx he3 hdx hn3 kp3=>?_
 refine wpAny_execs_nil (hq _ t1 dx rfl rfl rfl he3 ⟨_,hn3,by simp⟩ ?_ fun b o hbe z=>kp3 b o hbe (kp2 b o hbe (kp1 b o z)));cases z:s.heap.get? dx with
 |none=>rfl
 |some o =>
  by_cases y:dx=e
  ·rw[y,he2] at hdx;cases hdx
  ·rw[kp2 dx o y (kp1 dx o z)] at hdx;cases hdx
end
def FF (x:Str)(B:Heap)(fr:List Addr)(h:Heap)(a:Addr)(n:Nat):Prop:=∃ dx m u,fZ h a (some dx)/\h.Ns dx m/\m x=some (.int n u)/\B.get? dx=none/\dx∉fr
noncomputable def kI (x:Str)(P:Program)(w:World):oS:=fun outer H s E e s'=>∃ a C a0 H' B n,e = .ref a/\s'.os=s.os/\AllBare s'.gens/\Un (cQ outer) [] H H' s.heap s'.heap/\iG P w H' s'.heap /\
 Heap.FlyingW B outer a C a0 s'.heap/\Bf B (cQ outer) H' s.heap s'.heap/\FF x B (cQ outer) s'.heap a n/\E C (some n) H'
section
variable {M:Model}{A:Around}{E:Value->Shared->Prop}{s:Shared}{env:Env}{nm q:Str}{C N:Addr}{bs bm:List Value}{hdct:Bool}{sn:List Str}{sub:List Value}{ab:Bool}{col:Option Bool}{dd:Option Addr}{k0 k1 k2 k3 k5:Option Value}{newId:String}
theorem vC {y:Sem Value}{Q:Flow->Shared->Prop}(hbase:bm.contains (.type "BaseException")=true) (hh:A.handled=none)
  (h:wpAny M A y (fun v s₁=>∃ e t dx,v = .ref e/\s₁.heap.get? C=some (excClassObj nm q C N bs bm hdct sn sub ab col dd k0 k1 k2 k3 k5 newId)/\s₁.heap.get? e=some (Bv C t dx)/\E (.ref e) s₁) E s) :
  wpAny M A (raiseStmt env (some y) none) Q E s:=by
 have hcB:(Value.ref C::bm).contains (.type "BaseException")=true:=by rw[eo,hbase,gy]
 unfold raiseStmt;refine wpAny_bind (wpAny_mono h (fun v s₁ h₁=>?_) fun _ _ z=>z);obtain⟨e,t,dx,rfl,hC,he,hE⟩:=h₁;obtain⟨hp,g,d,tk,os⟩:=s₁
 repeat (first | with_reducible refine wpAny_loadPart_at he ?_ | with_reducible refine wpAny_loadPart_at hC ?_ | (with_reducible refine wpAny_isSubtype_exc hC ?_;rw[hcB]) | wp_step)
 exact wpAny_raiseNew_none hh hE
end
section
variable {X:Cx}
theorem vL {y S x qual:Str}{C cS fI:Addr}{fd:FuncData}{st:Stmt}{np cpos pos:Pos}{e:Expr}{t:TA}{W:Nat->Hp->Prop}(hc:X.calm=true)(hdp:X.A.depth+1<recursionLimit)(hg:Gl X y)(hm:X.mg y=some (.ref C))(k:Bk X.K X.mg S x qual C cS fI fd st)(ha:PA X [e] t)
  (hw:∀(pins:List (Addr×Obj)) (σ:L2.St) (H:Hp) (s:Shared) (h':Heap) (tk:Nat) (a t1 dx:Addr) (n:Nat) (u:Tok),W n H->Inv X pins σ H s->s.heap.get? a=none->h'.get? a=some (Bv C t1 dx)->(∃ m,h'.Ns dx m/\m x=some (.int n u))->s.heap.get? dx=none ->
   (∀ b o,s.heap.get? b=some o->h'.get? b=some o)->X.xe (.ref a) { s with heap:=h',toks:=tk })
  (he:starEach [e] X.env=[(false,eval e X.env)]:=by rfl) (hd:(y==("__debug__" : Str))=false:=by decide) :
  PS X (.Raise (some (.Call (.Name y np) [e] [] cpos)) none pos) (fun D σ H=>t σ H fun vs H'=>∃ n:Nat,vs=[.int n]/\n<2 ^ 64/\W n H'):=by
 intro pins s σ H D I h;obtain⟨bm,FI⟩:=k6 I.ok.mod.kin k.cls;obtain⟨nm,q,N,bs,sn,sub,ab,col,dd,k0,k1,k2,k3,k5,mN,hC,hN,hmN,hi⟩:=FI.ex;rw[arm_exec_Raise];simp only[evalOpt,Option.map];refine wpAny_bind (wpAny_standAt (vC (C:=C) (nm:=nm) (q:=q) (N:=N) (bs:=bs) (bm:=bm) (hdct:=true) (sn:=sn) (sub:=sub) (ab:=ab) (col:=col) (dd:=dd) (k0:=k0) (k1:=k1) (k2:=k2) (k3:=k3) (k5:=k5) (newId:="ValueError.__new__")
  (FI.tail.hasType (show gA.contains (.type "BaseException")=true by decide)) (I.ok.hd hc) ?_))
 refine wpAny_bind (wpAny_mono (wpAny_Call_ofName (dU I hg hm ?_ hd)) (fun v s₃ h₃=>wpAny_bind (wpAny_standAt (wpAny_pure h₃))) fun _ _ z=>z);refine f9 (h₀:=X.base) I.ok.mod.kin k.keep (wpAny_mono (ha cpos pins s σ H _ I h) (fun us s1 ⟨vs,H1,I1,r,n,hv,hn,hW⟩=>⟨I1.kIn,?_⟩) fun _ _ z=>z) he rfl;subst hv;obtain⟨u,rfl⟩:∃ u,us=[.int n u]:=by
  cases r with
  |cons r1 r2 =>
   cases r2;obtain⟨u,rfl⟩:=(show ∃ u,_=Value.int n u from r1);exact⟨u,rfl⟩
 obtain⟨oc,od,kV,doc,pm,an,cdv,ct,osl,rfl,lk,hcd⟩:=k.F.ex;have ft:=k.ft;rw[show List.lookup fI X.K=_ from lk] at ft;have hC1:=I1.bk _ _ hC;obtain⟨h1,g1,d1,tk1,os1⟩:=s1;refine vw hC1 (hN.keeps I1.bk) (FI.tail.keeps I1.bk) hi (I1.kIn _ _ lk) (by simpa using ft) (by rw[sizeLine_eq];exact (by decide:1<=16777216)) fun h2 a t0 ha0 hna kp=>?_
 have kb:∀ b o,X.base.get? b=some o->h2.get? b=some o:=fun b o z=>kp b o (I1.bk b o z)
 refine wA (n:=n) I.ok.mod kb k (by simpa using hn) (by rw[depth_under_make];exact hdp) ha0 (by
  cases z:X.base.get? a with
  |none=>rfl
  |some o=>have:=I1.bk _ _ z;rw[hna] at this;cases this) fun s3 t1 dx e1 e2 e3 e4 e5 e6 e7=>⟨rfl,a,t1,dx,rfl,?_,e4,?_⟩
 ·exact e7 _ _ (fun z=>by rw[z,hna] at hC1;cases hC1) (kp _ _ hC1)
 ·obtain⟨h3,g3,d3,tk3,os3⟩:=s3;cases e1;cases e2;cases e3;refine hw pins σ H1 ⟨h1,g1,d1,tk1,os1⟩ h3 tk3 a t1 dx n u hW I1 hna e4 e5 ?_ fun b o z=>e7 b o (fun y=>by rw[y,hna] at z;cases z) (kp b o z)
  cases z:h1.get? dx with
  |none=>rfl
  |some o =>
   have:=kp _ _ z;have e6:h2.get? dx=none:=e6;rw[e6] at this;cases this
theorem uX {P:Program}{w:World}{K:PySem.W.Frag}{mg:Str->Option Value}{base:Heap}{N:List Str}{qual:Str}{scope:Scope}{f:Addr}{cd:Value}{A:Around}{outer:List Env}{s:Shared}{H:Hp}{E:XK}{CX:oS}
  {pins:List (Addr×Obj)}{σ:L2.St}{H1:Hp}{s1:Shared}{h2 h':Heap}{a:Addr}{C a0:Value}(I:Inv (bX CX P w K mg base N qual scope f cd A outer s H E) pins σ H1 s1) (kp:∀ b o,s1.heap.get? b=some o->h2.get? b=some o)
  (fl:Heap.FlyingW (PySem.W.hideAll s1.heap (cQ (envOfC qual scope s.heap.objs.size f cd::outer))) outer a C a0 h') (uts:h2.UpToSlots h') :
  Un (cQ outer) [] H H1 s.heap h'/\iG P w H1 h'/\Bf (PySem.W.hideAll s1.heap (cQ (envOfC qual scope s.heap.objs.size f cd::outer))) (cQ outer) H1 s.heap h':=by
 have hst:=I.stack;have L0:∀ b o,s.heap.get? b=some o->b≠s.heap.objs.size:=fun b o e=>ba (Heap.lt_size e)
 have fr:cQ (envOfC qual scope s.heap.objs.size f cd::outer)=s.heap.objs.size::cQ outer:=rfl;have stay:∀ b o,s1.heap.get? b=some o->b≠s.heap.objs.size->b∉cQ outer->h'.get? b=some o:=fun b o e h1 h2=>fl.1 b o (gj _ e (by
  rw[fr];intro z;rcases iy.mp z with z | z
  ·exact h1 z
  ·exact h2 z))
 have fslot:∀ b o,s1.heap.get? b=some o->b∈cQ outer->∃ sl,h'.get? b=some { o with slots:=sl }:=fun b o e hb=>by
  obtain⟨_,o',e',hd⟩:=hst.mem (b:=b) (show b∈s.heap.objs.size::cQ outer from ah _ hb);rw[e] at e';cases e';exact uts b o (kp b o e) hd
 have bs:=I.base;have nofr:∀ b,H1 b≠none->b≠s.heap.objs.size/\b∉cQ outer:=fun b hb=>by
  have:=I.stkFree;refine⟨fun z=>hb (this b (show b∈s.heap.objs.size::cQ outer by rw[z];exact ak)),fun z=>hb (this b (show b∈s.heap.objs.size::cQ outer from ah _ z))⟩
 refine⟨⟨fun b o e n hf _=>?_,fun b o e n hf _=>?_,fun b o e n _=>bs.free b o e n (by simp[bX]),fun b o e _=>?_,bs.tups,bs.frzs,bs.tbls⟩,lr I.hok fun b o hb e=>stay b o e (nofr b hb).1 (nofr b hb).2,fun b o e=>?_⟩
 ·exact stay b o (bs.keep b o e n hf (by simp[bX])) (L0 b o e) hf
 ·obtain⟨sl,e1⟩:=bs.slot b o e n hf (by simp[bX]);obtain⟨sl',e2⟩:=fslot b _ e1 hf;exact⟨sl',e2⟩
 ·obtain⟨o1,e1⟩:=bs.there b o e (by simp[bX]);by_cases hf:b∈cQ outer
  ·obtain⟨sl',e2⟩:=fslot b _ e1 hf;exact⟨_,e2⟩
  ·exact⟨o1,stay b o1 e1 (L0 b o e) hf⟩
 ·by_cases hf:b∈cQ outer
  ·exact .inl hf
  ·cases e1:s1.heap.get? b with
   |none =>
    refine .inr (.inr ⟨?_,?_⟩)
    ·cases e0:s.heap.get? b with
     |none=>rfl
     |some o0 =>
      obtain⟨o1,e2⟩:=bs.there b o0 e0 (by simp[bX]);rw[e1] at e2;cases e2
    ·cases e0:H1 b with
     |none=>rfl
     |some u =>
      obtain⟨ob,e2⟩:=cJ.live' (I.hok b u e0);rw[e1] at e2;cases e2
   |some o1 =>
    by_cases hL:b=s.heap.objs.size
    ·refine .inr (.inr ⟨?_,?_⟩)
     ·rw[hL];cases e0:s.heap.get? s.heap.objs.size with
      |none=>rfl
      |some o0=>exact absurd rfl (L0 _ _ e0)
     ·cases e0:H1 b with
      |none=>rfl
      |some u=>exact absurd hL (nofr b (by rw[e0];simp)).1
    ·have:=stay b o1 e1 hL hf;rw[e] at this;cases this;refine .inr (.inl (gj _ e1 ?_));rw[fr];intro z;rcases iy.mp z with z | z
     ·exact hL z
     ·exact hf z
theorem vK {x:Str}{P:Program}{w:World}{K:PySem.W.Frag}{mg:Str->Option Value}{base:Heap}{N:List Str}{qual:Str}{scope:Scope}{f:Addr}{cd:Value}{A:Around}{outer:List Env}{s:Shared}{H:Hp}{E:XK}
  {pins:List (Addr×Obj)}{σ:L2.St}{H1:Hp}{s1:Shared}{h2:Heap}{tk:Nat}{a t1 dx C:Addr}{n:Nat}{u:Tok}(I:Inv (bX (kI x P w) P w K mg base N qual scope f cd A outer s H E) pins σ H1 s1) (hna:s1.heap.get? a=none) (he:h2.get? a=some (Bv C t1 dx))
  (hm:∃ m,h2.Ns dx m/\m x=some (.int n u)) (hdx:s1.heap.get? dx=none) (kp:∀ b o,s1.heap.get? b=some o->h2.get? b=some o) (hE:E (.ref C) (some n) H1):(bX (kI x P w) P w K mg base N qual scope f cd A outer s H E).xe (.ref a) { s1 with heap:=h2,toks:=tk }:=by
 have hst:=I.stack;have hin:∀ env∈(envOfC qual scope s.heap.objs.size f cd::outer),∀ b,env.frame=some b->b∈cQ (envOfC qual scope s.heap.objs.size f cd::outer):=fun env he b hb=>List.mem_filterMap.mpr ⟨env,he,hb⟩
 have hid:∀ b,s1.heap.get? b=none->(PySem.W.hideAll s1.heap (cQ (envOfC qual scope s.heap.objs.size f cd::outer))).get? b=none:=fun b hb=>by
  cases z:(PySem.W.hideAll s1.heap (cQ (envOfC qual scope s.heap.objs.size f cd::outer))).get? b with
  |none=>rfl
  |some o=>have:=ik _ z;rw[hb] at this;cases this
 show wpAny (model P w) (A.deeper (envOfC qual scope s.heap.objs.size f cd)) (leaving (envOfC qual scope s.heap.objs.size f cd) (.ref a)) _ _ _;refine D3 (base:=PySem.W.hideAll s1.heap (cQ (envOfC qual scope s.heap.objs.size f cd::outer))) (s:={ s1 with heap:=h2,toks:=tk }) (outer:=outer) I.ok.frames ((PySem.W.funFrames_hide hst hin).of_keeps fun b o hb _=>⟨o,kp b o hb,rfl⟩) rfl he
  (fun b o q=>kp b o (ik _ q)) (hid a hna) rfl rfl rfl fun h' fl uts dc=>?_
 obtain⟨r1,r2,r3⟩:=uX I kp fl uts;obtain⟨m,m1,m2⟩:=hm;refine⟨a,.ref C,.ref t1,H1,_,n,rfl,I.os,I.bare,r1,r2,fl,r3,⟨dx,m,u,dc,uts.ns m1,m2,hid dx hdx,fun z=>?_⟩,hE⟩;obtain⟨_,o,e1,_⟩:=hst.mem (b:=dx) (show dx∈s.heap.objs.size::cQ outer from ah _ z);rw[hdx] at e1;cases e1
end
inductive Rb where
 | fin (cs:bJ)
 | seq (cs:bJ) (c:Ex) (n:Nat) (r:Rb)
section
variable {X:Cx}{S:Sc}{T:Tb}{W:Nat->Hp->Prop}
end
section
variable {p:Pg}{P:Program}{w:World}{K:Frag}{mg:Str->Option Value}{base:Heap}
def spX (K:Frag)(n:Nat)(C:Addr)(f:List D->Option ((D×Bool) ⊕ Nat)):Sp:=fun vs H Q E=>∃ ds G,ds.length=n/\aI K H ds vs G/\(match f ds with
 | some (.inl (d,fr))=>∀ v H' G',aJ H H'->Rep K H' d v G'->(∀ a∈G',H a=none\/a∈G)->(fr=true->G'.Nodup/\∀ a∈G',H a=none/\∃ vs:ML,H' a=some vs.o)->Q v H'
 | some (.inr k)=>∀ H',aJ H H'->E (.ref C) (some k) H'
 |none=>False)
theorem BA {n:Nat}{C:Addr}{f:List D->Option ((D×Bool) ⊕ Nat)}{vs:List V}{H:Hp}{Q:VK}{E:XK}(h:spX K n C f vs H Q E):vs.length=n:=by
 obtain⟨ds,G,h1,h2,_⟩:=h;rw[<-h1,h2.len]
end
noncomputable def uJ (K:PySem.W.Frag)(C:Addr):Bool:=jV K C&&(match K.lookup C with
 |some ⟨_,_,.cls cd,_⟩=>cd.mro.tail.contains (.type "BaseException")
 |_=>false)
theorem xJ {K:PySem.W.Frag}{h:Heap}{D:Addr}(kin:K.In h)(q:uJ K D=true) :
  ∃ bm N nm qn bs hdct sn sub ab col dd k0 k1 k2 k3 k5 newId,h.get? D=some (excClassObj nm qn D N bs bm hdct sn sub ab col dd k0 k1 k2 k3 k5 newId)/\bm.contains (.type "BaseException")=true:=by
 unfold uJ at q;rw[aj] at q;obtain⟨bm,N,nm,qn,bs,hdct,sn,sub,ab,col,dd,k0,k1,k2,k3,k5,newId,hD⟩:=jM kin q.1;refine⟨bm,N,nm,qn,bs,hdct,sn,sub,ab,col,dd,k0,k1,k2,k3,k5,newId,hD,?_⟩;have q2:=q.2;split at q2
 ·rename_i ho;have:=kin _ _ ho;rw[hD] at this;injection this with this
  injection this with _ _ hdat _
  injection hdat with hdat
  subst hdat;exact q2
 ·cases q2
theorem yX {K:PySem.W.Frag}{h:Heap}{C D N:Addr}{nm q:Str}{bs bm:List Value}{hdct:Bool}{sn:List Str}{sub:List Value}{ab:Bool}{col:Option Bool}{dd:Option Addr}{k0 k1 k2 k3 k5:Option Value}{newId:String}(kin:K.In h)
  (hC:h.get? C=some (excClassObj nm q C N bs bm hdct sn sub ab col dd k0 k1 k2 k3 k5 newId)) (ho:dF K C D=true):(Value.ref C::bm).contains (.ref D)=true:=by
 unfold dF at ho;split at ho
 ·rename_i hl;have:=kin _ _ hl;rw[hC] at this;injection this with this
  injection this with _ _ hdat _
  injection hdat with hdat
  subst hdat;exact ho
 ·cases ho
section
variable {X:Cx}{pins:List (Addr×Obj)}{σ:L2.St}{H:Hp}{s:Shared}{D:Ends}{x:Str}{W:Value->Nat->Hp->Prop}
noncomputable def k9 (x:Str)(X:Cx)(pins:List (Addr×Obj))(σ:L2.St)(W:Value->Nat->Hp->Prop)(e:Value)(s1:Shared):Prop :=
 ∃ H0 s0 a C a0 H' B n,Inv X pins σ H0 s0/\e = .ref a/\s1.os=s0.os/\AllBare s1.gens/\zx X H0 H' s0 B s1.heap/\Heap.FlyingW B X.stack a C a0 s1.heap/\FF x B (cQ X.stack) s1.heap a n/\W C n H'
theorem nX {RP:Around->Prop}{f:Addr}{fd:FuncData}{ps:List Str}{sp:Sp}{dvs:List V}{ds:List Value}{y:Str}{p pos:Pos}{e:Expr}{es:List Expr}{t:TA}{Q:VK}(F:cZ X.prog X.w X.K X.mg X.base (kI x X.prog X.w) RP f fd ps sp)(hr:RP X.A)(hg:Gl X y)(hm:X.mg y=some (.ref f))(hk:PySem.W.keepIn X.K (.ref f)=true)(hb:Binds X.K fd ps ds)(hd:aM dvs ds)
  (I:Inv X pins σ H s) (ha:PA X.nox (e::es) t) (h:t σ H fun vs H1=>sp (vs++dvs) H1 Q (fun C o H'=>∃ n,o=some n/\W C n H')) (hdb:(y==("__debug__" : Str))=false:=by decide)
  (he:starEach (e::es) X.env=(false,eval e X.env)::starEach es X.env:=by rfl) (hpl:(backTo pos (starEach es X.env)).any (·.1)=false:=by rfl) :
  wpAny (model X.prog X.w) X.A (eval (.Call (.Name y p) (e::es) [] pos) X.env) (EP X pins σ Q) (k9 x X pins σ W) s:=by
 refine wpAny_Call_Name_kw (dU I hg hm ?_ hdb);refine f9 (h₀:=X.base) I.ok.mod.kin hk (wpAny_mono (ha pos pins s σ H _ (I.wish _) h) (fun us s1 ⟨vs,H1,I1,r,q⟩=>⟨I1.unwish.kIn,?_⟩) fun _ _ z=>False.elim z) he hpl;have I:=I1.unwish;have r2:aM (vs++dvs) (us++ds):=r.append hd;have hl:(us++ds).length=ps.length:=by rw[<-r2.length];exact F.len _ _ _ _ q
 refine wpAny_call (codeAny_mono (F.run X.A X.stack s1 H1 ⟨us,[]⟩ (us++ds) (vs++dvs) Q _ hr I.env0 (hb s1 us I.kIn hl) r2 q) fun r s' hq=>?_);cases r with
 |error e =>
  have hq:kI x X.prog X.w X.stack H1 s1 (fun C o H'=>∃ n,o=some n/\W C n H') e s':=hq;obtain⟨a,C,a0,H',B,n,e1,e2,e3,e4,e5,e6,e7,e8,n',e9,e10⟩:=hq;cases e9;exact⟨H1,s1,a,C,a0,H',B,n,I,e1,e2,e3,⟨e4,e5,e7⟩,e6,e8,e10⟩
 |ok fl =>
  cases fl with
  |ret u=>exact I.after hq
  |next=>exact False.elim hq
  |brk=>exact False.elim hq
  |cont=>exact False.elim hq
theorem uP {E':Value->Shared->Prop}{e:Expr}{pos:Pos}{Q:VK}(I:Inv X pins σ H s)(h:wpAny (model X.prog X.w) X.A (eval e X.env) (EP X pins σ Q) E' s)(hq:∀ v H',Q v H'->D.nx σ H')(hs:swapsWith e none pos.line X.env=pure false:=by rfl) :
  wpAny (model X.prog X.w) X.A (execs [.Expr e pos] X.env) (SP X pins D) E' s:=by
 refine wpAny_execs_cons (wpAny_mono (Q:=SP X pins D) (wpAny_Expr_any (wpAny_mono h (fun v s1 ⟨x,H1,I1,r1,q1⟩=>⟨σ,H1,I1,hq x H1 q1⟩) fun _ _ z=>z) I.quiet hs) (fun f s1 q=>?_) fun _ _ z=>z);cases f with
 |next=>exact wpAny_execs_nil q
 |ret v=>exact q
 |brk=>exact q
 |cont=>exact q
noncomputable abbrev pH (X:Cx)(dx:Addr)(od:Obj):Cx:={ X with pn:=(dx,od)::X.pn }
theorem zV {dx:Addr}{od:Obj}(I:Inv X pins σ H s)(hp:s.heap.get? dx=some od/\H dx=none/\dx≠X.env.locals/\dx∉X.fs/\∀ v,od.data≠.cell v):Inv (pH X dx od) pins σ H s :=
 ⟨⟨I.ok.mod,I.ok.kind,I.ok.glob,I.ok.blt,I.ok.above,I.ok.inj,I.ok.has,I.ok.cab,I.ok.hd,I.ok.frames,I.ok.stk,I.ok.exf,I.ok.bs,I.ok.bsz,I.ok.noex,I.ok.exfs,I.ok.funs,I.ok.frf⟩,I.os,I.bare,I.base,I.loc,I.cell,I.free,I.freeC,fun p hq=>by
  rcases iy.mp hq with rfl | hq
  ·exact hp
  ·exact I.pin p hq,I.hok,I.len⟩
theorem jb {dx:Addr}{od:Obj}(I:Inv (pH X dx od) pins σ H s)(ok:X.Ok):Inv X pins σ H s:=⟨ok,I.os,I.bare,I.base,I.loc,I.cell,I.free,I.freeC,fun p hp=>I.pin p (ah _ hp),I.hok,I.len⟩
theorem Bc (hs:X.stack=X.env::X.outer)(hf:X.env.frame=some X.env.locals)(ok:X.Ok){body:List Stmt}{y n:Str}{i:Nat}{Cd:Addr}{np hp pos:Pos}{b₀:Stmt}{suite:List Stmt}{ts:Addr->Nat->TS}(hN:X.N.Nodup)(hi:X.N[i]? = some n)(hk:X.env.scope.names.lookup n=some .local)
  (hg:Gl X y) (hm:X.mg y=some (.ref Cd)) (qD:uJ X.K Cd=true)
  (hsu:∀ a o dx od C k H',W C k H'->o.cls=C->(∃ vs,o.data = .fields vs)->o.dict=some dx->(∃ m u,(∀ h:Heap,h.get? dx=some od->h.Ns dx m)/\m x=some (.int ((k:Nat):Int) u))->iZ (hZ (pH X dx od) a o) (b₀::suite) (ts a k))
  (hw:∀ C k H',W C k H'->(∃ c,C = .ref c/\jV X.K c=true/\dF X.K c Cd=true)/\∀ a,ts a k (oY D i) (σ.set i (some (.ref a))) H') (hd:(y==("__debug__" : Str))=false:=by decide)
  (hb:wpAny (model X.prog X.w) X.A (execs body X.env) (SP X pins D) (k9 x X pins σ W) s) :
  wpAny (model X.prog X.w) X.A (exec (.Try body [.ExceptHandler (some (.Name y np)) (some n) (b₀::suite) hp] [] [] pos) X.env) (SP X pins D) X.xe s:=by
 refine wpAny_Try_except (wpAny_mono hb (fun f s1 h1=>?_) fun e s1 h1=>?_)
 ·cases f with
  |next=>exact wpAny_pure h1
  |brk=>exact h1
  |cont=>exact h1
  |ret u=>exact h1
 obtain⟨H0,s0,a,C,a0,H',B,k,I0,rfl,ho,hbr,F1,f1,at1,w1⟩:=h1;obtain⟨⟨c,rfl,qC,oC⟩,hts⟩:=hw C k H' w1;obtain⟨dx,m,u,dc1,ns1,mx,nB,nfr⟩:=at1;have f1':=f1;rw[hs] at f1';refine Cs (by rw[ok.frames,hs]) hf f1' dc1 fun h2 g2 u2 dc2=>?_
 rw[<-hs] at g2;have F2:=F1.next I0 g2.1 (cV f1) u2;refine DH g2 dc2 fun h3 f3 u3 dc3=>?_
 have F3:=F2.next I0 f3.1 (kz g2) u3;have back:∀ h,({ s1 with heap:=h }:Shared)={ s0 with heap:=h,gens:=s1.gens,drawn:=s1.drawn,toks:=s1.toks }:=fun h=>by
  cases s1;cases s0;cases ho;rfl
 have I3:Inv X pins σ H' { s1 with heap:=h3 }:=by
  rw[back];exact F3.inv I0 hbr
 refine wpAny_handleBy_cons (codeAny_handlers_test (dU (X:=markX X a) (pK I3 a ok.frames) hg hm ?_ hd)) (by intro q;cases q);obtain⟨bm',N',nm',qn',bs',hdct',sn',sub',ab',col',dd',j0,j1,j2,j3,j5,nI',hD,hB⟩:=xJ I3.kIn qD;obtain⟨bm,N,nm,qn,bs,hdct,sn,sub,ab,col,dd,k0,k1,k2,k3,k5,nI,hC⟩:=jM I3.kIn qC;obtain⟨oe,he,hcl⟩:=f3.there;refine kx hC hD he hcl hB ?_;rw[yX I3.kIn hC oC];refine codeAny_handlers_suite_as (DB f3 dc3 fun h4 f4 u4 dc4=>?_);have F4:=F3.next I0 f4.1 (cV f3) u4;have I4:Inv X pins σ H' { s1 with heap:=h4 }:=by
  rw[back];exact F4.inv I0 hbr
 have ns4:=u4.ns (u3.ns (u2.ns ns1));obtain⟨od,es,ep,hod,hdd,r4⟩:=ns4;obtain⟨o4,vs4,e5,c5,d5,_⟩:=f4.first;have dic:o4.dict=some dx:=by
  obtain⟨o',q1,q2⟩:=dc4;rw[e5] at q1;cases q1;exact q2
 have nofr:a∉cQ X.stack:=fun z=>by
  obtain⟨o',e',hd'⟩:=cV f4 a z;rw[e5] at e';cases e';exact hd' vs4 d5
 have hnone:H' a=none:=by
  rcases F4.bf a o4 e5 with z | z | z
  ·exact absurd z nofr
  ·rw[f4.2.1] at z;cases z
  ·exact z.2
 have hnone2:H' dx=none:=by
  rcases F4.bf dx od hod with z | z | z
  ·exact absurd z nfr
  ·rw[nB] at z;cases z
  ·exact z.2
 have hstk:cQ X.stack=X.env.locals::X.fs:=by
  rw[hs];unfold cQ;rw[gm,hf];rfl
 rw[hstk] at nofr nfr;have P3:Inv (pH X dx od) pins σ H' { s1 with heap:=h4 }:=zV I4 ⟨hod,hnone2,fun z=>nfr (by rw[z];exact ak),fun z=>nfr (ah _ z),fun v z=>by rw[hdd] at z;cases z⟩;have P4:Inv (hZ (pH X dx od) a o4) pins σ H' { s1 with heap:=h4 }:=nP P3 a o4 ok.frames ⟨e5,hnone,fun z=>nofr (by rw[z];exact ak),fun z=>nofr (ah _ z),fun v z=>by rw[d5] at z;cases z⟩;refine gQ (X:=hZ (pH X dx od) a o4) P4 hN hi (.inl hk) (show RelV (.ref a) (.ref a) from rfl) (fun s5 I5=>?_) (.inr hk);refine wpAny_mono (hsu a o4 dx od _ k H' w1 c5 ⟨vs4,d5⟩ dic ⟨m,u,fun h hh=>⟨od,es,ep,hh,hdd,r4⟩,mx⟩ pins s5 _ H' (oY D i) I5 (hts a)) (fun f s6 h6=>?_) fun _ _ z=>z.elim
 cases f with
 |next =>
  obtain⟨σ',H6,I6,q⟩:=h6;exact dM (jb (cC I6 P3.ok) ok) hN hi hk fun s7 I7=>⟨_,H6,I7,q⟩
 |brk =>
  obtain⟨σ',H6,I6,q⟩:=h6;exact dM (jb (cC I6 P3.ok) ok) hN hi hk fun s7 I7=>⟨_,H6,I7,q⟩
 |cont =>
  obtain⟨σ',H6,I6,q⟩:=h6;exact dM (jb (cC I6 P3.ok) ok) hN hi hk fun s7 I7=>⟨_,H6,I7,q⟩
 |ret u =>
  obtain⟨v,σ',H6,I6,r,q⟩:=h6;exact dM (jb (cC I6 P3.ok) ok) hN hi hk fun s7 I7=>⟨v,_,H6,I7,r,q⟩
end
noncomputable def bJ.app:bJ->bJ->bJ
 |.nil,b=>b
 |.cons s r,b=>.cons s (r.app b)
noncomputable def Rb.ask:Rb->bJ
 |.fin cs=>cs
 |.seq cs c n r=>cs.app (.cons (.ite c (.cons .retN .nil) .nil) r.ask)
structure AskSt (st:Stmt)(a b c t g y:Str):Prop where
 ex:∃(j1 j2:Nat) (q1 q2 q3 p1 p2 p3 p4 p5 p6 p7 p8 h1 h2 h3 h4 h5 r1 r2:Pos),aW st=[.Assign [.Name t q1] (.Constant .none j1 q2) q3,
   .Try [.Assign [.Name t p1] (.Call (.Name g p2) [.Name a p3,.Name b p4,.Name c p5] [] p6) p7] [.ExceptHandler (some (.Name y h1)) none [.Assign [.Name t h2] (.Constant .none j2 h3) h4] h5] [] [] p8,
   .Return (some (.Name t r1)) r2]
 sc:bW [a,b,c,t] [a,b,c] (aE st)
 la:(aE st).names.lookup a=some .local
 lb:(aE st).names.lookup b=some .local
 lc:(aE st).names.lookup c=some .local
 lt:(aE st).names.lookup t=some .local
 lg:(aE st).names.lookup g=some .globalImplicit
 ly:(aE st).names.lookup y=some .globalImplicit
 db:((a==("__debug__" : Str))=false/\(a==("__classdict__" : Str))=false)/\((b==("__debug__" : Str))=false/\(b==("__classdict__" : Str))=false)/\((c==("__debug__" : Str))=false/\(c==("__classdict__" : Str))=false)/\((t==("__debug__" : Str))=false/\(t==("__classdict__" : Str))=false)/\(g==("__debug__" : Str))=false/\(y==("__debug__" : Str))=false
section
variable {P:Program}{w:World}{K:Frag}{mg:Str->Option Value}{base:Heap}
end
section
variable {p:Pg}{P:Program}{w:World}{K:Frag}{mg:Str->Option Value}{base:Heap}
end
section
variable {prog:Program}{w:World}{A:Around}{E:Value->Shared->Prop}{h:Heap}{g:Array GenState}{d:Drawn}{t:Nat}{os:OsState}{a dx:Addr}{o:Obj}{vs:Array Value}{m:Str->Option Value}{x:Str}{v:Value}
 {nm q:Str}{C N:Addr}{bs bm:List Value}{sn:List Str}{sub:List Value}{ab:Bool}{col:Option Bool}{dd:Option Addr}{k0 k1 k2 k3 k5:Option Value}{newId:String}{mN:Str->Option Value}
theorem u0 {tk:Tok}{Q:Fin->Shared->Prop}(hC:h.get? C=some (excClassObj nm q C N bs bm true sn sub ab col dd k0 k1 k2 k3 k5 newId))(hN:h.Ns N mN)(hmN:∀ n∈ins x,mN n=none)(TN:iM h gA (ins x) bm)
  (hB:typeLookup (.type "ValueError") x=pure none) (hx:h.get? a=some o) (hc:o.cls = .ref C) (hda:o.data = .fields vs) (hdi:o.dict=some dx) (hn:h.Ns dx m) (hv:m x=some v) (hq:Q (.done (.ret v)) ⟨h,g,d,t,os⟩) :
  wpAny (model prog w) A (Builtin.«object.__getattribute__» ⟨[.ref a,.str x tk],[]⟩) Q E ⟨h,g,d,t,os⟩:=by
 have hmx:x∈ins x:=by simp
 repeat (any_goals (first | assumption | (with_reducible refine wpAny_loadPart_at hx ?_;rw[hc]) | with_reducible refine eT hmx hC hN hmN TN F.attrBase_ValueError.mro hB ?_ | wp_step))
 split
 ·rename_i z;rw[hda] at z;cases z
 unfold instanceDict
 repeat (any_goals (first | assumption | (with_reducible refine wpAny_loadPart_at hx ?_;rw[hc]) | with_reducible refine wpAny_loadPart_at hC ?_ | wp_step))
 rw[hdi]
 repeat (any_goals (first | assumption | (with_reducible refine wpAny_nsGet hn ?_;rw[hv]) | wp_step))
theorem Ez {tk:Tok}{fill expr:Bool}{n:Int}{u:Tok}{Q:Value->Shared->Prop}(hC:h.get? C=some (excClassObj nm q C N bs bm true sn sub ab col dd k0 k1 k2 k3 k5 newId))(hN:h.Ns N mN)(hmN:∀ n∈ins x,mN n=none)(T:OwnTail h gA bm)(TN:iM h gA (ins x) bm)
  (hB:typeLookup (.type "ValueError") x=pure none) (hx:h.get? a=some o) (hc:o.cls = .ref C) (hda:o.data = .fields vs) (hdi:o.dict=some dx) (hn:h.Ns dx m) (hv:m x=some (.int n u)) (hq:Q (.int n u) ⟨h,g,d,t,os⟩) :
  wpAny (model prog w) A (getAttrBy (.ref a) (.str x tk) fill expr) Q E ⟨h,g,d,t,os⟩:=by
 have f3:=F.attrBase_ValueError.ga.bind (.ref a);have hx0:(expr&&onTheHeap (Value.builtin "BaseException.__getattribute__"))=false:=by cases expr<;>rfl
 have hx2:(Value.builtin "BaseException.__getattribute__" == Value.builtin "object.__getattribute__")=false:=by decide +kernel
 have hx1:(onTheHeap (Value.ref C)&&Value.builtin "BaseException.__getattribute__" == Value.builtin "object.__getattribute__")=false:=by rw[hx2];rfl
 have hm1:("__getattribute__" : Str)∈ins x:=.head _;have hm2:("__getattr__" : Str)∈ins x:=.tail _ (.head _)
 repeat (any_goals (first | assumption | (with_reducible refine wpAny_loadPart_at hx ?_;rw[hc]) | with_reducible refine eT hm1 hC hN hmN TN F.attrBase_ValueError.mro F.attrBase_ValueError.ga.lookup ?_ | with_reducible refine eT hm2 hC hN hmN TN F.attrBase_ValueError.mro F.attrBase_ValueError.noGetattr ?_ | wp_step))
 refine codeAny_call_builtin F.attrBase_ValueError.ga.plain F.entry_bexc_ga (pR hC T hx hc (u0 hC hN hmN TN hB hx hc hda hdi hn hv ?_))
 repeat (any_goals (first | assumption | wp_step))
end
section
variable {X:Cx}{a dx C fI:Addr}{o od:Obj}{x:Str}{k:Nat}
def HA (i:Nat)(a:Addr)(k:Nat):TE:=fun σ H Q=>σ[i]? = some (some (.ref a))/\Q (.int k) H
theorem Ey {i:Nat}{y:Str}{p p':Pos}(q:AM X.K C (ins x) fI=true)(hB:typeLookup (.type "ValueError") x=pure none) (hc:o.cls = .ref C) (hda:∃ vs,o.data = .fields vs) (hdi:o.dict=some dx) (hns:∃ m u,(∀ h:Heap,h.get? dx=some od->h.Ns dx m)/\m x=some (.int ((k:Nat):Int) u))
  (hy:PE (hZ (pH X dx od) a o) (.Name y p) (qJ i)):PE (hZ (pH X dx od) a o) (.Attribute (.Name y p) x p') (HA i a k):=by
 intro pins s σ H Q I ⟨hi,hq⟩;refine Attribute_name (cL (hy pins s σ H (fun v H'=>v = .ref a/\H'=H) I ⟨_,hi,rfl,rfl⟩) fun v s1 ⟨v',H1,I1,r,e1,e2⟩=>?_);subst e1 e2;obtain rfl:v=Value.ref a:=r;have kin:=I1.kIn;obtain⟨bm,FI⟩:=k6 kin q;obtain⟨nm,qn,N,bs,sn,sub,ab,col,dd,k0,k1,k2,k3,k5,mN,hC,hN,hmN,hi2⟩:=FI.ex;obtain⟨vs,hda⟩:=hda;obtain⟨m,u,hns,hm⟩:=hns;have p1:=(I1.pin (a,o) (by simp)).1;have p2:=(I1.pin (dx,od) (by simp)).1;have J:=I1.tok (s1.toks+1);obtain⟨h1,g1,d1,t1,os1⟩:=s1;unfold getAttr;refine wpAny_bind (wpAny_mkText ?_);exact Ez hC hN hmN FI.tail FI.tn hB p1 hc hda hdi (hns _ p2) hm ⟨.int k,_,J,⟨u,rfl⟩,hq⟩
end
section
variable {P:Program}{w:World}{K:PySem.W.Frag}{mg:Str->Option Value}{base:Heap}{f:Addr}{fd:FuncData}{ps N:List Str}{sp:Sp}
end
section
variable {X:Cx}
end
noncomputable def bJ.asgs:bJ->Bool
 |.nil=>true
 | .cons (.asg (.nm _) _ _) r=>r.asgs
 |_=>false
noncomputable def Rb.plain:Rb->Bool
 | .fin (.cons (.ret _) .nil)=>true
 |.fin _=>false
 |.seq cs _ n r=>cs.asgs&&n==0&&r.plain
inductive Rw where
 | nil
 | st (c:St) (r:Rw)
 | ifr (c e:Ex) (r:Rw)
 | lop (t:kG) (it:qS) (b r:Rw)
inductive Rf where
 | fl (f:Fl) | rs (n:Nat)
noncomputable def vO:D->Option Nat
 | .int (.ofNat n)=>if n<2 ^ 64 then some n else none
 |_=>none
noncomputable def j4 (t:kG)(R:List Nat)(b:En->Rf):List D->En->Rf
 |[],env=>.fl (.nx env)
 |d::r,env=>match aZ R t d env with
  |none=>.fl .bad
  |some env'=>match b env' with
   | .fl (.nx e)=>j4 t R b r e
   | .fl (.ct e)=>j4 t R b r e
   | .fl (.bk e)=>.fl (.nx e)
   |x=>x
noncomputable def rsB:Rs (D×Rt)->Rf
 |.ok q=>(match vO q.1 with
  |some n=>.rs n
  |none=>.fl .bad)
 |_=>.fl .bad
noncomputable def unB (R:List Nat)(env:En)(k:En->Rf):Rf->Rf
 | .fl (.nx e)=>k (unlock R env e)
 |x=>x
noncomputable def kJ (T:Tb):Rw->En->Rf
 |.nil,env=>.fl (.nx env)
 |.st c r,env=>match aV T c env with
  |.nx e=>kJ T r e
  |f=>.fl f
 |.ifr c e r,env=>match ev T c env with
  |.ok p=>(match truth p.1 with
   |some true=>rsB (ev T e env)
   |some false=>kJ T r env
   |none=>.fl .bad)
  |_=>.fl .bad
 |.lop t it b r,env=>match eX T it env with
  |.ok p=>unB p.2 env (kJ T r) (j4 t p.2 (kJ T b) p.1 (lock p.2 env))
  |_=>.fl .bad
noncomputable def eA (K:Frag)(P Z:Addr->Prop)(env:En)(F:Nat->List Addr)(H:Hp)(D:Ends)(W:Nat->Hp->Prop):Rf->Prop
 |.fl f=>post K P Z env F H D f
 |.rs n=>∀ H',jq P H H'->W n H'
theorem eA.trans {K:Frag}{P Z:Addr->Prop}{e1 e2:En}{F1 F2:Nat->List Addr}{H1 H2:Hp}{σ2:L2.St}{D:Ends}{W:Nat->Hp->Prop}(a:After K P Z e1 F1 H1 e2 σ2 H2 F2):∀{f:Rf},eA K P Z e1 F1 H1 D W f->eA K P Z e2 F2 H2 D W f
 |.fl _,h=>post.trans a h
 |.rs _,h=>fun H' e=>h H' (a.ev.trans e)
def tB (K:Frag)(T:Tb)(W:Nat->Hp->Prop)(r:Rw):TS:=fun D σ H=>∃ P Z env F,RE K P env σ H F/\(∀ i,∀ a∈F i,Z a)/\(∀ a,¬ P a->Z a)/\eA K P Z env F H D W (kJ T r env)
noncomputable def DU (y:Str):List Stmt->Option Expr
 | [.Raise (some (.Call (.Name y' _) [e] [] _)) none _]=>if y'=y then some e else none
 |_=>none
noncomputable def hasR (y:Str)(b:List Stmt):Bool:=b.any fun s=>match s with
 |.If _ a _ _=>(DU y a).isSome
 |_=>false
noncomputable def cB (m:Nat)(S:Sc)(y:Str):Nat->List Stmt->Option Rw
 |0,_=>none
 |_+1,[]=>some .nil
 |n+1,st::rest=>(cB m S y n rest).bind fun r=>match st with
  |.If e a b _=>(match DU y a with
   |some x=>if b.isEmpty then (cE m S e).bind fun c=>(cW (cE m S) [x]).bind fun cs=>(match cs with
    |.cons ce .nil=>some (.ifr c ce r)
    |_=>none) else none
   |none=>(cS m S st).map fun c=>.st c r)
  |.For tg iter b oe _=>if hasR y b then (if oe.isEmpty&&gE iter then (rD S tg).bind fun t=>(C1 S (cE m S) (isTup tg) iter).bind fun it=>(cB m S y n b).map fun cb=>.lop t it cb r else none) else (cS m S st).map fun c=>.st c r
  |_=>(cS m S st).map fun c=>.st c r
section
variable {X:Cx}{S:Sc}{T:Tb}{W:Nat->Hp->Prop}
theorem PA.nox {es:List Expr}{t:TA}(h:PA X.nox es t):PA X es t:=fun pos pins s σ H Q I hw =>
 wpAny_mono (h pos pins s σ H Q (I.wish _) hw) (fun us s1 ⟨vs,H1,I1,r,q⟩=>⟨vs,H1,I1.unwish,r,q⟩) fun _ _ z=>z.elim
theorem PG.nox {e:Expr}{t:TG}(h:PG X.nox e t):PG X e t:=fun pins s σ H v u Q I r hw =>
 wpAny_mono (h pins s σ H v u Q (I.wish _) r hw) (fun us s1 ⟨σ1,H1,I1,q⟩=>⟨σ1,H1,I1.unwish,q⟩) fun _ _ z=>z.elim
theorem PI.nox {tg e:Expr}{t:TI}(h:PI X.nox tg e t):PI X tg e t:=fun pins s σ H R I hw =>
 wpAny_mono (h pins s σ H R (I.wish _) hw) (fun v s1 h1=>wpAny_mono h1 (fun itv s2 ⟨it,fp,tn,J,H',e1,I2,T2,e2,e3,e4⟩=>⟨it,fp,tn,J,H',e1,I2.unwish,T2,e2,e3,e4⟩) fun _ _ z=>z.elim) fun _ _ z=>z.elim
theorem kS {t:kG}{R:List Nat}{b:En->Rf}:∀(ds:List D) (env:En),(∀ e,j4 t R b ds env≠.fl (.bk e))/\∀ e,j4 t R b ds env≠.fl (.ct e)
 |[],env=>⟨fun e z=>(by cases z),fun e z=>(by cases z)⟩
 | d::ds,env=>by
  unfold j4;cases aZ R t d env with
  |none=>exact⟨fun e z=>(by cases z),fun e z=>(by cases z)⟩
  |some env' =>
   simp only;cases b env' with
   |rs n=>exact⟨fun e z=>(by cases z),fun e z=>(by cases z)⟩
   |fl f=>cases f with
    |nx e'=>exact kS ds e'
    |ct e'=>exact kS ds e'
    |bk e'=>exact⟨fun e z=>(by cases z),fun e z=>(by cases z)⟩
    |rt d fr=>exact⟨fun e z=>(by cases z),fun e z=>(by cases z)⟩
    |xc x e'=>exact⟨fun e z=>(by cases z),fun e z=>(by cases z)⟩
    |bad=>exact⟨fun e z=>(by cases z),fun e z=>(by cases z)⟩
def tLr (K:Frag)(T:Tb)(W:Nat->Hp->Prop)(t:kG)(it:qS)(b:Rw):TS:=fun D σ H=>∃ P Z env F,RE K P env σ H F/\(∀ i,∀ a∈F i,Z a)/\(∀ a,¬ P a->Z a)/\∃ p,eX T it env = .ok p/\eA K P Z env F H D W (unB p.2 env (fun e=>.fl (.nx e)) (j4 t p.2 (kJ T b) p.1 (lock p.2 env)))
theorem C7 {tg iter:Expr}{t:kG}{it:qS}{b:List Stmt}{cb:Rw}{pos:Pos}(hp:PassesOwn (model X.prog X.w) X.A X.env X.xe)(hc:X.calm=true)(hi:PI X tg iter (tI X.K T it))(hg:PG X tg (pQ X.K t))(hb:iZ X b (tB X.K T W cb))(hs:∀ x,foldedSetIterable iter X.env x=pure x) :
  PS X (.For tg iter b [] pos) (tLr X.K T W t it cb):=by
 refine cY (y6 hp hc hi hg hb hs) fun D σ H ⟨P,Z,env,F,re,hz,zp,p,hp,h⟩=>?_
 refine⟨P,env,F,re,p,hp,fun J H1 G s1 rt nn wk=>?_⟩;have af1:=After.same (Z:=Z) re hz s1;have h:=eA.trans af1 h;let P':Addr->Prop:=fun a=>P a\/a∈G
 have wk:=wk P' fun a ha=>.inr ha
 have seen:∀ a∈G,∀(i:Nat) (d:Pc.D) (t:Tg),env[i]? = some (some (d,t))->bD t=true->a∈F i->i∈p.2:=fun a ha i d t e o m=>by
  rcases rt.cont a ha with q | ⟨k,d2,t2,f,e2,sr⟩
  ·exact absurd q (re.nn e m)
  ·exact sr i ((re.one i d t e o).2.2 a m k d2 t2 e2 f)
 have reL:RE X.K P' (lock p.2 env) σ H1 F:=af1.re.locked nn seen;have gz:∀ a∈G,Z a:=Ar re hz zp rt;have stepP:∀{f:Rf},(∀ e,f≠.fl (.bk e))->(∀ e,f≠.fl (.ct e))->eA X.K P Z env F H1 D W (unB p.2 env (fun e=>.fl (.nx e)) f)->eA X.K P' Z (lock p.2 env) F H1 D W f:=fun {f} nb nc h=>by
  cases f with
  |rs n=>exact fun H' ev=>h H' (ev.weak fun _ q=>.inl q)
  |fl f=>cases f with
   |nx e=>exact fun σ' H' F' af=>h σ' H' F' (af.unlocked af1.re)
   |bk e=>exact absurd rfl (nb e)
   |ct e=>exact absurd rfl (nc e)
   |rt d fr=>exact fun v H' G' rp ev z f=>h v H' G' rp (ev.weak fun _ q=>.inl q) z fun w=>⟨(f w).1,fun a ha=>⟨fun q=>((f w).2 a ha).1 (.inl q),((f w).2 a ha).2⟩⟩
   |xc x e=>exact h
   |bad=>exact h
 have h:=stepP (kS _ _).1 (kS _ _).2 h;have zpL:∀ a,¬ P' a->Z a:=fun a ha=>zp a fun q=>ha (.inl q)
 refine⟨fun i m σ' H'=>m=p.1.length - i/\i<=p.1.length/\∃ env' F',After X.K P' Z (lock p.2 env) F H1 env' σ' H' F'/\eA X.K P' Z env' F' H' D W (j4 t p.2 (kJ T cb) (p.1.drop i) env'),⟨p.1.length,by simp,Nat.zero_le _,lock p.2 env,F,After.same reL hz (aJ.refl _),h⟩,?_⟩;rintro i m σ2 H2 ⟨rfl,hi,env2,F2,af2,h2⟩;obtain⟨w1,w2⟩:=wk H2 af2.ev;by_cases hlt:i<p.1.length
 ·right;have hd:p.1[i]? = some p.1[i]:=by simp[hlt]
  obtain⟨g1,g2⟩:=w1 i _ hd;refine⟨g1,fun σ' H'=>∃ env' F',After X.K P' Z (lock p.2 env) F H1 env' σ' H' F'/\eA X.K P' Z env' F' H' D W (j4 t p.2 (kJ T cb) (p.1.drop (i+1)) env'),fun σ' H' q=>⟨p.1.length - (i+1),by omega,rfl,hlt,q⟩,fun x H3 y=>?_⟩;obtain⟨s3,G3,rp3,sub3⟩:=g2 x H3 y;have af3:=After.same (Z:=Z) af2.re af2.z s3;have h2:=eA.trans af3 h2;rw[fh hlt] at h2;unfold j4 at h2;cases hb:aZ p.2 t p.1[i] env2 with
  |none=>rw[hb] at h2;exact h2.elim
  |some env4 =>
   rw[hb] at h2;refine lz af3.re af2.z rp3 (fun a ha=>gz a (sub3 a ha)) (fun a ha j d' t' ej o m=>?_) hb fun σ4 F4 re4 z4 lk4=>?_
   ·cases t' with
    |own=>exact absurd (.inr (sub3 a ha)) (af2.re.wr j d' ej a m)
    |lk =>
     obtain⟨e5,e6⟩:=af2.lk j d' ej;rw[e6] at m;obtain⟨t0,e0,o0,_⟩:=eO e5;exact seen a (sub3 a ha) j d' t0 e0 (o0.trans o) m
    |sh Q=>cases o
   ·have af4:After X.K P' Z env2 F2 H3 env4 σ4 H3 F4:=⟨re4,z4,jq.refl _,lk4⟩;refine⟨P',Z,env4,F4,re4,z4,zpL,?_⟩;have h2:=eA.trans af4 h2;have all:=(af2.trans af3).trans af4;cases hs:kJ T cb env4 with
    |rs n=>simp only[hs] at h2;exact h2
    |fl f=>cases f with
     |nx e'=>simp only[hs] at h2;exact fun σ' H' F' af5=>⟨e',F',all.trans af5,eA.trans af5 h2⟩
     |ct e'=>simp only[hs] at h2;exact fun σ' H' F' af5=>⟨e',F',all.trans af5,eA.trans af5 h2⟩
     |bk e'=>simp only[hs] at h2;exact h2
     |rt d fr=>simp only[hs] at h2;exact h2
     |xc x e'=>simp only[hs] at h2;exact h2
     |bad=>simp only[hs] at h2;exact h2
 ·left;have e:i=p.1.length:=by omega
  subst e;rw[h9] at h2;exact⟨w2,h2 σ2 H2 F2 (After.same af2.re af2.z (aJ.refl _))⟩
theorem wI {y:Str}{a:List Stmt}{x:Expr}(h:DU y a=some x):∃ p1 p3 p4,a=[.Raise (some (.Call (.Name y p1) [x] [] p3)) none p4]:=by
 cases a with
 |nil=>cases h
 |cons s r=>cases s with
  |Raise e c p4=>cases e with
   |none=>cases h
   |some e=>cases e with
    |Call f as ks p3=>cases f with
     |Name y' p1=>cases as with
      |nil=>cases h
      |cons a q=>cases q with
       |cons _ _=>cases h
       |nil=>cases ks with
        |cons _ _=>cases h
        |nil=>cases c with
         |some _=>cases h
         |none=>cases r with
          |cons _ _=>cases h
          |nil =>
           have h:(if y'=y then some a else none)=some x:=h;by_cases z:y'=y
           ·rw[if_pos z] at h;cases h;subst z;exact⟨_,_,_,rfl⟩
           ·rw[if_neg z] at h;cases h
     |_=>cases h
    |_=>cases h
  |_=>cases h
theorem xg {d:D}{k:Nat}(h:vO d=some k):d = .int (k:Int)/\k<2 ^ 64:=by
 unfold vO at h;split at h
 ·split at h
  ·rename_i z;cases h;exact⟨rfl,z⟩
  ·cases h
 ·cases h
theorem yQ {y:Str}{m:Nat}(C:qq X.nox S T)(hp:PassesOwn (model X.prog X.w) X.A X.env X.xe)(hc:X.calm=true)
  (hr:∀ x cs p1 p3 p4,cW (cE m S) [x]=some cs->PS X (.Raise (some (.Call (.Name y p1) [x] [] p3)) none p4) (fun D σ H=>rj X.K T cs σ H fun vs H'=>∃ n:Nat,vs=[.int n]/\n<2 ^ 64/\W n H')) :
  ∀(n:Nat) (l:List Stmt) (r:Rw),cB m S y n l=some r->iZ X l (tB X.K T W r)
 |0,l,r,h=>by cases h
 | n+1,[],r,h=>by
  cases h;exact i8 kO fun D σ H ⟨P,Z,env,F,re,hz,zp,h⟩=>h σ H F (After.same re hz (aJ.refl _))
 | n+1,st::l,r,h=>by
  unfold cB at h;obtain⟨r1,h1,h2⟩:=ae.mp h;clear h;have ih:=yQ C hp hc hr n l r1 h1;have gen:∀{c:St},cS m S st=some c->iZ X (st::l) (tB X.K T W (.st c r1)):=fun {c} hcs=>by
   refine i8 (eP (PS.nox ((BV C m).1 _ _ hcs)) ih) fun D σ H ⟨P,Z,env,F,re,hz,zp,h⟩=>⟨P,Z,env,F,re,hz,zp,?_⟩
   unfold kJ at h;cases hs:aV T c env with
   |nx env' =>
    rw[hs] at h;exact fun σ' H' F' af=>⟨P,Z,env',F',af.re,af.z,zp,eA.trans af h⟩
   |bk env'=>rw[hs] at h;exact h
   |ct env'=>rw[hs] at h;exact h
   |rt d fr=>rw[hs] at h;exact h
   |xc e env'=>rw[hs] at h;exact h
   |bad=>rw[hs] at h;exact h
  split at h2
  ·rename_i e a b pos;split at h2
   ·rename_i x hx;obtain⟨p1,p3,p4,rfl⟩:=wI hx;split at h2
    ·rename_i hb;obtain⟨c,hcc,h2⟩:=ae.mp h2;obtain⟨cs,hcs,h2⟩:=ae.mp h2;split at h2
     ·rename_i ce;cases h2;rw[List.isEmpty_iff] at hb;subst hb;refine i8 (eP (xF (PT.nox (dH m C.c _ _ hcc).2) (fX (hr x _ p1 p3 p4 hcs)) kO) ih) fun D σ H ⟨P,Z,env,F,re,hz,zp,h⟩=>?_
      unfold kJ at h;cases hev:ev T c env with
      |exc x=>rw[hev] at h;exact h.elim
      |bad=>rw[hev] at h;exact h.elim
      |ok p =>
       rw[hev] at h;dsimp only at h;cases ht:truth p.1 with
       |none=>rw[ht] at h;exact h.elim
       |some b =>
        rw[ht] at h;refine⟨P,env,F,re,p,b,hev,ht,fun H' sm=>?_⟩;have af2:=After.same (Z:=Z) re hz sm;cases b with
        |false=>exact⟨P,Z,env,F,af2.re,af2.z,zp,eA.trans af2 h⟩
        |true =>
         dsimp only at h;cases hq:ev T ce env with
         |exc x=>rw[hq] at h;exact h.elim
         |bad=>rw[hq] at h;exact h.elim
         |ok q =>
          rw[hq] at h;unfold rsB at h;dsimp only at h;cases hn:vO q.1 with
          |none=>rw[hn] at h;exact h.elim
          |some k =>
           rw[hn] at h;obtain⟨e1,e2⟩:=xg hn;refine⟨P,env,F,af2.re,[q],by unfold aX;rw[hq];unfold aX;rfl,fun vs H2 G ar=>?_⟩;have rp:=ar.reps;obtain⟨v,rfl,rv⟩:=(show aI X.K H2 [q.1] vs G from rp).of1;rw[e1] at rv;obtain⟨rfl,_⟩:=rv.int_inv;exact⟨k,rfl,e2,h H2 (After.same (Z:=Z) re hz (sm.trans ar.same)).ev⟩
     ·cases h2
    ·cases h2
   ·obtain⟨c,hcc,rfl⟩:=aa.mp h2;exact gen hcc
  ·rename_i tg iter b oe pos;split at h2
   ·split at h2
    ·rename_i hs;rw[aj,List.isEmpty_iff] at hs;obtain⟨rfl,hs⟩:=hs;obtain⟨t,ht,h2⟩:=ae.mp h2;obtain⟨it,hit,h2⟩:=ae.mp h2;obtain⟨cb,hcb,rfl⟩:=aa.mp h2;refine i8 (eP (C7 hp hc (PI.nox (zl C.c (dH m C.c) hit)) (PG.nox (sd C.c ht)) (yQ C hp hc hr n b cb hcb) (pe hs)) ih) fun D σ H ⟨P,Z,env,F,re,hz,zp,h⟩=>?_
     unfold kJ at h;cases hev:eX T it env with
     |exc x=>rw[hev] at h;exact h.elim
     |bad=>rw[hev] at h;exact h.elim
     |ok p =>
      rw[hev] at h;refine⟨P,Z,env,F,re,hz,zp,p,hev,?_⟩;dsimp only at h;cases hf:j4 t p.2 (kJ T cb) p.1 (lock p.2 env) with
      |rs k=>rw[hf] at h;exact h
      |fl f =>
       rw[hf] at h;cases f with
       |nx e=>exact fun σ' H' F' af=>⟨P,Z,_,F',af.re,af.z,zp,eA.trans af h⟩
       |bk e=>exact h
       |ct e=>exact h
       |rt d fr=>exact h
       |xc x e=>exact h
       |bad=>exact h
    ·cases h2
   ·obtain⟨c,hcc,rfl⟩:=aa.mp h2;exact gen hcc
  ·obtain⟨c,hcc,rfl⟩:=aa.mp h2;exact gen hcc
end
noncomputable def Dq:Rf->Option ((D×Bool) ⊕ Nat)
 | .fl (.rt d fr)=>some (.inl (d,fr))
 | .fl (.nx _)=>some (.inl (.non,true))
 |.rs n=>some (.inr n)
 |_=>none
section
variable {p:Pg}{P:Program}{w:World}{K:Frag}{mg:Str->Option Value}{base:Heap}
theorem Ac {fo:List Str}{n m m2:Nat}{d:Df}{rb:Rw}{S x y qual:Str}{C cS fI f:Addr}{fd fdI:FuncData}{stI:Stmt}(hp:∀ d∈p.dfs,d.OkX p fo)(hi:p.In K mg)(hh:vT w K)(ih:lU p P w K mg base n)(Sc:bW d.N d.ps (aE d.st))(F:L2.m8 K d.nm d.nm d.st f fd)
  (hc:cB m (p.sc d) y m2 (aW d.st)=some rb) (hg:(aE d.st).names.lookup y=some .globalImplicit) (hm:mg y=some (.ref C)) (k:Bk K mg S x qual C cS fI fdI stI) (hd:(y==("__debug__" : Str))=false) :
  cZ P w K mg base (kI x P w) (iC n) f fd d.ps (spX K d.ps.length C fun ds=>Dq (kJ ⟨p.run n,p.gl,p.fuel⟩ rb (aG ds d.N.length))):=by
 refine iP F Sc (fun A r=>⟨r.hd,by have:=r.dp;omega⟩) (fun vs H Q E h=>BA h) fun cdv A outer s H vs Q E hr hs=>?_
 have Cx0:=sg (nm:=d.nm) (CX:=kI x P w) (E:=E) (outer:=outer) (s:=s) (H:=H) (f:=f) (cdv:=cdv) (A:=A) hp hi hh ih Sc (hr.deeper _);refine⟨_,yQ (W:=fun n H'=>E (.ref C) (some n) H') Cx0 PassesOwn.leaving rfl (fun x0 cs p1 p3 p4 hcs=>?_) _ _ _ hc,?_⟩
 ·obtain⟨n1,_⟩:=bN hcs;refine vL (C:=C) (W:=fun n H'=>E (.ref C) (some n) H') rfl ?_ hg hm k (PA.nox (cP (dH m Cx0.c) hcs)) (fun pins σ H1 s1 h' tk a t1 dx n u hW I e1 e2 e3 e4 e5=>vK I e1 e2 e3 e4 e5 hW) (by rw[bA n1];rfl) hd;show A.depth+1+1<_;have:=hr.dp;omega
 obtain⟨ds,G,hlen,rs,k⟩:=hs;dsimp only at k;have hN:ds.length<=d.N.length:=by
  rw[hlen,<-Sc.pre,bh];exact gi _ _
 obtain⟨F0,re,hF⟩:=entry rs hN;refine⟨fun a=>H a≠none,fun a=>H a=none\/a∈G,_,F0,re,fun j a ha=>.inr (hF j a ha),fun a h=>.inl (Classical.not_not.mp h),?_⟩;show eA _ _ _ _ _ _ _ _ (kJ ⟨p.run n,p.gl,p.fuel⟩ rb (aG ds d.N.length));cases hq:kJ ⟨p.run n,p.gl,p.fuel⟩ rb (aG ds d.N.length) with
 |rs j=>rw[hq] at k;exact fun H' ev=>k H' (iJ ev)
 |fl f =>
  rw[hq] at k;cases f with
  |rt d fr =>
   intro v H' G' rp ev z fz;exact k v H' G' (iJ ev) rp z fun hf=>let ⟨a,b⟩:=fz hf;⟨a,fun x hx=>⟨Classical.not_not.mp (b x hx).1,(b x hx).2⟩⟩
  |nx e=>exact fun σ' H' F' af=>k .non H' [] (iJ af.ev) .non (fun _ h=>(nomatch h)) fun _=>⟨bt,fun _ h=>(nomatch h)⟩
  |bk e=>exact k.elim
  |ct e=>exact k.elim
  |xc x e=>exact k.elim
  |bad=>exact k.elim
end
noncomputable def ckE (e:Ex):Ex:=.ite (.cmp .Lt e (.cst (.int (18446744073709551616)))) (.ite (.cmp .Lt e (.cst (.int (0)))) (.neg (.cst .non)) e) (.neg (.cst .non))
noncomputable def rsS (h e:Ex):bJ:=.cons (.expr (ckE e)) (.cons (.ret h) .nil)
noncomputable def Rw.inl (h:Ex->Ex):Rw->bJ
 |.nil=>.nil
 |.st c r=>.cons c (r.inl h)
 |.ifr c e r=>.cons (.ite c (rsS (h e) e) .nil) (r.inl h)
 |.lop _ _ _ _=>.nil
noncomputable def St.pl:St->Bool
 | .asg (.nm _) _ _=>true
 |.mut _ _ _ _=>true
 |_=>false
section
variable {T:Tb}{Rn:Nat->D×Bool->Prop}{h:Ex->Ex}
end
section
variable {x:Str}{P:Program}{w:World}{K:PySem.W.Frag}{mg:Str->Option Value}{base:Heap}{N:List Str}{qual:Str}{scope:Scope}{f:Addr}{cd:Value}{A:Around}{outer:List Env}{s:Shared}{H:Hp}{E:XK}{pins:List (Addr×Obj)}{σ:L2.St}
theorem pY {e:Value}{s1:Shared}(h:k9 x (bX (kI x P w) P w K mg base N qual scope f cd A outer s H E) pins σ (fun C n H'=>E C (some n) H') e s1):(bX (kI x P w) P w K mg base N qual scope f cd A outer s H E).xe e s1:=by
 obtain⟨H0,s0,a,C,a0,H',B,n,I,rfl,e2,e3,fy,fl,at_,hE⟩:=h;obtain⟨dx,m,u,d1,d2,d3,d4,d5⟩:=at_;show wpAny (model P w) (A.deeper (envOfC qual scope s.heap.objs.size f cd)) (leaving (envOfC qual scope s.heap.objs.size f cd) (.ref a)) _ _ _;refine onD (base:=B) (outer:=outer) I.ok.frames rfl fl d1 fun h' fl' uts dc=>?_
 have fy':=fy.next I fl'.1 (cV fl) uts;have J:=fy'.inv (g':=s1.gens) (d':=s1.drawn) (t':=s1.toks) I e3;have bs:Un (cQ outer) [] H H' s.heap h':=J.base;have fr:cQ (envOfC qual scope s.heap.objs.size f cd::outer)=s.heap.objs.size::cQ outer:=rfl;refine⟨a,C,a0,H',B,n,rfl,e2.trans I.os,e3,bs,J.hok,fl',fun b o e=>?_,⟨dx,m,u,dc,uts.ns d2,d3,d4,fun z=>d5 ?_⟩,hE⟩
 ·rcases fy'.bf b o e with z | z | ⟨z1,z2⟩
  ·have z:b∈s.heap.objs.size::cQ outer:=z;rcases iy.mp z with z | z
   ·refine .inr (.inr ⟨?_,fy'.frFree I b (show b∈s.heap.objs.size::cQ outer by rw[z];exact ak)⟩);cases q:s.heap.get? b with
    |none=>rfl
    |some o0=>exact absurd z (ba (Heap.lt_size q))
   ·exact .inl z
  ·exact .inr (.inl z)
  ·refine .inr (.inr ⟨?_,z2⟩);cases q:s.heap.get? b with
   |none=>rfl
   |some o0 =>
    obtain⟨o1,q1⟩:=I.base.there b o0 q (by simp[bX]);rw[z1] at q1;cases q1
 ·show dx∈s.heap.objs.size::cQ outer;exact ah _ z
theorem D2 {RP:Around->Prop}{f':Addr}{fd fd':FuncData}{nm y:Str}{ps ps':List Str}{st:Stmt}{spx:Sp}{e:Expr}{es:List Expr}{ep cp np:Pos}{rest:List Stmt}{t:TA}
  (F:L2.m8 K nm nm st f fd) (S:bW N ps (aE st)) (hRP:∀ A,RP A->A.handled=none/\A.depth<recursionLimit) (hb:aW st = .Expr (.Call (.Name y np) (e::es) [] cp) ep::rest)
  {RP':Around->Prop}(FR:cZ P w K mg base (kI x P w) RP' f' fd' ps' spx) (hr':∀ A env,RP A->RP' (A.deeper env)) (kp:PySem.W.keepIn K (.ref f')=true) (B':Binds K fd' ps' []) (hm':mg y=some (.ref f')) (hg:(aE st).names.lookup y=some .globalImplicit) (hd:(y==("__debug__" : Str))=false)
  (ha:∀ cdv A outer s H E,PA (bX (kI x P w) P w K mg base N nm (aE st) f cdv A outer s H E).nox (e::es) t)
  (he:∀ cdv A outer s H E,starEach (e::es) (bX (kI x P w) P w K mg base N nm (aE st) f cdv A outer s H E).env=(false,eval e (bX (kI x P w) P w K mg base N nm (aE st) f cdv A outer s H E).env)::starEach es (bX (kI x P w) P w K mg base N nm (aE st) f cdv A outer s H E).env)
  (hpl:∀ cdv A outer s H E,(backTo cp (starEach es (bX (kI x P w) P w K mg base N nm (aE st) f cdv A outer s H E).env)).any (·.1)=false)
  (sp:Sp) (len:∀ vs H Q E,sp vs H Q E->vs.length=ps.length)
  (hl:∀ vs H Q E,sp vs H Q E->t (L2.start N vs) H fun us H1=>spx us H1 (fun _ _=>False) (fun C o H'=>∃ n,o=some n/\E C (some n) H')):cZ P w K mg base (kI x P w) RP f fd ps sp:=by
 refine iP F S hRP len fun cdv A outer s H vs Q E hr hs=>?_
 rw[hb];refine⟨fun D σ H1=>t σ H1 fun us H1=>spx us H1 (fun _ _=>False) (fun C o H'=>∃ n,o=some n/\E C (some n) H'),?_,hl vs H Q E hs⟩;intro pins s1 σ H1 D I hq;refine wpAny_execs_cons (wpAny_mono (Q:=fun _ _=>False) (E:=k9 x (bX (kI x P w) P w K mg base N nm (aE st) f cdv A outer s H E) pins σ (fun C n H'=>E C (some n) H')) ?_ (fun _ _ z=>z.elim) fun e s2 z=>pY z);refine wpAny_Expr_any (wpAny_mono (nX (Q:=fun _ _=>False) FR (hr' A _ hr) hg hm' kp B' .nil I (ha cdv A outer s H E) ?_ hd (he cdv A outer s H E) (hpl cdv A outer s H E)) (fun v s1 ⟨x,H1,I1,r1,q1⟩=>q1.elim) fun _ _ z=>z) I.quiet rfl;simpa using hq
end
section
variable {x:Str}{P:Program}{w:World}{K:PySem.W.Frag}{mg:Str->Option Value}{base:Heap}{N:List Str}{qual:Str}{scope:Scope}{f:Addr}{cd:Value}{A:Around}{outer:List Env}{s:Shared}{H:Hp}{E:XK}
theorem qN:iH (kI x P w) (bX (kI x P w) P w K mg base N qual scope f cd A outer s H E) (fun C o H'=>∃ n,o=some n/\E C (some n) H'):=by
 intro pins σ H1 s1 e s' I hq;obtain⟨a,C,a0,H',B,n,e1,e2,e3,e4,e5,e6,e7,e8,n',e9,e10⟩:=hq;cases e9;exact pY ⟨H1,s1,a,C,a0,H',B,n,I,e1,e2,e3,⟨e4,e5,e7⟩,e6,e8,e10⟩
theorem yI:iH (o9 P w) (bX (o9 P w) P w K mg base N qual scope f cd A outer s H E) (fun C _ H'=>E C none H'):=by
 intro pins σ H1 s1 e s' I hq;obtain⟨a,C,a0,H',B,fe,e2,e3,fy,fl,hE⟩:=zm (X:=bX (o9 P w) P w K mg base N qual scope f cd A outer s H E) hq;subst fe;obtain⟨ob,hob⟩:∃ ob,s'.heap.get? a=some ob:=by
  obtain⟨_,_,_,ob,_,_,_,_,h1,_⟩:=fl;exact⟨ob,h1⟩
 show wpAny (model P w) (A.deeper (envOfC qual scope s.heap.objs.size f cd)) (leaving (envOfC qual scope s.heap.objs.size f cd) (.ref a)) _ _ _;refine onD (base:=B) (outer:=outer) (od:=ob.dict) I.ok.frames rfl fl ⟨ob,hob,rfl⟩ fun h' fl' uts dc=>?_
 have fy':=fy.next I fl'.1 (cV fl) uts;have J:=fy'.inv (g':=s'.gens) (d':=s'.drawn) (t':=s'.toks) I e3;have bs:Un (cQ outer) [] H H' s.heap h':=J.base;refine⟨a,C,a0,H',B,rfl,e2.trans I.os,e3,bs,J.hok,fl',fun b o e=>?_,hE⟩;rcases fy'.bf b o e with z | z | ⟨z1,z2⟩
 ·have z:b∈s.heap.objs.size::cQ outer:=z;rcases iy.mp z with z | z
  ·refine .inr (.inr ⟨?_,fy'.frFree I b (show b∈s.heap.objs.size::cQ outer by rw[z];exact ak)⟩);cases q:s.heap.get? b with
   |none=>rfl
   |some o0=>exact absurd z (ba (Heap.lt_size q))
  ·exact .inl z
 ·exact .inr (.inl z)
 ·refine .inr (.inr ⟨?_,z2⟩);cases q:s.heap.get? b with
  |none=>rfl
  |some o0 =>
   obtain⟨o1,q1⟩:=I.base.there b o0 q (by simp[bX]);rw[z1] at q1;cases q1
end
section
variable {X:Cx}{CX:oS}{RP:Around->Prop}{f:Addr}{fd:FuncData}{ps:List Str}{sp:Sp}{E:XK}
theorem BH {pins:List (Addr×Obj)}{σ:L2.St}{H:Hp}{s:Shared}{Q:VK}{us:List Value}{vs:List V}(F:cZ X.prog X.w X.K X.mg X.base CX RP f fd ps sp)(hr:RP X.A)(hb:Binds X.K fd ps [])(hx:iH CX X E)(I:Inv X pins σ H s)(r:aM vs us)(h:sp vs H Q E) :
  wpAny (model X.prog X.w) X.A (call (.ref f) us) (EP X pins σ Q) X.xe s:=by
 have hl:us.length=ps.length:=by rw[<-r.length];exact F.len _ _ _ _ h
 have hb':=hb s us I.kIn (by rw[ax];exact hl);rw[ax] at hb';refine wpAny_call (codeAny_mono (F.run X.A X.stack s H ⟨us,[]⟩ us vs Q E hr I.env0 hb' r h) fun r s' hq=>?_);cases r with
 |error e=>exact hx pins σ H s e s' I hq
 |ok fl =>
  cases fl with
  |ret u=>exact I.after hq
  |next=>exact False.elim hq
  |brk=>exact False.elim hq
  |cont=>exact False.elim hq
theorem lu {y:Str}{p pos:Pos}{e:Expr}{es:List Expr}{t:TA}(F:cZ X.prog X.w X.K X.mg X.base CX RP f fd ps sp)(hr:RP X.A)(hg:Gl X y)(hm:X.mg y=some (.ref f))(hk:PySem.W.keepIn X.K (.ref f)=true)(hb:Binds X.K fd ps [])(hx:iH CX X E)(ha:PA X (e::es) t)
  (hdb:(y==("__debug__" : Str))=false:=by decide) (he:starEach (e::es) X.env=(false,eval e X.env)::starEach es X.env:=by rfl) (hpl:(backTo pos (starEach es X.env)).any (·.1)=false:=by rfl) :
  PE X (.Call (.Name y p) (e::es) [] pos) (fun σ H Q=>t σ H fun vs H1=>sp vs H1 Q E):=by
 intro pins s σ H Q I h;refine wpAny_Call_Name_kw (dU I hg hm ?_ hdb);refine f9 (h₀:=X.base) I.ok.mod.kin hk (cL (ha pos pins s σ H _ I h) fun us s1 ⟨vs,H1,I1,r,q⟩=>⟨I1.kIn,?_⟩) he hpl;exact BH F hr hb hx I1 r q
theorem AN {y:Str}{p pos:Pos}{e:Expr}{es:List Expr}{t:TE}{g:Addr}(ha:PE X e t)(hg:Gl X y)(hm:X.mg y=some (.ref g))(hk:PySem.W.keepIn X.K (.ref g)=true)
  (hdb:(y==("__debug__" : Str))=false:=by decide) (he:starEach (e::es) X.env=(false,eval e X.env)::starEach es X.env:=by rfl) (hpl:(backTo pos (starEach es X.env)).any (·.1)=false:=by rfl) :
  PE X (.Call (.Name y p) (e::es) [] pos) (fun σ H Q=>t σ H fun _ _=>False):=by
 intro pins s σ H Q I h;refine wpAny_Call_Name_kw (dU I hg hm ?_ hdb);refine f9 (h₀:=X.base) I.ok.mod.kin hk ?_ he hpl;rw[he];show wpAny _ _ (spliced ((false,eval e X.env)::backTo pos (starEach es X.env))) _ _ s;exact Calls.spliced_cons (cL (ha pins s σ H _ I h) fun u s1 ⟨x,H1,I1,r1,q1⟩=>q1.elim)
theorem zK {tg iter:Expr}{body oe:List Stmt}{pos:Pos}{t:TE}(ha:PE X iter t)(hs:∀ x,foldedSetIterable iter X.env x=pure x:=by intro _;rfl):PS X (.For tg iter body oe pos) (fun D σ H=>t σ H fun _ _=>False):=by
 intro pins s σ H D I h;exact wpAny_For (cL (ha pins s σ H _ I h) fun v s1 ⟨x,H1,I1,r1,q1⟩=>q1.elim) hs
theorem qd {st:Stmt}{rest:List Stmt}{t:TS}(h:PS X st t):iZ X (st::rest) (fun D σ H=>t { D with nx:=fun _ _=>False } σ H):=by
 intro pins s σ H D I hq;refine wpAny_execs_cons (wpAny_mono (h pins s σ H _ I hq) (fun fl s1 q=>?_) fun _ _ z=>z);cases fl with
 |next=>obtain⟨_,_,_,q⟩:=q;exact q.elim
 |ret u=>exact q
 |brk=>exact q
 |cont=>exact q
end
section
variable {p:Pg}{P:Program}{w:World}{K:Frag}{mg:Str->Option Value}{base:Heap}
def spI (K:Frag)(n:Nat)(C:Addr)(f:List D->Prop):Sp:=fun vs H Q E=>∃ ds G,ds.length=n/\aI K H ds vs G/\f ds/\∀ H',aJ H H'->E (.ref C) none H'
theorem uv {n:Nat}{C:Addr}{f:List D->Prop}{vs:List V}{H:Hp}{Q:VK}{E:XK}(h:spI K n C f vs H Q E):vs.length=n:=by
 obtain⟨ds,G,h1,h2,_⟩:=h;rw[<-h1,h2.len]
theorem yd {fo:List Str}{n m:Nat}{d:Df}{rest:List Stmt}{e:Expr}{x y:Str}{j:Nat}{c:Ex}{p1 p2 p3 p4 p5:Pos}{C f:Addr}{fd:FuncData}(hp:∀ d∈p.dfs,d.OkX p fo)(hi:p.In K mg)(hh:vT w K)(ih:lU p P w K mg base n)(S:bW d.N d.ps (aE d.st))(F:L2.m8 K d.nm d.nm d.st f fd)
  (hl:aW d.st = .If e [.Raise (some (.Call (.Name y p1) [.Constant (.str x) j p2] [] p3)) none p4] [] p5::rest) (hc:cE m (p.sc d) e=some c)
  (hg:(aE d.st).names.lookup y=some .globalImplicit) (hm:mg y=some (.ref C)) (q:lW K C=true) (hd:(y==("__debug__" : Str))=false) :
  cZ P w K mg base (o9 P w) (iC n) f fd d.ps (spI K d.ps.length C fun ds=>∃ r,ev ⟨p.run n,p.gl,p.fuel⟩ c (aG ds d.N.length) = .ok r/\truth r.1=some true):=by
 refine iP F S (fun A r=>⟨r.hd,by have:=r.dp;omega⟩) (fun vs H Q E h=>uv h) fun cdv A outer s H vs Q E hr hs=>?_
 have Cx0:=sg (nm:=d.nm) (CX:=o9 P w) (E:=E) (outer:=outer) (s:=s) (H:=H) (f:=f) (cdv:=cdv) (A:=A) hp hi hh ih S (hr.deeper _);rw[hl];refine⟨_,qd (xF (PT.nox (dH m Cx0.c _ _ hc).2) (fX (yW (C:=C) (W:=fun H'=>E (.ref C) none H') rfl hg hm (oK q) ip (aT qV dR) (fun pins σ H1 s1 h' a us hW I hx=>qL I hx hW) (fun σ H Q h=>⟨(show (1:Nat)<=sizeLine by decide),h⟩) rfl rfl hd)) kO),?_⟩;obtain⟨ds,G,hlen,rs,⟨r,h1,h2⟩,hE⟩:=hs;have hN:ds.length<=d.N.length:=by
  rw[hlen,<-S.pre,bh];exact gi _ _
 obtain⟨F0,re,hF⟩:=entry rs hN;exact⟨fun a=>H a≠none,aG ds d.N.length,F0,re,r,true,h1,h2,fun H' sm=>hE H' sm⟩
theorem DL {fo:List Str}{n m k:Nat}{d:Df}{e:Expr}{es:List Expr}{y:Str}{cs:kZ}{p1 p3 p4:Pos}{C f f':Addr}{fd fd':FuncData}{ps':List Str}{g:List D->Prop}(hp:∀ d∈p.dfs,d.OkX p fo)(hi:p.In K mg)(hh:vT w K)(ih:lU p P w K mg base n)(S:bW d.N d.ps (aE d.st))(F:L2.m8 K d.nm d.nm d.st f fd)
  (hl:aW d.st=[.Return (some (.Call (.Name y p1) (e::es) [] p3)) p4]) (hc:cW (cE m (p.sc d)) (e::es)=some cs)
  {RP':Around->Prop}(FR:cZ P w K mg base (o9 P w) RP' f' fd' ps' (spI K k C g)) (hr':∀ A env,iC n A->RP' (A.deeper env)) (kp:PySem.W.keepIn K (.ref f')=true) (B':Binds K fd' ps' []) (hm':mg y=some (.ref f'))
  (hg:(aE d.st).names.lookup y=some .globalImplicit) (hd:(y==("__debug__" : Str))=false)
  (he:∀ cdv A outer s H E,starEach (e::es) (bX (o9 P w) P w K mg base d.N d.nm (aE d.st) f cdv A outer s H E).env=(false,eval e (bX (o9 P w) P w K mg base d.N d.nm (aE d.st) f cdv A outer s H E).env)::starEach es (bX (o9 P w) P w K mg base d.N d.nm (aE d.st) f cdv A outer s H E).env)
  (hpl:∀ cdv A outer s H E,(backTo p3 (starEach es (bX (o9 P w) P w K mg base d.N d.nm (aE d.st) f cdv A outer s H E).env)).any (·.1)=false) :
  cZ P w K mg base (o9 P w) (iC n) f fd d.ps (spI K d.ps.length C fun ds=>∃ l,aX ⟨p.run n,p.gl,p.fuel⟩ cs (aG ds d.N.length) = .ok l/\(l.map (·.1)).length=k/\g (l.map (·.1))):=by
 refine iP F S (fun A r=>⟨r.hd,by have:=r.dp;omega⟩) (fun vs H Q E h=>uv h) fun cdv A outer s H vs Q E hr hs=>?_
 have Cx0:=sg (nm:=d.nm) (CX:=o9 P w) (E:=E) (outer:=outer) (s:=s) (H:=H) (f:=f) (cdv:=cdv) (A:=A) hp hi hh ih S (hr.deeper _);rw[hl];refine⟨_,fX (md (lu (E:=fun C _ H'=>E C none H') FR (hr' A _ hr) hg hm' kp B' yI (PA.nox (cP (dH m Cx0.c) hc)) hd (he cdv A outer s H E) (hpl cdv A outer s H E))),?_⟩;obtain⟨ds,G,hlen,rs,⟨l,h1,h2,h3⟩,hE⟩:=hs;have hN:ds.length<=d.N.length:=by
  rw[hlen,<-S.pre,bh];exact gi _ _
 obtain⟨F0,re,hF⟩:=entry rs hN;exact⟨fun a=>H a≠none,aG ds d.N.length,F0,re,l,h1,fun vs H' G ar=>⟨l.map (fun x:Pc.D×Rt=>x.1),G,h2,ar.reps,h3,fun H2 s2=>hE H2 (ar.same.trans s2)⟩⟩
end
section
variable {P:Program}{w:World}{K:Frag}{mg:Str->Option Value}{base:Heap}
end
end Pc
end
section
namespace K08
open PySem Pc Pc.Sm Pc.Lw Pc.Gr Pc.Nw Pc.Ct Pc.Gn
open Pc.Fr (iD eU)
noncomputable def Fi:Rw:=.ifr (.cmp .NotIn (.var 2) (.ix (.glb 3) (.glb 2))) (.var 1) .nil
noncomputable def rb:Rw:=.lop (.tp [1,2]) (.enum (.var 0)) Fi .nil
theorem sR {T:Tb}(hg:GL T){t:List Nat}{k:Nat}(hk:k<18446744073709551616):∀(l:List Nat) (i:Nat) (a1 a2:Slot),aK a1->aK a2->jg i l=some k->j4 (.tp [1,2]) [] (kJ T Fi) (Cr i l) [sT t,a1,a2] = .rs k
 |[],i,a1,a2,_,_,h=>by cases h
 | c::l,i,a1,a2,h1,h2,h=>by
  have e1:=yU hg (aC (T:=T) (env:=[sT t,sN i,sT [c]]) (i:=2) (d:=.str (tx [c])) (t:=.own) rfl rfl);have hf:jg i (c::l)=if qQ (tx [c]) s3 then jg (i+1) l else some i:=rfl
  rw[hf] at h;rw[jr]
  conv=>lhs;unfold j4
  rw[tL h1 h2 i c];dsimp only;by_cases hc:qQ (tx [c]) s3=true
  ·rw[if_pos hc] at h;rw[az (not_not_intro hc)] at e1;have:kJ T Fi [sT t,sN i,sT [c]] = .fl (.nx [sT t,sN i,sT [c]]):=by
    unfold Fi;rw[kJ,e1];dsimp only[truth];rw[kJ]
   rw[this];exact sR hg hk l (i+1) (sN i) (sT [c]) (aB _) (aB _) h
  ·rw[if_neg hc] at h;have e:i=k:=bu h;subst e;rw[cj hc] at e1;have:kJ T Fi [sT t,sN i,sT [c]] = .rs i:=by
    unfold Fi;rw[kJ,e1];dsimp only[truth];rw[aC (d:=.int (i:Int)) (t:=.own) rfl rfl];show (match vO (.int (i:Int)) with
     |some n=>Rf.rs n
     |none=>.fl .bad)=_
    have:vO (.int (i:Int))=some i:=by
     show (if i<2 ^ 64 then some i else none)=_;rw[if_pos hk]
    rw[this]
   rw[this]
theorem Io {T:Tb}(hg:GL T){t:List Nat}{k:Nat}(hk:k<18446744073709551616)(h:jg 0 t=some k):Dq (kJ T rb (aG [.str (tx t)] 3))=some (.inr k):=by
 have hst:aG [.str (tx t)] 3=[sT t,none,none]:=rfl;rw[hst];unfold rb;rw[kJ,zu (aC rfl rfl)];dsimp only;rw[jN,sR hg hk t 0 none none aN aN h];rfl
theorem sL {T:Tb}{env:En}:ev T (.neg (.cst .non)) env = .bad:=by rw[ev,aH];rfl
theorem uB {T:Tb}{env:En}{r:D×Bool}(h:Pc.ret (aF T (.cons (.ret (.neg (.cst .non))) .nil) env) = .ok r):False:=by
 rw[aF,aV,sL] at h;cases h
theorem Ep (s:Str):s=tx s.cps.toList:=by
 show s=⟨s.cps.toList.toArray⟩;rw[Array.toArray_toList]
theorem isS {d b:D}(h:kH (.isi "str") [d]=some b) (ht:truth b=some true):∃ t,d = .str (tx t):=by
 cases d with
 |str s=>exact⟨s.cps.toList,by rw[<-Ep]⟩
 |int _=>cases h;cases ht
 |bl _=>cases h;cases ht
 |non=>cases h;cases ht
 |lst _=>cases h;cases ht
 |tup _=>cases h;cases ht
 |dct _=>cases h
 |mpi _=>cases h
 |mpt _=>cases h
 |mpz _=>cases h
theorem CK {T:Tb}{env:En}{d:D}{R:Rt}{q:D×Rt}(v:ev T (.var 0) env = .ok (d,R))(h:ev T eS env = .ok q):∃ t,d = .str (tx t):=by
 unfold eS at h;rw[ev] at h;obtain⟨p,h1,h⟩:=Rs.bind_ok h;rw[ev,aX,v,aA,aX,aA,aA,j6] at h1;obtain⟨b,h2,h1⟩:=Rs.bind_ok h1;cases h1;obtain⟨k,h3,h⟩:=Rs.bind_ok h;cases k with
 |false =>
  rw[if_neg (by decide),sL] at h;cases h
 |true =>
  have h2:kH (.isi "str") [d]=some b:=by
   cases hq:kH (.isi "str") [d] with
   |none=>rw[hq] at h2;cases h2
   |some z=>rw[hq] at h2;cases h2;rfl
  have h3:truth b=some true:=by
   cases hq:truth b with
   |none=>rw[hq] at h3;cases h3
   |some z=>rw[hq] at h3;cases h3;rfl
  exact isS h2 h3
theorem Bj (d:D):aK (some (d,aU d [])):=by
 unfold aU;split
 ·exact aB _
 ·exact dX _
theorem vI {T:Tb}(hg:GL T){d0 d1:D}{r:D×Bool}(h:Pc.ret (aF T Fm (aG [d0,d1] 4)) = .ok r):(∃ q,T.cl 6 [.int 1] = .ok q)/\∃ t k,d0 = .str (tx t)/\jg 0 t=some k/\k<18446744073709551616/\r.1 = .int (k:Int):=by
 have hst:aG [d0,d1] 4=[some (d0,aU d0 []),some (d1,aU d1 []),none,none]:=rfl;rw[hst,xY,aF,aV] at h;cases h0:ev T eD [some (d0,aU d0 []),some (d1,aU d1 []),none,none] with
 |exc x=>rw[h0] at h;cases h
 |bad=>rw[h0] at h;cases h
 |ok q0 =>
  rw[h0,aY] at h;refine⟨?_,?_⟩
  ·unfold eD at h0;rw[ev,aX,aH,aA,aX,aA,aA,j6] at h0;obtain⟨q,hq,_⟩:=Rs.bind_ok h0;exact⟨q,hq⟩
  ·skip
   rw[aD,aF,aV] at h;cases h1:ev T eS [some (d0,aU d0 []),some (d1,aU d1 []),none,none] with
   |exc x=>rw[h1] at h;cases h
   |bad=>rw[h1] at h;cases h
   |ok q1 =>
    obtain⟨R,v0⟩:∃ R,ev T (.var 0) [some (d0,aU d0 []),some (d1,aU d1 []),none,none] = .ok (d0,R):=eK rfl;obtain⟨t,rfl⟩:=CK v0 h1;rw[h1,aY] at h
    skip
    rw[aD,aF,aV] at h;have he:([some (D.str (tx t),aU (.str (tx t)) []),some (d1,aU d1 []),none,none]:En)=EP t (some (d1,aU d1 [])) none none:=rfl;rw[he,Gj,aY] at h;dsimp only at h;rw[jN] at h;have q:=pf hg (t:=t) (Bj d1) t 0 none none aN aN;cases hf:jg 0 t with
    |none =>
     rw[hf] at q;obtain⟨e,q⟩:=q;rw[q] at h;dsimp only at h;rw[aD] at h;exact (uB h).elim
    |some k =>
     rw[hf] at q;dsimp only at q;rw[q] at h;by_cases hk:k<18446744073709551616
     ·rw[if_pos hk] at h;cases h;exact⟨t,k,rfl,hf,hk,rfl⟩
     ·rw[if_neg hk] at h;cases h
noncomputable def Eb:kZ:=.cons (.call 15 (.cons (.var 0) .nil)) (.cons (.var 1) .nil)
noncomputable def BM:Ex:=.cmp .Gt (.blt .len (.cons (.var 0) .nil)) (.var 1)
theorem xj {T:Tb}{d0 d1:D}{r:D×Bool}(h:Pc.ret (aF T Ed (aG [d0,d1] 2)) = .ok r):r.1 = .bl true/\∃ l,aX T Eb (aG [d0,d1] 2) = .ok l/\(l.map (·.1)).length=2/\∃ q,ev T BM (aG (l.map (·.1)) 3) = .ok q/\truth q.1=some true:=by
 generalize aG [d0,d1] 2=env at h ⊢;unfold Ed at h;rw[aF,aV] at h;cases hc:ev T (.cmp .Gt (.blt .len (.cons (.call 15 (.cons (.var 0) .nil)) .nil)) (.var 1)) env with
 |exc x=>rw[hc] at h;cases h
 |bad=>rw[hc] at h;cases h
 |ok q =>
  rw[hc,aY] at h
  skip
  rw[ev] at hc;obtain⟨p1,ha,hc⟩:=Rs.bind_ok hc;obtain⟨p2,hb,hc⟩:=Rs.bind_ok hc;obtain⟨v,hv,hc⟩:=Rs.bind_ok hc;cases hc;rw[ev] at ha;obtain⟨l1,hl1,ha⟩:=Rs.bind_ok ha;obtain⟨d,hd,ha⟩:=Rs.bind_ok ha;cases ha;rw[aX] at hl1;obtain⟨c1,hc1,hl1⟩:=Rs.bind_ok hl1;rw[aX,aA] at hl1;cases hl1;have key:v=true->∃ l,aX T Eb env = .ok l/\(l.map (·.1)).length=2/\∃ q,ev T BM (aG (l.map (·.1)) 3) = .ok q/\truth q.1=some true:=fun hvt=>by
   refine⟨[c1,p2],?_,rfl,(.bl v,.mv []),?_,by rw[hvt];rfl⟩
   ·unfold Eb;rw[aX,hc1,aA,aX,hb,aA,aX,aA,aA]
   ·have hst:aG (([c1,p2]:List (D×Rt)).map (·.1)) 3=[some (c1.1,aU c1.1 []),some (p2.1,aU p2.1 []),none]:=rfl;rw[hst];obtain⟨R0,v0⟩:∃ R,ev T (.var 0) [some (c1.1,aU c1.1 []),some (p2.1,aU p2.1 []),none] = .ok (c1.1,R):=eK rfl;obtain⟨R1,v1⟩:∃ R,ev T (.var 1) [some (c1.1,aU c1.1 []),some (p2.1,aU p2.1 []),none] = .ok (p2.1,R):=eK rfl;have hd:gN (kH .len [c1.1]) = .ok d:=hd;have e0:∃ R,ev T (.blt .len (.cons (.var 0) .nil)) [some (c1.1,aU c1.1 []),some (p2.1,aU p2.1 []),none] = .ok (d,R):=by
     refine⟨iA d (aS (([(c1.1,R0)]:List (D×Rt)).map (·.2))),?_⟩;rw[ev,aX,v0,aA,aX,aA,aA,j6];dsimp only;rw[hd,aA]
    obtain⟨R2,e0⟩:=e0;unfold BM;rw[ev,e0,aA,v1,aA];have hv:gN (jo .Gt d p2.1) = .ok v:=hv;dsimp only;rw[hv,aA]
  cases v with
  |true =>
   refine⟨?_,key rfl⟩;cases h;rfl
  |false =>
   dsimp only[truth] at h;rw[aF,aD] at h;exact (uB h).elim
theorem BI {c c':Nat->List D->Rs (D×Bool)}{g:Nat->D}{fu:Nat}{env:En}:ev ⟨c,g,fu⟩ BM env=ev ⟨c',g,fu⟩ BM env:=by
 simp only[BM,ev,aX]
theorem zy {T:Tb}{env:En}{l:List (D×Rt)}(h0:∀ ds,T.cl 15 ds = .bad)(h:aX T Eb env = .ok l):False:=by
 unfold Eb at h;rw[aX] at h;obtain⟨q,h1,_⟩:=Rs.bind_ok h;rw[ev] at h1;obtain⟨l1,_,h1⟩:=Rs.bind_ok h1;obtain⟨r,h2,_⟩:=Rs.bind_ok h1;rw[h0] at h2;cases h2
theorem BR {ds:List D}(h:ds.length=2):∃ a b,ds=[a,b]:=by
 match ds,h with
 |[a,b],_=>exact⟨a,b,rfl⟩
end K08
end
section
namespace K08
open PySem PySem.Spec PyProof.Rows L2 Pc
section
variable {P:Program}{w:World}{K:Frag}{mg:Str->Option Value}{base:Heap}
structure DN (K:Frag)(mg:Str->Option Value)(cS cM cT fI:Addr)(fdI:FuncData)(stI:Stmt)(cs:List Addr):Prop where
 k:Bk K mg "SquareError" "place" "NoSign.__init__" cM cS fI fdI stI
 m:mg "NoSign" = some (.ref cM)
 mB:uJ K cM=true
 mm:dF K cM cM=true
 sQ:lW K cS=true
 t:mg "TooLong" = some (.ref cT)
 tQ:lW K cT=true
 o:sx (fun q:Str×Addr=>(PySem.W.nsIn K mainGlobals q.1=some (some (.ref q.2))/\jV K q.2=true)/\dF K cT q.2=false) (List.zip ["NoInverse","NoLabel","NoMarks","NoMend","NoPicture","NoSign","NoSquare","NoText"] cs)
 l:cs.length=8
 st:dF K cT cS=true
 tD:jV K cT=true
 tt:dF K cT cT=true
structure uf (a b:Nat)(A:Around):Prop where
 hd:A.handled=none
 dp:A.depth+a<recursionLimit
 un:A.units+b<cLine
theorem uf.deeper {a b:Nat}{A:Around}(r:uf (a+1) (b+3) A)(env:Env):uf a b (A.deeper env) :=
 ⟨r.hd,by have:=r.dp;show A.depth+1+a<_;omega,by have:=r.un;show A.units+3+b<_;omega⟩
theorem uf.roomH {A:Around}(r:uf 6 203 A):iC 0 A:=⟨r.hd,r.dp,r.un⟩
theorem uf.of {k:Nat}{A:Around}(r:fE (k+2) A)(env:Env):uf 9 212 (A.deeper env) :=
 ⟨r.hd,by have:=r.dp;show A.depth+1+9<_;omega,by have:=r.un;show A.units+3+212<_;omega⟩
theorem len8 {cs:List Addr}(h:cs.length=8):∃ a b c d e f g i,cs=[a,b,c,d,e,f,g,i]:=by
 match cs,h with
 |[a,b,c,d,e,f,g,i],_=>exact⟨a,b,c,d,e,f,g,i,rfl⟩
theorem BS {vs:List V}(h:vs.length=2):∃ v u,vs=[v,u]:=by
 match vs,h with
 |[v,u],_=>exact⟨v,u,rfl⟩
theorem uV {H:Hp}{d e:D}{v u:V}{G:List Addr}(h:aI K H [d,e] [v,u] G):∃ G1,aI K H [d] [v] G1:=by
 cases h with
 |cons r s=>exact⟨_,.cons r .nil⟩
theorem DI {C:Addr}(q:uJ K C=true):jV K C=true:=by
 unfold uJ at q;rw[aj] at q;exact q.1
theorem GG {p:Pg}:lU p P w K mg base 0:=by
 intro i d hd f fd F;refine⟨fun vs H Q E h=>jO h,fun A outer s H args us vs Q E hr he hb hv hs=>?_⟩;obtain⟨ds,G,_,_,r,h,_⟩:=hs;cases h
def spC (spx:Sp):Sp:=fun vs H Q E=>∃ v,vs=[v]/\∀ H',aJ H H'->spx [v] H' (fun _ _=>False) (fun C o H'=>∃ n,o=some n/\E C (some n) H')
def spD (spx:Sp):Sp:=fun vs H Q E=>∃ v u,vs=[v,u]/\∀ H',aJ H H'->spx [v] H' (fun _ _=>False) (fun C o H'=>∃ n,o=some n/\E C (some n) H')
theorem twice (E:XK):(fun (C:Value) (o:Option Nat) (H':Hp)=>∃ n,o=some n/\(fun (C:Value) (o:Option Nat) (H':Hp)=>∃ n,o=some n/\E C (some n) H') C (some n) H')=fun C o H'=>∃ n,o=some n/\E C (some n) H':=by
 funext C o H';refine propext ⟨fun ⟨n,e,m,e2,h⟩=>?_,fun ⟨n,e,h⟩=>⟨n,e,n,rfl,h⟩⟩;cases e2;exact⟨n,e,h⟩
theorem wL {f f':Addr}{fd fd':FuncData}{spx:Sp}(F:L2.m8 K "cut_text" "cut_text" (st 31) f fd) (S:bW ["text","cuts","pieces","start","kind","end"] ["text"] (aE (st 31)))
  (FR:cZ P w K mg base (kI "place" P w) (iC 0) f' fd' ["text"] spx) (kp:PySem.W.keepIn K (.ref f')=true) (B':Binds K fd' ["text"] []) (hm':mg "refuse_strange_signs" = some (.ref f')):cZ P w K mg base (kI "place" P w) (uf 7 206) f fd ["text"] (spC spx) :=
 D2 (N:=["text","cuts","pieces","start","kind","end"]) (y:="refuse_strange_signs") (t:=eB (qJ 0) qy) F S (fun A r=>⟨r.hd,by have:=r.dp;omega⟩) rfl FR (fun A env r=>(r.deeper env).roomH) kp B' hm' rfl (by decide) (fun cdv A outer s H E=>aT (pv 0) dR) (fun _ _ _ _ _ _=>rfl) (fun _ _ _ _ _ _=>rfl) _ (fun vs H Q E ⟨v,e,_⟩=>by rw[e];rfl)
  (fun vs H Q E ⟨v,e,h⟩=>by subst e;exact⟨v,rfl,h H (aJ.refl _)⟩)
theorem vD {f f':Addr}{fd fd':FuncData}{spx:Sp}(F:L2.m8 K "bare_grains" "bare_grains" (st 39) f fd) (S:bW ["text","bits","piece"] ["text"] (aE (st 39)))
  (FR:cZ P w K mg base (kI "place" P w) (uf 7 206) f' fd' ["text"] (spC spx)) (kp:PySem.W.keepIn K (.ref f')=true) (B':Binds K fd' ["text"] []) (hm':mg "cut_text" = some (.ref f')):cZ P w K mg base (kI "place" P w) (uf 8 209) f fd ["text"] (spC spx):=by
 refine iP F S (fun A r=>⟨r.hd,by have:=r.dp;omega⟩) (fun vs H Q E ⟨v,e,_⟩=>by rw[e];rfl) fun cdv A outer s H vs Q E hr hs=>?_
 obtain⟨v,rfl,h⟩:=hs;refine⟨_,eP (jn (i:=1) S.nd rfl (.inl rfl) (rL dR)) (qd (zK (lu FR (hr.deeper _) rfl hm' kp B' qN (aT (pv 0) dR)))),?_⟩;refine⟨(show (0:Nat)<=sizeLine by decide),fun p hp=>⟨v,rfl,v,rfl,fun H' sm=>?_⟩⟩;rw[twice];exact h H' ((aJ.new hp).trans sm)
theorem vo {f f' g:Addr}{fd fd':FuncData}{spx:Sp}(F:L2.m8 K "text_grains" "text_grains" (st 38) f fd) (S:bW ["text","room"] ["text","room"] (aE (st 38)))
  (FR:cZ P w K mg base (kI "place" P w) (uf 8 209) f' fd' ["text"] (spC spx)) (kp:PySem.W.keepIn K (.ref f')=true) (B':Binds K fd' ["text"] []) (hm':mg "bare_grains" = some (.ref f')) (hg:mg "filled_grains" = some (.ref g)) (kg:PySem.W.keepIn K (.ref g)=true):cZ P w K mg base (kI "place" P w) (uf 9 212) f fd ["text","room"] (spD spx):=by
 refine iP F S (fun A r=>⟨r.hd,by have:=r.dp;omega⟩) (fun vs H Q E ⟨v,u,e,_⟩=>by rw[e];rfl) fun cdv A outer s H vs Q E hr hs=>?_
 obtain⟨v,u,rfl,h⟩:=hs;refine⟨_,fX (md (AN (lu FR (hr.deeper _) rfl hm' kp B' qN (aT (pv 0) dR)) rfl hg kg)),?_⟩;refine⟨v,rfl,v,rfl,fun H' sm=>?_⟩;rw[twice];exact h H' sm
theorem place {n:Nat}{f f' cS cM cT fI:Addr}{cs:List Addr}{fd fd' fdI:FuncData}{stI:Stmt}{spx:Sp}(hh:DN K mg cS cM cT fI fdI stI cs)
  (F:L2.m8 K "_law_place" "_law_place" (st 50) f fd) (S:bW ["_law_text_here","_law_room","_law_place_here","e"] ["_law_text_here","_law_room"] (aE (st 50)))
  (FR:cZ P w K mg base (kI "place" P w) (uf 9 212) f' fd' ["text","room"] spx) (kp:PySem.W.keepIn K (.ref f')=true) (B':Binds K fd' ["text","room"] []) (hm':mg "text_grains" = some (.ref f')) (sp:Sp)
  (hl:∀ vs H Q E,sp vs H Q E->∃ v u,vs=[v,u]/\spx [v,u] H (fun _ _=>False) (fun C' o H'=>∃ m,o=some m/\C' = .ref cM/\∀ H2,aJ H' H2->Q (.int ((m:Nat):Int)) H2)):ki P w K mg base vB (n+2) f fd ["_law_text_here","_law_room"] sp:=by
 refine (iP (RP:=fE (n+2)) F S (fun A r=>⟨r.hd,r.depth⟩) (fun vs H Q E h=>by obtain⟨v1,v2,e,_⟩:=hl vs H Q E h;rw[e];rfl) fun cdv A outer s H vs Q E hr hs=>?_).plain;obtain⟨v1,v2,rfl,hx⟩:=hl vs H Q E hs;have hrest:iZ (bX vB P w K mg base ["_law_text_here","_law_room","_law_place_here","e"] "_law_place" (aE (st 50)) f cdv A outer s H E).nox ((aW (st 50)).drop 1)
   (fun D σ H1=>σ=[some v1,some v2,some .non,none]/\spx [v1,v2] H1 (fun _ _=>False) (fun C' o H'=>∃ m,o=some m/\C' = .ref cM/\∀ H2,aJ H' H2->D.rt (.int ((m:Nat):Int)) H2)):=by
  intro pins s1 σ H1 D I ⟨hσ,hx⟩;subst hσ;refine wpAny_execs_cons (wpAny_mono (Q:=SP _ pins { D with nx:=fun σ' H'=>∃ z,σ'[2]? = some (some z)/\D.rt z H' }) (Bc (x:="place") (i:=3) (ts:=fun a k=>rV (HA 3 a k) (jv 2)) (W:=fun C' m H'=>C' = .ref cM/\∀ H2,aJ H' H2->D.rt (.int ((m:Nat):Int)) H2) rfl rfl I.ok S.nd rfl rfl rfl hh.m hh.mB
   (fun a o dx od C k H' hW hc hda hdi hns=>?su) (fun C k H' hW=>?w) (by decide)
   (uP (Q:=fun _ _=>False) I (nX FR (uf.of hr _) rfl hm' kp B' .nil I (aT (pv 0) (aT (pv 1) dR)) ⟨v1,rfl,v2,rfl,hx⟩) fun _ H' q=>q.elim)) (fun fl s2 q=>?_) fun _ _ z=>z)
  case su =>
   have hc:o.cls = .ref cM:=hc.trans hW.1;exact fX (jn (i:=2) S.nd rfl (.inl rfl) (Ey (X:=(bX vB P w K mg base ["_law_text_here","_law_room","_law_place_here","e"] "_law_place" (aE (st 50)) f cdv A outer s H E).nox) hh.k.cls hh.k.nx hc hda hdi hns (pv 3)))
  case w =>
   obtain⟨rfl,hQ⟩:=hW;exact⟨⟨cM,rfl,DI hh.mB,hh.mm⟩,fun a=>⟨rfl,_,rfl,hQ _ (aJ.refl _)⟩⟩
  cases fl with
  |next =>
   obtain⟨σ',H',J,z,hz,q⟩:=q;exact fX (md (lG (i:=2) rfl (.inl rfl))) pins s2 _ H' D J ⟨z,hz,q⟩
  |ret u=>exact q
  |brk=>exact q
  |cont=>exact q
 exact⟨_,iZ.nox (eP (jn (i:=2) S.nd rfl (.inl rfl) rY) hrest),rfl,hx⟩
def tsR (K:Frag)(cI c1 c2 c3 c4 c5 c6 c7 c8 a:Addr):TS:=F5 (rV (DJ (yZ K a cI) (eB (qJ 3) (eB (F7 (eB (tC (.ref c1)) (eB (tC (.ref c2)) (eB (tC (.ref c3)) (eB (tC (.ref c4)) (eB (tC (.ref c5)) (eB (tC (.ref c6)) (eB (tC (.ref c7)) (eB (tC (.ref c8)) qy))))))))) qy))) (jv 4))
 (rV (xX (DJ (yZ K a cI) (eB (qJ 3) (eB (tC (.ref cI)) qy))) (xX (DJ (yZ K a cI) (eB (qJ 3) (eB (tC (.ty "ValueError")) qy))) (Ck (qJ 4)))) (jv 2))
theorem tooLong {n:Nat}{f f' cS cM cT fI:Addr}{cs:List Addr}{fd fd' fdI:FuncData}{stI:Stmt}{h:Heap}{spx:Sp}(KX:K.In h)(G:h.Ns mainGlobals mg)(hh:DN K mg cS cM cT fI fdI stI cs)
  (F:L2.m8 K "_law_too_long" "_law_too_long" (st 49) f fd) (S:bW ["_law_text_here","_law_room","_law_fine","e","_law_others"] ["_law_text_here","_law_room"] (aE (st 49)))
  (FR:cZ P w K mg base (o9 P w) (iC n) f' fd' ["text","room"] spx) (kp:PySem.W.keepIn K (.ref f')=true) (B':Binds K fd' ["text","room"] []) (hm':mg "text_grains" = some (.ref f'))
  (hi:mg "isinstance" = none) (hv:mg "ValueError" = none) (sp:Sp)
  (hl:∀ vs H Q E,sp vs H Q E->∃ v u,vs=[v,u]/\spx [v,u] H (fun _ _=>False) (fun C' _ H'=>C' = .ref cT/\∀ H2,aJ H' H2->Q (.bl true) H2)):ki P w K mg base vB (n+1) f fd ["_law_text_here","_law_room"] sp:=by
 obtain⟨c1,c2,c3,c4,c5,c6,c7,c8,rfl⟩:=len8 hh.l;obtain⟨⟨o1,n1⟩,⟨o2,n2⟩,⟨o3,n3⟩,⟨o4,n4⟩,⟨o5,n5⟩,⟨o6,n6⟩,⟨o7,n7⟩,⟨o8,n8⟩,_⟩:=hh.o;refine (iP (RP:=fE (n+1)) F S (fun A r=>⟨r.hd,r.depth⟩) (fun vs H Q E h=>by obtain⟨v1,v2,e,_⟩:=hl vs H Q E h;rw[e];rfl) fun cdv A outer s H vs Q E hr hs=>?_).plain;obtain⟨v1,v2,rfl,hx⟩:=hl vs H Q E hs;have hrest:iZ (bX vB P w K mg base ["_law_text_here","_law_room","_law_fine","e","_law_others"] "_law_too_long" (aE (st 49)) f cdv A outer s H E).nox ((aW (st 49)).drop 1)
   (fun D σ H1=>σ=[some v1,some v2,some (.bl false),none,none]/\spx [v1,v2] H1 (fun _ _=>False) (fun C' _ H'=>C' = .ref cT/\∀ H2,aJ H' H2->D.rt (.bl true) H2)):=by
  intro pins s1 σ H1 D I ⟨hσ,hx⟩;subst hσ;refine wpAny_execs_cons (wpAny_mono (Q:=SP _ pins { D with nx:=fun σ' H'=>∃ z,σ'[2]? = some (some z)/\D.rt z H' }) (Dy (i:=3) (ts:=tsR K cT c1 c2 c3 c4 c5 c6 c7 c8) (W:=fun C' H'=>C' = .ref cT/\∀ H2,aJ H' H2->D.rt (.bl true) H2) rfl rfl I.ok S.nd rfl rfl rfl hh.k.hS (oK hh.sQ) (by decide)
   (fun a o C H' hW hc hd=>?su) (fun C H' hW=>?w) (by decide)
   (yD (Q:=fun _ _=>False) I (vN FR (iC.of hr _) rfl hm' kp B' .nil I (aT (pv 0) (aT (pv 1) dR)) ⟨v1,rfl,v2,rfl,hx⟩) fun _ _ z=>z.elim)) (fun fl s2 q=>?_) fun _ _ z=>z)
  case su =>
   have hc:o.cls = .ref cT:=hc.trans hW.1;exact eP (jn (i:=4) S.nd rfl (.inl rfl) (iL (ke hh.tQ hc) rfl hi boot_isinstance (aT (pv 3) (aT (yl (aT (dS rfl (df KX G o1.1) rfl) (aT (dS rfl (df KX G o2.1) rfl) (aT (dS rfl (df KX G o3.1) rfl) (aT (dS rfl (df KX G o4.1) rfl) (aT (dS rfl (df KX G o5.1) rfl) (aT (dS rfl (df KX G o6.1) rfl) (aT (dS rfl (df KX G o7.1) rfl) (aT (dS rfl (df KX G o8.1) rfl) dR))))))))) dR))))
    (fX (jn (i:=2) S.nd rfl (.inl rfl) (qW (iL (ke hh.tQ hc) rfl hi boot_isinstance (aT (pv 3) (aT (dS rfl hh.t rfl) dR))) (qW (iL (ke hh.tQ hc) rfl hi boot_isinstance (aT (pv 3) (aT (uo (v:=.ty "ValueError") rfl hv (by rfl) rfl) dR))) (vZ (xC (pv 4)))))))
  case w =>
   obtain⟨rfl,hQ⟩:=hW;refine⟨⟨cT,rfl,wa hh.tQ hh.st⟩,fun a=>?_⟩;refine⟨.ref a,rfl,(show (8:Nat)<=sizeLine by decide),fun p hp=>.inr (.inr ⟨p,[c1,c2,c3,c4,c5,c6,c7,c8],rfl,aP,?_,?_⟩)⟩
   ·intro D hD;simp only[List.mem_cons,List.not_mem_nil,or_false] at hD;rcases hD with rfl | rfl | rfl | rfl | rfl | rfl | rfl | rfl
    ·exact o1.2
    ·exact o2.2
    ·exact o3.2
    ·exact o4.2
    ·exact o5.2
    ·exact o6.2
    ·exact o7.2
    ·exact o8.2
   ·have e:(([c1,c2,c3,c4,c5,c6,c7,c8].map (dF K cT)).any id)=false:=by
     simp only[List.map_cons,List.map_nil,List.any_cons,List.any_nil,n1,n2,n3,n4,n5,n6,n7,n8];rfl
    rw[e];refine⟨.ref a,rfl,.inl ⟨cT,rfl,hh.tD,true,gx V.bl hh.tt,?_⟩⟩;refine⟨.ref a,rfl,.inr (.inl ⟨rfl,true,rfl,?_⟩)⟩;refine⟨.bl false,rfl,false,rfl,?_⟩;exact⟨_,rfl,hQ _ (aJ.new hp)⟩
  cases fl with
  |next =>
   obtain⟨σ',H',J,z,hz,q⟩:=q;exact fX (md (lG (i:=2) rfl (.inl rfl))) pins s2 _ H' D J ⟨z,hz,q⟩
  |ret u=>exact q
  |brk=>exact q
  |cont=>exact q
 exact⟨_,iZ.nox (eP (jn (i:=2) S.nd rfl (.inl rfl) yH) hrest),rfl,hx⟩
end
noncomputable def gH:List Str:=["range","len","isinstance","int","bool","list","min","str","enumerate","ValueError"]
noncomputable def rT:List Str:=["FIGURES","CAPITALS","ANY","KIND_SIGNS","SIGN_BITS","KIND_BITS","COUNT_BITS","MOST_SIGNS","FIGURE_BITS","MOST_FIGURES","END","GRAIN_BITS","FILLING"]
noncomputable def df0:Df:=⟨"piece_length",st 26,["kind","count"],["kind","count","head"],b0⟩
noncomputable def df1:Df:=⟨"cut_text",st 31,["text"],["text","cuts","pieces","start","kind","end"],b1⟩
noncomputable def Fv:Df:=⟨"refuse_strange_signs",st 32,["text"],["text","place","sign"],b2⟩
noncomputable def df3:Df:=⟨"best_cuts",st 33,["text"],["text","cuts","runs","start","choices","kind"],b3⟩
noncomputable def df4:Df:=⟨"cuts_of_kind",st 34,["cuts","start","kind","run"],["cuts","start","kind","run","choices","count","rest"],b4⟩
noncomputable def df5:Df:=⟨"_law_mix",st 43,["_law_script","_law_k","_law_prime"],["_law_script","_law_k","_law_prime","_law_cell"],b5⟩
noncomputable def df6:Df:=⟨"_law_signs",st 44,["_law_kind"],["_law_kind","_law_some"],b6⟩
noncomputable def df7:Df:=⟨"_law_run",st 45,["_law_d","_law_size"],["_law_d","_law_size","_law_some","_law_run_here","_law_k"],b7⟩
noncomputable def df8:Df:=⟨"_law_text",st 46,["_law_script","_law_most"],["_law_script","_law_most","_law_size","_law_text_here","_law_k","_law_d","_law_long"],b8⟩
noncomputable def df9:Df:=⟨"bits_of",st 1,["number","count"],["number","count"],b9⟩
noncomputable def df10:Df:=⟨"number_of",st 2,["bits"],["bits","number","bit"],b10⟩
noncomputable def df11:Df:=⟨"piece_bits",st 27,["piece"],["piece","kind","signs","head"],b11⟩
noncomputable def df12:Df:=⟨"figures_bits",st 28,["signs"],["signs","bits","start","figures"],b12⟩
noncomputable def df13:Df:=⟨"signs_bits",st 29,["kind","signs"],["kind","signs","bits","sign"],b13⟩
noncomputable def vb:Df:=⟨"text_grains",st 38,["text","room"],["text","room"],b14⟩
noncomputable def Al:Df:=⟨"bare_grains",st 39,["text"],["text","bits","piece"],b15⟩
noncomputable def df16:Df:=⟨"grains_of_bits",st 40,["bits"],["bits"],b16⟩
noncomputable def zt:Df:=⟨"filled_grains",st 41,["grains","room"],["grains","room","lacking"],b17⟩
noncomputable def df18:Df:=⟨"_law_due",st 47,["_law_text_here"],["_law_text_here","_law_bits","_law_piece","_law_grains","_law_at","_law_grain","_law_k"],b18⟩
noncomputable def df19:Df:=⟨"_law_in_room",st 48,["_law_text_here","_law_due_here","_law_room"],["_law_text_here","_law_due_here","_law_room","_law_told","_law_found","_law_k"],b19⟩
noncomputable def df20:Df:=⟨"_law_too_long",st 49,["_law_text_here","_law_room"],["_law_text_here","_law_room"],Ed⟩
noncomputable def df21:Df:=⟨"_law_place",st 50,["_law_text_here","_law_room"],["_law_text_here","_law_room","place","sign"],Fm⟩
noncomputable def HQ:Df:=⟨"law",st 51,["_law_script"],["_law_script","_law_text_here","_law_due_here","_law_need","_law_d","_law_room","_law_at","_law_spoilt","_law_place_here"],b22⟩
noncomputable def p:Pg:=⟨[df0,df1,Fv,df3,df4,df5,df6,df7,df8,df9,df10,df11,df12,df13,vb,Al,df16,zt,df18,df19,df20,df21,HQ],rT,gH,gl,1000⟩
noncomputable def fgn:List Str:=["_law_too_long","_law_place"]
theorem ok:sx (Df.OkX p fgn) p.dfs:=by
 refine⟨?a0,?a1,?a2,?a3,?a4,?a5,?a6,?a7,?a8,?a9,?a10,?a11,?a12,?a13,?a14,?a15,?a16,?a17,?a18,?a19,?a20,?a21,?a22,trivial⟩
 case a0 | a7 | a8 | a9 | a13 | a14 | a17=>exact .inl (Df.ok_of (n:=60) (by decide +kernel) rfl (fun _ _ _ _ _ _ us hl=>@zo (fun us=>bindArgs _ ⟨us,[]⟩=pure (List.zip _ us)) us hl (fun _ _=>rfl)))
 case a1 | a2 | a3 | a6 | a10 | a11 | a12 | a15 | a16 | a18 | a22=>exact .inl (Df.ok_of (n:=60) (by decide +kernel) rfl (fun _ _ _ _ _ _ us hl=>@Hy (fun us=>bindArgs _ ⟨us,[]⟩=pure (List.zip _ us)) us hl (fun _=>rfl)))
 case a4=>exact .inl (Df.ok_of (n:=60) (by decide +kernel) rfl (fun _ _ _ _ _ _ us hl=>@len4 (fun us=>bindArgs _ ⟨us,[]⟩=pure (List.zip _ us)) us hl (fun _ _ _ _=>rfl)))
 case a5 | a19=>exact .inl (Df.ok_of (n:=60) (by decide +kernel) rfl (fun _ _ _ _ _ _ us hl=>@G9 (fun us=>bindArgs _ ⟨us,[]⟩=pure (List.zip _ us)) us hl (fun _ _ _=>rfl)))
 case a20=>exact .inr ⟨(fun _ _ _ _ _ _ us hl=>@zo (fun us=>bindArgs _ ⟨us,[]⟩=pure (List.zip _ us)) us hl (fun _ _=>rfl)),.head _⟩
 case a21=>exact .inr ⟨(fun _ _ _ _ _ _ us hl=>@zo (fun us=>bindArgs _ ⟨us,[]⟩=pure (List.zip _ us)) us hl (fun _ _=>rfl)),.tail _ (.head _)⟩
theorem plaw (ns:List Int)(hl:ns.length<=63):∃ fr,p.run 9 22 [.lst (ns.map D.int)] = .ok (.bl true,fr):=law ns hl
noncomputable def dP:Df:=⟨"_law_place",st 50,["_law_text_here","_law_room"],["_law_text_here","_law_room","_law_place_here","e"],.nil⟩
noncomputable def dT:Df:=⟨"_law_too_long",st 49,["_law_text_here","_law_room"],["_law_text_here","_law_room","_law_fine","e","_law_others"],.nil⟩
noncomputable def stI:Stmt:=match st 11 with
 |.ClassDef _ _ _ b ..=>b.getD 0 (.Pass ⟨0,0,0,0⟩)
 |s=>s
theorem FQ:B8 stI "SquareError" "place" :=
 ⟨⟨_,_,_,_,_,_,_,_,_,_,_,_,_,_,_,_,rfl,rfl,by decide,by decide⟩,dW (p:=p) (d:=⟨"__init__",stI,["self","place"],["self","place"],.nil⟩) (n:=60) (by decide +kernel),rfl,rfl,rfl,by decide,by decide⟩
section
variable {P:Program}{w:World}{K:Frag}{mg:Str->Option Value}{base h:Heap}
theorem gLp (c:Nat->List D->Rs (D×Bool)):Pc.Ct.GL ⟨c,p.gl,p.fuel⟩:=fun i hi=>gL 0 i hi
theorem foreign (KX:K.In h)(G:h.Ns mainGlobals mg)(I:p.In K mg)(hH:vT w K)(hh:∃ cS cM cT fI fd cs,DN K mg cS cM cT fI fd stI cs):oZ p fgn P w K mg base:=by
 obtain⟨cS,cM,cT,fI,fdI,cs,hh⟩:=hh;intro n i d hd hn ih f fd F;have e24:∀ j,j<23->j≠20->j≠21->∀ e,p.dfs[j]? = some e->e.nm≠("_law_too_long" : Str)/\e.nm≠("_law_place" : Str):=by
  intro j h1 h2 h3 e he;have:∀ j,j<23->j≠20->j≠21->(p.dfs[j]?.all fun e=>e.nm != ("_law_too_long" : Str)&&e.nm != ("_law_place" : Str))=true:=by decide +kernel
  have:=this j h1 h2 h3;rw[he] at this;simpa using this
 have hi:i=20\/i=21:=Classical.byContradiction fun z=>by
  obtain⟨y1,y2⟩:=e24 i (List.getElem?_eq_some_iff.mp hd).1 (fun e=>z (.inl e)) (fun e=>z (.inr e)) d hd;rcases iy.mp hn with e | e
  ·exact y1 e
  ·exact y2 (ir.mp e)
 obtain⟨ft,fdt,Ft,Mt⟩:=I.fn 14 vb rfl;have Bt:=Ft.binds (cA ok vb (List.mem_of_getElem? (i:=14) rfl)).bd;obtain⟨ff,fdf,Ff,Mf⟩:=I.fn 17 zt rfl;have Bf:=Ff.binds (cA ok zt (List.mem_of_getElem? (i:=17) rfl)).bd;rcases hi with rfl | rfl
 ·cases hd;have inv:∀{m:Nat}{ds:List D}{r:D×Bool},ds.length=2->p.run (m+1) 20 ds = .ok r->r.1 = .bl true/\∃ l,aX ⟨p.run m,p.gl,p.fuel⟩ Eb (aG ds 2) = .ok l/\(l.map (·.1)).length=2/\∃ q,ev ⟨p.run 0,p.gl,p.fuel⟩ BM (aG (l.map (·.1)) 3) = .ok q/\truth q.1=some true:=fun {m ds r} hl hrun=>by
   obtain⟨d0,d1,rfl⟩:=BR hl;obtain⟨h1,l,h2,h3,q,h4,h5⟩:=xj ((bK (F:=⟨2,2,Ed⟩) rfl rfl).symm.trans hrun);exact⟨h1,l,h2,h3,q,by rw[<-h4];exact BI,h5⟩
  cases n with
  |zero =>
   refine⟨fun vs H Q E h=>jO h,fun A outer s H args us vs Q E hr he hb hv hs=>?_⟩;obtain⟨ds,G,hl,_,r,hrun,_⟩:=hs;obtain⟨_,l,h2,_⟩:=inv hl hrun;exact (zy (fun _=>rfl) h2).elim
  |succ n =>
   have FRf:=yd (n:=0) (m:=60) (d:=zt) (c:=BM) (P:=P) (base:=base) (cA ok) I hH (GG (p:=p)) (dW (p:=p) (d:=zt) (n:=60) (by decide +kernel)) Ff rfl (by kernel_rfl) rfl hh.t hh.tQ (by decide);have FRt:=DL (n:=n+1) (m:=60) (d:=vb) (cs:=Eb) (P:=P) (base:=base) (cA ok) I hH ih (dW (p:=p) (d:=vb) (n:=60) (by decide +kernel)) Ft rfl (by kernel_rfl) FRf (fun A env r=>⟨r.hd,by have:=r.dp;show A.depth+1+3*0+6<_;omega,by have:=r.un;show A.units+3+16*0+203<_;omega⟩) Ff.kp Bf Mf rfl (by decide) (fun _ _ _ _ _ _=>rfl) (fun _ _ _ _ _ _=>rfl);refine tooLong KX G hh F (dW (p:=p) (d:=dT) (n:=60) (by decide +kernel)) FRt Ft.kp Bt Mt (I.blt "isinstance" (by decide)) (I.blt "ValueError" (by decide)) _ fun vs H Q E hs=>?_
   obtain⟨ds,G',hlen,rs,r,hrun,kk⟩:=hs;obtain⟨er,hl⟩:=inv hlen hrun;obtain⟨v1,v2,rfl⟩:=BS (by rw[<-rs.len];exact hlen:vs.length=2);refine⟨v1,v2,rfl,ds,G',hlen,rs,hl,fun H' sm=>⟨rfl,fun H2 s2=>?_⟩⟩;exact kk (.bl true) H2 [] (sm.trans s2) (by rw[er];exact .bl _) (fun _ z=>(nomatch z)) fun _=>⟨bt,fun _ z=>(nomatch z)⟩
 ·cases hd;have inv:∀{m:Nat}{ds:List D}{r:D×Bool},ds.length=2->p.run (m+1) 21 ds = .ok r->(∃ q,p.run m 6 [.int 1] = .ok q)/\∃ t k d1,ds=[.str (Pc.Ct.tx t),d1]/\jg 0 t=some k/\k<18446744073709551616/\r.1 = .int (k:Int):=fun {m ds r} hl hrun=>by
   obtain⟨d0,d1,rfl⟩:=BR hl;obtain⟨h1,t,k,h2,h3,h4,h5⟩:=vI (gLp (p.run m)) ((bK (F:=⟨2,4,Fm⟩) rfl rfl).symm.trans hrun);exact⟨h1,t,k,d1,by rw[h2],h3,h4,h5⟩
  cases n with
  |zero =>
   refine⟨fun vs H Q E h=>jO h,fun A outer s H args us vs Q E hr he hb hv hs=>?_⟩;obtain⟨ds,G,hl,_,r,hrun,_⟩:=hs;obtain⟨⟨q,hq⟩,_⟩:=inv hl hrun;cases hq
  |succ n =>
   obtain⟨f2,fd2,F2,M2⟩:=I.fn 2 Fv rfl;have B2:=F2.binds (cA ok Fv (List.mem_of_getElem? (i:=2) rfl)).bd;have FR2:=Ac (m:=60) (m2:=60) (d:=Fv) (rb:=rb) (P:=P) (base:=base) (cA ok) I hH (GG (p:=p)) (dW (p:=p) (d:=Fv) (n:=60) (by decide +kernel)) F2 (by kernel_rfl) rfl hh.m hh.k (by decide);obtain⟨f1,fd1,F1,M1⟩:=I.fn 1 df1 rfl;have B1:=F1.binds (cA ok df1 (List.mem_of_getElem? (i:=1) rfl)).bd;have FR1:=wL F1 (dW (p:=p) (d:=df1) (n:=60) (by decide +kernel)) FR2 F2.kp B2 M2;obtain⟨fb,fdb,Fb,Mb⟩:=I.fn 15 Al rfl;have Bb:=Fb.binds (cA ok Al (List.mem_of_getElem? (i:=15) rfl)).bd;have FRb:=vD Fb (dW (p:=p) (d:=Al) (n:=60) (by decide +kernel)) FR1 F1.kp B1 M1;have FRt:=vo Ft (dW (p:=p) (d:=vb) (n:=60) (by decide +kernel)) FRb Fb.kp Bb Mb Mf Ff.kp;refine place hh F (dW (p:=p) (d:=dP) (n:=60) (by decide +kernel)) FRt Ft.kp Bt Mt _ fun vs H Q E hs=>?_
   obtain⟨ds,G',hlen,rs,r,hrun,kk⟩:=hs;obtain⟨_,t,k,d1,rfl,hf,hk,er⟩:=inv hlen hrun;obtain⟨v1,v2,rfl⟩:=BS (by rw[<-rs.len];rfl:vs.length=2);refine⟨v1,v2,rfl,v1,v2,rfl,fun H' sm=>?_⟩;obtain⟨G1,r1⟩:=uV (rs.same sm);refine⟨[.str (Pc.Ct.tx t)],G1,rfl,r1,?_⟩;show match Dq (kJ ⟨p.run 0,p.gl,p.fuel⟩ rb (aG [.str (Pc.Ct.tx t)] 3)) with
    | some (.inl (d,fr))=>_
    | some (.inr k)=>_
    |none=>False
   rw[Io (gLp (p.run 0)) hk hf];intro H2 s2;exact⟨k,rfl,k,rfl,rfl,fun H3 s3=>kk (.int (k:Int)) H3 [] ((sm.trans s2).trans s3) (by rw[er];exact .int _) (fun _ z=>(nomatch z)) fun _=>⟨bt,fun _ z=>(nomatch z)⟩⟩
end
theorem bdI (kV doc pm:Value)(an:Option Addr)(cdv ct:Value)(us:List Value)(hl:us.length=2):bindArgs (PySem.W.fnOf "__init__" "NoSign.__init__" (dY stI) (aW stI) (aE stI) .none kV doc pm an cdv ct) ⟨us,[]⟩=pure ([("self" : Str),"place"].zip us) :=
 @zo (fun us=>bindArgs _ ⟨us,[]⟩=pure (List.zip _ us)) us hl (fun _ _=>rfl)
theorem nxI:typeLookup (.type "ValueError") "place" = pure none:=by rw[typeLookup_type,builtinLookup_eq_fast];kernel_rfl
end K08
open PySem PySem.W PyProof.Rows
theorem PySem.Challenge.cw_patchsquare_k08_grains_of_a_text_holds : PySem.Challenge.rw_patchsquare_k08_grains_of_a_text.Holds := by
 refine holds_law (by decide +kernel) fun said=>?_
 refine holds_open (q:=K08.Q) (loose:=[]) (XP:=XL K08.Q []) (YP:=Hook.says K08.H) K08.left (Hook.of K08.H) (Hook.keeps K08.H) (fun s e=>xl_of s (Bool.and_eq_true_iff.mp e).1) XL.keeps (by rfl) (by rfl) (by rfl) (fun s e=>recFacts_of (Bool.and_eq_true_iff.mp e).2) (by rfl) said (by decide +kernel) ⟨rfl,rfl,rfl,rfl,rfl,by decide +kernel⟩ ?hw ?hc
 case hw=>w_witness2
 refine Pc.Gg (l:=PySem.Challenge.rw_patchsquare_k08_grains_of_a_text) K08.p K08.fgn 9 22 "_law_script" K08.HQ rfl rfl (fun w h Y=>PySem.W.kIn_of Y) rfl rfl rfl ⟨rfl,by decide,by decide⟩ K08.ok ?st ?nl ?hh ?hf K08.plaw
 case nl=>intro w;rfl
 case hh=>intro w;exact Pc.BX rfl
 case hf =>
  intro w mg h base KX G I;have F:L2.m8 (K08.K w.params) "__init__" "NoSign.__init__" K08.stI 125 _:=⟨⟨_,_,_,_,_,_,_,_,_,rfl,rfl,rfl⟩,rfl⟩;exact K08.foreign KX G I (Pc.BX rfl) ⟨36,128,61,125,_,[73,85,97,147,166,128,109,49],⟨df KX G rfl,by kernel_rfl,rfl,by kernel_rfl,by kernel_rfl,by kernel_rfl,F,rfl,F.binds K08.bdI,K08.FQ,K08.nxI⟩,df KX G rfl,by kernel_rfl,by kernel_rfl,by kernel_rfl,df KX G rfl,by kernel_rfl,⟨⟨⟨rfl,rfl⟩,rfl⟩,⟨⟨rfl,rfl⟩,rfl⟩,⟨⟨rfl,rfl⟩,rfl⟩,⟨⟨rfl,rfl⟩,rfl⟩,⟨⟨rfl,rfl⟩,rfl⟩,⟨⟨rfl,rfl⟩,rfl⟩,⟨⟨rfl,rfl⟩,rfl⟩,⟨⟨rfl,rfl⟩,rfl⟩,trivial⟩,rfl,by kernel_rfl,by kernel_rfl,by kernel_rfl⟩
 case st =>
  intro w;refine⟨⟨?d0,?d1,?d2,?d3,?d4,?d5,?d6,?d7,?d8,?d9,?d10,?d11,?d12,?d13,?d14,?d15,?d16,?d17,?d18,?d19,?d20,?d21,?d22,trivial⟩,Pc.BG ⟨?glb0,?glb1,?glb2,?glb3,?glb4,?glb5,?glb6,?glb7,?glb8,?glb9,?glb10,?glb11,?glb12,trivial⟩,⟨?e0,?e1,?e2,?e3,?e4,?e5,?e6,?e7,?e8,?e9,trivial⟩⟩
  case d0 | d1 | d2 | d3 | d4 | d5 | d6 | d7 | d8 | d9 | d10 | d11 | d12 | d13 | d14 | d15 | d16 | d17 | d18 | d19 | d20 | d21 | d22=>refine' Pc.Fh ?a ?l ?c ?k;(case a=>rfl);(case l=>rfl);(case c=>rfl);(case k=>rfl)
  case glb0=>refine' Pc.gl_int (i:=1) ?ga0;(case ga0=>rfl)
  case glb1=>refine' Pc.gl_int (i:=2) ?ga1;(case ga1=>rfl)
  case glb2=>refine' Pc.gl_int (i:=3) ?ga2;(case ga2=>rfl)
  case glb3=>refine' Pc.oV (ds:=[.str ("" : PySem.Str),.str ("0123456789" : PySem.Str),.str (" ABCDEFGHIJKLMNOPQRSTUVWXYZ.,-:/" : PySem.Str),.str (" !\"#$&'()*+,-./0123456789:;<=>?@ABCDEFGHIJKLMNOPQRSTUVWXYZ[\\]^_`abcdefghijklmnopqrstuvwxyz{|}~" : PySem.Str)]) (vs:=[.str ("" : PySem.Str),.str ("0123456789" : PySem.Str),.str (" ABCDEFGHIJKLMNOPQRSTUVWXYZ.,-:/" : PySem.Str),.str (" !\"#$&'()*+,-./0123456789:;<=>?@ABCDEFGHIJKLMNOPQRSTUVWXYZ[\\]^_`abcdefghijklmnopqrstuvwxyz{|}~" : PySem.Str)]) ?ga3 ?gl3 ?gc3 ?gz3 ?gv3 ?gr3;(case ga3=>rfl);(case gl3=>rfl);(case gc3=>rfl);(case gz3=>decide);(case gv3=>exact (.cons ⟨_,rfl⟩ (.cons ⟨_,rfl⟩ (.cons ⟨_,rfl⟩ (.cons ⟨_,rfl⟩ .nil)))));(case gr3=>exact fun H=>(.cons (.str _) (.cons (.str _) (.cons (.str _) (.cons (.str _) .nil)))))
  case glb4=>refine' Pc.oV (ds:=[.int 0,.int 0,.int 5,.int 7]) (vs:=[.int 0,.int 0,.int 5,.int 7]) ?ga4 ?gl4 ?gc4 ?gz4 ?gv4 ?gr4;(case ga4=>rfl);(case gl4=>rfl);(case gc4=>rfl);(case gz4=>decide);(case gv4=>exact (.cons ⟨_,rfl⟩ (.cons ⟨_,rfl⟩ (.cons ⟨_,rfl⟩ (.cons ⟨_,rfl⟩ .nil)))));(case gr4=>exact fun H=>(.cons (.int _) (.cons (.int _) (.cons (.int _) (.cons (.int _) .nil)))))
  case glb5=>refine' Pc.gl_int (i:=2) ?ga5;(case ga5=>rfl)
  case glb6=>refine' Pc.gl_int (i:=6) ?ga6;(case ga6=>rfl)
  case glb7=>refine' Pc.gl_int (i:=64) ?ga7;(case ga7=>rfl)
  case glb8=>refine' Pc.oV (ds:=[.int 0,.int 4,.int 7,.int 10]) (vs:=[.int 0,.int 4,.int 7,.int 10]) ?ga8 ?gl8 ?gc8 ?gz8 ?gv8 ?gr8;(case ga8=>rfl);(case gl8=>rfl);(case gc8=>rfl);(case gz8=>decide);(case gv8=>exact (.cons ⟨_,rfl⟩ (.cons ⟨_,rfl⟩ (.cons ⟨_,rfl⟩ (.cons ⟨_,rfl⟩ .nil)))));(case gr8=>exact fun H=>(.cons (.int _) (.cons (.int _) (.cons (.int _) (.cons (.int _) .nil)))))
  case glb9=>refine' Pc.gl_int (i:=3) ?ga9;(case ga9=>rfl)
  case glb10=>refine' Pc.gl_int (i:=0) ?ga10;(case ga10=>rfl)
  case glb11=>refine' Pc.gl_int (i:=6) ?ga11;(case ga11=>rfl)
  case glb12=>refine' Pc.oV (ds:=[.int 42,.int 21]) (vs:=[.int 42,.int 21]) ?ga12 ?gl12 ?gc12 ?gz12 ?gv12 ?gr12;(case ga12=>rfl);(case gl12=>rfl);(case gc12=>rfl);(case gz12=>decide);(case gv12=>exact (.cons ⟨_,rfl⟩ (.cons ⟨_,rfl⟩ .nil)));(case gr12=>exact fun H=>(.cons (.int _) (.cons (.int _) .nil)))
  case e0 | e1 | e2 | e3 | e4 | e5 | e6 | e7 | e8 | e9=>dsimp only;rfl
end
