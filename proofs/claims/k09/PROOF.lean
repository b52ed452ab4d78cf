import PyProof.Rows.All
import KE.KDictList
import KE.KIntText
import KE.KSortAsk
import OpenK.KOwn
import PySem.Challenge.RW_patchsquare_k09_grains_read
import Lean
set_option Elab.async false
set_option linter.all false
set_option maxRecDepth 100000
set_option maxHeartbeats 0
abbrev aa:=@List.length_append
abbrev ae:=@Option.map_eq_some_iff
abbrev ag:=@Option.bind_eq_some_iff
abbrev ah:=@List.length_cons
abbrev ai:=@List.mem_cons_of_mem
abbrev aj:=@List.mem_cons_self
abbrev ak:=@List.length_map
abbrev ao:=@Bool.and_eq_true
abbrev aq:=@List.size_toArray
abbrev au:=@Nat.le_refl
abbrev av:=@List.append_assoc
abbrev aw:=@List.map_cons
abbrev ax:=@List.mem_append_right
abbrev ay:=@List.append_nil
abbrev az:=@List.length_singleton
abbrev ba:=@decide_eq_false
abbrev bg:=@Nat.lt_of_lt_of_le
abbrev bh:=@List.length_take
abbrev bj:=@Bool.false_ne_true
abbrev bo:=@List.mem_append_left
abbrev bp:=@decide_eq_true
abbrev bq:=@Nat.le_trans
abbrev bt:=@Int.emod_lt_of_pos
abbrev bu:=@List.length_drop
abbrev bw:=@Nat.ne_of_lt
abbrev bz:=@List.length_nil
abbrev cf:=@Int.emod_nonneg
abbrev cj:=@Int.toNat_natCast
abbrev cm:=@List.length_replicate
abbrev cq:=@Option.some.inj
abbrev cu:=@List.nodup_nil
abbrev cv:=@List.all_eq_true
abbrev cw:=@List.length_range
abbrev cx:=@List.flatten_cons
abbrev cy:=@PySem.mem_of_lookup
abbrev cz:=@PySem.W.mg_of
abbrev c9:=@List.mem_of_getElem
abbrev de:=@Option.map_some
abbrev df:=@List.map_map
abbrev dh:=@Nat.zero_le
abbrev dk:=@Int.eq_ofNat_of_zero_le
abbrev dm:=@List.take_of_length_le
abbrev dn:=@Bool.false_eq_true
abbrev dq:=@List.nil_append
abbrev dt:=@List.map_append
abbrev du:=@List.lookup_cons
abbrev dw:=@of_decide_eq_true
abbrev dy:=@decide_eq_true_eq
abbrev dz:=@Option.some.injEq
abbrev eh:=@Ne.symm
abbrev eo:=@beq_self_eq_true
abbrev fh:=@List.getElem_mem
abbrev fk:=@Nat.min_eq_left
abbrev fm:=@Option.bind_some
abbrev fq:=@List.mem_of_mem_take
abbrev fu:=@if_true
abbrev fv:=@Nat.zero_add
abbrev fw:=@Nat.lt_irrefl
abbrev f9:=@List.mem_of_mem_drop
abbrev gd:=@beq_eq_false_iff_ne
abbrev gh:=@List.replicate_succ
abbrev gi:=@List.map_congr_left
abbrev gj:=@List.range_succ_eq_map
abbrev gn:=@Nat.lt_succ_self
abbrev gp:=@if_false
abbrev gq:=@Nat.not_lt_zero
abbrev gu:=@List.map_nil
abbrev gv:=@congrArg
abbrev gw:=@Bool.not_eq_true'
abbrev gy:=@PySem.F.excBase_ValueError
abbrev ic:=@Int.mul_comm
abbrev ie:=@List.drop_eq_getElem_cons
abbrev ig:=@List.sum_cons
abbrev ij:=@Bool.or_eq_true
abbrev ik:=@beq_iff_eq
abbrev il:=@PySem.W.callWith_K
abbrev ip:=@Nat.lt_of_le_of_lt
abbrev iq:=@List.mem_singleton
abbrev ir:=@List.lookup_append
abbrev iu:=@List.contains_cons
abbrev iw:=@PySem.F.plainAttrs_list
abbrev iy:=@Nat.lt_succ_of_lt
abbrev iz:=@List.drop_zero
abbrev i0:=@Nat.succ_le_succ
abbrev i5:=@Nat.min_eq_right
abbrev i6:=@Nat.le_of_not_lt
abbrev i7:=@List.not_mem_nil
abbrev i8:=@List.any_cons
abbrev i9:=@List.length_set
abbrev ja:=@List.filterMap_cons
abbrev jb:=@List.drop_succ_cons
abbrev jc:=@Array.length_toList
abbrev jd:=@PyProof.Rows.callWith_type1
abbrev je:=@List.mem_cons
abbrev jf:=@List.map_take
abbrev jg:=@List.drop_length
abbrev jh:=@bne_iff_ne
abbrev ji:=@PySem.W.cellsFrom_some
abbrev jj:=@PySem.F.plainAttrs_str
abbrev jk:=@Nat.succ.inj
abbrev jm:=@Nat.le_of_lt
abbrev jo:=@Bool.or_true
abbrev jq:=@List.of_mem_zip
abbrev jr:=@List.foldl_cons
abbrev jt:=@List.take_append_drop
abbrev ju:=@Int.mul_ediv_add_emod
section
namespace L2
open PySem PySem.Spec PyProof.Rows
noncomputable def cH (s:Stmt):Arguments:=match s with
 |.FunctionDef _ a _ _ _ _ _ _ _ _=>a
 |_=>{ posonlyargs:=[],args:=[],vararg:=none,kwonlyargs:=[],kw_defaults:=[],kwarg:=none,defaults:=[] }
noncomputable def bD (s:Stmt):List Stmt:=match s with
 |.FunctionDef _ _ b _ _ _ _ _ _ _=>b
 |_=>[]
noncomputable def aG (s:Stmt):Scope:=match s with
 |.FunctionDef _ _ _ _ _ _ sc _ _ _=>sc
 |_=>{ kind:=.function,names:=[],isGenerator:=false,isCoroutine:=false }
end L2
end
section
namespace Pc.Hd
open PySem PySem.W L2
noncomputable def sv (x:String)(t:Tok):Value:=.str (Str.ofString x) t
noncomputable def kv (P:Params)(x:String)(t:Tok)(v:Value):DictEntry:=⟨PyData.keyHash P (Str.ofString x),sv x t,v⟩
noncomputable def z5:Stmt->Str
 |.FunctionDef n ..=>n
 |_=>Str.ofString ""
noncomputable def fo (a:Addr)(s:Stmt)(m c:Value):Addr×Obj:=(a,⟨.type "function",none,.func { name:=z5 s,qualname:=z5 s,params:=cH s,body:=.stmts (bD s),scope:=aG s,globals:=mainGlobals,closure:=[],defaults:=.none,kwdefaults:=.none,pyModule:=m,code:=c },#[]⟩)
noncomputable def co (a:Addr)(vs:Array Value):Addr×Obj:=(a,⟨.type "code",none,.fields vs,#[]⟩)
noncomputable def tu (a:Addr)(vs:Array Value):Addr×Obj:=(a,⟨.type "tuple",none,.seq vs 0,#[]⟩)
noncomputable def di (a:Addr)(es:Array DictEntry)(n:Nat):Addr×Obj:=(a,⟨.type "dict",none,.dict es n,#[]⟩)
noncomputable def cq (a:Addr)(n q:String)(t1 t2 t3:Tok)(l k:Int)(r s:Addr)(x y:Value)(u:Addr)(c:Int)(v:Tok):Addr×Obj:=co a #[sv n t1,sv q t2,sv "/claim/cut.py" t3,.int l 0,.int k 0,.int 0 0,.int 0 0,.int 3 0,.ref r,.bool true,.int 181 0,.ref s,.none,x,y,.ref u,.int c 0,.int l 0,sv "/claim/cut.py" v]
noncomputable def ec (a:Addr)(n:String)(m u:Addr)(t v:Tok):Addr×Obj:=(a,{ cls:=.type "type",data:=.cls { name:=Str.ofString n,bases:=[.ref 36],mro:=[.ref a,.ref 36,.type "ValueError",.type "Exception",.type "BaseException",.type "object"],ns:=m,qualname:=Str.ofString n },slots:=#[some (.ref u),none,some (sv n t),some (sv n v),some (.builtin "ValueError.__new__"),some (.bool true)] })
noncomputable def mt (s:Stmt)(i:Nat):Stmt:=match s with
 |.ClassDef _ _ _ b ..=>b.getD i (.Pass ⟨0,0,0,0⟩)
 |s=>s
noncomputable def fm (a:Addr)(s:Stmt)(n q:String)(m c:Value):Addr×Obj:=(a,⟨.type "function",none,.func { name:=Str.ofString n,qualname:=Str.ofString q,params:=cH s,body:=.stmts (bD s),scope:=aG s,globals:=mainGlobals,closure:=[],defaults:=.none,kwdefaults:=.none,pyModule:=m,code:=c },#[]⟩)
noncomputable def kd (P:Params)(a:Addr)(t1 t2 t3:Tok)(l:Int)(t4 t5:Tok)(r:Addr)(t6:Tok):Addr×Obj:=di a #[kv P "__module__" t1 (sv "patchsquare.errors" t2),kv P "__firstlineno__" t3 (.int l t4),kv P "__static_attributes__" t5 (.ref r),kv P "__doc__" t6 .none] 2
end Pc.Hd
end
section
namespace K09
open PySem PySem.Spec PyProof.Rows L2
noncomputable abbrev st (i:Nat):Stmt:=PySem.Challenge.pw_patchsquare_k09_grains_read.main.body.getD i (.Pass ⟨0,0,0,0⟩)
end K09
namespace K09
open PySem PySem.W Pc.Hd
noncomputable def K (P:Params):Frag:=[(2,{ cls:=Value.none,data:=Data.dict #[] }),
 di 3 #[kv P "__name__" 165 (sv "law_patchsquare_k09_grains_read" 645),kv P "__doc__" 166 .none,kv P "__package__" 167 .none,kv P "__loader__" 168 (.builtin "__main__.__loader__#opaque"),kv P "__spec__" 169 .none,kv P "__annotations__" 170 (.ref 6),kv P "__builtins__" 171 (.ref 4),kv P "__file__" 173 (sv "/claim/cut.py" 172),kv P "__cached__" 174 .none,kv P "bits_of" 194 (.ref 19),kv P "number_of" 203 (.ref 26),kv P "SquareError" 223 (.ref 36),kv P "NoText" 239 (.ref 49),kv P "TooLong" 255 (.ref 61),kv P "NoInverse" 271 (.ref 73),kv P "NoLabel" 287 (.ref 85),kv P "NoMarks" 303 (.ref 97),kv P "NoSquare" 319 (.ref 109),kv P "NoSign" 344 (.ref 128),kv P "NoMend" 369 (.ref 147),kv P "NoPicture" 394 (.ref 166),kv P "END" 398 (.int 0 397),kv P "FIGURES" 400 (.int 1 399),kv P "CAPITALS" 402 (.int 2 401),kv P "ANY" 404 (.int 3 403),kv P "KIND_SIGNS" 409 (.ref 169),kv P "SIGN_BITS" 414 (.ref 170),kv P "KIND_BITS" 416 (.int 2 415),kv P "COUNT_BITS" 418 (.int 6 417),kv P "MOST_SIGNS" 420 (.int 64 419),kv P "FIGURE_BITS" 425 (.ref 171),kv P "FIGURE_GREATEST" 430 (.ref 172),kv P "MOST_FIGURES" 432 (.int 3 431),kv P "BitReader" 472 (.ref 196),kv P "piece_length" 481 (.ref 207),kv P "piece_bits" 491 (.ref 214),kv P "figures_bits" 501 (.ref 221),kv P "signs_bits" 511 (.ref 228),kv P "read_pieces" 523 (.ref 235),kv P "read_figures" 534 (.ref 242),kv P "read_signs" 545 (.ref 249),kv P "cut_text" 559 (.ref 256),kv P "refuse_strange_signs" 568 (.ref 263),kv P "best_cuts" 580 (.ref 270),kv P "cuts_of_kind" 593 (.ref 277),kv P "GRAIN_BITS" 597 (.int 6 596),kv P "FILLING" 600 (.ref 278),kv P "text_grains" 608 (.ref 285),kv P "bare_grains" 617 (.ref 292),kv P "grains_of_bits" 623 (.ref 297),kv P "bits_of_grains" 632 (.ref 304),kv P "filled_grains" 638 (.ref 309),kv P "read_grains" 644 (.ref 314),kv P "_law_mix" 656 (.ref 321),kv P "_law_signs" 664 (.ref 328),kv P "_law_run" 675 (.ref 335),kv P "_law_text" 688 (.ref 342),kv P "_law_any_cut" 702 (.ref 349),kv P "_law_cut_grains" 708 (.ref 354),kv P "_law_read" 718 (.ref 361),kv P "_law_right" 727 (.ref 368),kv P "law" 733 (.ref 373)] 62,
 di 6 #[] 0,
 cq 18 "bits_of" "bits_of" 189 190 191 2 2 15 16 .none .none 17 192 193,
 fo 19 (st 1) (sv "patchsquare.bits" 187) (.ref 18),
 cq 25 "number_of" "number_of" 195 196 197 4 1 20 21 (.ref 22) (.ref 23) 24 201 202,
 fo 26 (st 2) (sv "patchsquare.bits" 187) (.ref 25),
 tu 27 #[(.type "ValueError")],
 tu 34 #[],
 di 35 #[kv P "__module__" 213 (sv "patchsquare.errors" 204),kv P "__firstlineno__" 217 (.int 10 216),kv P "__static_attributes__" 218 (.ref 34),kv P "__weakref__" 220 (.ref 37),kv P "__doc__" 221 .none] 3,
 (36,{ cls:=Value.type "type",data:=Data.cls { name:=Str.ofString "SquareError",bases:=[Value.type "ValueError"],mro:=[Value.ref 36,Value.type "ValueError",Value.type "Exception",Value.type "BaseException",Value.type "object"],ns:=35,qualname:=Str.ofString "SquareError",subclasses:=[Value.ref 49,Value.ref 61,Value.ref 73,Value.ref 85,Value.ref 97,Value.ref 109,Value.ref 128,Value.ref 147,Value.ref 166] },slots:=#[some (Value.ref 27),none,some (Value.str (Str.ofString "SquareError") 206),some (Value.str (Str.ofString "SquareError") 214),some (Value.builtin "ValueError.__new__"),some (Value.bool true)] }),
 (37,{ cls:=Value.type "getset_descriptor",data:=Data.fields #[Value.str (Str.ofString "__weakref__") 219,Value.ref 36,Value.builtin "ExceptionGroup.__weakref__",Value.none] }),
 tu 40 #[(.ref 36)],
 tu 47 #[],
 kd P 48 231 204 235 12 234 236 47 237,
 ec 49 "NoText" 48 40 224 232,
 tu 52 #[(.ref 36)],
 tu 59 #[],
 kd P 60 247 204 251 14 250 252 59 253,
 ec 61 "TooLong" 60 52 240 248,
 tu 64 #[(.ref 36)],
 tu 71 #[],
 kd P 72 263 204 267 16 266 268 71 269,
 ec 73 "NoInverse" 72 64 256 264,
 tu 76 #[(.ref 36)],
 tu 83 #[],
 kd P 84 279 204 283 18 282 284 83 285,
 ec 85 "NoLabel" 84 76 272 280,
 tu 88 #[(.ref 36)],
 tu 95 #[],
 kd P 96 295 204 299 20 298 300 95 301,
 ec 97 "NoMarks" 96 88 288 296,
 tu 100 #[(.ref 36)],
 tu 107 #[],
 kd P 108 311 204 315 22 314 316 107 317,
 ec 109 "NoSquare" 108 100 304 312,
 tu 112 #[(.ref 36)],
 cq 124 "__init__" "NoSign.__init__" 332 333 334 26 2 119 120 (.ref 121) (.ref 122) 123 337 338,
 fm 125 (mt (st 11) 0) "__init__" "NoSign.__init__" (sv "patchsquare.errors" 204) (.ref 124),
 tu 126 #[(sv "place" 340)],
 di 127 #[kv P "__module__" 327 (sv "patchsquare.errors" 204),kv P "__firstlineno__" 331 (.int 24 330),kv P "__init__" 339 (.ref 125),kv P "__static_attributes__" 341 (.ref 126),kv P "__doc__" 342 .none] 2,
 ec 128 "NoSign" 127 112 320 328,
 tu 131 #[(.ref 36)],
 cq 143 "__init__" "NoMend.__init__" 357 358 359 31 2 138 139 (.ref 140) (.ref 141) 142 362 363,
 fm 144 (mt (st 12) 0) "__init__" "NoMend.__init__" (sv "patchsquare.errors" 204) (.ref 143),
 tu 145 #[(sv "block" 365)],
 di 146 #[kv P "__module__" 352 (sv "patchsquare.errors" 204),kv P "__firstlineno__" 356 (.int 29 355),kv P "__init__" 364 (.ref 144),kv P "__static_attributes__" 366 (.ref 145),kv P "__doc__" 367 .none] 2,
 ec 147 "NoMend" 146 131 345 353,
 tu 150 #[(.ref 36)],
 cq 162 "__init__" "NoPicture.__init__" 382 383 384 36 2 157 158 (.ref 159) (.ref 160) 161 387 388,
 fm 163 (mt (st 13) 0) "__init__" "NoPicture.__init__" (sv "patchsquare.errors" 204) (.ref 162),
 tu 164 #[(sv "row" 390)],
 di 165 #[kv P "__module__" 377 (sv "patchsquare.errors" 204),kv P "__firstlineno__" 381 (.int 34 380),kv P "__init__" 389 (.ref 163),kv P "__static_attributes__" 391 (.ref 164),kv P "__doc__" 392 .none] 2,
 ec 166 "NoPicture" 165 150 370 378,
 tu 169 #[(sv "" 405),(sv "0123456789" 406),(sv " ABCDEFGHIJKLMNOPQRSTUVWXYZ.,-:/" 407),(sv " !\"#$&'()*+,-./0123456789:;<=>?@ABCDEFGHIJKLMNOPQRSTUVWXYZ[\\]^_`abcdefghijklmnopqrstuvwxyz{|}~" 408)],
 tu 170 #[(.int 0 410),(.int 0 411),(.int 5 412),(.int 7 413)],
 tu 171 #[(.int 0 421),(.int 4 422),(.int 7 423),(.int 10 424)],
 tu 172 #[(.int 0 426),(.int 9 427),(.int 99 428),(.int 999 429)],
 cq 185 "__init__" "BitReader.__init__" 445 446 447 54 2 180 181 (.ref 182) (.ref 183) 184 450 451,
 fm 186 (mt (st 27) 0) "__init__" "BitReader.__init__" (sv "patchsquare.pieces" 395) (.ref 185),
 cq 192 "read_number" "BitReader.read_number" 453 454 455 58 2 187 188 (.ref 189) (.ref 190) 191 460 461,
 fm 193 (mt (st 27) 1) "read_number" "BitReader.read_number" (sv "patchsquare.pieces" 395) (.ref 192),
 tu 194 #[(sv "bits" 463),(sv "place" 464)],
 di 195 #[kv P "__module__" 440 (sv "patchsquare.pieces" 395),kv P "__firstlineno__" 444 (.int 52 443),kv P "__init__" 452 (.ref 186),kv P "read_number" 462 (.ref 193),kv P "__static_attributes__" 465 (.ref 194),kv P "__dict__" 467 (.ref 197),kv P "__weakref__" 469 (.ref 198),kv P "__doc__" 470 .none] 4,
 (196,{ cls:=Value.type "type",data:=Data.cls { name:=Str.ofString "BitReader",bases:=[Value.type "object"],mro:=[Value.ref 196,Value.type "object"],ns:=195,qualname:=Str.ofString "BitReader" },slots:=#[none,none,some (Value.str (Str.ofString "BitReader") 433),some (Value.str (Str.ofString "BitReader") 441),some (Value.builtin "object.__new__"),some (Value.bool true)] }),
 (197,{ cls:=Value.type "getset_descriptor",data:=Data.fields #[Value.str (Str.ofString "__dict__") 466,Value.ref 196,Value.builtin "function.__dict__",Value.builtin "function.__dict__#set"] }),
 (198,{ cls:=Value.type "getset_descriptor",data:=Data.fields #[Value.str (Str.ofString "__weakref__") 468,Value.ref 196,Value.builtin "ExceptionGroup.__weakref__",Value.none] }),
 cq 206 "piece_length" "piece_length" 473 474 475 65 2 201 202 (.ref 203) (.ref 204) 205 479 480,
 fo 207 (st 28) (sv "patchsquare.pieces" 395) (.ref 206),
 cq 213 "piece_bits" "piece_bits" 482 483 484 70 1 208 209 (.ref 210) (.ref 211) 212 489 490,
 fo 214 (st 29) (sv "patchsquare.pieces" 395) (.ref 213),
 cq 220 "figures_bits" "figures_bits" 492 493 494 77 1 215 216 (.ref 217) (.ref 218) 219 499 500,
 fo 221 (st 30) (sv "patchsquare.pieces" 395) (.ref 220),
 cq 227 "signs_bits" "signs_bits" 502 503 504 83 2 222 223 (.ref 224) (.ref 225) 226 509 510,
 fo 228 (st 31) (sv "patchsquare.pieces" 395) (.ref 227),
 cq 234 "read_pieces" "read_pieces" 512 513 514 88 1 229 230 (.ref 231) (.ref 232) 233 521 522,
 fo 235 (st 32) (sv "patchsquare.pieces" 395) (.ref 234),
 cq 241 "read_figures" "read_figures" 524 525 526 98 2 236 237 (.ref 238) (.ref 239) 240 532 533,
 fo 242 (st 33) (sv "patchsquare.pieces" 395) (.ref 241),
 cq 248 "read_signs" "read_signs" 535 536 537 107 3 243 244 (.ref 245) (.ref 246) 247 543 544,
 fo 249 (st 34) (sv "patchsquare.pieces" 395) (.ref 248),
 cq 255 "cut_text" "cut_text" 548 549 550 116 1 250 251 (.ref 252) (.ref 253) 254 557 558,
 fo 256 (st 36) (sv "patchsquare.cutting" 546) (.ref 255),
 cq 262 "refuse_strange_signs" "refuse_strange_signs" 560 561 562 127 1 257 258 (.ref 259) (.ref 260) 261 566 567,
 fo 263 (st 37) (sv "patchsquare.cutting" 546) (.ref 262),
 cq 269 "best_cuts" "best_cuts" 569 570 571 131 1 264 265 (.ref 266) (.ref 267) 268 578 579,
 fo 270 (st 38) (sv "patchsquare.cutting" 546) (.ref 269),
 cq 276 "cuts_of_kind" "cuts_of_kind" 581 582 583 141 4 271 272 (.ref 273) (.ref 274) 275 591 592,
 fo 277 (st 39) (sv "patchsquare.cutting" 546) (.ref 276),
 tu 278 #[(.int 42 598),(.int 21 599)],
 cq 284 "text_grains" "text_grains" 601 602 603 150 2 279 280 (.ref 281) (.ref 282) 283 606 607,
 fo 285 (st 43) (sv "patchsquare.grains" 594) (.ref 284),
 cq 291 "bare_grains" "bare_grains" 609 610 611 152 1 286 287 (.ref 288) (.ref 289) 290 615 616,
 fo 292 (st 44) (sv "patchsquare.grains" 594) (.ref 291),
 cq 296 "grains_of_bits" "grains_of_bits" 618 619 620 160 1 293 294 .none .none 295 621 622,
 fo 297 (st 45) (sv "patchsquare.grains" 594) (.ref 296),
 cq 303 "bits_of_grains" "bits_of_grains" 624 625 626 162 1 298 299 (.ref 300) (.ref 301) 302 630 631,
 fo 304 (st 46) (sv "patchsquare.grains" 594) (.ref 303),
 cq 308 "filled_grains" "filled_grains" 633 634 635 167 2 305 306 .none .none 307 636 637,
 fo 309 (st 47) (sv "patchsquare.grains" 594) (.ref 308),
 cq 313 "read_grains" "read_grains" 639 640 641 172 1 310 311 .none .none 312 642 643,
 fo 314 (st 48) (sv "patchsquare.grains" 594) (.ref 313),
 cq 320 "_law_mix" "_law_mix" 647 648 649 179 3 315 316 (.ref 317) (.ref 318) 319 654 655,
 fo 321 (st 50) (sv "law_patchsquare_k09_grains_read" 645) (.ref 320),
 cq 327 "_law_signs" "_law_signs" 657 658 659 184 1 322 323 (.ref 324) (.ref 325) 326 662 663,
 fo 328 (st 51) (sv "law_patchsquare_k09_grains_read" 645) (.ref 327),
 cq 334 "_law_run" "_law_run" 665 666 667 191 2 329 330 (.ref 331) (.ref 332) 333 673 674,
 fo 335 (st 52) (sv "law_patchsquare_k09_grains_read" 645) (.ref 334),
 cq 341 "_law_text" "_law_text" 676 677 678 198 2 336 337 (.ref 338) (.ref 339) 340 686 687,
 fo 342 (st 53) (sv "law_patchsquare_k09_grains_read" 645) (.ref 341),
 cq 348 "_law_any_cut" "_law_any_cut" 689 690 691 210 2 343 344 (.ref 345) (.ref 346) 347 700 701,
 fo 349 (st 54) (sv "law_patchsquare_k09_grains_read" 645) (.ref 348),
 cq 353 "_law_cut_grains" "_law_cut_grains" 703 704 705 225 3 350 351 .none .none 352 706 707,
 fo 354 (st 55) (sv "law_patchsquare_k09_grains_read" 645) (.ref 353),
 cq 360 "_law_read" "_law_read" 709 710 711 240 1 355 356 (.ref 357) (.ref 358) 359 716 717,
 fo 361 (st 56) (sv "law_patchsquare_k09_grains_read" 645) (.ref 360),
 cq 367 "_law_right" "_law_right" 719 720 721 248 1 362 363 (.ref 364) (.ref 365) 366 725 726,
 fo 368 (st 57) (sv "law_patchsquare_k09_grains_read" 645) (.ref 367),
 cq 372 "law" "law" 728 729 730 256 1 369 370 .none .none 371 731 732,
 fo 373 (st 58) (sv "law_patchsquare_k09_grains_read" 645) (.ref 372)]
noncomputable def as:List Addr:=[2,3,6,18,19,25,26,27,34,35,36,37,40,47,48,49,52,59,60,61,64,71,72,73,76,83,84,85,88,95,96,97,100,107,108,109,112,124,125,126,127,128,131,143,144,145,146,147,150,162,163,164,165,166,169,170,171,172,185,186,192,193,194,195,196,197,198,206,207,213,214,220,221,227,228,234,235,241,242,248,249,255,256,262,263,269,270,276,277,278,284,285,291,292,296,297,303,304,308,309,313,314,320,321,327,328,334,335,341,342,348,349,353,354,360,361,367,368,372,373]
noncomputable def Q:Program:={ PySem.Challenge.pw_patchsquare_k09_grains_read with main:={ PySem.Challenge.pw_patchsquare_k09_grains_read.main with body:=[st 1,st 2,st 4,st 5,st 6,st 7,st 8,st 9,st 10,st 11,st 12,st 13,st 15,st 16,st 17,st 18,st 19,st 20,st 21,st 22,st 23,st 24,st 25,st 26,st 27,st 28,st 29,st 30,st 31,st 32,st 33,st 34,st 36,st 37,st 38,st 39,st 41,st 42,st 43,st 44,st 45,st 46,st 47,st 48,st 50,st 51,st 52,st 53,st 54,st 55,st 56,st 57,st 58] } }
noncomputable def H:Hook:=kHook K as (fun _=>rfl)
open PyProof.Rows
theorem Rq {α β γ:Type}{o:Option α}{f:α->β×γ}{a:β×γ}(h:o.map (fun s=>(f s).1)=some a.1)(h':o.map (fun s=>(f s).2)=some a.2):o.map f=some a:=by
 cases o with
 |none=>cases h
 |some s=>exact congrArg some (Prod.ext (Option.some.inj h) (Option.some.inj h'))
abbrev PZ (w:World):=openEnds treeTable PySem.Challenge.pw_patchsquare_k09_grains_read w 7182
noncomputable abbrev PR (s:Shared):=openSeen Q [] (importedModules PySem.Challenge.pw_patchsquare_k09_grains_read.main.body) (fun s=>xlAt K09.Q [] s&&recOk (RowW.records PySem.Challenge.rw_patchsquare_k09_grains_read.row.toRowW) s) true s
theorem leA (w:World):(PZ w).map (fun s=>seen ((recsOf Q).map (·.name)) (ownsOf Q) [] {s with gens:=#[]})=some (expectedOf Q):=by kernel_rfl
theorem leB (w:World):(PZ w).map (fun s=>s.heap.bltView)=some bltViewBooted:=by kernel_rfl
theorem leE (w:World):(PZ w).map (fun s=>s.heap.keysOk (looseW Q []) ((recsOf Q).map (·.name)) ((litsOf Q).map (·.1)) ((clssOf Q (looseW Q [])).map (·.name)) && s.heap.accountedOkI (importedModules PySem.Challenge.pw_patchsquare_k09_grains_read.main.body) && s.heap.isNs mainGlobals && s.heap.isNs builtinsNs && tablesOk Q s.heap && (fun s=>xlAt K09.Q [] s&&recOk (RowW.records PySem.Challenge.rw_patchsquare_k09_grains_read.row.toRowW) s) s && (if true then s.gens.size == 0 else !leftWithCleanup s.gens))=some true:=by kernel_rfl
theorem leF (w:World):(PZ w).map (fun s=>(tabsOk Q s, pinSeenD Q (drecsOf Q) s, plainSeenE Q (looseW Q []) s, plainSeenD Q [] s, wideSeen Q s, clsSeenW Q [] s))=some (true, pinGoodD (drecsOf Q), plainGoodE Q (looseW Q []), plainGoodD Q [], wideGood Q, clsGoodW Q []):=by kernel_rfl
theorem leC (w:World):(PZ w).map (Hook.obs H)=some (Hook.val H w):=by kernel_rfl
theorem left:LeftO PySem.Challenge.pw_patchsquare_k09_grains_read Q [] (fun s=>xlAt K09.Q [] s&&recOk (RowW.records PySem.Challenge.rw_patchsquare_k09_grains_read.row.toRowW) s) (Hook.obs H) (Hook.val H) 7182:=fun w=>Rq (f:=fun s=>(PR s,Hook.obs H s)) (Rq (leA w) (Rq (leB w) (Rq (leE w) (leF w)))) (leC w)
end K09
end
section
namespace L2
open PySem PySem.Spec PyProof.Rows
noncomputable abbrev Key:=Sum Int Str
noncomputable def oJ:Key->Value->Bool
 |.inl k,v=>Value.isInt k v
 |.inr x,v=>Value.isStrOf x v
noncomputable def Tt (w:World):Key->Int
 |.inl k=>hashInt k
 |.inr x=>hashStr w x
theorem bX:∀{k:Key}{v:Value},oJ k v=true->(∃i t,k=Sum.inl i/\v=Value.int i t)\/(∃x t,k=Sum.inr x/\v=Value.str x t)
 | .inl i,v,h=>by
  obtain⟨t,e⟩:=Value.isInt_shape (k:=i) (v:=v) h;exact .inl ⟨i,t,rfl,e⟩
 | .inr x,v,h=>by
  obtain⟨t,e⟩:=Value.isStrOf_shape (x:=x) (v:=v) h;exact .inr ⟨x,t,rfl,e⟩
theorem xH (i:Int)(t:Tok):oJ (.inl i) (.int i t)=true:=by simp[oJ,Value.isInt]
theorem xI (x:Str)(t:Tok):oJ (.inr x) (.str x t)=true:=by simp[oJ,Value.isStrOf]
theorem Fj (a b:Int):decide ((Sum.inl a:Key)=Sum.inl b)=(a==b):=by
 by_cases e:a=b
 .subst e;simp
 .have h:¬ (Sum.inl a:Key)=Sum.inl b:=fun q=>e (Sum.inl.inj q)
  rw[ba h];exact (gd.mpr e).symm
theorem GS (a b:Str):decide ((Sum.inr a:Key)=Sum.inr b)=decide (a=b):=by
 by_cases e:a=b
 .subst e;simp
 .have h:¬ (Sum.inr a:Key)=Sum.inr b:=fun q=>e (Sum.inr.inj q)
  rw[ba h,ba e]
theorem FU (a:Int)(b:Str):decide ((Sum.inl a:Key)=Sum.inr b)=false:=ba (fun q=>nomatch q)
theorem Hh (a:Str)(b:Int):decide ((Sum.inr a:Key)=Sum.inl b)=false:=ba (fun q=>nomatch q)
noncomputable def cB (prog:Program)(w:World):PySem.KeyKind prog w Key where
 is:=oJ
 hash:=Tt w
 inj:=fun v a b ha hb=>by
  rcases bX ha with ⟨i,t,rfl,rfl⟩ | ⟨x,t,rfl,rfl⟩
  .rcases bX hb with ⟨j,u,rfl,e⟩ | ⟨y,u,rfl,e⟩
   .injection e with e1 _;rw[e1]
   .exact nomatch e
  .rcases bX hb with ⟨j,u,rfl,e⟩ | ⟨y,u,rfl,e⟩
   .exact nomatch e
   .injection e with e1 _;rw[e1]
 byValue:=fun k v h=>by
  rcases bX h with ⟨i,t,rfl,rfl⟩ | ⟨x,t,rfl,rfl⟩<;>rfl
 pyHash:=fun hv h=>by
  rcases bX hv with ⟨i,t,rfl,rfl⟩ | ⟨x,t,rfl,rfl⟩
  .exact wpAny_pyHash_int h
  .exact wpAny_pyHash_str h
 eqBool:=fun hu hv h=>by
  rcases bX hu with ⟨i,t,rfl,rfl⟩ | ⟨x,t,rfl,rfl⟩
  .rcases bX hv with ⟨j,u,rfl,rfl⟩ | ⟨y,u,rfl,rfl⟩
   .rw[Fj] at h;exact wpAny_eqBool_int h
   .rw[FU] at h;exact SeqAt.EqAt.int_str i t y u _ _ _ _ h
  .rcases bX hv with ⟨j,u,rfl,rfl⟩ | ⟨y,u,rfl,rfl⟩
   .rw[Hh] at h;exact SeqAt.EqAt.str_int x t j u _ _ _ _ h
   .rw[GS] at h;exact wpAny_eqBool_str h
 «strs»:=fun k x t v h=>by
  rcases bX h with ⟨i,u,rfl,e⟩ | ⟨y,u,rfl,e⟩
  .exact nomatch e
  .injection e with e1 _
   subst e1;cases v<;>rfl
theorem mz (prog:Program)(w:World)(i:Int)(t:Tok):(cB prog w).is (.inl i) (.int i t)=true:=xH i t
theorem t7 (prog:Program)(w:World)(x:Str)(t:Tok):(cB prog w).is (.inr x) (.str x t)=true:=xI x t
end L2
namespace L2
open PySem PySem.Spec PyProof.Rows
inductive V where
 | LC | bl (b:Bool) | int (i:Int) | str (x:Str) | Pz (b:Array UInt8) | Py (b:UInt64) | ref (a:Addr) | ty (n:String)
 deriving DecidableEq
noncomputable def RelV:V->Value->Prop
 |.LC,u=>u=Value.none
 |.bl b,u=>u=Value.bool b
 |.int i,u=>∃t,u=Value.int i t
 |.str x,u=>∃t,u=Value.str x t
 |.Pz b,u=>∃t,u=Value.bytes b t
 |.Py b,u=>∃t,u=Value.float b t
 |.ref a,u=>u=Value.ref a
 |.ty n,u=>u=Value.type n
noncomputable abbrev aS:List V->List Value->Prop:=Paired RelV
theorem aS.length {xs:List V}{us:List Value}(r:aS xs us):xs.length=us.length:=Paired.length r
theorem aS.get:∀{xs:List V}{us:List Value}{i:Nat}{x:V},aS xs us->xs[i]? = some x->∃u,us[i]? = some u/\RelV x u
 |_,_,_,_,.nil,e=>by simp at e
 |_,_,0,_,.cons r _,e=>by simp at e;subst e;exact⟨_,rfl,r⟩
 | _,_,i+1,x,.cons _ t,e=>by
  obtain⟨u,h1,h2⟩:=aS.get (i:=i) (x:=x) t (by simpa using e);exact⟨u,by simpa using h1,h2⟩
theorem aS.set {x:V}{u:Value}(r:RelV x u):∀{xs:List V}{us:List Value}(i:Nat),aS xs us->aS (xs.set i x) (us.set i u)
 |_,_,_,.nil=>.nil
 |_,_,0,.cons _ t=>.cons r t
 |_,_,i+1,.cons q t=>.cons q (aS.set r i t)
theorem aS.append:∀{xs ys:List V}{us ws:List Value},aS xs us->aS ys ws->aS (xs++ys) (us++ws)
 |_,_,_,_,.nil,s=>s
 |_,_,_,_,.cons r t,s=>.cons r (aS.append t s)
theorem aS.take:∀{xs:List V}{us:List Value}(n:Nat),aS xs us->aS (xs.take n) (us.take n)
 |_,_,0,_=>.nil
 |_,_,_+1,.nil=>.nil
 |_,_,n+1,.cons r t=>.cons r (aS.take n t)
theorem aS.drop:∀{xs:List V}{us:List Value}(n:Nat),aS xs us->aS (xs.drop n) (us.drop n)
 |_,_,0,r=>r
 |_,_,_+1,.nil=>.nil
 |_,_,n+1,.cons _ t=>aS.drop n t
noncomputable def kW:Option V->Option Value->Prop
 |some v,some u=>RelV v u
 |none,none=>True
 |_,_=>False
def KV {κ:Type}:List (κ×V)->List (κ×Value)->Prop:=Paired fun (p:κ×V) (q:κ×Value)=>p.1=q.1/\RelV p.2 q.2
noncomputable def kV:Key->V
 |.inl i=>.int i
 |.inr x=>.str x
inductive HO where
 | lst (xs:List V)
 | tup (xs:List V)
 | dK (kvs:List (Key×V)) | dT (kvs:List (List Key×V))
 | set (S:Int->Bool) (n:Nat)
 | ins (C dx:Addr) (fs:List (Str×V))
 | own (x:Addr)
 | xd (fs:List (Str×V))
 | met (f x:Addr)
 | Rj (lo hi:Int)
 | MA (o:Obj) (u:HO)
 | Oj (ps:Array Value)
 | ext (φ:Heap->Prop)
noncomputable abbrev Hp:=Addr->Option HO
noncomputable def upd (H:Hp)(a:Addr)(o:HO):Hp:=fun b=>if b=a then some o else H b
variable {H:Hp}{a:Addr}{o:HO}
theorem aM:upd H a o a=some o:=by unfold upd;rw[if_pos rfl]
variable {b:Addr}
theorem aO (h:b≠a):upd H a o b=H b:=by unfold upd;rw[if_neg h]
variable {u:HO}
theorem JT (h:H a=some o)(h':H b=some u)(d:o≠u):a≠b:=by
 intro e;subst e;rw[h] at h';exact d (cq h')
theorem gK (h:H a=some o)(h':H b=none):a≠b:=by
 intro e;subst e;rw[h] at h';cases h'
section
variable (P:Program)(w:World)
noncomputable def cW (H:Hp)(h:Heap)(a:Addr):HO->Prop
 |.lst xs=>xs.length<=sizeLine/\∃(its:List Value) (n:Nat),aS xs its/\h.get? a=some { cls:=.type "list",data:=.seq its.toArray n }
 |.tup xs=>xs.length<=sizeLine/\∃its:List Value,aS xs its/\IsTup h a its.toArray
 |.dK kvs=>kvs.length<=sizeLine/\(a==sysModules)=false/\∃vs,KV kvs vs/\h.DictOf (cB P w) a vs
 | .dT kvs=>kvs.length<=sizeLine/\(a==sysModules)=false/\∃xs:List (List Key×Addr×Value),
   Paired (fun (p:List Key×V) (q:List Key×Addr×Value)=>p.1=q.1/\H q.2.1=some (.tup (p.1.map kV))/\RelV p.2 q.2.2) kvs xs /\
   ∃o es ep,h.get? a=some o/\o.ExactDict/\o.data=.dict es ep/\es.toList=xs.map (entryOfKey (tupleKind (cB P w)))/\(xs.map (·.1)).Nodup
 |.set S n=>h.SetOf (intKind P w) a S n
 | .ins C dx fs=>H dx=some (.own a)/\fs.length<=1000/\dx≠a/\h.get? a=some (PySem.W.instObj C dx) /\
   ∃mA,h.Ns1 dx mA/\(∀f,kW (fs.lookup f) (mA f))/\PySem.Within mA (fs.map (·.1))
 |.own _=>∃o,h.get? a=some o
 |.xd fs=>∃mA,h.Ns1 a mA/\∀f,kW (fs.lookup f) (mA f)
 |.Rj lo hi=>∃t u v,h.get? a=some { cls:=.type "range",data:=.fields #[.int lo t,.int hi u,.int 1 v] }
 |.MA o u=>h.get? a=some o/\cW H h a u
 |.Oj ps=>h.get? a=some { cls:=.none,data:=.fields ps }
 |.met f x=>h.get? a=some (PySem.W.methodObj (.ref f) (.ref x))
 |.ext φ=>φ h/\(∃o,h.get? a=some o)/\∀h1 h2:Heap,φ h1->(∀o,h1.get? a=some o->h2.get? a=some o)->φ h2
def jH (H:Hp)(h:Heap):Prop:=∀a o,H a=some o->cW P w H h a o
end
section
variable {P:Program}{w:World}{H H':Hp}{h h':Heap}{a:Addr}{o:HO}
theorem cW.lt (x:cW P w H h a o):a<h.objs.size:=by
 cases o with
 |lst xs=>obtain⟨_,_,_,_,e⟩:=x;exact Heap.lt_size e
 |tup xs=>obtain⟨_,_,_,p⟩:=x;exact p.lt
 |dK kvs=>obtain⟨_,_,_,_,o,_,_,e,_⟩:=x;exact Heap.lt_size e
 |dT kvs=>obtain⟨_,_,_,_,o,_,_,e,_⟩:=x;exact Heap.lt_size e
 |set S n=>obtain⟨o,_,_,_,e,_⟩:=x;exact Heap.lt_size e
 |ins C dx fs=>obtain⟨_,_,_,e,_⟩:=x;exact Heap.lt_size e
 |own y=>obtain⟨_,e⟩:=x;exact Heap.lt_size e
 |xd fs=>obtain⟨_,⟨_,_,_,e,_⟩,_⟩:=x;exact Heap.lt_size e
 |Rj lo hi=>obtain⟨_,_,_,e⟩:=x;exact Heap.lt_size e
 |MA ob u=>obtain⟨e,_⟩:=x;exact Heap.lt_size e
 |Oj ps=>exact Heap.lt_size (show h.get? a=some _ from x)
 |met f y=>exact Heap.lt_size (show h.get? a=some _ from x)
 |ext φ=>obtain⟨_,⟨_,e⟩,_⟩:=x;exact Heap.lt_size e
theorem Paired.OP {α β:Type}{F G:α->β->Prop}:∀{l₁:List α}{l₂:List β},Paired F l₁ l₂->(∀a b,F a b->G a b)->Paired G l₁ l₂
 |_,_,.nil,_=>.nil
 |_,_,.cons r t,f=>.cons (f _ _ r) (Paired.OP t f)
theorem cW.LN (x:cW P w H h a o)(k:∀b u,(b=a\/H b=some (.own a))->h.get? b=some u->h'.get? b=some u)
  (ho:∀b,H b=some (.own a)->H' b=some (.own a)) (ht:∀b xs,H b=some (.tup xs)->H' b=some (.tup xs)):cW P w H' h' a o:=by
 induction o with
 |lst xs=>obtain⟨z,its,n,r,e⟩:=x;exact⟨z,its,n,r,k _ _ (.inl rfl) e⟩
 |tup xs=>obtain⟨z,its,r,ob,e,c⟩:=x;exact⟨z,its,r,ob,k _ _ (.inl rfl) e,c⟩
 |dK kvs=>obtain⟨z,y,vs,r,ob,es,ep,e,c⟩:=x;exact⟨z,y,vs,r,ob,es,ep,k _ _ (.inl rfl) e,c⟩
 |dT kvs =>
  obtain⟨z,y,xs,r,ob,es,ep,e,c⟩:=x;exact⟨z,y,xs,Paired.OP r fun p q z=>⟨z.1,ht _ _ z.2.1,z.2.2⟩,ob,es,ep,k _ _ (.inl rfl) e,c⟩
 |set S n=>obtain⟨ob,es,ep,t,e,c⟩:=x;exact⟨ob,es,ep,t,k _ _ (.inl rfl) e,c⟩
 |ins C dx fs =>
  obtain⟨d,z,ne,e,mA,⟨od,es,ep,e2,c⟩,r⟩:=x;exact⟨ho _ d,z,ne,k _ _ (.inl rfl) e,mA,⟨od,es,ep,k _ _ (.inr d) e2,c⟩,r⟩
 |own y=>obtain⟨ob,e⟩:=x;exact⟨ob,k _ _ (.inl rfl) e⟩
 |xd fs=>obtain⟨mA,⟨od,es,ep,e,c⟩,r⟩:=x;exact⟨mA,⟨od,es,ep,k _ _ (.inl rfl) e,c⟩,r⟩
 |Rj lo hi=>obtain⟨t,u,v,e⟩:=x;exact⟨t,u,v,k _ _ (.inl rfl) e⟩
 |MA ob u ih=>obtain⟨e,q⟩:=x;exact⟨k _ _ (.inl rfl) e,ih q⟩
 |Oj ps =>
  have e:h.get? a=some { cls:=.none,data:=.fields ps }:=x;show h'.get? a=some { cls:=.none,data:=.fields ps };exact k a _ (.inl rfl) e
 |met f y =>
  have e:h.get? a=some (PySem.W.methodObj (.ref f) (.ref y)):=x;show h'.get? a=some (PySem.W.methodObj (.ref f) (.ref y));exact k a _ (.inl rfl) e
 |ext φ=>obtain⟨p,⟨o,e⟩,st⟩:=x;exact⟨st _ _ p fun o q=>k _ _ (.inl rfl) q,⟨o,k _ _ (.inl rfl) e⟩,st⟩
theorem jH.lt (x:jH P w H h)(e:H a=some o):a<h.objs.size:=(x a o e).lt
theorem jH.fresh (x:jH P w H h)(e:h.objs.size<=a):H a=none:=by
 cases q:H a with
 |none=>rfl
 |some u=>exact absurd (bg (x.lt q) e) (fw _)
theorem jH.kept (x:jH P w H h)(k:∀b u,h.get? b=some u->h'.get? b=some u):jH P w H h':=fun a o e =>
 (x a o e).LN (fun b u _ q=>k b u q) (fun _ q=>q) fun _ _ q=>q
theorem jH.laid (x:jH P w H h)(k:∀b u,h.get? b=some u->h'.get? b=some u)(hp:h.objs.size<=a)(new:cW P w (upd H a o) h' a o):jH P w (upd H a o) h':=fun b u e=>by
 have hn:=x.fresh hp;by_cases hb:b=a
 .subst hb;rw[aM] at e;cases e;exact new
 .rw[aO hb] at e;exact (x b u e).LN (fun c v _ q=>k c v q) (fun c q=>by rw[aO (gK q hn)];exact q) fun c xs q=>by rw[aO (gK q hn)];exact q
end
def Rd (H:Hp)(a:Addr)(u:HO):Prop:=H a=some u\/∃o,H a=some (.MA o u)
variable {h:Heap}
theorem Rd.ok {P:Program}{w:World}(r:Rd H a u)(x:jH P w H h):cW P w H h a u:=by
 rcases r with r | ⟨o,r⟩
 .exact x a u r
 .obtain⟨_,q⟩:=x a _ r;exact q
noncomputable def tJ:Option HO->Prop
 | some (.lst _)=>True
 | some (.dK _)=>True
 | some (.dT _)=>True
 | some (.set _ _)=>True
 | some (.ins _ _ _)=>True
 | some (.ext _)=>True
 |_=>False
section
variable {P:Program}{w:World}{H:Hp}{h h':Heap}{x e:Addr}{o':HO}
theorem jH.write (ok:jH P w H h)(mu:tJ (H x))(he:e=x\/H e=some (.own x))(k:∀b u,b≠e->h.get? b=some u->h'.get? b=some u)(Pw:∃u,h'.get? e=some u)
  (new:cW P w (upd H x o') h' x o'):jH P w (upd H x o') h':=fun b u q=>by
 have P1:∀c y,H c=some (.own y)->c≠x:=fun c y r z=>by subst z;rw[r] at mu;exact mu
 have S4:∀c xs,H c=some (.tup xs)->c≠x:=fun c xs r z=>by subst z;rw[r] at mu;exact mu
 by_cases hb:b=x
 .subst hb;rw[aM] at q;cases q;exact new
 .rw[aO hb] at q;by_cases O4:b=e
  .have q':H b=some (.own x):=by
    rcases he with z | z
    .exact absurd (O4.trans z) hb
    .rw[O4];exact z
   rw[q] at q';cases q';obtain⟨v,hv⟩:=Pw;exact⟨v,by rw[O4];exact hv⟩
  .refine (ok b u q).LN (fun c v hc r=>k c v ?_ r) (fun c r=>by rw[aO (P1 c b r)];exact r) fun c xs r=>by rw[aO (S4 c xs r)];exact r
   rcases hc with rfl | hc
   .exact O4
   .rintro rfl;rcases he with z | z
    .exact P1 c b hc z
    .rw[hc] at z;cases z;exact hb rfl
end
structure Un (fs ex:List Addr)(H H':Hp)(h h':Heap):Prop where
 keep:∀b o,h.get? b=some o->H b=none->b∉fs->b∉ex->h'.get? b=some o
 slot:∀b o,h.get? b=some o->H b=none->b∈fs->b∉ex->∃sl,h'.get? b=some { o with slots:=sl }
 free:∀b o,h.get? b=some o->H b=none->b∉ex->H' b=none
 there:∀b o,h.get? b=some o->b∉ex->∃o',h'.get? b=some o'
 Mi:∀b xs,H b=some (.tup xs)->H' b=some (.tup xs)
 Mf:∀b o u,H b=some (.MA o u)->H' b=some (.MA o u)
 Mj:∀b ps,H b=some (.Oj ps)->∃more,H' b=some (.Oj (ps++more))
section
variable {fs fs' ex ex':List Addr}{H H1 H2:Hp}{h h1 h2 h':Heap}{a x e:Addr}{o:HO}
theorem Un.any (u:Un fs ex H H1 h h1){ob:Obj}(q:h.get? b=some ob)(n:H b=none)(hx:b∉ex):∃sl,h1.get? b=some { ob with slots:=sl }:=by
 by_cases hb:b∈fs
 .exact u.slot b ob q n hb hx
 .exact⟨ob.slots,u.keep b ob q n hb hx⟩
theorem Un.kept (k:∀b u,h.get? b=some u->h'.get? b=some u):Un fs ex H H h h' :=
 ⟨fun b ob q _ _ _=>k b ob q,fun b ob q _ _ _=>⟨ob.slots,k b ob q⟩,fun _ _ _ n _=>n,fun b ob q _=>⟨ob,k b ob q⟩,fun _ _ q=>q,fun _ _ _ q=>q,fun _ ps q=>⟨#[],by rw[q];simp⟩⟩
theorem Un.refl:Un fs ex H H h h:=Un.kept fun _ _ q=>q
theorem Un.laid (k:∀b u,h.get? b=some u->h'.get? b=some u)(hp:h.objs.size<=a)(hn:H a=none):Un fs ex H (upd H a o) h h' where
 keep:=fun b u q _ _ _=>k b u q
 slot:=fun b u q _ _ _=>⟨u.slots,k b u q⟩
 free:=fun b u q n _=>by rw[aO (bw (bg (Heap.lt_size q) hp))];exact n
 there:=fun b u q _=>⟨u,k b u q⟩
 Mi:=fun b xs q=>by rw[aO (gK q hn)];exact q
 Mf:=fun b u xs q=>by rw[aO (gK q hn)];exact q
 Mj:=fun b ps q=>⟨#[],by rw[aO (gK q hn),q];simp⟩
theorem Un.write (mu:tJ (H x))(he:e=x\/H e=some (.own x))(k:∀b u,b≠e->h.get? b=some u->h'.get? b=some u)(Pw:∃u,h'.get? e=some u):Un fs ex H (upd H x o) h h':=by
 have hx:∀b,H b=none->b≠x:=fun b n z=>by subst z;rw[n] at mu;exact mu
 have hb:∀b,H b=none->b≠e:=fun b n z=>by
  subst z;rcases he with r | r
  .exact hx b n r
  .rw[n] at r;cases r
 have hm:∀b u,H b=some u->¬ tJ (some u)->b≠x:=fun b u q nm z=>by subst z;rw[q] at mu;exact nm mu
 refine⟨fun b u q n _ _=>k b u (hb b n) q,fun b u q n _ _=>⟨u.slots,k b u (hb b n) q⟩,fun b u q n _=>by rw[aO (hx b n)];exact n,fun b u q _=>?_,
  fun b xs q=>by rw[aO (hm b _ q fun z=>z)];exact q,fun b u xs q=>by rw[aO (hm b _ q fun z=>z)];exact q,fun b ps q=>⟨#[],by rw[aO (hm b _ q fun z=>z),q];simp⟩⟩
 by_cases O4:b=e
 .subst O4;exact Pw
 .exact⟨u,k b u O4 q⟩
end
noncomputable def QX (h:Heap)(H:Hp):List Addr:=(List.range h.objs.size).filter fun a=>(H a).isSome
noncomputable def rK (h:Heap)(H:Hp):Heap:=PySem.W.hideAll h (QX h H)
theorem yf (h:Heap)(H:Hp):(rK h H).objs.size=h.objs.size:=PySem.W.hideAll_size _ _
theorem AH {o:Obj}(e:h.get? b=some o)(n:H b=none):(rK h H).get? b=some o :=
 PySem.W.hideAll_get _ e fun hm=>by
  have q:(H b).isSome=true:=(List.mem_filter.mp hm).2;rw[n] at q;simp at q
theorem Co {o:Obj}(e:(rK h H).get? b=some o):h.get? b=some o/\H b=none:=by
 have e':h.get? b=some o:=PySem.W.of_hideAll (QX h H) e;refine⟨e',?_⟩;cases q:H b with
 |none=>rfl
 |some x =>
  have hm:b∈QX h H:=List.mem_filter.mpr ⟨List.mem_range.mpr (Heap.lt_size e'),by simp[q]⟩;have z:(rK h H).get? b=none:=PySem.W.hideAll_none (QX h H) hm;rw[z] at e;cases e
noncomputable def BB (g h:Heap)(L:Addr):List (Addr×Obj):=(List.range h.objs.size).filterMap fun a=>if a=L\/(g.get? a).isSome=true then none else (h.get? a).map fun o=>(a,o)
noncomputable def rest (g h:Heap)(L d:Addr):List (Addr×Obj):=(BB g h L).filter fun p=>decide (p.1≠d)
end L2
namespace L2
open PySem PySem.Spec PyProof.Rows
structure Mod (K:PySem.W.Frag)(mg:Str->Option Value)(base:Heap):Prop where
 LS:K.In base
 glob:base.Ns mainGlobals mg
 blt:∃mb,base.Ns builtinsNs mb/\∀x:Str,x≠"__name__"->mb x=bootBuiltins x
 nolimit:base.NoLimit
structure Cx where
 prog:Program
 w:World
 K:PySem.W.Frag
 mg:Str->Option Value
 base:Heap
 A:Around
 N:List Str
 s₀:Shared
 H₀:Hp
 env:Env
 outer:List Env
 stack:List Env
 ex:List Addr
 fn:Str->Bool
 calm:Bool
 pn:List (Addr×Obj)
 xe:Value->Shared->Prop
noncomputable def iI (l:List Env):List Addr:=l.filterMap (·.frame)
noncomputable abbrev Cx.fs (X:Cx):List Addr:=iI X.outer
def D4 (sc:Scope)(x:Str):Prop:=sc.names.lookup x=some .local\/sc.names.lookup x=some .cell\/sc.names.lookup x=some .free
def Loc (sc:Scope)(x:Str):Prop:=sc.names.lookup x=some .local\/sc.names.lookup x=some .cell
noncomputable def Look (env:Env)(h:Heap)(m:Str->Option Value)(x:Str)(u:Value):Prop :=
 (env.kindOf x=some .local/\m x=some u)\/((env.kindOf x=some .cell\/env.kindOf x=some .free)/\∃c,env.cells.lookup x=some c/\h.IsCell c (some u))
structure Cx.Ok (X:Cx):Prop where
 mod:Mod X.K X.mg X.base
 kind:X.env.scope.kind=.function
 glob:X.env.globals=mainGlobals
 blt:X.env.builtins=builtinsNs
 above:X.s₀.heap.objs.size<=X.env.locals
 inj:∀x y c,X.env.cells.lookup x=some c->X.env.cells.lookup y=some c->x=y
 has:∀x,(X.env.kindOf x=some .cell\/X.env.kindOf x=some .free)->∃c,X.env.cells.lookup x=some c
 Of:∀x c,X.fn x=true->X.env.cells.lookup x=some c->X.s₀.heap.objs.size<=c
 hd:X.calm=true->X.A.handled=none
 frames:X.A.frames=some X.stack
 Pk:X.stack=X.outer\/(X.stack=X.env::X.outer/\X.env.frame=some X.env.locals)
 QM:∀b∈X.ex,b≠X.env.locals/\∀x c,X.env.cells.lookup x=some c->c≠b
 bs:∀b o,X.base.get? b=some o->X.s₀.heap.get? b=some o/\X.H₀ b=none
 NV:X.base.objs.size<=X.s₀.heap.objs.size
 MW:∀b o,X.base.get? b=some o->b∉X.ex
 M4:∀b∈X.ex,b∉X.fs
 L9:X.s₀.heap.FunFrames X.base X.outer
 Od:∀b∈X.fs,X.H₀ b=none
structure Inv (X:Cx)(pins:List (Addr×Obj))(σ:List (Option V))(H:Hp)(s:Shared):Prop where
 ok:X.Ok
 os:s.os=X.s₀.os
 bare:AllBare s.gens
 base:Un X.fs X.ex X.H₀ H X.s₀.heap s.heap
 loc:∃m,s.heap.Ns X.env.locals m/\∀(i:Nat) (x:Str) (v:V),X.N[i]? = some x->σ[i]? = some (some v)->D4 X.env.scope x->∃u,RelV v u/\Look X.env s.heap m x u
 cell:∀x c,X.env.cells.lookup x=some c->∃v,s.heap.IsCell c v
 free:H X.env.locals=none
 LR:∀x c,X.env.cells.lookup x=some c->H c=none
 pin:∀p∈X.pn++pins,s.heap.get? p.1=some p.2/\H p.1=none/\p.1≠X.env.locals/\p.1∉X.fs/\∀v,p.2.data≠.cell v
 LB:jH X.prog X.w H s.heap
 len:σ.length=X.N.length
variable {A:Around}{M:Model}{i t':Nat}{u:Value}{x:Str}
section
variable {X:Cx}{pins:List (Addr×Obj)}{σ:List (Option V)}{H H':Hp}{s:Shared}{h':Heap}
theorem Cx.Ok.Me (ok:X.Ok){b:Addr}{o:Obj}(e:X.base.get? b=some o):b∉X.fs:=fun hb=>by
 have:=(ok.L9.mem hb).1;rw[e] at this;cases this
theorem Inv.bs (I:Inv X pins σ H s):∀b o,X.base.get? b=some o->s.heap.get? b=some o/\H b=none:=fun b o e =>
 ⟨I.base.keep b o (I.ok.bs b o e).1 (I.ok.bs b o e).2 (I.ok.Me e) (I.ok.MW b o e),I.base.free b o (I.ok.bs b o e).1 (I.ok.bs b o e).2 (I.ok.MW b o e)⟩
theorem Inv.bk (I:Inv X pins σ H s):∀b o,X.base.get? b=some o->s.heap.get? b=some o:=fun b o e=>(I.bs b o e).1
theorem Inv.mod (I:Inv X pins σ H s):Mod X.K X.mg X.base:=I.ok.mod
theorem Inv.Mp (I:Inv X pins σ H s):X.K.In s.heap:=I.ok.mod.LS.keeps I.bk
theorem Inv.lt (I:Inv X pins σ H s):X.env.locals<s.heap.objs.size:=let ⟨_,hn,_⟩:=I.loc;hn.lt
theorem Inv.sz (I:Inv X pins σ H s):X.s₀.heap.objs.size<=s.heap.objs.size:=bq I.ok.above (jm I.lt)
theorem Inv.P5 (I:Inv X pins σ H s){a:Addr}(h:s.heap.objs.size<=a):a∉X.fs:=fun hb=>by
 obtain⟨_,o,ho,_⟩:=I.ok.L9.mem hb;exact absurd (bg (Heap.lt_size ho) (bq I.sz h)) (fw _)
theorem Inv.NU (I:Inv X pins σ H s):∀x c,X.env.cells.lookup x=some c->c≠X.env.locals:=fun x c e z=>by
 obtain⟨v,o,ho,hd⟩:=I.cell x c e;obtain⟨m,⟨o',es,ep,MZ,NP,_⟩,_⟩:=I.loc;rw[z,MZ] at ho;cases ho;rw[NP] at hd;cases hd
theorem Inv.L9 (I:Inv X pins σ H s):s.heap.FunFrames X.base X.outer:=by
 have all:∀(l:List Env),(∀b∈iI l,b∈X.fs)->X.s₀.heap.FunFrames X.base l->s.heap.FunFrames X.base l:=by
  intro l
  induction l with
  |nil=>intro _ _;trivial
  |cons env r ih =>
   intro hs hl;obtain⟨hk,⟨L,o,hf,hn,ho,hd⟩,hr⟩:=hl;have hL:L∈X.fs:=hs L (by unfold iI;rw[ja,hf];exact aj);obtain⟨sl,e⟩:=I.base.slot L o ho (I.ok.Od L hL) hL fun z=>I.ok.M4 L z hL
   exact⟨hk,⟨L,_,hf,hn,e,hd⟩,ih (fun b hb=>hs b (by unfold iI;rw[ja,hf];exact ai _ hb)) hr⟩
 exact all X.outer (fun _ hb=>hb) I.ok.L9
theorem Inv.stack (I:Inv X pins σ H s):s.heap.FunFrames X.base X.stack:=by
 rcases I.ok.Pk with e | ⟨e,hf⟩
 .rw[e];exact I.L9
 .rw[e];obtain⟨m,hn,_⟩:=I.loc;refine .cons (by rw[I.ok.kind];decide) hf hn ?_ I.L9;exact Heap.get?_none_of_le (bq I.ok.NV I.ok.above)
theorem Inv.MS (I:Inv X pins σ H s):∀b∈iI X.stack,b∈X.env.locals::X.fs:=fun b hb=>by
 rcases I.ok.Pk with e | ⟨e,hf⟩
 .rw[e] at hb;exact ai _ hb
 .rw[e] at hb;unfold iI at hb;rw[ja,hf] at hb;exact hb
theorem Inv.Mg (I:Inv X pins σ H s):∀b∈iI X.stack,H b=none:=fun b hb=>by
 rcases je.mp (I.MS b hb) with e | hb
 .rw[e];exact I.free
 .obtain⟨_,o,ho,_⟩:=I.ok.L9.mem hb;exact I.base.free b o ho (I.ok.Od b hb) fun z=>I.ok.M4 b z hb
theorem Inv.step {g':Array GenState}{d':Drawn}{ch:List Addr}(I:Inv X pins σ H s)
  (Ny:∀b∈ch,(b∈X.ex\/X.s₀.heap.objs.size<=b)/\b≠X.env.locals/\(∀x c,X.env.cells.lookup x=some c->c≠b)/\∀p∈X.pn++pins,p.1≠b)
  (keep:∀b o,b≠X.env.locals->b∉X.fs->b∉ch->s.heap.get? b=some o->H b=none->h'.get? b=some o)
  (slot:∀b o,b≠X.env.locals->b∈X.fs->b∉ch->s.heap.get? b=some o->H b=none->∃sl,h'.get? b=some { o with slots:=sl }) (free:∀b o,b∉ch->s.heap.get? b=some o->H b=none->H' b=none)
  (there:∀b o,b∉ch->s.heap.get? b=some o->∃o',h'.get? b=some o')
  (Mi:∀b xs,H b=some (.tup xs)->H' b=some (.tup xs)) (Mf:∀b o u,H b=some (.MA o u)->H' b=some (.MA o u)) (Mj:∀b ps,H b=some (.Oj ps)->∃more,H' b=some (.Oj (ps++more)))
  (ns:∀m,s.heap.Ns X.env.locals m->h'.Ns X.env.locals m) (LB:jH X.prog X.w H' h') (hg:AllBare g') :
  Inv X pins σ H' { s with heap:=h',gens:=g',drawn:=d',toks:=t' }:=by
 have WO:∀b o,X.s₀.heap.get? b=some o->b≠X.env.locals:=fun b o e=>bw (bg (Heap.lt_size e) I.ok.above)
 have Ro:∀b o,X.s₀.heap.get? b=some o->b∉X.ex->b∉ch:=fun b o e hx hb=>by
  rcases (Ny b hb).1 with z | z
  .exact hx z
  .exact absurd (bg (Heap.lt_size e) z) (fw _)
 have cellK:∀x c,X.env.cells.lookup x=some c->∀v,s.heap.IsCell c v->h'.IsCell c v:=fun x c e v ⟨o,ho,hd⟩=>by
  have Qa:c∉ch:=fun z=>(Ny c z).2.2.1 x c e rfl
  by_cases hc:c∈X.fs
  .obtain⟨sl,q⟩:=slot c o (I.NU x c e) hc Qa ho (I.LR x c e);exact⟨_,q,hd⟩
  .exact⟨o,keep c o (I.NU x c e) hc Qa ho (I.LR x c e),hd⟩
 refine⟨I.ok,I.os,hg,⟨fun b o e n hb hx=>?_,fun b o e n hb hx=>?_,fun b o e n hx=>?_,fun b o e hx=>?_,fun b xs e=>Mi b xs (I.base.Mi b xs e),fun b o xs e=>Mf b o xs (I.base.Mf b o xs e),fun b ps e=>?_⟩,?_,fun x c e=>?_,?_,fun x c e=>?_,fun p hp=>?_,LB,I.len⟩
 .exact keep b o (WO b o e) hb (Ro b o e hx) (I.base.keep b o e n hb hx) (I.base.free b o e n hx)
 .obtain⟨sl,e1⟩:=I.base.slot b o e n hb hx;obtain⟨OI,e2⟩:=slot b _ (WO b o e) hb (Ro b o e hx) e1 (I.base.free b o e n hx);exact⟨OI,e2⟩
 .obtain⟨o',e1⟩:=I.base.there b o e hx;exact free b o' (Ro b o e hx) e1 (I.base.free b o e n hx)
 .obtain⟨o',e1⟩:=I.base.there b o e hx;exact there b o' (Ro b o e hx) e1
 .obtain⟨m1,e1⟩:=I.base.Mj b ps e;obtain⟨m2,e2⟩:=Mj b _ e1;exact⟨m1++m2,by rw[e2,Array.append_assoc]⟩
 .obtain⟨m,hn,hl⟩:=I.loc;refine⟨m,ns m hn,fun i x v e1 e2 e3=>?_⟩;obtain⟨u,r,l⟩:=hl i x v e1 e2 e3;refine⟨u,r,?_⟩;rcases l with l | ⟨k,c,e,z⟩
  .exact .inl l
  .exact .inr ⟨k,c,e,cellK x c e _ z⟩
 .obtain⟨v,z⟩:=I.cell x c e;exact⟨v,cellK x c e v z⟩
 .obtain⟨m,⟨o,_,_,ho,_⟩,_⟩:=I.loc;exact free _ o (fun z=>(Ny _ z).2.1 rfl) ho I.free
 .obtain⟨v,o,ho,hd⟩:=I.cell x c e;exact free c o (fun z=>(Ny c z).2.2.1 x c e rfl) ho (I.LR x c e)
 .obtain⟨e,n,ne,nf,d⟩:=I.pin p hp;have Qa:p.1∉ch:=fun z=>(Ny p.1 z).2.2.2 p hp rfl
  exact⟨keep p.1 p.2 ne nf Qa e n,free p.1 p.2 Qa e n,ne,nf,d⟩
theorem Inv.un {t':Nat}(I:Inv X pins σ H s)(u:Un X.fs [] H H' s.heap h')(LB:jH X.prog X.w H' h'):Inv X pins σ H' { s with heap:=h',toks:=t' }:=by
 obtain⟨m,⟨o,es,ep,ho,r⟩,_⟩:=id I.loc;obtain⟨sl,hL⟩:=u.any ho I.free (by simp);exact I.step (g':=s.gens) (d':=s.drawn) (ch:=[]) (fun _ z=>nomatch z) (fun b o _ hb _ e n=>u.keep b o e n hb (by simp)) (fun b o _ hb _ e n=>u.slot b o e n hb (by simp)) (fun b o _ e n=>u.free b o e n (by simp)) (fun b o _ e=>u.there b o e (by simp)) u.Mi u.Mf u.Mj (fun m' hm=>by
  obtain⟨o',U7,U8,MZ,r'⟩:=hm;rw[ho] at MZ;cases MZ;exact⟨_,U7,U8,hL,r'⟩) LB I.bare
theorem Inv.call {g':Array GenState}{t':Nat}{d':Drawn}{ch:List Addr}(I:Inv X pins σ H s)(u:Un (iI X.stack) ch H H' s.heap h')(LB:jH X.prog X.w H' h')(hg:AllBare g')
  (Ny:∀b∈ch,(b∈X.ex\/X.s₀.heap.objs.size<=b)/\b≠X.env.locals/\(∀x c,X.env.cells.lookup x=some c->c≠b)/\∀p∈X.pn++pins,p.1≠b) :
  Inv X pins σ H' { s with heap:=h',gens:=g',drawn:=d',toks:=t' }:=by
 obtain⟨m,⟨o,es,ep,ho,r⟩,_⟩:=id I.loc;obtain⟨sl,hL⟩:=u.any ho I.free fun z=>(Ny _ z).2.1 rfl
 exact I.step (ch:=ch) Ny (fun b o hL hb hc e n=>u.keep b o e n (fun z=>(je.mp (I.MS b z)).elim hL hb) hc) (fun b o _ _ hc e n=>u.any e n hc) (fun b o hc e n=>u.free b o e n hc) (fun b o hc e=>u.there b o e hc) u.Mi u.Mf u.Mj (fun m' hm=>by
  obtain⟨o',U7,U8,MZ,r'⟩:=hm;rw[ho] at MZ;cases MZ;exact⟨_,U7,U8,hL,r'⟩) LB hg
theorem Inv.turned {t':Nat}{it:Addr}(I:Inv X pins σ H s)(k:∀b o,b≠it->s.heap.get? b=some o->h'.get? b=some o)(hn:H it=none)(hL:it≠X.env.locals)
  (h1:it∈X.ex\/X.s₀.heap.objs.size<=it) (h2:∀x c,X.env.cells.lookup x=some c->c≠it) (h3:∀p∈X.pn++pins,p.1≠it):Inv X pins σ H { s with heap:=h',toks:=t' }:=by
 have P7:∀b u,H b=some u->b≠it:=fun b u e z=>by rw[z,hn] at e;cases e
 refine I.step (g':=s.gens) (d':=s.drawn) (ch:=[it]) (fun b hb=>?_) (fun b o _ _ hc e _=>k b o (fun z=>hc (by simp[z])) e) (fun b o _ _ hc e _=>⟨o.slots,k b o (fun z=>hc (by simp[z])) e⟩) (fun _ _ _ _ n=>n)
  (fun b o hc e=>⟨o,k b o (fun z=>hc (by simp[z])) e⟩) (fun _ _ e=>e) (fun _ _ _ e=>e) (fun b ps e=>⟨#[],by rw[e];simp⟩) (fun m hm=>?_) (fun b u e=>?_) I.bare
 .have e:b=it:=by simpa using hb
  subst e;exact⟨h1,hL,h2,h3⟩
 .obtain⟨o,es,ep,ho,r⟩:=hm;exact⟨o,es,ep,k _ o (eh hL) ho,r⟩
 .refine (I.LB b u e).LN (fun c v hc q=>k c v ?_ q) (fun _ q=>q) fun _ _ q=>q
  rcases hc with z | z
  .rw[z];exact P7 b u e
  .exact P7 c _ z
theorem Inv.tok (I:Inv X pins σ H s)(t:Nat):Inv X pins σ H { s with toks:=t }:=I.un (h':=s.heap) (t':=t) Un.refl I.LB
theorem Inv.kept {t':Nat}(I:Inv X pins σ H s)(k:∀b u,s.heap.get? b=some u->h'.get? b=some u):Inv X pins σ H { s with heap:=h',toks:=t' }:=I.un (Un.kept k) (I.LB.kept k)
theorem Inv.laid {a:Addr}{o:HO}{t':Nat}(I:Inv X pins σ H s)(k:∀b u,s.heap.get? b=some u->h'.get? b=some u)(hp:s.heap.objs.size<=a)(new:cW X.prog X.w (upd H a o) h' a o) :
  Inv X pins σ (upd H a o) { s with heap:=h',toks:=t' }:=I.un (Un.laid k hp (I.LB.fresh hp)) (I.LB.laid k hp new)
theorem Inv.write {x e:Addr}{o:HO}(I:Inv X pins σ H s)(mu:tJ (H x))(he:e=x\/H e=some (.own x))(k:∀b u,b≠e->s.heap.get? b=some u->h'.get? b=some u)(Pw:∃u,h'.get? e=some u)
  (new:cW X.prog X.w (upd H x o) h' x o):Inv X pins σ (upd H x o) { s with heap:=h',toks:=t' }:=I.un (Un.write mu he k Pw) (I.LB.write mu he k Pw new)
theorem Inv.weak {σ':List (Option V)}(I:Inv X pins σ H s)(hl:σ'.length=σ.length)(w:∀(i:Nat) v,σ'[i]? = some (some v)->σ[i]? = some (some v)):Inv X pins σ' H s :=
 ⟨I.ok,I.os,I.bare,I.base,let ⟨m,hn,hl'⟩:=I.loc;⟨m,hn,fun i x v e1 e2 e3=>hl' i x v e1 (w i v e2) e3⟩,I.cell,I.free,I.LR,I.pin,I.LB,hl.trans I.len⟩
theorem Inv.M8 {Oo:List (Addr×Obj)}(I:Inv X pins σ H s)(h:∀p∈Oo,s.heap.get? p.1=some p.2/\H p.1=none/\p.1≠X.env.locals/\p.1∉X.fs/\∀v,p.2.data≠.cell v):Inv X Oo σ H s :=
 ⟨I.ok,I.os,I.bare,I.base,I.loc,I.cell,I.free,I.LR,fun p hp=>(List.mem_append.mp hp).elim (fun z=>I.pin p (bo _ z)) (h p),I.LB,I.len⟩
theorem oK {N:List Str}(hN:N.Nodup){j:Nat}(a:N[i]? = some x)(b:N[j]? = some x):i=j:=by
 obtain⟨h1,e1⟩:=List.getElem?_eq_some_iff.mp a;obtain⟨h2,e2⟩:=List.getElem?_eq_some_iff.mp b;exact (List.getElem_inj hN).mp (e1.trans e2.symm)
theorem xT {E:Value->Shared->Prop}{v:V}{Q:Unit->Shared->Prop}(I:Inv X pins σ H s)(hN:X.N.Nodup)(hi:X.N[i]? = some x)(hx:Loc X.env.scope x)(r:RelV v u)
  (h:∀s',Inv X pins (σ.set i (some v)) H s'->(∃a,Heap.SameBut a s.heap s'.heap/\(a=X.env.locals\/X.env.cells.lookup x=some a))->Q () s') (hf:X.fn x=true\/X.env.scope.names.lookup x=some .local:=by first | exact .inl rfl | exact .inr rfl | assumption):wpAny M A (storeName X.env x u) Q E s:=by
 obtain⟨m,hn,hl⟩:=id I.loc;have NQ:(X.env.scope.kind == .class || (X.env.scope.kind == .module&&X.env.locals != X.env.globals))=false:=by rw[I.ok.kind];rfl
 have RC:i<σ.length:=by rw[I.len];exact (List.getElem?_eq_some_iff.mp hi).1
 have NU:=I.NU;have tracked:∀{a:Addr}{h':Heap},(∃o,s.heap.get? a=some o/\H a=none)->Heap.SameBut a s.heap h'->jH X.prog X.w H h':=fun {a h'} ha hs b ob e=>by
  obtain⟨_,_,LV⟩:=ha;refine (I.LB b ob e).LN (fun c w' hc q=>(hs.2 c ?_).trans q) (fun _ q=>q) fun _ _ q=>q
  rintro rfl;rcases hc with rfl | hc
  .rw[LV] at e;cases e
  .rw[LV] at hc;cases hc
 rcases hx with hk | hk
 .refine wpAny_storeName_local hk hn (fun h' T2 hs=>?_) NQ;obtain⟨oL,_,_,TZ,_⟩:=id hn;refine h _ ⟨I.ok,I.os,I.bare,⟨fun b o e n hb hx=>?_,fun b o e n hb hx=>?_,I.base.free,fun b o e hx=>?_,I.base.Mi,I.base.Mf,I.base.Mj⟩,⟨_,T2,fun j y v' e1 e2 e3=>?_⟩,fun y c e=>?_,I.free,I.LR,fun p hp=>?_,tracked ⟨oL,TZ,I.free⟩ hs,by simpa using I.len⟩ ⟨_,hs,.inl rfl⟩
  .exact (hs.2 b (bw (bg (Heap.lt_size e) I.ok.above))).trans (I.base.keep b o e n hb hx)
  .obtain⟨sl,e1⟩:=I.base.slot b o e n hb hx;exact⟨sl,(hs.2 b (bw (bg (Heap.lt_size e) I.ok.above))).trans e1⟩
  .obtain⟨o',e1⟩:=I.base.there b o e hx;exact⟨o',(hs.2 b (bw (bg (Heap.lt_size e) I.ok.above))).trans e1⟩
  .by_cases hj:j=i
   .subst hj;rw[hi] at e1;cases e1;rw[List.getElem?_set_self RC] at e2;cases e2;exact⟨u,r,.inl ⟨hk,by simp⟩⟩
   .rw[List.getElem?_set_ne (eh hj)] at e2;obtain⟨u',r',q⟩:=hl j y v' e1 e2 e3;refine⟨u',r',?_⟩;rcases q with ⟨k,e⟩ | ⟨k,c,e,z⟩
    .refine .inl ⟨k,?_⟩;have:y≠x:=fun e=>hj (oK hN e1 (e ▸ hi))
     simp[this,e]
    .exact .inr ⟨k,c,e,z.sameBut hs (NU y c e)⟩
  .obtain⟨w',z⟩:=I.cell y c e;exact⟨w',z.sameBut hs (NU y c e)⟩
  .obtain⟨e,n,ne,nf,d⟩:=I.pin p hp;exact⟨(hs.2 p.1 ne).trans e,n,ne,nf,d⟩
 .have Ui:X.fn x=true:=by
   rcases hf with z | z
   .exact z
   .rw[z] at hk;cases hk
  obtain⟨c,hc⟩:=I.ok.has x (.inl hk);obtain⟨w',z⟩:=I.cell x c hc;refine wpAny_storeName_cell I.ok.kind hk hc z (fun h' Mz hs=>?_);obtain⟨oc,Xa,TY⟩:=id z;refine h { s with heap:=h' } ⟨I.ok,I.os,I.bare,⟨fun b o e n hb hx=>?_,fun b o e n hb hx=>?_,I.base.free,fun b o e hx=>?_,I.base.Mi,I.base.Mf,I.base.Mj⟩,⟨m,hn.sameBut hs (Ne.symm (NU x c hc)),fun j y v' e1 e2 e3=>?_⟩,fun y c' e=>?_,I.free,I.LR,fun p hp=>?_,tracked ⟨oc,Xa,I.LR x c hc⟩ hs,by simpa using I.len⟩ ⟨c,hs,.inr hc⟩
  .exact (hs.2 b (bw (bg (Heap.lt_size e) (I.ok.Of x c Ui hc)))).trans (I.base.keep b o e n hb hx)
  .obtain⟨sl,e1⟩:=I.base.slot b o e n hb hx;exact⟨sl,(hs.2 b (bw (bg (Heap.lt_size e) (I.ok.Of x c Ui hc)))).trans e1⟩
  .obtain⟨o',e1⟩:=I.base.there b o e hx;exact⟨o',(hs.2 b (bw (bg (Heap.lt_size e) (I.ok.Of x c Ui hc)))).trans e1⟩
  .by_cases hj:j=i
   .subst hj;rw[hi] at e1;cases e1;rw[List.getElem?_set_self RC] at e2;cases e2;exact⟨u,r,.inr ⟨.inl hk,c,hc,Mz⟩⟩
   .rw[List.getElem?_set_ne (eh hj)] at e2;obtain⟨u',r',q⟩:=hl j y v' e1 e2 e3;refine⟨u',r',?_⟩;rcases q with q | ⟨k,c',e,z'⟩
    .exact .inl q
    .refine .inr ⟨k,c',e,z'.sameBut hs ?_⟩;rintro rfl;exact hj (oK hN e1 (I.ok.inj _ _ _ e hc ▸ hi))
  .by_cases QA:c'=c
   .subst QA;exact⟨_,Mz⟩
   .obtain⟨w2,z2⟩:=I.cell y c' e;exact⟨w2,z2.sameBut hs QA⟩
  .obtain⟨e,n,ne,nf,d⟩:=I.pin p hp;refine⟨(hs.2 p.1 ?_).trans e,n,ne,nf,d⟩;intro q;rw[q,Xa] at e;have q':oc=p.2:=cq e;exact d w' (by rw[<-q'];exact TY)
theorem iF {E:Value->Shared->Prop}{v:V}{Q:Unit->Shared->Prop}(I:Inv X pins σ H s)(hN:X.N.Nodup)(hi:X.N[i]? = some x)(hx:Loc X.env.scope x)(r:RelV v u)
  (h:∀s',Inv X pins (σ.set i (some v)) H s'->Q () s') (hf:X.fn x=true\/X.env.scope.names.lookup x=some .local:=by first | exact .inl rfl | exact .inr rfl | assumption):wpAny M A (storeName X.env x u) Q E s :=
 xT I hN hi hx r (fun s' I' _=>h s' I') hf
theorem Inv.QQ {s':Shared}{ch:List Addr}(I:Inv X pins σ H s)(ho:s'.os=s.os)(u:Un (iI X.stack) ch H H' s.heap s'.heap)(LB:jH X.prog X.w H' s'.heap)(hg:AllBare s'.gens)
  (Ny:∀b∈ch,(b∈X.ex\/X.s₀.heap.objs.size<=b)/\b≠X.env.locals/\(∀x c,X.env.cells.lookup x=some c->c≠b)/\∀p∈X.pn++pins,p.1≠b):Inv X pins σ H' s':=by
 obtain⟨h',g',d',t',o'⟩:=s';have e:o'=s.os:=ho;subst e;exact I.call (g':=g') (t':=t') (d':=d') u LB hg Ny
end
noncomputable abbrev XK:=Value->Option Addr->Hp->Prop
noncomputable abbrev St:=List (Option V)
noncomputable abbrev VK:=V->Hp->Prop
noncomputable abbrev TE:=St->Hp->VK->Prop
noncomputable abbrev TT:=St->Hp->(Bool->Hp->Prop)->Prop
noncomputable abbrev TA:=St->Hp->(List V->Hp->Prop)->Prop
structure Ends where
 nx:St->Hp->Prop
 rt:VK
 bk:St->Hp->Prop:=fun _ _=>False
 ct:St->Hp->Prop:=fun _ _=>False
noncomputable abbrev TS:=Ends->St->Hp->Prop
def EP (X:Cx)(pins:List (Addr×Obj))(σ:St)(Q:VK)(u:Value)(s':Shared):Prop:=∃v H',Inv X pins σ H' s'/\RelV v u/\Q v H'
def TP (X:Cx)(pins:List (Addr×Obj))(σ:St)(Q:Bool->Hp->Prop)(b:Bool)(s':Shared):Prop:=∃H',Inv X pins σ H' s'/\Q b H'
def AP (X:Cx)(pins:List (Addr×Obj))(σ:St)(Q:List V->Hp->Prop)(us:List Value)(s':Shared):Prop:=∃vs H',Inv X pins σ H' s'/\aS vs us/\Q vs H'
noncomputable def SP (X:Cx)(pins:List (Addr×Obj))(D:Ends)(f:Flow)(s':Shared):Prop :=
 match f with
 |.next=>∃σ' H',Inv X pins σ' H' s'/\D.nx σ' H'
 |.brk=>∃σ' H',Inv X pins σ' H' s'/\D.bk σ' H'
 |.cont=>∃σ' H',Inv X pins σ' H' s'/\D.ct σ' H'
 |.ret u=>∃v σ' H',Inv X pins σ' H' s'/\RelV v u/\D.rt v H'
noncomputable def PE (X:Cx)(e:Expr)(t:TE):Prop :=
 ∀(pins:List (Addr×Obj)) (s:Shared) (σ:St) (H:Hp) (Q:VK),Inv X pins σ H s->t σ H Q->wpAny (model X.prog X.w) X.A (eval e X.env) (EP X pins σ Q) X.xe s
noncomputable def PT (X:Cx)(e:Expr)(t:TT):Prop :=
 ∀(pins:List (Addr×Obj)) (s:Shared) (σ:St) (H:Hp) (Q:Bool->Hp->Prop),Inv X pins σ H s->t σ H Q->wpAny (model X.prog X.w) X.A (isTrue e X.env (eval e X.env)) (TP X pins σ Q) X.xe s
noncomputable def PW (X:Cx)(e:Expr)(t:TT):Prop :=
 ∀(whole:Sem Value) (pins:List (Addr×Obj)) (s:Shared) (σ:St) (H:Hp) (Q:Bool->Hp->Prop),Inv X pins σ H s->t σ H Q->wpAny (model X.prog X.w) X.A (isTrue e X.env whole) (TP X pins σ Q) X.xe s
theorem PW.pt {X:Cx}{e:Expr}{t:TT}(h:PW X e t):PT X e t:=h _
noncomputable def PA (X:Cx)(es:List Expr)(t:TA):Prop :=
 ∀(pos:Pos) (pins:List (Addr×Obj)) (s:Shared) (σ:St) (H:Hp) (Q:List V->Hp->Prop),Inv X pins σ H s->t σ H Q->wpAny (model X.prog X.w) X.A (spliced (backTo pos (starEach es X.env))) (AP X pins σ Q) X.xe s
noncomputable def PS (X:Cx)(st:Stmt)(t:TS):Prop :=
 ∀(pins:List (Addr×Obj)) (s:Shared) (σ:St) (H:Hp) (D:Ends),Inv X pins σ H s->t D σ H->wpAny (model X.prog X.w) X.A (exec st X.env) (SP X pins D) X.xe s
noncomputable def lP (X:Cx)(st:List Stmt)(t:TS):Prop :=
 ∀(pins:List (Addr×Obj)) (s:Shared) (σ:St) (H:Hp) (D:Ends),Inv X pins σ H s->t D σ H->wpAny (model X.prog X.w) X.A (execs st X.env) (SP X pins D) X.xe s
theorem cO {α:Type}{t:Sem α}{Q Q':α->Shared->Prop}{E:Value->Shared->Prop}{s:Shared}(h:wpAny M A t Q E s)(hQ:∀a s,Q a s->Q' a s):wpAny M A t Q' E s:=wpAny_mono h hQ fun _ _ x=>x
end L2
namespace L2
open PySem PySem.Spec PyProof.Rows
variable {H:Hp}{pins:List (Addr×Obj)}{pos:Pos}{s:Shared}{u:Value}{x:Str}
section
variable {X:Cx}
def jX (i:Nat):TE:=fun σ H Q=>∃v,σ[i]? = some (some v)/\Q v H
def tC (v:V):TE:=fun _ H Q=>Q v H
theorem rj {i:Nat}(hN:X.N[i]? = some x)(hv:D4 X.env.scope x)(hd:(x==("__debug__" : Str))=false:=by decide) (Mr:(x==("__classdict__" : Str))=false:=by decide):PE X (.Name x pos) (jX i):=by
 intro pins s σ H Q I h;obtain⟨v,e,h⟩:=h;obtain⟨m,hn,hl⟩:=I.loc;obtain⟨u,r,l⟩:=hl i x v hN e hv;have fin:EP X pins σ Q u s:=⟨v,H,I,r,h⟩;rcases l with ⟨hk,hm⟩ | ⟨hk,c,hc,Na⟩
 .exact wpAny_Name (wpAny_loadName_local I.ok.kind hk hn hm fin) hd
 .rcases hk with hk | hk
  .exact wpAny_Name (wpAny_loadName_cell I.ok.kind hk hc Na fin) hd
  .exact wpAny_Name (wpAny_loadName_free I.ok.kind hk hc Na fin Mr) hd
theorem lZ {i j pos}:PE X (.Constant (.int i) j pos) (tC (.int i)):=fun _ _ _ H _ I h=>wpAny_Constant_int ⟨.int i,H,I.tok _,⟨_,rfl⟩,h⟩
theorem DX {b j pos}:PE X (.Constant (.bool b) j pos) (tC (.bl b)):=fun _ _ _ H _ I h=>Constant_bool ⟨.bl b,H,I,rfl,h⟩
theorem uG {j pos}:PE X (.Constant .none j pos) (tC .LC):=fun _ _ _ H _ I h=>Constant_none ⟨.LC,H,I,rfl,h⟩
theorem jA {x j pos}:PE X (.Constant (.str x) j pos) (tC (.str x)):=fun _ _ _ H _ I h=>Calls.Constant_str ⟨.str x,H,I.tok _,⟨_,rfl⟩,h⟩
def Gl (X:Cx)(x:Str):Prop:=X.env.kindOf x=some .globalImplicit
theorem gT {E:Value->Shared->Prop}{σ:St}{Q:Value->Shared->Prop}(I:Inv X pins σ H s)(hg:Gl X x)(hm:X.mg x=some u)(h:Q u s)
  (hd:(x==("__debug__" : Str))=false:=by decide):wpAny (model X.prog X.w) X.A (eval (.Name x pos) X.env) Q E s :=
 Calls.Name_function_global I.ok.kind hg (Calls.loadGlobal_global (by rw[I.ok.glob];exact I.mod.glob.keeps I.bk) hm h) hd
theorem m7 {E:Value->Shared->Prop}{σ:St}{Q:Value->Shared->Prop}(I:Inv X pins σ H s)(hg:Gl X x)(hm:X.mg x=none)(hv:bootBuiltins x=some u)(h:Q u s)
  (hn:x≠"__name__":=by decide) (hd:(x==("__debug__" : Str))=false:=by decide):wpAny (model X.prog X.w) X.A (eval (.Name x pos) X.env) Q E s:=by
 obtain⟨mb,h1,h2⟩:=I.mod.blt;exact Calls.Name_function_global I.ok.kind hg (Calls.loadGlobal_builtin (by rw[I.ok.glob];exact I.mod.glob.keeps I.bk) hm (by rw[I.ok.blt];exact h1.keeps I.bk) ((h2 x hn).trans hv) h) hd
theorem eI {v:V}{pos:Pos}(hg:Gl X x)(hm:X.mg x=some u)(r:RelV v u)(hd:(x==("__debug__" : Str))=false:=by decide):PE X (.Name x pos) (tC v) :=
 fun _ _ _ H _ I h=>gT I hg hm ⟨v,H,I,r,h⟩ hd
theorem vU {v:V}(hg:Gl X x)(hm:X.mg x=none)(hv:bootBuiltins x=some u)(r:RelV v u)(hn:x≠"__name__":=by decide) (hd:(x==("__debug__" : Str))=false:=by decide):PE X (.Name x pos) (tC v) :=
 fun _ _ _ H _ I h=>m7 I hg hm hv ⟨v,H,I,r,h⟩ hn hd
variable {a b:Expr}{ta tb:TE}{pos:Pos}
variable {tA Q5:TT}{rest:List Expr}
def Ss (t u:TT):TT:=fun σ H Q=>t σ H fun c H1=>if c=true then u σ H1 Q else Q false H1
def tOr (t u:TT):TT:=fun σ H Q=>t σ H fun c H1=>if c=true then Q true H1 else u σ H1 Q
def Sk (t:TT):TT:=fun σ H Q=>t σ H fun c H1=>Q (!c) H1
theorem Dn (ha:PT X a tA):PW X (.BoolOp .And [a] pos) tA:=by
 intro wh pins s σ H Q I h;refine isTrue_and (cO (ha pins s σ H Q I h) fun c s1 e=>?_);cases c with
 |true=>exact isTrue_and_nil e
 |false=>exact e
theorem HP (ha:PT X a tA):PW X (.BoolOp .Or [a] pos) tA:=by
 intro wh pins s σ H Q I h;refine isTrue_or (cO (ha pins s σ H Q I h) fun c s1 e=>?_);cases c with
 |false=>exact isTrue_or_nil e
 |true=>exact e
theorem Ga (ha:PT X a tA)(hb:PW X (.BoolOp .And (b::rest) pos) Q5):PW X (.BoolOp .And (a::b::rest) pos) (Ss tA Q5):=by
 intro wh pins s σ H Q I h;refine isTrue_and (cO (ha pins s σ H _ I h) fun c s1 ⟨H1,I1,q1⟩=>?_);cases c with
 |true=>exact hb wh pins s1 σ H1 Q I1 q1
 |false=>exact⟨H1,I1,q1⟩
theorem Jv (ha:PT X a tA)(hb:PW X (.BoolOp .Or (b::rest) pos) Q5):PW X (.BoolOp .Or (a::b::rest) pos) (tOr tA Q5):=by
 intro wh pins s σ H Q I h;refine isTrue_or (cO (ha pins s σ H _ I h) fun c s1 ⟨H1,I1,q1⟩=>?_);cases c with
 |true=>exact⟨H1,I1,q1⟩
 |false=>exact hb wh pins s1 σ H1 Q I1 q1
theorem Gj (ha:PT X a tA):PT X (.UnaryOp .Not a pos) (Sk tA):=by
 intro pins s σ H Q I h;exact isTrue_not (ha pins s σ H (fun c H1=>Q (!c) H1) I h)
def KO (ta tb:TE):TE:=fun σ H Q=>ta σ H fun x H1=>∃c,x=.bl c/\if c=true then tb σ H1 Q else Q (.bl false) H1
def Sj (ta tb:TE):TE:=fun σ H Q=>ta σ H fun x H1=>∃c,x=.bl c/\if c=true then Q (.bl true) H1 else tb σ H1 Q
def KJ (ta:TE):TE:=fun σ H Q=>ta σ H fun x H1=>∃c,x=.bl c/\Q (.bl (!c)) H1
theorem Hf {op}{t:TE}(h:PE X a t):PE X (.BoolOp op [a] pos) t:=fun pins s σ H Q I hw=>BoolOp_one (h pins s σ H Q I hw)
theorem Gm (ha:PE X a ta)(hb:PE X (.BoolOp .And (b::rest) pos) tb):PE X (.BoolOp .And (a::b::rest) pos) (KO ta tb):=by
 intro pins s σ H Q I h;refine BoolOp_and (cO (ha pins s σ H _ I h) fun v s1 ⟨x,H1,I1,r1,q1⟩=>?_);obtain⟨c,rfl,q1⟩:=q1;cases r1;refine wpAny_truthy_bool ?_;cases c with
 |true=>exact hb pins s1 σ H1 Q I1 q1
 |false=>exact⟨.bl false,H1,I1,rfl,q1⟩
theorem Ke (ha:PE X a ta)(hb:PE X (.BoolOp .Or (b::rest) pos) tb):PE X (.BoolOp .Or (a::b::rest) pos) (Sj ta tb):=by
 intro pins s σ H Q I h;refine BoolOp_or (cO (ha pins s σ H _ I h) fun v s1 ⟨x,H1,I1,r1,q1⟩=>?_);obtain⟨c,rfl,q1⟩:=q1;cases r1;refine wpAny_truthy_bool ?_;cases c with
 |false=>exact hb pins s1 σ H1 Q I1 q1
 |true=>exact⟨.bl true,H1,I1,rfl,q1⟩
theorem Hn (ha:PE X a ta):PE X (.UnaryOp .Not a pos) (KJ ta):=by
 intro pins s σ H Q I h;refine UnaryOp_ (cO (ha pins s σ H _ I h) fun v s1 ⟨x,H1,I1,r1,q1⟩=>?_);obtain⟨c,rfl,q1⟩:=q1;cases r1;exact not_of (wpAny_truthy_bool ⟨.bl (!c),H1,I1,rfl,q1⟩)
def So (t:TT)(ta tb:TE):TE:=fun σ H Q=>t σ H fun c H1=>if c=true then ta σ H1 Q else tb σ H1 Q
theorem sC {c:Expr}(hc:PT X c tA)(ha:PE X a ta)(hb:PE X b tb):PE X (.IfExp c a b pos) (So tA ta tb):=by
 intro pins s σ H Q I h;refine wpAny_IfExp (cO (hc pins s σ H _ I h) fun d s1 ⟨H1,I1,q1⟩=>?_);cases d with
 |true=>exact ha pins s1 σ H1 Q I1 q1
 |false=>exact hb pins s1 σ H1 Q I1 q1
end
end L2
namespace L2
open PySem PySem.Spec PyProof.Rows
noncomputable def o9 (K:PySem.W.Frag)(H:Hp)(a:Addr)(xs:List V):Prop :=
 Rd H a (.lst xs) \/
  ∃(o:Obj) (its:Array Value) (n:Nat),K.lookup a=some o/\o.cls=.type "list"/\o.dict=none/\o.data=.seq its n/\its.size<=sizeLine/\aS xs its.toList
noncomputable def pC (K:PySem.W.Frag)(H:Hp)(a:Addr)(xs:List V):Prop :=
 Rd H a (.tup xs) \/
  ∃(o:Obj) (its:Array Value) (n:Nat),K.lookup a=some o/\o.cls=.type "tuple"/\o.data=.seq its n/\its.size<=sizeLine/\aS xs its.toList
noncomputable def Wc:Value->Option V
 |.none=>some .LC
 |.bool b=>some (.bl b)
 |.int i _=>some (.int i)
 |.str x _=>some (.str x)
 |.bytes b _=>some (.Pz b)
 |.float b _=>some (.Py b)
 |.ref a=>some (.ref a)
 |.type n=>some (.ty n)
 |_=>none
variable {u:Value}
theorem RelV.abs {x:V}(r:RelV x u):Wc u=some x:=by
 cases x with
 |LC=>cases r;rfl
 |bl _=>cases r;rfl
 |int _=>obtain⟨t,rfl⟩:=r;rfl
 |str _=>obtain⟨t,rfl⟩:=r;rfl
 |Pz _=>obtain⟨t,rfl⟩:=r;rfl
 |Py _=>obtain⟨t,rfl⟩:=r;rfl
 |ref _=>cases r;rfl
 |ty _=>cases r;rfl
theorem RelV.inj {x y:V}{u:Value}(r:RelV x u)(q:RelV y u):x=y:=cq (r.abs.symm.trans q.abs)
theorem aS.inj:∀{xs ys:List V}{us:List Value},aS xs us->aS ys us->xs=ys
 |_,_,_,.nil,.nil=>rfl
 |_,_,_,.cons r t,.cons r' t'=>by rw[r.inj r',aS.inj t t']
section
variable {X:Cx}{pins:List (Addr×Obj)}{σ:St}{H:Hp}{s:Shared}{a:Addr}{xs ys:List V}
theorem Inv.list (I:Inv X pins σ H s)(h:o9 X.K H a xs):∃its:List Value,aS xs its/\PlainL s.heap a its.toArray/\xs.length<=sizeLine:=by
 rcases h with h | ⟨o,its,n,hk,hc,hd,hs,hz,r⟩
 .obtain⟨z,its,n,r,e⟩:=h.ok I.LB;exact⟨its,r,⟨_,n,e,rfl,rfl,rfl⟩,z⟩
 .refine⟨its.toList,r,⟨o,n,I.Mp a o hk,hc,hd,by simpa using hs⟩,?_⟩;have e:=r.length;simp only[Array.length_toList] at e;omega
theorem Inv.tuple (I:Inv X pins σ H s)(h:pC X.K H a xs):∃its:List Value,aS xs its/\IsTup s.heap a its.toArray/\xs.length<=sizeLine:=by
 rcases h with h | ⟨o,its,n,hk,hc,hs,hz,r⟩
 .obtain⟨z,its,r,p⟩:=h.ok I.LB;exact⟨its,r,p,z⟩
 .refine⟨its.toList,r,⟨o,I.Mp a o hk,hc,n,by simpa using hs⟩,?_⟩;have e:=r.length;simp only[Array.length_toList] at e;omega
theorem Inv.Ml (I:Inv X pins σ H s)(h:o9 X.K H a xs)(h':o9 X.K H a ys):xs=ys:=by
 obtain⟨its,r,⟨o,n,e,_,_,d⟩,_⟩:=I.list h;obtain⟨its',r',⟨o',n',e',_,_,d'⟩,_⟩:=I.list h';rw[e] at e';cases e';rw[d] at d';injection d' with d1 _
 have:its=its':=by simpa using congrArg Array.toList d1
 subst this;exact r.inj r'
theorem Inv.Mc (I:Inv X pins σ H s)(h:pC X.K H a xs)(h':pC X.K H a ys):xs=ys:=by
 obtain⟨its,r,⟨o,e,_,n,d⟩,_⟩:=I.tuple h;obtain⟨its',r',⟨o',e',_,n',d'⟩,_⟩:=I.tuple h';rw[e] at e';cases e';rw[d] at d';injection d' with d1 _
 have:its=its':=by simpa using congrArg Array.toList d1
 subst this;exact r.inj r'
end
noncomputable abbrev Cx.Mb (X:Cx)(E:Value->Shared->Prop):Cx:={ X with xe:=E }
noncomputable abbrev Cx.L1 (X:Cx):Cx:=X.Mb fun _ _=>False
variable {X:Cx}
theorem Cx.Ok.Mb (ok:X.Ok)(E:Value->Shared->Prop):(X.Mb E).Ok :=
 ⟨ok.mod,ok.kind,ok.glob,ok.blt,ok.above,ok.inj,ok.has,ok.Of,ok.hd,ok.frames,ok.Pk,ok.QM,ok.bs,ok.NV,ok.MW,ok.M4,ok.L9,ok.Od⟩
theorem Cx.Ok.LK {E:Value->Shared->Prop}(ok:(X.Mb E).Ok):X.Ok :=
 ⟨ok.mod,ok.kind,ok.glob,ok.blt,ok.above,ok.inj,ok.has,ok.Of,ok.hd,ok.frames,ok.Pk,ok.QM,ok.bs,ok.NV,ok.MW,ok.M4,ok.L9,ok.Od⟩
variable {e:Expr}
section
variable {X:Cx}{pins:List (Addr×Obj)}{σ:St}{H:Hp}{s:Shared}{E:Value->Shared->Prop}
theorem Inv.Mb (I:Inv X pins σ H s)(E:Value->Shared->Prop):Inv (X.Mb E) pins σ H s:=⟨I.ok.Mb E,I.os,I.bare,I.base,I.loc,I.cell,I.free,I.LR,I.pin,I.LB,I.len⟩
theorem Inv.LK (I:Inv (X.Mb E) pins σ H s):Inv X pins σ H s:=⟨I.ok.LK,I.os,I.bare,I.base,I.loc,I.cell,I.free,I.LR,I.pin,I.LB,I.len⟩
theorem SP.LK {D:Ends}{f:Flow}{s':Shared}(h:SP (X.Mb E) pins D f s'):SP X pins D f s':=by
 cases f with
 |next=>obtain⟨σ',H',I,q⟩:=h;exact⟨σ',H',I.LK,q⟩
 |brk=>obtain⟨σ',H',I,q⟩:=h;exact⟨σ',H',I.LK,q⟩
 |cont=>obtain⟨σ',H',I,q⟩:=h;exact⟨σ',H',I.LK,q⟩
 |ret u=>obtain⟨v,σ',H',I,r,q⟩:=h;exact⟨v,σ',H',I.LK,r,q⟩
theorem PE.L1 {t:TE}(h:PE X.L1 e t):PE X e t:=fun pins s σ H Q I hw =>
 wpAny_mono (h pins s σ H Q (I.Mb _) hw) (fun _ _ ⟨v,H',I',r,q⟩=>⟨v,H',I'.LK,r,q⟩) fun _ _ z=>False.elim z
theorem PT.L1 {t:TT}(h:PT X.L1 e t):PT X e t:=fun pins s σ H Q I hw =>
 wpAny_mono (h pins s σ H Q (I.Mb _) hw) (fun _ _ ⟨H',I',q⟩=>⟨H',I'.LK,q⟩) fun _ _ z=>False.elim z
theorem lP.L1 {st:List Stmt}{t:TS}(h:lP X.L1 st t):lP X st t:=fun pins s σ H D I hw =>
 wpAny_mono (h pins s σ H D (I.Mb _) hw) (fun _ _ q=>q.LK) fun _ _ z=>False.elim z
end
variable {H:Hp}{c:Expr}{pins:List (Addr×Obj)}{s:Shared}{tc:TT}
section
variable {X:Cx}{st:Stmt}{rest:List Stmt}{t u:TS}{e:Expr}{te:TE}{pos:Pos}
def zN:TS:=fun D σ H=>D.nx σ H
def JL (t u:TS):TS:=fun D σ H=>t { D with nx:=u D } σ H
theorem lE:lP X [] zN:=fun _ _ σ H _ I h=>wpAny_execs_nil ⟨σ,H,I,h⟩
theorem aT (h1:PS X st t)(h2:lP X rest u):lP X (st::rest) (JL t u):=by
 intro pins s σ H D I h;refine wpAny_execs_cons (cO (h1 pins s σ H { D with nx:=u D } I h) fun f s1 q=>?_);cases f with
 |next =>
  obtain⟨σ',H',I',q⟩:=q;exact h2 pins s1 σ' H' D I' q
 |ret v=>exact q
 |brk=>exact q
 |cont=>exact q
theorem cU (h1:PS X st t):lP X [st] t:=by
 intro pins s σ H D I h;refine wpAny_execs_cons (cO (h1 pins s σ H D I h) fun f s1 q=>?_);cases f with
 |next=>exact wpAny_execs_nil q
 |ret v=>exact q
 |brk=>exact q
 |cont=>exact q
theorem Cr:PS X (.Pass pos) zN:=fun _ _ σ H _ I h=>wpAny_Pass ⟨σ,H,I,h⟩
theorem Inv.quiet {σ:St}(I:Inv X pins σ H s):interactive X.env=false:=by simp[interactive,I.ok.kind]
theorem GR {x j pos pos'}:PS X (.Expr (.Constant (.str x) j pos) pos') zN:=fun _ s σ H _ I h=>wpAny_Expr (Calls.Constant_str (show SP X _ _ .next { s with toks:=s.toks+1 } from ⟨σ,H,I.tok _,h⟩)) I.quiet
def zi (te:TE):TS:=fun D σ H=>te σ H fun _ H1=>D.nx σ H1
theorem kN (he:PE X e te)(hs:swapsWith e none pos.line X.env=pure false:=by rfl):PS X (.Expr e pos) (zi te):=by
 intro pins s σ H D I h;exact wpAny_Expr_any (cO (he pins s σ H _ I h) fun v s1 ⟨x,H1,I1,r1,q1⟩=>⟨σ,H1,I1,q1⟩) I.quiet hs
def Si (te:TE):TS:=fun D σ H=>te σ H D.rt
theorem km (he:PE X e te):PS X (.Return (some e) pos) (Si te):=by
 intro pins s σ H D I h;exact wpAny_Return_some (cO (he pins s σ H _ I h) fun v s1 ⟨x,H1,I1,r1,q1⟩=>⟨x,σ,H1,I1,r1,q1⟩)
def J3:TS:=fun D _ H=>D.rt .LC H
theorem CI:PS X (.Return none pos) J3:=fun _ _ σ H _ I h=>wpAny_Return_none ⟨.LC,σ,H,I,rfl,h⟩
def Sn (c:TT)(t u:TS):TS:=fun D σ H=>c σ H fun b H1=>if b=true then t D σ H1 else u D σ H1
theorem tB {a b:List Stmt}(hc:PT X c tc)(ha:lP X a t)(hb:lP X b u):PS X (.If c a b pos) (Sn tc t u):=by
 intro pins s σ H D I h;refine wpAny_If (cO (hc pins s σ H _ I h) fun d s1 ⟨H1,I1,q1⟩=>?_);cases d with
 |true=>exact ha pins s1 σ H1 D I1 q1
 |false=>exact hb pins s1 σ H1 D I1 q1
end
noncomputable abbrev TG:=V->St->Hp->(St->Hp->Prop)->Prop
noncomputable abbrev Eb:=List V->St->Hp->(St->Hp->Prop)->Prop
noncomputable def PG (X:Cx)(target:Expr)(t:TG):Prop :=
 ∀(pins:List (Addr×Obj)) (s:Shared) (σ:St) (H:Hp) (v:V) (u:Value) (Q:St->Hp->Prop),Inv X pins σ H s->RelV v u->t v σ H Q ->
  wpAny (model X.prog X.w) X.A (assign target X.env u) (fun _ s'=>∃σ' H',Inv X pins σ' H' s'/\Q σ' H') X.xe s
noncomputable def IL (X:Cx)(ts:List Expr)(t:Eb):Prop :=
 ∀(pins:List (Addr×Obj)) (s:Shared) (σ:St) (H:Hp) (vs:List V) (us:List Value) (Q:St->Hp->Prop),Inv X pins σ H s->aS vs us->t vs σ H Q ->
  wpAny (model X.prog X.w) X.A (assignInOrder ((assignEach ts X.env).map (·.2)) us) (fun _ s'=>∃σ' H',Inv X pins σ' H' s'/\Q σ' H') X.xe s
noncomputable abbrev GF:=V->V->V->Hp->(Hp->Prop)->Prop
noncomputable def IU (X:Cx)(t:GF):Prop :=
 ∀(pins:List (Addr×Obj)) (s:Shared) (σ:St) (H:Hp) (o i v:V) (ov iv u:Value) (Q:Hp->Prop),Inv X pins σ H s->RelV o ov->RelV i iv->RelV v u->t o i v H Q ->
  wpAny (model X.prog X.w) X.A (setItem ov iv u) (fun _ s'=>∃H',Inv X pins σ H' s'/\Q H') X.xe s
variable {es:List Expr}{te:TE}{tg:Expr}{x:Str}
section
variable {X:Cx}{pos:Pos}
noncomputable def my (i:Nat):TG:=fun v σ H Q=>Q (σ.set i (some v)) H
theorem wK {i:Nat}(hN:X.N.Nodup)(hi:X.N[i]? = some x)(hx:Loc X.env.scope x)(hf:X.fn x=true\/X.env.scope.names.lookup x=some .local:=by first | exact .inl rfl | exact .inr rfl | assumption):PG X (.Name x pos) (my i):=by
 intro pins s σ H v u Q I r h;exact wpAny_assign_Name (iF I hN hi hx r (fun s' I'=>⟨_,H,I',h⟩) hf)
noncomputable def Kq:Eb:=fun vs σ H Q=>vs=[]/\Q σ H
noncomputable def Ek (t:TG)(u:Eb):Eb:=fun vs σ H Q=>∃v r,vs=v::r/\t v σ H fun σ' H'=>u r σ' H' Q
theorem Dp:IL X [] Kq:=by
 intro pins s σ H vs us Q I r h;obtain⟨e,h⟩:=h;subst e;cases r;exact assignInOrder_nil ⟨σ,H,I,h⟩
theorem zL {t:TG}{u:Eb}(h1:PG X e t)(h2:IL X es u)
  (hs:(assignEach (e::es) X.env).map (·.2)=assign e X.env::(assignEach es X.env).map (·.2):=by rfl):IL X (e::es) (Ek t u):=by
 intro pins s σ H vs us Q I r h;obtain⟨v,vr,e1,h⟩:=h;subst e1;cases r with
 |cons r rr =>
  rw[hs];refine assignInOrder_cons (cO (h1 pins s σ H _ _ _ I r h) fun _ s1 ⟨σ1,H1,I1,q1⟩=>?_);exact h2 pins s1 σ1 H1 _ _ Q I1 rr q1
noncomputable def yB (K:PySem.W.Frag)(n:Nat)(t:Eb):TG:=fun v σ H Q=>∃a xs,v=.ref a/\pC K H a xs/\xs.length=n/\t xs σ H Q
theorem zE {k:Nat}{t:Eb}{n:Nat}(hc:X.calm=true)(h:IL X es t)
  (hn:(assignEach es X.env).length=n:=by rfl) (LJ:(assignEach es X.env).findIdx? (·.1)=none:=by rfl):PG X (.Tuple es k pos) (yB X.K n t):=by
 intro pins s σ H v u Q I r hw;obtain⟨a,xs,e1,hq,hl,hw⟩:=hw;subst e1;cases r;obtain⟨its,rv,ht,hz⟩:=I.tuple hq;refine assign_Tuple_tuple (I.ok.hd hc) ht (by simp[hn,<-hl,rv.length]) LJ fun h' hx=>?_
 have I1:Inv X pins σ H { s with heap:=h' }:=I.kept (t':=s.toks) fun b o e=>hx b o (bw (Heap.lt_size e)) e
 exact h pins _ σ H xs _ Q I1 (by simpa using rv) hw
noncomputable def Je (to ti:TE)(t:GF):TG:=fun v σ H Q=>to σ H fun o H1=>ti σ H1 fun i H2=>t o i v H2 fun H3=>Q σ H3
theorem Ft {o i:Expr}{to ti:TE}{t:GF}(ho:PE X o to)(hi:PE X i ti)(hs:IU X t)
  (ha:∀v,assign (.Subscript o i pos) X.env v=(do
   let ov <- holding [v] (eval o X.env);let iv <- holding [v,ov] (eval i X.env)
   standAt pos
   holding [v,ov,iv] (setItem ov iv v)
   release [v,ov,iv] []):=by intro _;rfl):PG X (.Subscript o i pos) (Je to ti t):=by
 intro pins s σ H v u Q I r h;rw[ha];refine wpAny_bind (wpAny_holding (cO (ho pins s σ H _ I h) fun ov s1 ⟨x,H1,I1,r1,q1⟩=>?_));refine wpAny_bind (wpAny_holding (cO (hi pins s1 σ H1 _ I1 q1) fun iv s2 ⟨y,H2,I2,r2,q2⟩=>?_));refine wpAny_bind (wpAny_standAt (wpAny_bind (wpAny_holding (cO (hs pins s2 σ H2 x y v ov iv u _ I2 r1 r2 r q2) fun _ s3 ⟨H3,I3,q3⟩=>?_))));exact wpAny_release ⟨σ,H3,I3,q3⟩
def xm (te:TE)(g:TG):TS:=fun D σ H=>te σ H fun x H1=>g x σ H1 D.nx
theorem AX {g:TG}(he:PE X e te)(hg:PG X tg g)(hs:swapsWithSole [tg] e pos.line X.env=pure false:=by rfl)(hw:swappedStores [tg] e X.env=pure none:=by rfl)
  (h1:(assignEach [tg] X.env).map (·.2)=[assign tg X.env]:=by rfl):PS X (.Assign [tg] e pos) (xm te g):=by
 intro pins s σ H D I h;refine wpAny_Assign_stores (cO (he pins s σ H _ I h) fun v s1 ⟨x,H1,I1,r1,q1⟩=>?_) hs hw;rw[h1];exact cO (hg pins s1 σ H1 x v _ I1 r1 q1) fun _ s2 q=>q
theorem cG {i:Nat}{pos':Pos}(hN:X.N.Nodup)(hi:X.N[i]? = some x)(hx:Loc X.env.scope x)(he:PE X e te)(hs:swapsWith e (some (.Name x pos')) pos.line X.env=pure false:=by rfl)(hf:X.fn x=true\/X.env.scope.names.lookup x=some .local:=by first | exact .inl rfl | exact .inr rfl | assumption) :
  PS X (.Assign [.Name x pos'] e pos) (xm te (my i)):=by
 intro pins s σ H D I h;refine wpAny_Assign_Name (cO (he pins s σ H _ I h) fun v s1 ⟨y,H1,I1,r1,q1⟩=>?_) hs;exact iF I1 hN hi hx r1 (fun s2 I2=>⟨_,H1,I2,q1⟩) hf
end
section
variable {X:Cx}{pos:Pos}
def HY (c:TT)(tb:TS):TS:=fun D σ H=>∃W:Nat->St->Hp->Prop,(∃m,W m σ H)/\∀m σ H,W m σ H ->
 c σ H fun b H1=>if b=true then ∃N:St->Hp->Prop,(∀σ' H',N σ' H'->∃m',m'<m/\W m' σ' H')/\tb { D with nx:=N,ct:=N,bk:=D.nx } σ H1 else D.nx σ H1
theorem lj {body:List Stmt}{tb:TS}(hp:PassesOwn (model X.prog X.w) X.A X.env X.xe)(hc:PT X c tc)(hb:lP X body tb):PS X (.While c body [] pos) (HY tc tb):=by
 intro pins s σ H D I h;obtain⟨W,⟨m0,w0⟩,turn⟩:=h;refine wpAny_While (codeAny_whileLoop (fun n s'=>∃σ' H',Inv X pins σ' H' s'/\W n σ' H') ?_ m0 ⟨σ,H,I,w0⟩);rintro n s1 ⟨σ1,H1,I1,w1⟩;refine wpAny_passesOwn hp (cO (hc pins s1 σ1 H1 _ I1 (turn n σ1 H1 w1)) fun b s2 ⟨H2,I2,q2⟩=>?_);cases b with
 |true =>
  obtain⟨N,hN,q2⟩:=q2;rw[if_pos rfl];refine wpAny_passesOwn hp (cO (hb pins s2 σ1 H2 _ I2 q2) fun f s3 q3=>?_);cases f with
  |next =>
   obtain⟨σ3,H3,I3,n3⟩:=q3;obtain⟨m',hm,w3⟩:=hN σ3 H3 n3;exact⟨m',hm,σ3,H3,I3,w3⟩
  |cont =>
   obtain⟨σ3,H3,I3,n3⟩:=q3;obtain⟨m',hm,w3⟩:=hN σ3 H3 n3;exact⟨m',hm,σ3,H3,I3,w3⟩
  |brk=>exact q3
  |ret v=>exact q3
 |false =>
  rw[if_neg bj];exact wpAny_execs_nil ⟨σ1,H2,I2,q2⟩
end
structure It where
 go:Nat->Hp->Prop
 PF:Nat->Hp->V->Hp->Prop
 stop:Nat->Hp->Prop
noncomputable def j7 (X:Cx)(pins:List (Addr×Obj))(H:Hp)(b:Addr):Prop :=
 H b=none/\b≠X.env.locals/\b∉X.fs/\(b∈X.ex\/X.s₀.heap.objs.size<=b)/\(∀x c,X.env.cells.lookup x=some c->c≠b)/\∀p∈X.pn++pins,p.1≠b
theorem Inv.MO {σ:St}{H':Hp}{b:Addr}(I:Inv X pins σ H s)(hb:s.heap.objs.size<=b)(hn:H' b=none):j7 X pins H' b:=by
 refine⟨hn,Nat.ne_of_gt (bg I.lt hb),I.P5 hb,.inr (bq I.sz hb),fun x c e z=>?_,fun p hp z=>?_⟩
 .obtain⟨v,q⟩:=I.cell x c e;exact absurd (bg q.lt (by rw[z];exact hb)) (fw _)
 .exact absurd (bg (Heap.lt_size (I.pin p hp).1) (by rw[z];exact hb)) (fw _)
structure Turn (P:Program)(w:World)(K:PySem.W.Frag)(tg:Expr)(J:It)(fp:List Addr)(it:Addr)(tn:Nat->Heap->Prop):Prop where
 mem:it∈fp
 obj:∀i h,tn i h->∀b∈fp,∃o,h.get? b=some o/\∀v,o.data≠.cell v
 keep:∀i h h',tn i h->(∀b∈fp,∀o,h.get? b=some o->h'.get? b=some o)->tn i h'
 item:∀(X:Cx),X.prog=P->X.w=w->X.K=K->X.calm=true->∀(i:Nat) (pins:List (Addr×Obj)) (s:Shared) (σ:St) (H:Hp) (E:Value->Shared->Prop),Inv X pins σ H s->(∀b∈fp,j7 X pins H b)->tn i s.heap->J.go i H ->
  wpAny (model P w) X.A (pyNext (.ref it)) (fun r s1=>∃u,r=some u /\
   wpAny (model P w) X.A (letOwnedTupleGo tg (.ref it) u) (fun _ s2=>∃x H',Inv X pins σ H' s2/\RelV x u/\J.PF i H x H'/\tn (i+1) s2.heap/\∀b∈fp,H' b=none) E s1) E s
 done:∀(X:Cx),X.prog=P->X.w=w->X.K=K->X.calm=true->∀(i:Nat) (pins:List (Addr×Obj)) (s:Shared) (σ:St) (H:Hp) (E:Value->Shared->Prop),Inv X pins σ H s->(∀b∈fp,j7 X pins H b)->tn i s.heap->J.stop i H ->
  wpAny (model P w) X.A (pyNext (.ref it)) (fun r s1=>r=none/\Inv X pins σ H s1) E s
 self:∀(A:Around) (i:Nat) (s:Shared) (Q:Value->Shared->Prop) (E:Value->Shared->Prop),tn i s.heap->Q (.ref it) s->wpAny (model P w) A (pyIter (.ref it)) Q E s
noncomputable abbrev TI:=St->Hp->(It->Hp->Prop)->Prop
noncomputable def Ie (X:Cx)(pins:List (Addr×Obj))(σ:St)(tg:Expr)(R:It->Hp->Prop)(Rr:Value)(s2:Shared):Prop :=
 ∃(it:Addr) (fp:List Addr) (tn:Nat->Heap->Prop) (J:It) (H':Hp),Rr=.ref it/\Inv X pins σ H' s2/\Turn X.prog X.w X.K tg J fp it tn/\tn 0 s2.heap/\(∀b∈fp,j7 X pins H' b)/\R J H'
noncomputable def PI (X:Cx)(tg iter:Expr)(wi:TI):Prop :=
 ∀(pins:List (Addr×Obj)) (s:Shared) (σ:St) (H:Hp) (R:It->Hp->Prop),Inv X pins σ H s->wi σ H R ->
  wpAny (model X.prog X.w) X.A (eval iter X.env) (fun v s1=>wpAny (model X.prog X.w) X.A (pyIter v) (Ie X pins σ tg R) X.xe s1) X.xe s
theorem zA {M:Model}{A:Around}{E:Value->Shared->Prop}{s:Shared}{it:Addr}{o:Obj}{n:String}{vs:Array Value}{Q:Unit->Shared->Prop}(ho:s.heap.get? it=some o)(hc:o.cls=.type n)(hd:o.data=.fields vs)
  (hn:["enumerate","zip","dict_itemiterator","dict_reverseitemiterator","odict_iterator","itertools.zip_longest","itertools.pairwise"].contains n=false) (hQ:Q () s):wpAny M A (letOwnedTupleGo tg (.ref it) u) Q E s:=by
 unfold letOwnedTupleGo;cases tg<;>first
  | exact wpAny_pure hQ
  | (cases u<;>first
    | exact wpAny_pure hQ
    | (refine wpAny_bind (wpAny_load ho ?_)
       rw[hc,hd];show wpAny M A (if (["enumerate","zip","dict_itemiterator","dict_reverseitemiterator","odict_iterator","itertools.zip_longest","itertools.pairwise"].contains n&&vs[0]?==some (rawInt _))=true then _ else _) Q E s;rw[if_neg (by intro h;rw[hn,Bool.false_and] at h;cases h)];exact wpAny_pure hQ))
noncomputable def Wj (K:PySem.W.Frag)(a:Addr):It :=
 ⟨fun i H=>∃xs x,o9 K H a xs/\xs[i]? = some x,fun i H x H'=>H'=H/\∀xs,o9 K H a xs->xs[i]? = some x,fun i H=>∃xs,o9 K H a xs/\xs.length<=i⟩
noncomputable def Wi (K:PySem.W.Frag)(a:Addr):It :=
 ⟨fun i H=>∃xs x,pC K H a xs/\xs[i]? = some x,fun i H x H'=>H'=H/\∀xs,pC K H a xs->xs[i]? = some x,fun i H=>∃xs,pC K H a xs/\xs.length<=i⟩
variable {P:Program}{w:World}
theorem xa {K:PySem.W.Frag}(a it:Addr):Turn P w K tg (Wj K a) [it] it (fun i h=>h.IsListIter it a i) where
 mem:=by simp
 obj:=fun i h st b hb=>by
  have e:b=it:=by simpa using hb
  subst e;obtain⟨o,e,c,d⟩:=st;exact⟨o,e,fun v z=>by rw[d] at z;cases z⟩
 keep:=fun i h h' st k=>st.at fun o e=>k it (by simp) o e
 item:=by
  intro X hP hw hK hc i pins s σ H E I hf st hg;subst hP hw hK;obtain⟨xs,x,hq,hx⟩:=hg;obtain⟨its,rv,p,hz⟩:=I.list hq;obtain⟨u,hu,ru⟩:=rv.get hx;obtain⟨f0,f1,f2,f3,f4,f5⟩:=hf it (by simp);refine wpAny_pyNext_list_item st p.isList (x:=u) (by simpa using hu) fun h' MF sb=>?_
  have I1:Inv X pins σ H { s with heap:=h' }:=I.turned (t':=s.toks) (fun b o hb e=>(sb.2 b hb).trans e) f0 f1 f3 f4 f5;obtain⟨o,e,c,d⟩:=id MF;exact⟨u,rfl,zA (s:={ s with heap:=h' }) e c d (by decide) ⟨x,H,I1,ru,⟨rfl,fun ys hy=>by rw[I.Ml hy hq];exact hx⟩,MF,fun b hb=>(hf b hb).1⟩⟩
 done:=by
  intro X hP hw hK hc i pins s σ H E I hf st hg;subst hP hw hK;obtain⟨xs,hq,hx⟩:=hg;obtain⟨its,rv,p,hz⟩:=I.list hq;obtain⟨f0,f1,f2,f3,f4,f5⟩:=hf it (by simp);have hl:=rv.length;exact wpAny_pyNext_list_end (I.ok.hd hc) st p.isList (by simp;omega) fun h' eb=>⟨rfl,I.turned (t':=s.toks) (fun b o hb e=>eb b o hb e) f0 f1 f3 f4 f5⟩
 self:=fun _ _ _ _ _ st h=>wpAny_pyIter_listiter st h
theorem uk {K:PySem.W.Frag}(a it:Addr):Turn P w K tg (Wi K a) [it] it (fun i h=>h.IsTupleIter it a i) where
 mem:=by simp
 obj:=fun i h st b hb=>by
  have e:b=it:=by simpa using hb
  subst e;obtain⟨o,e,c,d⟩:=st;exact⟨o,e,fun v z=>by rw[d] at z;cases z⟩
 keep:=fun i h h' st k=>st.at fun o e=>k it (by simp) o e
 item:=by
  intro X hP hw hK hc i pins s σ H E I hf st hg;subst hP hw hK;obtain⟨xs,x,hq,hx⟩:=hg;obtain⟨its,rv,p,hz⟩:=I.tuple hq;obtain⟨u,hu,ru⟩:=rv.get hx;obtain⟨f0,f1,f2,f3,f4,f5⟩:=hf it (by simp);refine wpAny_pyNext_tuple_item st (show s.heap.IsTuple a its.toArray from p) (x:=u) (by simpa using hu) fun h' MF sb=>?_
  have I1:Inv X pins σ H { s with heap:=h' }:=I.turned (t':=s.toks) (fun b o hb e=>(sb.2 b hb).trans e) f0 f1 f3 f4 f5;obtain⟨o,e,c,d⟩:=id MF;exact⟨u,rfl,zA (s:={ s with heap:=h' }) e c d (by decide) ⟨x,H,I1,ru,⟨rfl,fun ys hy=>by rw[I.Mc hy hq];exact hx⟩,MF,fun b hb=>(hf b hb).1⟩⟩
 done:=by
  intro X hP hw hK hc i pins s σ H E I hf st hg;subst hP hw hK;obtain⟨xs,hq,hx⟩:=hg;obtain⟨its,rv,p,hz⟩:=I.tuple hq;obtain⟨f0,f1,f2,f3,f4,f5⟩:=hf it (by simp);have hl:=rv.length;exact wpAny_pyNext_tuple_end (I.ok.hd hc) st (show s.heap.IsTuple a its.toArray from p) (by simp;omega) fun h' eb=>⟨rfl,I.turned (t':=s.toks) (fun b o hb e=>eb b o hb e) f0 f1 f3 f4 f5⟩
 self:=fun _ _ _ _ _ st h=>wpAny_pyIter_tupleiter st h
end L2
namespace L2
open PySem PySem.Spec PyProof.Rows
variable {H:Hp}{fp:List Addr}{h:Heap}{pins:List (Addr×Obj)}{s:Shared}
section
variable {X:Cx}{tg:Expr}
def Sq (wi:TI)(g:TG)(tb:TS):TS:=fun D σ H=>wi σ H fun J H1=>∃W:Nat->Nat->St->Hp->Prop,(∃m,W 0 m σ H1)/\∀i m σ H,W i m σ H ->
 (J.stop i H/\D.nx σ H)\/(J.go i H/\∃N:St->Hp->Prop,(∀σ' H',N σ' H'->∃m',m'<m/\W (i+1) m' σ' H')/\∀x H',J.PF i H x H'->g x σ H' fun σ2 H2=>tb { D with nx:=N,ct:=N,bk:=D.nx } σ2 H2)
noncomputable def nZ (fp:List Addr)(h:Heap):List (Addr×Obj):=fp.filterMap fun b=>(h.get? b).map fun o=>(b,o)
theorem fZ {b:Addr}{o:Obj}(hb:b∈fp)(e:h.get? b=some o):(b,o)∈nZ fp h:=List.mem_filterMap.mpr ⟨b,hb,by rw[e];rfl⟩
theorem yd {p:Addr×Obj}(hp:p∈nZ fp h):p.1∈fp/\h.get? p.1=some p.2:=by
 obtain⟨b,hb,e⟩:=List.mem_filterMap.mp hp;cases q:h.get? b with
 |none=>rw[q] at e;cases e
 |some o =>
  rw[q] at e;have e':(b,o)=p:=cq e;subst e';exact⟨hb,q⟩
theorem Inv.pinned {σ:St}{fp:List Addr}(I:Inv X pins σ H s)(hf:∀b∈fp,j7 X pins H b)(ho:∀b∈fp,∃o,s.heap.get? b=some o/\∀v,o.data≠.cell v):Inv X (pins++nZ fp s.heap) σ H s :=
 I.M8 fun p hp=>(List.mem_append.mp hp).elim (fun z=>I.pin p (ax _ z)) fun z=>by
  obtain⟨hb,e⟩:=yd z;obtain⟨f0,f1,f2,_⟩:=hf p.1 hb;obtain⟨o,e',d⟩:=ho p.1 hb;rw[e] at e';cases e';exact⟨e,f0,f1,f2,d⟩
theorem Inv.LY {pl:List (Addr×Obj)}{σ:St}(I:Inv X (pins++pl) σ H s):Inv X pins σ H s:=I.M8 fun p hp=>I.pin p (ax _ (bo _ hp))
theorem Fv {iter:Expr}{body:List Stmt}{wi:TI}{g:TG}{tb:TS}{pos:Pos}(hp:PassesOwn (model X.prog X.w) X.A X.env X.xe)(hc:X.calm=true)(hi:PI X tg iter wi)(hg:PG X tg g)(hb:lP X body tb)
  (hs:∀x,foldedSetIterable iter X.env x=pure x:=by intro _;rfl):PS X (.For tg iter body [] pos) (Sq wi g tb):=by
 intro pins s σ H D I h;refine wpAny_For (cO (hi pins s σ H _ I h) fun v s1 h1=>cO h1 fun Rr s2 h2=>?_) hs;obtain⟨it,fp,tn,J,H2,e,I2,T,PN,f2,W,⟨m0,w0⟩,turn⟩:=h2;subst e;have MT:∀{H':Hp},(∀b∈fp,H' b=none)->∀b∈fp,j7 X pins H' b:=fun hn b hb=>⟨hn b hb,(f2 b hb).2⟩
 refine codeAny_forLoop_any (fun n s'=>∃i σ' H',Inv X pins σ' H' s'/\tn i s'.heap/\(∀b∈fp,H' b=none)/\W i n σ' H') ?_ m0 ⟨0,σ,H2,I2,PN,fun b hb=>(f2 b hb).1,w0⟩;rintro n s3 ⟨i,σ3,H3,I3,Wv,Xs,w3⟩;rcases turn i n σ3 H3 w3 with ⟨stop,qn⟩ | ⟨go,N,hN,step⟩
 .refine wpAny_passesOwn hp (cO (T.done X rfl rfl rfl hc i pins s3 σ3 H3 X.xe I3 (MT Xs) Wv stop) fun r s4 ⟨hr,I4⟩=>?_);subst hr;exact wpAny_execs_nil ⟨σ3,H3,I4,qn⟩
 .refine wpAny_passesOwn hp (cO (T.item X rfl rfl rfl hc i pins s3 σ3 H3 X.xe I3 (MT Xs) Wv go) fun r s4 ⟨u,hr,h4⟩=>?_);subst hr;refine wpAny_passesOwn hp (cO h4 fun _ s5 ⟨x,H5,I5,r5,y5,Pl,RJ⟩=>?_);have I5':=I5.pinned (MT RJ) (T.obj _ _ Pl);refine wpAny_passesOwn hp (cO (hg _ s5 σ3 H5 x u _ I5' r5 (step x H5 y5)) fun _ s6 ⟨σ6,H6,I6,q6⟩=>?_);refine wpAny_passesOwn hp (cO (hb _ s6 σ6 H6 _ I6 q6) fun f s7 q7=>?_);have again:∀{σ7:St}{H7:Hp},Inv X (pins++nZ fp s5.heap) σ7 H7 s7->N σ7 H7->∃m,m<n/\∃i σ' H',Inv X pins σ' H' s7/\tn i s7.heap/\(∀b∈fp,H' b=none)/\W i m σ' H':=fun {σ7 H7} I7 n7=>by
   obtain⟨m',hm,w7⟩:=hN σ7 H7 n7;refine⟨m',hm,i+1,σ7,H7,I7.LY,T.keep _ _ _ Pl fun b hb o e=>(I7.pin (b,o) (ax _ (ax _ (fZ hb e)))).1,fun b hb=>?_,w7⟩;obtain⟨o,e,d⟩:=T.obj _ _ Pl b hb;exact (I7.pin (b,o) (ax _ (ax _ (fZ hb e)))).2.1
  cases f with
  |next=>obtain⟨σ7,H7,I7,n7⟩:=q7;exact again I7 n7
  |cont=>obtain⟨σ7,H7,I7,n7⟩:=q7;exact again I7 n7
  |brk=>obtain⟨σ7,H7,I7,q7⟩:=q7;exact⟨σ7,H7,I7.LY,q7⟩
  |ret v=>obtain⟨x7,σ7,H7,I7,r7,q7⟩:=q7;exact⟨x7,σ7,H7,I7.LY,r7,q7⟩
end
end L2
namespace L2
open PySem PySem.Spec PyProof.Rows
noncomputable abbrev R2:=V->V->Hp->VK->Prop
noncomputable def kz (X:Cx)(f:Value->Value->Sem Value)(r:R2):Prop :=
 ∀(pins:List (Addr×Obj)) (s:Shared) (σ:St) (H:Hp) (x y:V) (v u:Value) (Q:VK),Inv X pins σ H s->RelV x v->RelV y u->r x y H Q ->
  wpAny (model X.prog X.w) X.A (f v u) (EP X pins σ Q) X.xe s
noncomputable def Wd (X:Cx)(f:Value->Sem Value)(r:V->Hp->VK->Prop):Prop :=
 ∀(pins:List (Addr×Obj)) (s:Shared) (σ:St) (H:Hp) (x:V) (v:Value) (Q:VK),Inv X pins σ H s->RelV x v->r x H Q ->
  wpAny (model X.prog X.w) X.A (f v) (EP X pins σ Q) X.xe s
noncomputable def eJ (X:Cx)(f:Value)(r:List V->Hp->VK->Prop):Prop :=
 ∀(pins:List (Addr×Obj)) (s:Shared) (σ:St) (H:Hp) (xs:List V) (us:List Value) (Q:VK),Inv X pins σ H s->aS xs us->r xs H Q ->
  wpAny (model X.prog X.w) X.A (call f us) (EP X pins σ Q) X.xe s
noncomputable def Wf (X:Cx)(r:V->Hp->(Bool->Hp->Prop)->Prop):Prop :=
 ∀(pins:List (Addr×Obj)) (s:Shared) (σ:St) (H:Hp) (x:V) (v:Value) (Q:Bool->Hp->Prop),Inv X pins σ H s->RelV x v->r x H Q ->
  wpAny (model X.prog X.w) X.A (truthy v) (TP X pins σ Q) X.xe s
def Jm (r:R2)(ta tb:TE):TE:=fun σ H Q=>ta σ H fun x H1=>tb σ H1 fun y H2=>r x y H2 Q
def tUn (r:V->Hp->VK->Prop)(ta:TE):TE:=fun σ H Q=>ta σ H fun x H1=>r x H1 Q
noncomputable def rI (C:Int->Int->Prop)(g:Int->Int->V):R2:=fun x y H Q=>∃i j,x=.int i/\y=.int j/\C i j/\Q (g i j) H
noncomputable def Bj (g:Int->Int->V):R2:=fun x y H Q=>∃i j,x=.int i/\y=.int j/\Q (g i j) H
def rU (g:Int->V):V->Hp->VK->Prop:=fun x H Q=>∃i,x=.int i/\Q (g i) H
variable {H:Hp}{f:Value->Value->Sem Value}{g:Int->Int->Int}{pins:List (Addr×Obj)}{r:R2}{s:Shared}
section
variable {X:Cx}{a b c:Expr}{ta tb tc:TE}{pos:Pos}
theorem FZ (ha:PE X a ta)(hb:PE X b tb){σ:St}{R:V->V->Hp->Prop}(I:Inv X pins σ H s)
  (h:ta σ H fun x H1=>tb σ H1 fun y H2=>R x y H2) {Q:Value->Shared->Prop}
  (hf:∀v u s2 x y H2,Inv X pins σ H2 s2->RelV x v->RelV y u->R x y H2->wpAny (model X.prog X.w) X.A (f v u) Q X.xe s2) :
  wpAny (model X.prog X.w) X.A (eval a X.env) (fun v s₁=>wpAny (model X.prog X.w) X.A (eval b X.env) (fun u s₂=>wpAny (model X.prog X.w) X.A (f v u) Q X.xe s₂) X.xe s₁) X.xe s:=by
 refine cO (ha pins s σ H _ I h) fun v s1 ⟨x,H1,I1,r1,q1⟩=>?_
 refine cO (hb pins s1 σ H1 _ I1 q1) fun u s2 ⟨y,H2,I2,r2,q2⟩=>?_
 exact hf v u s2 x y H2 I2 r1 r2 q2
theorem ua {op:Operator}(ho:kz X (binaryOp op) r)(ha:PE X a ta)(hb:PE X b tb):PE X (.BinOp a op b pos) (Jm r ta tb):=by
 intro pins s σ H Q I h;exact wpAny_BinOp (FZ ha hb I h fun v u s2 x y H2 I2 rx ry q=>ho pins s2 σ H2 x y v u Q I2 rx ry q)
theorem JO {op:UnaryOp}{r:V->Hp->VK->Prop}(ho:Wd X (unaryOp op) r)(ha:PE X a ta):PE X (.UnaryOp op a pos) (tUn r ta):=by
 intro pins s σ H Q I h;exact UnaryOp_ (cO (ha pins s σ H _ I h) fun v s1 ⟨x,H1,I1,r1,q1⟩=>ho pins s1 σ H1 x v Q I1 r1 q1)
theorem Jx {C:Int->Int->Prop}
  (rule:∀(i j:Int) (t u:Tok) (s:Shared) (Q:Value->Shared->Prop) (E:Value->Shared->Prop),C i j->Q (.int (g i j) s.toks) { s with toks:=s.toks+1 }->wpAny (model X.prog X.w) X.A (f (.int i t) (.int j u)) Q E s) :
  kz X f (rI C fun i j=>.int (g i j)):=by
 intro pins s σ H x y v u Q I rx ry h;obtain⟨i,j,rfl,rfl,hc,q⟩:=h;obtain⟨t,rfl⟩:=rx;obtain⟨t',rfl⟩:=ry;exact rule i j t t' s _ _ hc ⟨.int (g i j),H,I.tok _,⟨_,rfl⟩,q⟩
theorem Dx 
  (rule:∀(i j:Int) (t u:Tok) (s:Shared) (Q:Value->Shared->Prop) (E:Value->Shared->Prop),Q (.int (g i j) s.toks) { s with toks:=s.toks+1 }->wpAny (model X.prog X.w) X.A (f (.int i t) (.int j u)) Q E s) :
  kz X f (Bj fun i j=>.int (g i j)):=by
 intro pins s σ H x y v u Q I rx ry h;obtain⟨i,j,rfl,rfl,q⟩:=h;obtain⟨t,rfl⟩:=rx;obtain⟨t',rfl⟩:=ry;exact rule i j t t' s _ _ ⟨.int (g i j),H,I.tok _,⟨_,rfl⟩,q⟩
theorem CN {g:Int->Int->Bool}
  (rule:∀(i j:Int) (t u:Tok) (s:Shared) (Q:Value->Shared->Prop) (E:Value->Shared->Prop),Q (.bool (g i j)) s->wpAny (model X.prog X.w) X.A (f (.int i t) (.int j u)) Q E s) :
  kz X f (Bj fun i j=>.bl (g i j)):=by
 intro pins s σ H x y v u Q I rx ry h;obtain⟨i,j,rfl,rfl,q⟩:=h;obtain⟨t,rfl⟩:=rx;obtain⟨t',rfl⟩:=ry;exact rule i j t t' s _ _ ⟨.bl (g i j),H,I,rfl,q⟩
def Wm (i j:Int):Prop:=0<j/\j<1073741824
def Wl (i j:Int):Prop:=0<=j/\j<=1000000/\i.natAbs<2 ^ 64
def Fe (i j:Int):Prop:=(-(2 ^ 64)<i/\i<2 ^ 64)\/(-(2 ^ 64)<j/\j<2 ^ 64)
theorem Fe.ok {i j:Int}(h:Fe i j):IntMulOk i j:=by
 rcases h with ⟨h1,h2⟩ | ⟨h1,h2⟩
 .exact .of_left (intBits_le_64 h1 h2)
 .exact .of_right (intBits_le_64 h1 h2)
theorem uF (k:Nat):(0:Int)<=2 ^ k:=by
 rw[two_pow_cast];exact Int.natCast_nonneg _
theorem uJ:kz X (binaryOp .Add) (Bj fun i j=>.int (i+j)):=Dx fun _ _ _ _ _ _ _ q=>add_int q
theorem EN:kz X (binaryOp .Sub) (Bj fun i j=>.int (i-j)):=Dx fun _ _ _ _ _ _ _ q=>sub_int q
theorem G4:kz X (binaryOp .Mult) (rI Fe fun i j=>.int (i*j)):=Jx fun _ _ _ _ _ _ _ hc q=>mul_int q hc.ok
theorem BG:kz X (binaryOp .FloorDiv) (rI Wm fun i j=>.int (i / j)):=Jx fun i j _ _ _ _ _ hc q=>by
 have h1:(0:Int)<j:=hc.1;have h2:j<1073741824:=hc.2;exact floordiv_int (by omega) (by rw[Int.fdiv_eq_ediv_of_nonneg i (by omega)];exact q) (.inl (PyProof.noPylong_small (by omega)))
theorem Hq:kz X (binaryOp .Mod) (rI (fun _ j=>0<j) fun i j=>.int (i%j)):=Jx fun i j _ _ _ _ _ hc q=>by
 have h1:(0:Int)<j:=hc;exact mod_int' (by omega) (by rw[Int.fmod_eq_emod_of_nonneg i (by omega)];exact q)
theorem GA:kz X (binaryOp .LShift) (rI Wl fun i j=>.int (i*2 ^ j.toNat)):=Jx fun _ _ _ _ _ _ _ hc q=>lshift_int_small hc.1 hc.2.1 hc.2.2 q
theorem EY:kz X (binaryOp .RShift) (rI (fun _ j=>0<=j) fun i j=>.int (i / 2 ^ j.toNat)):=Jx fun i j _ _ _ _ _ hc q =>
 rshift_int hc (by rw[Int.fdiv_eq_ediv_of_nonneg i (uF _)];exact q)
theorem Fy:kz X (binaryOp .BitAnd) (Bj fun i j=>.int (Builtin.bitAnd i j)):=Dx fun _ _ _ _ _ _ _ q=>and_int q
theorem E8:kz X (binaryOp .BitXor) (Bj fun i j=>.int (Builtin.bitXor i j)):=Dx fun _ _ _ _ _ _ _ q=>xor_int q
theorem unI {f:Value->Sem Value}{g:Int->Int}
  (rule:∀(i:Int) (t:Tok) (s:Shared) (Q:Value->Shared->Prop) (E:Value->Shared->Prop),Q (.int (g i) s.toks) { s with toks:=s.toks+1 }->wpAny (model X.prog X.w) X.A (f (.int i t)) Q E s) :
  Wd X f (rU fun i=>.int (g i)):=by
 intro pins s σ H x v Q I rx h;obtain⟨i,rfl,q⟩:=h;obtain⟨t,rfl⟩:=rx;exact rule i t s _ _ ⟨.int (g i),H,I.tok _,⟨_,rfl⟩,q⟩
theorem HW:Wd X (unaryOp .USub) (rU fun i=>.int (-i)):=unI fun _ _ _ _ _ q=>neg_int q
end
variable {op:CmpOp}{us:List Value}{x:V}
section
variable {X:Cx}{a b c:Expr}{ta tb tc:TE}{pos:Pos}
theorem FT {σ:St}{Q:VK}{k k':Bool}(I:Inv X pins σ H s)(q:Q (.bl k) H)(e:k=k'):EP X pins σ Q (.bool k') s:=by
 subst e;exact⟨.bl k,H,I,rfl,q⟩
theorem IH:kz X (compareOp .Lt) (Bj fun i j=>.bl (decide (i<j))):=CN fun _ _ _ _ _ _ _ q=>lt_int q
theorem IP:kz X (compareOp .LtE) (Bj fun i j=>.bl (decide (i<=j))):=CN fun _ _ _ _ _ _ _ q=>le_int q
theorem D3:kz X (compareOp .Gt) (Bj fun i j=>.bl (decide (j<i))):=CN fun _ _ _ _ _ _ _ q=>gt_int q
theorem Km:kz X (compareOp .GtE) (Bj fun i j=>.bl (decide (j<=i))):=CN fun _ _ _ _ _ _ _ q=>ge_int q
theorem xO:kz X (compareOp .In) (fun x y H Q=>∃i j,x=.str i/\y=.str j/\Q (.bl (!(Builtin.Str.occurrences j i 0 j.length 1).isEmpty)) H):=by
 intro pins s σ H x y v u Q I rx ry h;obtain⟨i,j,rfl,rfl,q⟩:=h;obtain⟨t,rfl⟩:=rx;obtain⟨t',rfl⟩:=ry;exact in_str (FT I q rfl)
theorem CJ (ho:kz X (compareOp op) r)(ha:PE X a ta)(hb:PE X b tb)(hm:behindInMarks op b=false):PE X (.Compare a [op] [b] pos) (Jm r ta tb):=by
 intro pins s σ H Q I h;exact wpAny_Compare1 (FZ ha hb I h fun v u s2 x y H2 I2 rx ry q=>ho pins s2 σ H2 x y v u Q I2 rx ry q) hm
def IV (t:TE):TT:=fun σ H Q=>t σ H fun x H'=>∃k,x=.bl k/\Q k H'
theorem wG (ho:kz X (compareOp op) r)(ha:PE X a ta)(hb:PE X b tb)(hm:behindInMarks op b=false):PT X (.Compare a [op] [b] pos) (IV (Jm r ta tb)):=by
 intro pins s σ H Q I h;refine wpAny_isTrue_Compare1 (cO (ha pins s σ H _ I h) fun v s1 ⟨x,H1,I1,r1,q1⟩=>cO (hb pins s1 σ H1 _ I1 q1) fun u s2 ⟨y,H2,I2,r2,q2⟩ =>
  cO (ho pins s2 σ H2 x y v u _ I2 r1 r2 q2) fun c s3 ⟨z,H3,I3,r3,k,e,q3⟩=>?_) hm
 subst e;cases r3;exact wpAny_truthy_bool ⟨H3,I3,q3⟩
noncomputable def Hk (K:PySem.W.Frag)(x:V)(H:Hp)(k:Bool):Prop :=
 match x with
 |.LC=>k=false
 |.bl b=>k=b
 |.int i=>k=(i != 0)
 |.str y=>y.length<=sizeLine/\k=((y.length:Int) != 0)
 |.Pz y=>y.size<=sizeLine/\k=((y.size:Int) != 0)
 |.ref p=>(∃xs,o9 K H p xs/\k = !xs.isEmpty)\/(∃xs,pC K H p xs/\k = !xs.isEmpty)\/∃kvs,H p=some (.dK kvs)/\k = !kvs.isEmpty
 |_=>False
theorem uU {κ:Type}{kvs:List (κ×V)}{vs:List (κ×Value)}(r:KV kvs vs):(!vs.isEmpty) = !kvs.isEmpty:=by
 cases r<;>rfl
theorem nD {xs:List V}{its:List Value}(r:aS xs its):(!its.toArray.isEmpty) = !xs.isEmpty:=by
 cases r<;>simp
theorem ky:(sizeLine:Nat)<2 ^ 63:=by rw[sizeLine_eq];decide
theorem HQ:Wf X (fun x H Q=>∃k,Hk X.K x H k/\Q k H):=by
 intro pins s σ H x v Q I rx h;obtain⟨k,e,q⟩:=h;have hl:=ky;have hs:sizeLine=16777216:=sizeLine_eq;cases x with
 |LC =>
  cases rx;have e':k=false:=e;subst e';exact truthy_none ⟨H,I,q⟩
 |bl b =>
  cases rx;have e':k=b:=e;subst e';exact wpAny_truthy_bool ⟨H,I,q⟩
 |int i =>
  obtain⟨t,rfl⟩:=rx;have e':k=(i != 0):=e;subst e';exact PySem.P.truthy_int ⟨H,I,q⟩
 |str y =>
  obtain⟨t,rfl⟩:=rx;obtain⟨hy,e'⟩:y.length<=sizeLine/\k=((y.length:Int) != 0):=e;subst e';exact PySem.P.truthy_str (by omega) ⟨H,I.tok _,q⟩
 |Pz y =>
  obtain⟨t,rfl⟩:=rx;obtain⟨hy,e'⟩:y.size<=sizeLine/\k=((y.size:Int) != 0):=e;subst e';exact PySem.W.truthy_bytes (by omega) ⟨H,I.tok _,q⟩
 |ref p =>
  cases rx;have e':(∃xs,o9 X.K H p xs/\k = !xs.isEmpty)\/(∃xs,pC X.K H p xs/\k = !xs.isEmpty)\/∃kvs,H p=some (.dK kvs)/\k = !kvs.isEmpty:=e;rcases e' with ⟨xs,hx,e'⟩ | ⟨xs,hx,e'⟩ | ⟨kvs,hx,e'⟩
  .subst e';obtain⟨its,r,pl,hz⟩:=I.list hx;have hlen:=r.length;exact wpAny_truthy_list pl.isList (by simp only[List.size_toArray];omega) ⟨H,I.tok _,by rw[nD r];exact q⟩
  .subst e';obtain⟨its,r,pl,hz⟩:=I.tuple hx;have hlen:=r.length;exact truthy_tuple pl (by simp only[List.size_toArray];omega) ⟨H,I.tok _,by rw[nD r];exact q⟩
  .subst e';obtain⟨hz,hS,vs,r,m⟩:kvs.length<=sizeLine/\(p==sysModules)=false/\∃vs,KV kvs vs/\s.heap.DictOf (cB X.prog X.w) p vs:=I.LB p _ hx;have hlen:kvs.length=vs.length:=Paired.length r;exact wpAny_truthy_dict hS m (by omega) ⟨H,I.tok _,by rw[uU r];exact q⟩
 |_=>exact (show False from e).elim
theorem An (ha:PE X a ta)(he:∀whole,isTrue a X.env whole=(do let v <- whole;standAt a.pos;holding [v] (truthy v))) :
  PT X a (fun σ H Q=>ta σ H fun x H'=>∃k,Hk X.K x H' k/\Q k H'):=by
 intro pins s σ H Q I h;exact isTrue_plain (cO (ha pins s σ H _ I h) fun v s1 ⟨x,H1,I1,r1,q1⟩=>HQ pins s1 σ H1 x v Q I1 r1 q1) (he _)
theorem nH:kz X (binaryOp .Add) (fun x y H Q=>∃i j,x=.str i/\y=.str j/\i.length+j.length<=sizeLine/\Q (.str (i++j)) H):=by
 intro pins s σ H x y v u Q I rx ry h;obtain⟨i,j,rfl,rfl,hz,q⟩:=h;obtain⟨t,rfl⟩:=rx;obtain⟨t',rfl⟩:=ry;exact add_str (fun t' tk=>⟨.str (i++j),H,I.tok _,⟨_,rfl⟩,q⟩) hz
theorem vals1 (r:aS [x] us):∃u,us=[u]/\RelV x u:=by
 cases r with
 |cons r1 r2=>cases r2;exact⟨_,rfl,r1⟩
theorem vals2 {y:V}(r:aS [x,y] us):∃u w',us=[u,w']/\RelV x u/\RelV y w':=by
 cases r with
 |cons r1 r2 =>
  cases r2 with
  |cons r3 r4=>cases r4;exact⟨_,_,rfl,r1,r3⟩
theorem xu (hc:X.calm=true):eJ X (.builtin "min") (fun xs H Q=>∃i j,xs=[.int i,.int j]/\Q (.int (if j<i then j else i)) H):=by
 intro pins s σ H xs us Q I r h;obtain⟨i,j,rfl,q⟩:=h;obtain⟨u,w',rfl,⟨t,rfl⟩,⟨t',rfl⟩⟩:=vals2 r;refine min_two_ints (I.ok.hd hc) fun h' tk k=>⟨_,H,I.kept k,?_,q⟩
 by_cases hj:j<i
 .rw[if_pos hj,if_pos hj];exact⟨_,rfl⟩
 .rw[if_neg hj,if_neg hj];exact⟨_,rfl⟩
end
end L2
namespace L2
open PySem PySem.Spec PyProof.Rows
structure ur (h:Heap)(x dx C:Addr)(mA:Str->Option Value):Prop where
 obj:h.get? x=some (PySem.W.instObj C dx)
 ns:h.Ns1 dx mA
 ne:dx≠x
variable {dx:Addr}{h:Heap}{mA:Str->Option Value}
theorem xn (n:h.Ns1 dx mA):∃od,h.get? dx=some od/\∀name,PySem.W.lookIn name od=some (mA name):=by
 obtain⟨o,es,ep,ho,hd,hk,_,hm⟩:=n;refine⟨o,ho,fun name=>?_⟩;have e:=hm name;unfold nsFind findBy at e;rw[<-Array.find?_toList] at e;unfold PySem.W.lookIn;rw[hd];dsimp only;split
 .rename_i y q;rw[q] at e;exact gv some e
 .rename_i q;rw[q] at e;have a:es.toList.any (·.refKey)=false:=by
   rw[List.any_eq_false];intro y hy;obtain⟨z,t,T9⟩:=hk y (Array.mem_toList_iff.mp hy);simp[DictEntry.refKey,T9]
  have a':¬ es.toList.any (·.refKey)=true:=by rw[a];exact bj
  rw[if_neg a'];exact gv some e
variable {C:Addr}
theorem ur.look {x:Addr}(I:ur h x dx C mA):∃od,PySem.W.InstAt h x (PySem.W.instObj C dx) C (some od)/\∀name,PySem.W.lookIn name od=some (mA name) :=
 let ⟨od,ho,hl⟩:=xn I.ns
 ⟨od,⟨I.obj,rfl,rfl,ho⟩,hl⟩
variable {pl:Sem Bool}
section
variable {prog:Program}{w:World}{A:Around}{E:Value->Shared->Prop}{s:Shared}{K:PySem.W.Frag}{x dx C f:Addr}{mA:Str->Option Value}{name:Str}{v:Value}
theorem get_map {expr:Bool}{Q:Value->Shared->Prop}(X:K.In s.heap)(I:ur s.heap x dx C mA)(hg:PySem.W.plainGet K C name=true)(hh:PySem.W.hasDictIn K C=true)
  (ha:PySem.W.findIn K (.ref C) name=some none) (hv:mA name=some v) (TH:PySem.W.handedIn v=true) (h:Q v { s with toks:=s.toks+1 }) :
  wpAny (model prog w) A (getAttr (.ref x) name expr) Q E s:=by
 obtain⟨od,J,hl⟩:=I.look;exact PySem.W.get_value X J (PySem.W.plainGet_of hg).1 (PySem.W.findObj_own hh ha rfl (by rw[hl,hv])) TH h
theorem AY {Q:Value×List Value->Shared->Prop}(X:K.In s.heap)(I:ur s.heap x dx C mA)(hg:PySem.W.plainGet K C name=true)
  (hf:PySem.W.findIn K (.ref C) name=some (some (.ref f))) (ht:PySem.W.isFn K (.ref f)=true) (hv:mA name=none) (h:Q (.ref f,[.ref x]) s) :
  wpAny (model prog w) A (getMethod (.ref x) name pl) Q E s:=by
 obtain⟨od,J,hl⟩:=I.look;exact PySem.W.method_fn X J (PySem.W.plainGet_of hg).1 (PySem.W.plainGet_of hg).2 hf (ik.mp ht) (by show (PySem.W.lookIn name od).map (·.isSome)=some false;rw[hl,hv];rfl) h
theorem BK {ns:List Str}{Q:Unit->Shared->Prop}(X:K.In s.heap)(I:ur s.heap x dx C mA)
  (hs:PySem.W.findIn K (.ref C) "__setattr__" = some (some (.builtin "object.__setattr__"))) (hp:PySem.W.plainOver K C=true) (ht:PySem.W.takerIn K C name=some none) (hh:PySem.W.hasDictIn K C=true)
  (hw:PySem.Within mA ns) (hsz:ns.length<=sizeLine)
  (h:∀h',ur h' x dx C (fun y=>if y=name then some v else mA y)->Heap.SameBut dx s.heap h'->Q () { s with heap:=h',toks:=s.toks+2 }) :
  wpAny (model prog w) A (setAttr (.ref x) name v) Q E s:=by
 obtain⟨od,J,hl⟩:=I.look;refine PySem.W.set_plain X J hs (PySem.W.osa_open (s:={ s with toks:=s.toks+1 }) (r:=none) X J hp ht fun b=>?_);obtain⟨cd,hc,NP⟩:=PySem.W.any_some hh;have hx:s.heap.get? x=some ⟨.ref C,some dx,.plain,#[]⟩:=I.obj;refine wpAny_bind (wpAny_pure (wpAny_bind (wpAny_bind (wpAny_loadPart hx (wpAny_bind (PySem.W.Looks.here (s:={ s with toks:=s.toks+1 }) (PySem.W.looks_clsIn X hc) ?_))))));rw[NP];refine wpAny_pure (a:=some dx) (wpAny_bind (wpAny_pure (wpAny_bind ?_)));refine wpAny_nsSet1 (s:={ s with toks:=s.toks+1 }) I.ns fun h' Qq Ov=>?_
 obtain⟨oD,esD,epD,hoD,hdD,hcD⟩:=Qq.count (PySem.Within.cons name v hw);refine wpAny_bind (wpAny_lookBehind hoD (by rw[hdD];exact pastItsLine_dict (bq hcD (by rw[ah];omega))) ?_);exact wpAny_pure (h _ ⟨(Ov.2 _ (eh I.ne)).trans I.obj,Qq,I.ne⟩ Ov)
theorem Bh {R:Result->Shared->Prop}{vs:List Value}{kw:List (Str×Value)}(X:K.In s.heap)(hm:PySem.W.makesIn K C=true)
  (hi:PySem.W.findIn K (.ref C) "__init__" = some (some (.ref f))) (hf:PySem.W.typeIn K (.ref f)=some (.type "function"))
  (h:codeAny (model prog w) (A.under (.builtin "type.__call__" ⟨.ref C::vs,kw⟩)) (.call (.ref f) ⟨.ref (s.heap.objs.size+1)::vs,kw⟩) (PySem.W.InitBack (s.heap.objs.size+1) R)
   { s with heap:=(s.heap.push PySem.W.emptyDict).push (PySem.W.instObj C s.heap.objs.size) }) :
  codeAny (model prog w) A (.call (.ref C) ⟨vs,kw⟩) R s:=by
 obtain⟨hh,g,d,t,os⟩:=s;exact PySem.W.make_core (PySem.W.makes_of X hm) (PySem.W.looks_findIn X hi) (fun self=>PySem.W.bind_fn X self hf) (.inl rfl) h
end
noncomputable def jZ (f:Str)(v:V):List (Str×V)->List (Str×V)
 |[]=>[(f,v)]
 | (g,x)::r=>if g=f then (g,v)::r else (g,x)::jZ f v r
theorem mn (f g:Str)(v:V):∀fs:List (Str×V),(jZ f v fs).lookup g=if g=f then some v else fs.lookup g
 | []=>by
  show List.lookup g [(f,v)]=_;by_cases h:g=f
  .have hb:(g==f)=true:=ik.mpr h;simp only[List.lookup,hb,if_pos h]
  .have hb:(g==f)=false:=gd.mpr h;simp only[List.lookup,hb,if_neg h]
 | (k,x)::r=>by
  have ih:=mn f g v r;rw[show jZ f v ((k,x)::r)=(if k=f then (k,v)::r else (k,x)::jZ f v r) from rfl];by_cases hk:k=f
  .rw[if_pos hk];by_cases h:g=k
   .have hb:(g==k)=true:=ik.mpr h;simp only[List.lookup,hb,if_pos (h.trans hk)]
   .have hb:(g==k)=false:=gd.mpr h;simp only[List.lookup,hb,if_neg (fun e:g=f=>h (e.trans hk.symm))]
  .rw[if_neg hk];by_cases h:g=k
   .have hb:(g==k)=true:=ik.mpr h;simp only[List.lookup,hb,if_neg (fun e:g=f=>hk (h.symm.trans e))]
   .have hb:(g==k)=false:=gd.mpr h;simp only[List.lookup,hb];exact ih
theorem me (f:Str)(v:V):∀fs:List (Str×V),f∈(jZ f v fs).map (·.1)/\∀g,g∈fs.map (·.1)->g∈(jZ f v fs).map (·.1)
 |[]=>⟨by simp[jZ],fun g h=>by simp at h⟩
 | (k,x)::r=>by
  obtain⟨i1,i2⟩:=me f v r;rw[show jZ f v ((k,x)::r)=(if k=f then (k,v)::r else (k,x)::jZ f v r) from rfl];by_cases hk:k=f
  .rw[if_pos hk];subst hk;exact⟨by simp,fun g h=>by simpa using h⟩
  .rw[if_neg hk];refine⟨?_,fun g h=>?_⟩
   .rw[aw];exact ai _ i1
   .rw[aw] at h ⊢;rcases je.mp h with e | e
    .exact je.mpr (.inl e)
    .exact ai _ (i2 g e)
theorem mo (f:Str)(v:V):∀fs:List (Str×V),(jZ f v fs).length<=fs.length+1
 |[]=>by simp[jZ]
 | (k,x)::r=>by
  have ih:=mo f v r;rw[show jZ f v ((k,x)::r)=(if k=f then (k,v)::r else (k,x)::jZ f v r) from rfl];by_cases hk:k=f
  .rw[if_pos hk,ah,ah];omega
  .rw[if_neg hk,ah,ah];omega
theorem kW.some_of {v:V}{o:Option Value}(r:kW (some v) o):∃u,o=some u/\RelV v u:=by
 cases o with
 |none=>exact (show False from r).elim
 |some u=>exact⟨u,rfl,r⟩
theorem kW.none_of {o:Option Value}(r:kW none o):o=none:=by
 cases o with
 |none=>rfl
 |some u=>exact (show False from r).elim
variable {u:Value}
theorem xv {v:V}(r:RelV v u):PySem.W.handedIn u=true:=by
 cases v with
 |LC=>cases (show u=Value.none from r);rfl
 |bl b=>cases (show u=Value.bool b from r);rfl
 |int i=>obtain⟨t,e⟩:=(show ∃t,u=Value.int i t from r);cases e;rfl
 |str x=>obtain⟨t,e⟩:=(show ∃t,u=Value.str x t from r);cases e;rfl
 |Pz b=>obtain⟨t,e⟩:=(show ∃t,u=Value.bytes b t from r);cases e;rfl
 |Py b=>obtain⟨t,e⟩:=(show ∃t,u=Value.float b t from r);cases e;rfl
 |ref a=>cases (show u=Value.ref a from r);rfl
 |ty n=>cases (show u=Value.type n from r);rfl
section
variable {P:Program}{w:World}{H H':Hp}{h h':Heap}{a C dx:Addr}{fs fs':List (Str×V)}
theorem qQ (LB:jH P w H h)(e:H a=some (.ins C dx fs)):∃mA,ur h a dx C mA/\(∀f,kW (fs.lookup f) (mA f))/\PySem.Within mA (fs.map (·.1))/\fs.length<=1000/\H dx=some (.own a):=by
 obtain⟨d,z,ne,ob,mA,n,r,q⟩:=(show cW P w H h a (.ins C dx fs) from LB a _ e);exact⟨mA,⟨ob,n,ne⟩,r,q,z,d⟩
end
structure Ab (K:PySem.W.Frag)(C:Addr):Prop where
 pg:PySem.W.plainGet K C Str.empty=true
 hd:PySem.W.hasDictIn K C=true
 po:PySem.W.plainOver K C=true
 sa:PySem.W.findIn K (.ref C) "__setattr__" = some (some (.builtin "object.__setattr__"))
theorem Ab.get {K:PySem.W.Frag}(c:Ab K C)(f:Str):PySem.W.plainGet K C f=true:=c.pg
def hZ (K:PySem.W.Frag)(C:Addr)(f:Str):Prop:=PySem.W.findIn K (.ref C) f=some none
theorem hZ.PL {K:PySem.W.Frag}{f:Str}(n:hZ K C f):PySem.W.takerIn K C f=some none:=by
 unfold PySem.W.takerIn;rw[show PySem.W.findIn K (.ref C) f=some none from n];rfl
structure Con (K:PySem.W.Frag)(C:Addr)(f:Str)(v:V)(u:Value):Prop where
 at_:PySem.W.findIn K (.ref C) f=some (some u)
 rel:RelV v u
 get:PySem.W.specialIn K u "__get__" = some none
 cp:PySem.W.copiedNames.contains f=false
structure F6 (K:PySem.W.Frag)(C:Addr)(m:Str)(f:Addr):Prop where
 at_:PySem.W.findIn K (.ref C) m=some (some (.ref f))
 fn:PySem.W.isFn K (.ref f)=true
 kp:PySem.W.keepIn K (.ref f)=true
section
variable {X:Cx}{pins:List (Addr×Obj)}{σ:St}{H:Hp}{s:Shared}{a C dx:Addr}{fs:List (Str×V)}{f:Str}{v:V}{A:Around}{E:Value->Shared->Prop}
theorem ui {b:Bool}{Q:Value->Shared->Prop}(I:Inv X pins σ H s)(e:H a=some (.ins C dx fs))(c:Ab X.K C)(n:hZ X.K C f)(l:fs.lookup f=some v)
  (h:∀u s',Inv X pins σ H s'->RelV v u->Q u s'):wpAny (model X.prog X.w) A (getAttr (.ref a) f b) Q E s:=by
 obtain⟨mA,O,r,_,_,_⟩:=qQ I.LB e;obtain⟨u,hu,ru⟩:=kW.some_of (v:=v) (o:=mA f) (by rw[<-l];exact r f);exact get_map I.Mp O (c.get f) c.hd n hu (xv ru) (h u _ (I.tok _) ru)
theorem uH {m:Str}{g:Addr}{Q:Value×List Value->Shared->Prop}(I:Inv X pins σ H s)(e:H a=some (.ins C dx fs))(c:Ab X.K C)(k:F6 X.K C m g)(l:fs.lookup m=none)
  (h:Q (.ref g,[.ref a]) s):wpAny (model X.prog X.w) A (getMethod (.ref a) m pl) Q E s:=by
 obtain⟨mA,O,r,_,_,_⟩:=qQ I.LB e;have hn:mA m=none:=kW.none_of (by rw[<-l];exact r m);exact AY I.Mp O (c.get m) k.at_ k.fn hn h
theorem uf {y:V}{Q:Unit->Shared->Prop}(I:Inv X pins σ H s)(e:H a=some (.ins C dx fs))(c:Ab X.K C)(n:hZ X.K C f)(hl:fs.length<1000)(ry:RelV y u)
  (h:∀s',Inv X pins σ (upd H a (.ins C dx (jZ f y fs))) s'->Q () s'):wpAny (model X.prog X.w) A (setAttr (.ref a) f u) Q E s:=by
 obtain⟨mA,O,r,wi,_,ho⟩:=qQ I.LB e;have hz:(fs.map (·.1)).length<=sizeLine:=by rw[ak,sizeLine_eq];omega
 refine BK I.Mp O c.sa c.po n.PL c.hd wi hz fun h' O' sb=>h _ ?_
 have hd:∃o,h'.get? dx=some o:=let ⟨o,_,_,e',_⟩:=O'.ns;⟨o,e'⟩;refine I.write (x:=a) (e:=dx) (by rw[e];exact True.intro) (.inr ho) (fun b q hb z=>(sb.2 b hb).trans z) hd ?_;refine⟨by rw[aO O.ne];exact ho,?_,O.ne,O'.obj,_,O'.ns,fun g=>?_,fun g hg=>?_⟩
 .have:=mo f y fs;omega
 .show kW ((jZ f y fs).lookup g) (if g=f then some u else mA g);rw[mn];by_cases q:g=f
  .rw[if_pos q,if_pos q];exact ry
  .rw[if_neg q,if_neg q];exact r g
 .by_cases q:g=f
  .rw[q];exact (me f y fs).1
  .refine (me f y fs).2 g (wi g fun z=>hg ?_);show (if g=f then some u else mA g)=none;rw[if_neg q];exact z
theorem Inv.made (I:Inv X pins σ H s):Inv X pins σ (upd (upd H s.heap.objs.size (.own (s.heap.objs.size+1))) (s.heap.objs.size+1) (.ins C s.heap.objs.size []))
  { s with heap:=(s.heap.push PySem.W.emptyDict).push (PySem.W.instObj C s.heap.objs.size) }:=by
 have e1:(s.heap.push PySem.W.emptyDict).get? s.heap.objs.size=some PySem.W.emptyDict:=Heap.get?_push_size s.heap rfl;have e2:((s.heap.push PySem.W.emptyDict).push (PySem.W.instObj C s.heap.objs.size)).get? (s.heap.objs.size+1)=some (PySem.W.instObj C s.heap.objs.size):=by
  have:=Heap.get?_push_size (s.heap.push PySem.W.emptyDict) (o:=PySem.W.instObj C s.heap.objs.size) rfl
  rwa [Heap.size_push] at this
 have e3:(s.heap.push PySem.W.emptyDict).Ns s.heap.objs.size (fun _=>none):=⟨PySem.W.emptyDict,#[],_,e1,rfl,(fun e he=>absurd he (by simp)),fun _=>rfl⟩;have I1:=I.laid (a:=s.heap.objs.size) (o:=.own (s.heap.objs.size+1)) (h':=s.heap.push PySem.W.emptyDict) (t':=s.toks) (fun b u q=>Heap.get?_push_of_some _ q) (au _) ⟨_,e1⟩;refine I1.laid (a:=s.heap.objs.size+1) (o:=.ins C s.heap.objs.size []) (t':=s.toks) (fun b u q=>Heap.get?_push_of_some _ q) (Nat.le_of_eq (Heap.size_push _ _)) ?_;have ne:s.heap.objs.size≠s.heap.objs.size+1:=bw (gn _);refine⟨by rw[aO ne,aM],dh _,ne,e2,fun _=>none,(Heap.Ns1.of_empty e3).at fun o q=>Heap.get?_push_of_some _ q,fun _=>True.intro,fun y hy=>absurd rfl hy⟩
theorem Dz {prog:Program}{w:World}{env:Env}{e:Expr}{f:Str}{pos:Pos}{s:Shared}{Q:Value->Shared->Prop}(hb:attributeBase e f env (eval e env)=eval e env)
  (h:wpAny (model prog w) A (eval e env) (fun o s₁=>wpAny (model prog w) A (getAttr o f true) Q E s₁) E s):wpAny (model prog w) A (eval (.Attribute e f pos) env) Q E s :=
 Attribute_any_ h (by rw[arm_eval_Attribute,hb])
end
def Sr (K:PySem.W.Frag)(ta:TE)(f:Str):TE:=fun σ H Q=>ta σ H fun x H1=>∃a C dx fs v,x=.ref a/\H1 a=some (.ins C dx fs)/\Ab K C/\hZ K C f/\fs.lookup f=some v/\Q v H1
def SJ (K:PySem.W.Frag)(ta tv:TE)(f:Str):TS:=fun D σ H=>tv σ H fun y H1=>ta σ H1 fun x H2=>∃a C dx fs,x=.ref a/\H2 a=some (.ins C dx fs)/\Ab K C/\hZ K C f/\fs.length<1000 /\
 D.nx σ (upd H2 a (.ins C dx (jZ f y fs)))
section
variable {X:Cx}{o e value:Expr}{f:Str}{pos pos' Sg:Pos}{ta tv:TE}
theorem nE (he:PE X e ta)(hb:attributeBase e f X.env (eval e X.env)=eval e X.env):PE X (.Attribute e f pos) (Sr X.K ta f):=by
 intro pins s σ H Q I h;refine Dz hb (cO (he pins s σ H _ I h) fun u s1 ⟨x,H1,I1,rx,a,C,dx,fs,v,ex,ea,c,n,l,q⟩=>?_);subst ex;obtain rfl:u=Value.ref a:=rx;exact ui I1 ea c n l fun u' s2 I2 ru=>⟨v,H1,I2,ru,q⟩
theorem uX (ha:PE X o ta)(hv:PE X value tv)(hs:swapsWith value (some (.Attribute o f pos')) pos.line X.env=pure false):PS X (.Assign [.Attribute o f pos'] value pos) (SJ X.K ta tv f):=by
 intro pins s σ H D I h;refine plainObj_wpAny_Assign_Attribute (cO (hv pins s σ H _ I h) fun u s1 ⟨y,H1,I1,ry,q⟩=>cO (ha pins s1 σ H1 _ I1 q) fun ov s2 ⟨x,H2,I2,rx,a,C,dx,fs,ex,ea,c,n,l,q2⟩=>?_) hs;subst ex;obtain rfl:ov=Value.ref a:=rx;exact uf I2 ea c n l ry fun s3 I3=>⟨σ,_,I3,q2⟩
end
section
variable {X:Cx}{pins:List (Addr×Obj)}{σ:St}{H:Hp}{s:Shared}{A:Around}{E:Value->Shared->Prop}{Q:Value->Shared->Prop}{c:Value}{b:Bool}
inductive oE (K:PySem.W.Frag) (H:Hp):V->Value->Prop where
 | LC:oE K H .LC (.type "NoneType")
 | bl (x:Bool):oE K H (.bl x) (.type "bool")
 | int (i:Int):oE K H (.int i) (.type "int")
 | str (x:Str):oE K H (.str x) (.type "str")
 | Py (x:UInt64):oE K H (.Py x) (.type "float")
 | lst {a:Addr}{xs:List V}(e:H a=some (.lst xs)):oE K H (.ref a) (.type "list")
 | MA {a:Addr}{o:Obj}{xs:List V}(e:H a=some (.MA o (.lst xs))):oE K H (.ref a) (.type "list")
 | tup {a:Addr}{xs:List V}(e:H a=some (.tup xs)):oE K H (.ref a) (.type "tuple")
 | dK {a:Addr}{kvs:List (Key×V)}(e:H a=some (.dK kvs)):oE K H (.ref a) (.type "dict")
 | dT {a:Addr}{kvs:List (List Key×V)}(e:H a=some (.dT kvs)):oE K H (.ref a) (.type "dict")
 | ins {a C dx:Addr}{fs:List (Str×V)}(e:H a=some (.ins C dx fs)) (cl:Ab K C) (ha:PySem.W.findIn K (.ref C) "__class__" = some (some (.builtin "object.__class__")))
   (hn:PySem.W.specialIn K (.builtin "object.__class__") "__get__" = some (some (.builtin "getset_descriptor.__get__"))) (htk:PySem.W.takesIn K (.builtin "object.__class__")=some true)
   (hm:PySem.W.mroIn K C (.type "object")=some true):oE K H (.ref a) (.ref C)
end
end L2
namespace L2
open PySem PySem.Spec PyProof.Rows
structure gM (k:Nat)(A:Around):Prop where
 hd:A.handled=none
 dp:A.depth+3*k+5<recursionLimit
 un:A.units+16*k+200<cLine
variable {A:Around}{k:Nat}
theorem gM.deeper (r:gM (k+1) A)(env:Env):gM k (A.deeper env) :=
 ⟨r.hd,by have:=r.dp;show A.depth+1+3*k+5<_;omega,by have:=r.un;show A.units+3+16*k+200<_;omega⟩
variable {C:Addr}{kw:List (Str×Value)}{us:List Value}
theorem uZ:(A.under (.builtin "type.__call__" ⟨.ref C::us,kw⟩)).depth=A.depth+1:=by
 first | rfl | simp[Around.under,Code.weight,Code.isCreation,Code.isGuard,Code.isCaller,Code.frames,Code.isFrame,guardIds]
theorem um:(A.under (.builtin "type.__call__" ⟨.ref C::us,kw⟩)).units=A.units+1:=by
 first | rfl | simp[Around.under,Code.cUnits,Code.frames,Code.isFrame]
theorem gM.depth (r:gM k A):A.depth<recursionLimit:=by have:=r.dp;omega
theorem gM.units (r:gM k A):A.units+64<cLine:=by have:=r.un;omega
def mL:TA:=fun _ H Q=>Q [] H
def cC (ta:TE)(tr:TA):TA:=fun σ H Q=>ta σ H fun x H1=>tr σ H1 fun xs H2=>Q (x::xs) H2
section
variable {X:Cx}{e:Expr}{es:List Expr}{te:TE}{t:TA}{pos:Pos}
theorem bB:PA X [] mL:=fun _ _ _ _ H Q I h=>Calls.spliced_nil ⟨[],H,I,.nil,h⟩
theorem aL (ha:PE X e te)(hr:PA X es t)(hs:starEach (e::es) X.env=(false,eval e X.env)::starEach es X.env:=by rfl):PA X (e::es) (cC te t):=by
 intro pos pins s σ H Q I h;rw[hs];show wpAny _ _ (spliced ((false,eval e X.env)::backTo pos (starEach es X.env))) _ _ s;refine Calls.spliced_cons (cO (ha pins s σ H _ I h) fun u s1 ⟨x,H1,I1,r1,q1⟩=>?_);exact cO (hr pos pins s1 σ H1 _ I1 q1) fun us s2 ⟨xs,H2,I2,r2,q2⟩=>⟨x::xs,H2,I2,.cons r1 r2,q2⟩
def GX (t:TA):TE:=fun σ H Q=>t σ H fun xs H1=>xs.length<=sizeLine/\∀p,H1 p=none->Q (.ref p) (upd H1 p (.tup xs))
def Sl (t:TA):TE:=fun σ H Q=>t σ H fun xs H1=>xs.length<=sizeLine/\∀p,H1 p=none->Q (.ref p) (upd H1 p (.lst xs))
theorem oF {x1}(h:PA X es t):PE X (.Tuple es x1 pos) (GX t):=by
 intro pins s σ H Q I hq;refine wpAny_Tuple_spliced (cO (h pos pins s σ H _ I hq) fun us s1 ⟨xs,H1,I1,r,z,q⟩=>⟨by rw[<-r.length];exact z,?_⟩);have hf:H1 s1.heap.objs.size=none:=I1.LB.fresh (au _);refine⟨.ref s1.heap.objs.size,upd H1 s1.heap.objs.size (.tup xs),I1.laid (t':=s1.toks) (fun b u e=>Heap.get?_push_of_some _ e) (au _) ?_,rfl,q _ hf⟩;exact⟨z,us,r,⟨_,Heap.get?_push_size _ rfl,rfl,_,rfl⟩⟩
theorem vh (h:PA X es t):PE X (.List es pos) (Sl t):=by
 intro pins s σ H Q I hq;refine wpAny_List_spliced (cO (h pos pins s σ H _ I hq) fun us s1 ⟨xs,H1,I1,r,z,q⟩=>⟨by rw[<-r.length];exact z,?_⟩);have hf:H1 s1.heap.objs.size=none:=I1.LB.fresh (au _);refine⟨.ref s1.heap.objs.size,upd H1 s1.heap.objs.size (.lst xs),I1.laid (t':=s1.toks) (fun b u e=>Heap.get?_push_of_some _ e) (au _) ?_,rfl,q _ hf⟩;exact⟨z,us,0,r,Heap.get?_push_size _ rfl⟩
end
noncomputable abbrev Sp:=List V->Hp->VK->XK->Prop
noncomputable abbrev rR:=List Env->Hp->Shared->XK->Value->Shared->Prop
structure sj (P:Program)(w:World)(K:PySem.W.Frag)(mg:Str->Option Value)(base:Heap)(A:Around)(outer:List Env)(s:Shared)(H:Hp):Prop where
 frames:A.frames=some outer
 mod:Mod K mg base
 bs:∀b o,base.get? b=some o->s.heap.get? b=some o/\H b=none
 NV:base.objs.size<=s.heap.objs.size
 L9:s.heap.FunFrames base outer
 Od:∀b∈iI outer,H b=none
 LB:jH P w H s.heap
 bare:AllBare s.gens
noncomputable def CE (outer:List Env)(P:Program)(w:World)(H:Hp)(s:Shared)(Q:VK)(u:Value)(s':Shared):Prop :=
 ∃v H',s'.os=s.os/\AllBare s'.gens/\Un (iI outer) [] H H' s.heap s'.heap/\jH P w H' s'.heap/\RelV v u/\Q v H'
noncomputable def CR (CX:rR)(outer:List Env)(P:Program)(w:World)(H:Hp)(s:Shared)(Q:VK)(E:XK)(r:Result)(s':Shared):Prop :=
 match r with
 | .ok (.ret u)=>CE outer P w H s Q u s'
 |.ok _=>False
 |.error e=>CX outer H s E e s'
structure lr (P:Program)(w:World)(K:PySem.W.Frag)(mg:Str->Option Value)(base:Heap)(CX:rR)(k:Nat)(f:Addr)(fd:FuncData)(ps:List Str)(sp:Sp):Prop where
 len:∀vs H Q E,sp vs H Q E->vs.length=ps.length
 run:∀(A:Around) (outer:List Env) (s:Shared) (H:Hp) (args:Args) (us:List Value) (vs:List V) (Q:VK) (E:XK),gM k A->sj P w K mg base A outer s H->BindsTo s fd args (ps.zip us)->aS vs us->sp vs H Q E ->
  codeAny (model P w) A (.call (.ref f) args) (CR CX outer P w H s Q E) s
variable {H:Hp}{P:Program}{base:Heap}{mg:Str->Option Value}{outer:List Env}{s:Shared}{w:World}
theorem sj.make {K:PySem.W.Frag}(e:sj P w K mg base A outer s H)(C:Addr)(us:List Value)(kw:List (Str×Value)) :
  sj P w K mg base (A.under (.builtin "type.__call__" ⟨.ref C::us,kw⟩)) outer s H:=⟨by first | exact e.frames | (simpa[Around.under,Code.envs,Code.isFrame,pushEnvs] using e.frames),e.mod,e.bs,e.NV,e.L9,e.Od,e.LB,e.bare⟩
variable {Q:VK}
section
variable {X:Cx}{pins:List (Addr×Obj)}{σ:St}{H:Hp}{s s':Shared}
theorem Inv.env0 (I:Inv X pins σ H s):sj X.prog X.w X.K X.mg X.base X.A X.stack s H :=
 ⟨I.ok.frames,I.ok.mod,I.bs,bq I.ok.NV I.sz,I.stack,I.Mg,I.LB,I.bare⟩
theorem Inv.after {u:Value}(I:Inv X pins σ H s)(h:CE X.stack X.prog X.w H s Q u s'):EP X pins σ Q u s':=by
 obtain⟨v,H',os,bare,un,LB,r,q⟩:=h;obtain⟨hh,g,d,t,os'⟩:=s';obtain rfl:os'=s.os:=os;exact⟨v,H',I.call (h':=hh) (g':=g) (d':=d) (t':=t) (ch:=[]) un LB bare (fun b z=>absurd z (by simp)),r,q⟩
end
def AF (sp:Sp)(MC:List V)(E:XK)(t:TA):TE:=fun σ H Q=>t σ H fun vs H1=>sp (vs++MC) H1 Q E
noncomputable def Binds (K:PySem.W.Frag)(fd:FuncData)(ps:List Str)(ds:List Value):Prop :=
 ∀(s:Shared) (us:List Value),K.In s.heap->(us++ds).length=ps.length->BindsTo s fd ⟨us,[]⟩ (ps.zip (us++ds))
variable {ps:List Str}
theorem Binds.all {K:PySem.W.Frag}{fd:FuncData}(h:∀us:List Value,us.length=ps.length->bindArgs fd ⟨us,[]⟩=pure (ps.zip us)):Binds K fd ps []:=fun s us _ hl=>by
 rw[ay] at hl ⊢;exact .of_eq (h us hl)
def hU (CX:rR)(X:Cx)(E:XK):Prop:=∀(pins:List (Addr×Obj)) (σ:St) (H:Hp) (s:Shared) (e:Value) (s':Shared),Inv X pins σ H s->CX X.stack H s E e s'->X.xe e s'
variable {vs:List V}
section
variable {X:Cx}{CX:rR}{k:Nat}{f C:Addr}{fd:FuncData}{ps:List Str}{sp:Sp}{MC:List V}{ds:List Value}{E:XK}{x m:Str}{p pos apos:Pos}{e o:Expr}{es:List Expr}{ta:TE}{t:TA}
theorem Am {pins:List (Addr×Obj)}{σ:St}{us:List Value}(F:lr X.prog X.w X.K X.mg X.base CX k f fd ps sp)(hr:gM k X.A)(hb:Binds X.K fd ps ds)(hd:aS MC ds)(hx:hU CX X E)
  (I:Inv X pins σ H s) (r:aS vs us) (h:sp (vs++MC) H Q E):wpAny (model X.prog X.w) X.A (call (.ref f) us) (EP X pins σ Q) X.xe s:=by
 have r2:aS (vs++MC) (us++ds):=r.append hd;have hl:(us++ds).length=ps.length:=by rw[<-r2.length];exact F.len _ _ _ _ h
 refine wpAny_call (codeAny_mono (F.run X.A X.stack s H ⟨us,[]⟩ (us++ds) (vs++MC) Q E hr I.env0 (hb s us I.Mp hl) r2 h) fun r s' hq=>?_);cases r with
 |error e=>exact hx pins σ H s e s' I hq
 |ok fl =>
  cases fl with
  |ret u=>exact I.after hq
  |next=>exact False.elim hq
  |brk=>exact False.elim hq
  |cont=>exact False.elim hq
theorem C7 (F:lr X.prog X.w X.K X.mg X.base CX k f fd ps sp)(hr:gM k X.A)(hg:Gl X x)(hm:X.mg x=some (.ref f))(hk:PySem.W.keepIn X.K (.ref f)=true)(hb:Binds X.K fd ps ds)(hd:aS MC ds)(hx:hU CX X E)
  (ha:PA X (e::es) t) (Nn:(x==("__debug__" : Str))=false:=by decide) (he:starEach (e::es) X.env=(false,eval e X.env)::starEach es X.env:=by rfl) (Md:(backTo pos (starEach es X.env)).any (·.1)=false:=by rfl) :
  PE X (.Call (.Name x p) (e::es) [] pos) (AF sp MC E t):=by
 intro pins s σ H Q I h;refine wpAny_Call_Name_kw (gT I hg hm ?_ Nn);refine il (h₀:=X.base) I.ok.mod.LS hk (cO (ha pos pins s σ H _ I h) fun us s1 ⟨vs,H1,I1,r,q⟩=>⟨I1.Mp,?_⟩) he Md;exact Am F hr hb hd hx I1 r q
theorem za (F:lr X.prog X.w X.K X.mg X.base CX k f fd ps sp)(hr:gM k X.A)(hg:Gl X x)(hm:X.mg x=some (.ref f))(hk:PySem.W.keepIn X.K (.ref f)=true)(hb:Binds X.K fd ps ds)(hd:aS MC ds)(hx:hU CX X E)
  (Nn:(x==("__debug__" : Str))=false:=by decide):PE X (.Call (.Name x p) [] [] pos) (AF sp MC E mL):=by
 intro pins s σ H Q I h;refine wpAny_Call_Name_kw (gT I hg hm ?_ Nn);exact PySem.W.callWith_K0 I.Mp hk (Am (us:=[]) F hr hb hd hx I .nil h)
structure Mk (K:PySem.W.Frag)(C f:Addr):Prop where
 makes:PySem.W.makesIn K C=true
 init:PySem.W.findIn K (.ref C) "__init__" = some (some (.ref f))
 fn:PySem.W.isFn K (.ref f)=true
 kp:PySem.W.keepIn K (.ref C)=true
end
section
variable {X:Cx}{CX:rR}{k:Nat}{f C:Addr}{fd:FuncData}{ps ks:List Str}{sp:Sp}{E:XK}{x m:Str}{p pos apos kpos:Pos}{e o:Expr}{es:List Expr}{kws:List Keyword}{te ta:TE}{t tk:TA}{nm:Option Str}
structure Wh (K:PySem.W.Frag)(fd:FuncData)(ps ks:List Str)(g:List Value->List Value->List Value)(gV:List V->List V->List V):Prop where
 to:∀(s:Shared) (us ws:List Value),K.In s.heap->(g us ws).length=ps.length->BindsTo s fd ⟨us,ks.zip ws⟩ (ps.zip (g us ws))
 rel:∀{vs:List V}{us:List Value}{zs:List V}{ws:List Value},aS vs us->aS zs ws->aS (gV vs zs) (g us ws)
variable {g:List Value->List Value->List Value}{gV:List V->List V->List V}
end
structure cL (N P:List Str)(sc:Scope):Prop where
 kind:sc.kind=.function
 co:sc.isCoroutine=false
 gen:sc.isGenerator=false
 nd:N.Nodup
 pre:N.take P.length=P
 par:∀x∈P,sc.names.lookup x=some .local\/sc.names.lookup x=some .cell
 OM:∀y∈sc.names,y.2≠.free
variable {kindOf:Str->Option NameKind}{x:Str}
theorem qm:∀{binds:List (Str×Value)}{m:Str->Option Value},(∀v,(x,v)∉binds)->bindL kindOf binds m x=m x
 |[],_,_=>rfl
 | (n,v)::r,m,h=>by
  unfold bindL;rw[qm fun w hw=>h w (ai _ hw)];split
  .have:x≠n:=by rintro rfl;exact h v aj
   simp[this]
  .rfl
theorem qj:∀{binds:List (Str×Value)}{m:Str->Option Value},(∀v,(x,v)∉binds)->bindC kindOf binds m x=m x
 |[],_,_=>rfl
 | (n,v)::r,m,h=>by
  unfold bindC;rw[qj fun w hw=>h w (ai _ hw)];split
  .rfl
  .have:x≠n:=by rintro rfl;exact h v aj
   simp[this]
variable {v:Value}
theorem qw:∀{P:List Str}{vs:List Value}{i:Nat}{m:Str->Option Value},P.Nodup->P[i]? = some x->vs[i]? = some v->kindOf x=some .local ->
  bindL kindOf (P.zip vs) m x=some v
 |[],_,_,_,_,h,_,_=>by simp at h
 |_::_,[],_,_,_,_,h,_=>by simp at h
 | p::P,w::vs,0,m,nd,h1,h2,hk=>by
  simp at h1 h2;subst h1;subst h2;show bindL kindOf ((p,w)::P.zip vs) m p=_;unfold bindL;rw[qm fun v hv=>(List.nodup_cons.mp nd).1 (jq hv).1,if_pos hk];simp
 | p::P,w::vs,i+1,m,nd,h1,h2,hk=>by
  show bindL kindOf ((p,w)::P.zip vs) m x=_;unfold bindL;exact qw (i:=i) (List.nodup_cons.mp nd).2 (by simpa using h1) (by simpa using h2) hk
theorem pX:∀{P:List Str}{vs:List Value}{i:Nat}{m:Str->Option Value},P.Nodup->P[i]? = some x->vs[i]? = some v->kindOf x≠some .local ->
  bindC kindOf (P.zip vs) m x=some v
 |[],_,_,_,_,h,_,_=>by simp at h
 |_::_,[],_,_,_,_,h,_=>by simp at h
 | p::P,w::vs,0,m,nd,h1,h2,hk=>by
  simp at h1 h2;subst h1;subst h2;show bindC kindOf ((p,w)::P.zip vs) m p=_;unfold bindC;rw[qj fun v hv=>(List.nodup_cons.mp nd).1 (jq hv).1,if_neg hk];simp
 | p::P,w::vs,i+1,m,nd,h1,h2,hk=>by
  show bindC kindOf ((p,w)::P.zip vs) m x=_;unfold bindC;exact pX (i:=i) (List.nodup_cons.mp nd).2 (by simpa using h1) (by simpa using h2) hk
noncomputable def start (N:List Str)(vs:List V):St:=vs.map some++List.replicate (N.length-vs.length) none
noncomputable def fH (CX:rR)(P:Program)(w:World)(K:PySem.W.Frag)(mg:Str->Option Value)(base:Heap)(N:List Str)(qual:Str)(scope:Scope)(f:Addr)(cd:Value)(A:Around)(outer:List Env)(s:Shared)(H:Hp)(E:XK):Cx where
 prog:=P
 w:=w
 K:=K
 mg:=mg
 base:=base
 A:=A.deeper (envOfC qual scope s.heap.objs.size f cd)
 N:=N
 s₀:=s
 H₀:=H
 env:=envOfC qual scope s.heap.objs.size f cd
 outer:=outer
 stack:=envOfC qual scope s.heap.objs.size f cd::outer
 ex:=[]
 calm:=true
 fn:=fun _=>true
 pn:=[]
 xe:=fun e s'=>wpAny (model P w) (A.deeper (envOfC qual scope s.heap.objs.size f cd)) (leaving (envOfC qual scope s.heap.objs.size f cd) e) (fun _ SN=>CX outer H s E e SN) (fun e' SN=>CX outer H s E e' SN) s'
theorem r6 {sc:Scope}{n:Nat}(h:sc.names.lookup x=some .cell):∃c,(cellsFrom n sc.names []).lookup x=some c:=by
 have q:=ji sc.names n [] (.inl h);exact Option.isSome_iff_exists.mp q
variable {CX:rR}{N:List Str}{f:Addr}{qual:Str}{scope:Scope}
theorem qq {K:PySem.W.Frag}{cd:Value}{s1:Shared}{E:XK}
  (S:cL N ps scope) (hd:A.handled=none) (e0:sj P w K mg base A outer s H) (hl:vs.length=ps.length) (r:aS vs us)
  (x:InCallC s s.heap.objs.size (bindL (envOfC qual scope s.heap.objs.size f cd).kindOf (ps.zip us) fun _=>none) (cellsFrom (s.heap.objs.size+1) scope.names []) (bindC (envOfC qual scope s.heap.objs.size f cd).kindOf (ps.zip us) fun _=>none) s1) :
  Inv (fH CX P w K mg base N qual scope f cd A outer s H E) [] (start N vs) H s1:=by
 have Md:ps.length<=N.length:=by have:=gv List.length S.pre;rw[bh] at this;omega
 obtain⟨h1,tk,rfl,hk⟩:=x.done;have P6:∀b:Addr,b∉(fH CX P w K mg base N qual scope f cd A outer s H E).ex:=fun b z=>absurd (show b∈([]:List Addr) from z) (by simp)
 refine⟨⟨e0.mod,S.kind,rfl,rfl,au _,fun y z c h1 h2=>?_,fun y hy=>?_,fun y c _ h=>?_,fun _=>hd,Around.frames_deeper e0.frames,.inr ⟨rfl,rfl⟩,fun b z=>absurd z (P6 b),e0.bs,e0.NV,fun b _ _=>P6 b,fun b z=>absurd z (P6 b),e0.L9,e0.Od⟩,
  rfl,e0.bare,Un.kept hk,⟨_,x.toInCall.ns,fun i y v h1 h2 h3=>?_⟩,fun y c h=>⟨_,x.cell y c h⟩,e0.LB.fresh (Nat.le_refl _),fun y c h=>?_,fun p hp=>absurd (show p∈([]:List (Addr×Obj)) from hp) (by simp),e0.LB.kept hk,?_⟩
 .exact name_of_addr x.apart (cy h1) (cy h2)
 .have hy:scope.names.lookup y=some .cell\/scope.names.lookup y=some .free:=hy;rcases hy with hy | hy
  .exact r6 hy
  .exact absurd rfl (S.OM _ (cy hy))
 .exact jm (x.above y c (cy h))
 .have hi:i<vs.length:=by
   unfold start at h2;by_cases hi:i<vs.length
   .exact hi
   .rw[List.getElem?_append_right (by simpa using hi)] at h2;rw[List.getElem?_replicate] at h2;split at h2<;>cases h2
  have ha:vs[i]? = some v:=by
   unfold start at h2;rw[List.getElem?_append_left (by simpa using hi),List.getElem?_map] at h2;cases e:vs[i]? with
   |none=>rw[e] at h2;cases h2
   |some a=>rw[e] at h2;cases h2;rfl
  obtain⟨u,hu,rv⟩:=r.get ha;have hp:ps[i]? = some y:=by
   rw[<-S.pre,List.getElem?_take_of_lt (by omega)];exact h1
  have WR:ps.Nodup:=by rw[<-S.pre];exact S.nd.sublist (List.take_sublist _ _)
  refine⟨u,rv,?_⟩;rcases S.par y (List.mem_of_getElem? hp) with k | k
  .exact .inl ⟨k,qw WR hp hu k⟩
  .obtain⟨c,e⟩:=r6 (n:=s.heap.objs.size+1) k;refine .inr ⟨.inl k,c,e,?_⟩;have q:=x.cell y c e;rw[pX WR hp hu (by show scope.names.lookup y≠_;rw[k];decide)] at q;exact q
 .exact e0.LB.fresh (jm (x.above y c (cy h)))
 .unfold start;show _=N.length;rw[aa,ak,cm];omega
theorem IZ {K:PySem.W.Frag}{name:Str}{params:Arguments}{body:List Stmt}{dV kV doc pm LD ct oc:Value}{an od:Option Addr}
  {NY:Array (Option Value)}{sp:Sp}(lk:K.lookup f=some ⟨oc,od,.func (PySem.W.fnOf name qual params body scope dV kV doc pm an LD ct),NY⟩) (Mr:PySem.W.codeIn K LD qual=true) (S:cL N ps scope)
  (len:∀vs H Q E,sp vs H Q E->vs.length=ps.length)
  (MM:∀(A:Around) (outer:List Env) (s:Shared) (H:Hp) (vs:List V) (Q:VK) (E:XK),gM k (A.deeper (envOfC qual scope s.heap.objs.size f LD))->sp vs H Q E ->
   ∃t,lP (fH CX P w K mg base N qual scope f LD A outer s H E) body t/\t { nx:=fun _ H'=>Q .LC H',rt:=Q } (start N vs) H) :
  lr P w K mg base CX (k+1) f (PySem.W.fnOf name qual params body scope dV kV doc pm an LD ct) ps sp:=by
 refine⟨len,fun A outer s H args us vs Q E hr e0 hb r Mw=>?_⟩;have hl:=len _ _ _ _ Mw;have KX:K.In s.heap:=e0.mod.LS.keeps fun b o e=>(e0.bs b o e).1
 have lim:s.heap.NoLimit:=e0.mod.nolimit.keeps fun b o e=>(e0.bs b o e).1
 have NM:∀y∈ps.zip us,scope.names.lookup y.1=some .local\/(scope.names.lookup y.1=some .cell/\((cellsFrom (s.heap.objs.size+1) scope.names []).lookup y.1).isSome=true):=fun ⟨n,v⟩ hy=>by
  rcases S.par n (jq hy).1 with q | q
  .exact .inl q
  .exact .inr ⟨q,ji _ _ _ (.inl q)⟩
 refine codeAny_call_function hr.depth (KX _ _ lk) rfl S.co S.gen rfl (PySem.W.codeRec_of KX Mr) (hb _ _ _ _ ?_);refine wpAny_newFunctionEnv_cells S.kind NM fun env he s1 x=>?_
 subst he;refine⟨lim.keeps x.toInCall.keep,codeAny_func ?_⟩;obtain⟨t,ht,hq⟩:=MM A outer s H vs Q E (hr.deeper _) Mw;have I:Inv (fH CX P w K mg base N qual scope f LD A outer s H E) [] (start N vs) H s1:=qq S hr.hd e0 hl r x;refine wpAny_mono (ht [] s1 (start N vs) H _ I hq) (fun fl s' hs=>?_) fun e s' hs=>hs
 have fin:∀{σ':St}{H':Hp}{v:V}{u:Value},Inv (fH CX P w K mg base N qual scope f LD A outer s H E) [] σ' H' s'->RelV v u->Q v H'->CE outer P w H s Q u s' :=
  fun {σ' H' v u} J rv q=>⟨v,H',J.os,J.bare,J.base,J.LB,rv,q⟩
 cases fl with
 |ret u =>
  obtain⟨v,σ',H',J,rv,q⟩:=hs;exact fin J rv q
 |next =>
  obtain⟨σ',H',J,q⟩:=hs;exact fin (v:=V.LC) (u:=Value.none) J rfl q
 |brk =>
  obtain⟨_,_,_,q⟩:=hs;exact False.elim q
 |cont =>
  obtain⟨_,_,_,q⟩:=hs;exact False.elim q
end L2
namespace L2
open PySem PySem.Spec PyProof.Rows
section
variable {X:Cx}{x:Str}{p pos:Pos}{e:Expr}{es:List Expr}{t:TA}{id T:String}{r:List V->Hp->VK->Prop}
def FA (r:List V->Hp->VK->Prop)(t:TA):TE:=fun σ H Q=>t σ H fun vs H1=>r vs H1 Q
theorem iE (hc:eJ X (.builtin id) r)(hg:Gl X x)(hm:X.mg x=none)(hv:bootBuiltins x=some (.builtin id))(ha:PA X (e::es) t)(hn:x≠"__name__":=by decide) (Nn:(x==("__debug__" : Str))=false:=by decide)
  (he:starEach (e::es) X.env=(false,eval e X.env)::starEach es X.env:=by rfl) (Md:(backTo pos (starEach es X.env)).any (·.1)=false:=by rfl):PE X (.Call (.Name x p) (e::es) [] pos) (FA r t):=by
 intro pins s σ H Q I h;refine wpAny_Call_Name_kw (m7 I hg hm hv ?_ hn Nn);exact PyProof.Rows.callWith_builtin1 (cO (ha pos pins s σ H _ I h) fun us s1 ⟨vs,H1,I1,r1,q1⟩=>hc pins s1 σ H1 vs us Q I1 r1 q1) he Md
theorem pM (hc:eJ X (.type T) r)(hg:Gl X x)(hm:X.mg x=none)(hv:bootBuiltins x=some (.type T))(ha:PA X (e::es) t)(hn:x≠"__name__":=by decide) (Nn:(x==("__debug__" : Str))=false:=by decide)
  (he:starEach (e::es) X.env=(false,eval e X.env)::starEach es X.env:=by rfl) (Md:(backTo pos (starEach es X.env)).any (·.1)=false:=by rfl):PE X (.Call (.Name x p) (e::es) [] pos) (FA r t):=by
 intro pins s σ H Q I h;refine wpAny_Call_Name_kw (m7 I hg hm hv ?_ hn Nn);exact jd (cO (ha pos pins s σ H _ I h) fun us s1 ⟨vs,H1,I1,r1,q1⟩=>hc pins s1 σ H1 vs us Q I1 r1 q1) he Md
end
end L2
namespace HT
open PySem PyProof.Rows
noncomputable def lexLt:List Int->List Int->Bool
 |[],[]=>false
 |[],_::_=>true
 |_::_,[]=>false
 |x::xs,y::ys=>if x=y then lexLt xs ys else decide (x<y)
theorem nM (x y:Int)(xs ys:List Int):lexLt (x::xs) (y::ys)=if x=y then lexLt xs ys else decide (x<y):=rfl
theorem oZ:lexLt [] []=false:=rfl
theorem om (y:Int)(ys:List Int):lexLt [] (y::ys)=true:=rfl
theorem oa (x:Int)(xs:List Int):lexLt (x::xs) []=false:=rfl
theorem yy (A:Around)(s:Shared)(a:Int)(t:Tok)(c:Int)(u:Tok):∃e,SeqAt.EqAt A s (.int a t) (.int c u) e/\(e=true↔a=c) :=
 ⟨(a==c),SeqAt.EqAt.int_int a t c u,by simp⟩
theorem sF (A:Around)(s:Shared)(a:Int)(t:Tok)(c:Int)(u:Tok)(prog:Program)(w:World)(E:Value->Shared->Prop)(Q:Value->Shared->Prop)(h:Q (.bool (decide (a<c))) s) :
  wpAny (model prog w) A (richCompare .Lt (.int a t) (.int c u)) Q E s :=
 (PyProof.Rows.lt_int h:wpAny (model prog w) A (compareOp .Lt (.int a t) (.int c u)) Q E s)
section
open PySem.SeqAt
open PySem.AutoSeq1 (wpAny_loadPart')
open PySem.MeetsSeq PySem.MeetsSeq2 PySem.MeetsSeq3
theorem oV (l b:Addr)(items LU:Array Value)(n n2:Nat)(dd Vs:Option Addr)(sl SD:Array (Option Value))(ns ms:List Int)(hi:IntsAre items.toList ns)(hj:IntsAre LU.toList ms) :
  Meets (Builtin.«tuple.__lt__» ⟨[.ref l,.ref b],[]⟩)
   (fun _ R s=>s.heap.get? l=some { cls:=.type "tuple",dict:=dd,data:=.seq items n,slots:=sl }/\s.heap.get? b=some { cls:=.type "tuple",dict:=Vs,data:=.seq LU n2,slots:=SD } /\
    R (.ok (.ret (.bool (lexLt ns ms)))) s) :=
 .of_wp fun prog w A R s h=>by
  obtain⟨hp,g,d,tk,os⟩:=s;obtain⟨hl,hb,h⟩:=h;have f2:=AutoSeq1.sub_tuple_tuple;have z1:items.size=ns.length:=by rw[<-hi.length];simp
  have z2:LU.size=ms.length:=by rw[<-hj.length];simp
  wp_walk using wpAny_loadPart' hl,wpAny_loadPart' hb,wpAny_forIn_list _ (fun rest b s'=>b.1=none/\s'=⟨hp,g,d,tk,os⟩/\∃(vs ws:List Value) (Pn Pp:List Int),rest=vs.zip ws /\
   IntsAre vs Pn/\IntsAre ws Pp/\Pn.length+LU.size=Pp.length+items.size/\R (.ok (.ret (.bool (lexLt Pn Pp)))) ⟨hp,g,d,tk,os⟩) _
  case turn =>
   rintro⟨y,x⟩ rest b s' ⟨Mn,rfl,vs,ws,Pn,Pp,hz,TB,Rv,hlen,hR⟩;cases TB with
   |nil=>rw[List.zip_nil_left] at hz;cases hz
   |cons a t Tz =>
    cases Rv with
    |nil=>rw[List.zip_nil_right] at hz;cases hz
    |cons c u Tw =>
     rw[List.zip_cons_cons] at hz;injection hz with hyx L3
     injection hyx with hy hx
     subst hy hx;rw[nM] at hR;simp only[List.length_cons] at hlen;obtain⟨e,he,Qy⟩:=yy A.in1 ⟨hp,g,d,tk,os⟩ a t c u;refine wpAny_bind (he prog w _ _ ?_);cases e with
     |true =>
      rw[if_pos (Qy.mp rfl)] at hR
      wp_walk
      exact⟨rfl,rfl,_,_,_,_,L3,Tz,Tw,by omega,hR⟩
     |false =>
      rw[if_neg (fun q=>absurd (Qy.mpr q) bj)] at hR;have hri:=sF A.in1 ⟨hp,g,d,tk,os⟩ a t c u prog w
      wp_walk using hri
      exact⟨_,rfl,by simpa using hR⟩
  case fin =>
   rintro⟨b1,b2⟩ s' ⟨Mn,rfl,vs,ws,Pn,Pp,hz,TB,Rv,hlen,hR⟩;simp only at Mn;subst Mn;have hv:lexLt Pn Pp=decide (items.size<LU.size):=by
    cases TB with
    |nil =>
     cases Rv with
     |nil =>
      simp only[List.length_nil] at hlen;rw[oZ];exact (ba (by omega)).symm
     |cons c u hw =>
      simp only[List.length_nil,List.length_cons] at hlen;rw[om];exact (bp (by omega)).symm
    |cons a t hv =>
     cases Rv with
     |nil =>
      simp only[List.length_nil,List.length_cons] at hlen;rw[oa];exact (ba (by omega)).symm
     |cons c u hw =>
      rw[List.zip_cons_cons] at hz;cases hz
   rw[hv] at hR
   wp_walk
   exact⟨_,rfl,by simpa[Builtin.Tuple.tupleCompareSizes] using hR⟩
  case h =>
   exact⟨rfl,rfl,items.toList,LU.toList,ns,ms,rfl,hi,hj,by omega,h⟩
end
section
variable {prog:Program}{w:World}{A:Around}{E:Value->Shared->Prop}{s:Shared}
theorem u7 {l b:Addr}{items LU:Array Value}{ns ms:List Int}{Q:Value->Shared->Prop}(hl:IsTup s.heap l items)(hb:IsTup s.heap b LU)(hi:IntsAre items.toList ns)(hj:IntsAre LU.toList ms)
  (hu:A.units<cLine) (h:Q (.bool (lexLt ns ms)) s):wpAny (model prog w) A (compareOp .Lt (.ref l) (.ref b)) Q E s:=by
 obtain⟨⟨cls,dd,data,sl⟩,ho,hc,n,hd⟩:=id hl;obtain⟨⟨cls2,Vs,data2,SD⟩,Xb,RH,n2,hd2⟩:=id hb;simp only at hc hd RH hd2;subst hc hd RH hd2;exact richCompare_meets_room (op:=.Lt) ⟨_,ho,rfl⟩ ⟨_,Xb,rfl⟩ PySem.F.slot_tuple_lt PySem.F.entry_tuple_lt (PySem.F.args_tuple_lt_2 _ _) (oV l b items LU n n2 dd Vs sl SD ns ms hi hj)
  ⟨ho,Xb,show Value.bool (lexLt ns ms)≠Value.notImplemented/\Q (.bool (lexLt ns ms)) s from ⟨(fun x=>nomatch x),h⟩⟩ hu
noncomputable def eF (n d:Nat):Option Int->Nat
 |none=>d
 |some v=>if v<0 then (v+(n:Int)).toNat else min v.toNat n
theorem jP (n d k:Nat):eF n d (some (k:Int))=min k n:=by
 show (if (k:Int)<0 then ((k:Int)+(n:Int)).toNat else min (k:Int).toNat n)=min k n;rw[if_neg (by omega),cj]
end
end HT
namespace L2
open PySem PySem.Spec PyProof.Rows
noncomputable abbrev TO:=St->Hp->(Option Int->Hp->Prop)->Prop
noncomputable def PO (X:Cx)(e:Option Expr)(t:TO):Prop :=
 ∀(pins:List (Addr×Obj)) (s:Shared) (σ:St) (H:Hp) (Q:Option Int->Hp->Prop),Inv X pins σ H s->t σ H Q ->
  wpAny (model X.prog X.w) X.A (evalPart e X.env) (fun u s'=>∃o H',Inv X pins σ H' s'/\IsPart u o/\Q o H') X.xe s
noncomputable def Ck:TO:=fun _ H Q=>Q none H
noncomputable def Jd (t:TE):TO:=fun σ H Q=>t σ H fun x H1=>∃i,x=.int i/\Q (some i) H1
section
variable {X:Cx}{e:Expr}{te:TE}{lo hi:Option Expr}{tl th:TO}{pos p2:Pos}
theorem BR:PO X none Ck:=by
 intro pins s σ H Q I h;rw[evalPart_none];exact wpAny_pure ⟨none,H,I,.none,h⟩
theorem rF (h:PE X e te):PO X (some e) (Jd te):=by
 intro pins s σ H Q I hw;rw[evalPart_some];refine cO (h pins s σ H _ I hw) fun u s1 ⟨x,H1,I1,r1,q1⟩=>?_
 obtain⟨i,rfl,q⟩:=q1;obtain⟨t,rfl⟩:=r1;exact⟨some i,H1,I1,.int i t,q⟩
noncomputable def HS (X:Cx)(r:V->Option Int->Option Int->Hp->VK->Prop):Prop :=
 ∀(pins:List (Addr×Obj)) (s:Shared) (σ:St) (H:Hp) (x:V) (v vl vu:Value) (lo hi:Option Int) (sl:Addr) (Q:VK),Inv X pins σ H s->RelV x v->s.heap.IsSliceOf sl vl vu .none->IsPart vl lo->IsPart vu hi->r x lo hi H Q ->
  ∃T id,typeLookup (.type T) "__getitem__" = pure (some (.builtin id))/\s.TypeIs v T/\wpAny (model X.prog X.w) X.A (getItem v (.ref sl)) (EP X pins σ Q) X.xe s
theorem HS.or {r r':V->Option Int->Option Int->Hp->VK->Prop}(h:HS X r)(h':HS X r'):HS X (fun x lo hi H Q=>r x lo hi H Q\/r' x lo hi H Q):=by
 intro pins s σ H x v vl vu lo hi sl Q I rx hs pl pu q;rcases q with q | q
 .exact h pins s σ H x v vl vu lo hi sl Q I rx hs pl pu q
 .exact h' pins s σ H x v vl vu lo hi sl Q I rx hs pl pu q
def tSl (r:V->Option Int->Option Int->Hp->VK->Prop)(te:TE)(tl th:TO):TE:=fun σ H Q=>te σ H fun x H1=>tl σ H1 fun l H2=>th σ H2 fun u H3=>r x l u H3 Q
theorem sk {r:V->Option Int->Option Int->Hp->VK->Prop}(hr:HS X r)(he:PE X e te)(hl:PO X lo tl)(hu:PO X hi th):PE X (.Subscript e (.Slice lo hi none p2) pos) (tSl r te tl th):=by
 intro pins s σ H Q I h;refine Subscript_ (cO (he pins s σ H _ I h) fun v s1 ⟨x,H1,I1,r1,q1⟩=>?_);refine wpAny_Slice (cO (hl pins s1 σ H1 _ I1 q1) fun vl s2 ⟨l,H2,I2,pl,q2⟩=>cO (hu pins s2 σ H2 _ I2 q2) fun vu s3 ⟨u,H3,I3,pu,q3⟩=>?_);rw[evalPart_none];refine wpAny_pure ?_;have I4:Inv X pins σ H3 { s3 with heap:=s3.heap.push { cls:=.type "slice",data:=.fields #[vl,vu,.none] } }:=I3.kept (t':=s3.toks) fun b ob q=>Heap.get?_push_of_some _ q
 obtain⟨T,id,hT,ht,hg⟩:=hr pins { s3 with heap:=s3.heap.push { cls:=.type "slice",data:=.fields #[vl,vu,.none] } } σ H3 x v vl vu l u s3.heap.objs.size Q I4 r1 (Heap.IsSliceOf.new ..) pl pu q3;show wpAny (model X.prog X.w) X.A (subscriptTail e (.Slice lo hi none p2) v (.ref s3.heap.objs.size)) (EP X pins σ Q) X.xe { s3 with heap:=s3.heap.push { cls:=.type "slice",data:=.fields #[vl,vu,.none] } };exact tail_any (ops:=[.ref s3.heap.objs.size,v]) ht hT hg (by with_unfolding_all rfl)
noncomputable def r9 (xs:List V)(lo hi:Option Int):List V:=(xs.drop (HT.eF xs.length 0 lo)).take (HT.eF xs.length xs.length hi-HT.eF xs.length 0 lo)
theorem tT (xs:List V)(lo hi:Option Int):(r9 xs lo hi).length<=xs.length:=by
 unfold r9;rw[bh,bu];omega
end
end L2
namespace L2
open PySem PySem.Spec PyProof.Rows
noncomputable def j9 (n:Nat)(i:Int):Option Nat:=if 0<=i then (if i<n then some i.toNat else none) else if -(n:Int)<=i then some (i+n).toNat else none
noncomputable def F9 {α:Type}(xs:List α)(i:Int):Option α:=(j9 xs.length i).bind fun j=>xs[j]?
variable {i:Int}{n:Nat}
theorem wR {j:Nat}(h:j9 n i=some j):seqIndex? i n=some j/\j<n/\-(n:Int)<=i/\i<n:=by
 unfold j9 at h;by_cases h0:0<=i
 .rw[if_pos h0] at h;by_cases h1:i<n
  .rw[if_pos h1] at h;have e:i.toNat=j:=cq h;exact⟨by rw[seqIndex_of h0 h1,e],by omega,by omega,h1⟩
  .rw[if_neg h1] at h;cases h
 .rw[if_neg h0] at h;by_cases h1 : -(n:Int)<=i
  .rw[if_pos h1] at h;have e:(i+n).toNat=j:=cq h;exact⟨by rw[seqIndex_neg (by omega) h1,e],by omega,h1,by omega⟩
  .rw[if_neg h1] at h;cases h
theorem rm {α:Type}{xs:List α}{v:α}(h:F9 xs i=some v):∃j,seqIndex? i xs.length=some j/\xs[j]? = some v/\j<xs.length/\-(xs.length:Int)<=i/\i<xs.length:=by
 unfold F9 at h;cases e:j9 xs.length i with
 |none=>rw[e] at h;cases h
 |some j =>
  rw[e] at h;obtain⟨h1,h2,h3,h4⟩:=wR e;exact⟨j,h1,h,h2,h3,h4⟩
def qK (b:Expr):Prop:=∀o i,subscripted b false o i=operate [o,i] (getItem o i)
noncomputable def Io (X:Cx)(r:R2):Prop :=
 ∀(value slice:Expr) (pins:List (Addr×Obj)) (s:Shared) (σ:St) (H:Hp) (x y:V) (v u:Value) (Q:VK),Inv X pins σ H s->RelV x v->RelV y u->r x y H Q ->
  subscripted slice false v u=operate [v,u] (getItem v u)->wpAny (model X.prog X.w) X.A (subscriptTail value slice v u) (EP X pins σ Q) X.xe s
noncomputable def BC (X:Cx)(id:String)(r:V->List V->Hp->VK->Prop):Prop :=
 ∀(pins:List (Addr×Obj)) (s:Shared) (σ:St) (H:Hp) (x:V) (xs:List V) (v:Value) (us:List Value) (Q:VK),Inv X pins σ H s->RelV x v->aS xs us->r x xs H Q ->
  wpAny (model X.prog X.w) X.A (call (.builtin id) (v::us)) (EP X pins σ Q) X.xe s
variable {H:Hp}{p:Addr}{pins:List (Addr×Obj)}{s:Shared}
section
variable {X:Cx}{a b:Expr}{ta tb:TE}{pos:Pos}
theorem DK {r:R2}(hr:Io X r)(ha:PE X a ta)(hb:PE X b tb)(hs:qK b):PE X (.Subscript a b pos) (Jm r ta tb):=by
 intro pins s σ H Q I h;exact Subscript_ (FZ ha hb I h fun v u s2 x y H2 I2 rx ry q=>hr a b pins s2 σ H2 x y v u Q I2 rx ry q (hs _ _))
noncomputable def S1 (K:PySem.W.Frag):R2:=fun x y H Q=>∃p xs i v,x=.ref p/\y=.int i/\o9 K H p xs/\F9 xs i=some v/\Q v H
noncomputable def SX (K:PySem.W.Frag):R2:=fun x y H Q=>∃p xs i v,x=.ref p/\y=.int i/\pC K H p xs/\F9 xs i=some v/\Q v H
noncomputable def SY:R2:=fun x y H Q=>∃z i c,x=.str z/\y=.int i/\z.length<=sizeLine/\F9 z.cps.toList i=some c/\Q (.str ⟨#[c]⟩) H
theorem CB:Io X (S1 X.K):=by
 intro value slice pins s σ H x y v u Q I rx ry h hs;obtain⟨p,xs,i,z,rfl,rfl,hq,he,q⟩:=h;cases rx;obtain⟨t,rfl⟩:=ry;obtain⟨its,r,pl,hz⟩:=I.list hq;obtain⟨j,h1,h2,h3,h4,h5⟩:=rm he;obtain⟨w,ew,SO⟩:=r.get h2;have hl:=r.length;have hn:=ky;have fin:EP X pins σ Q w s:=⟨z,H,I,SO,q⟩;by_cases h0:0<=i
 .have hj:i.toNat=j:=by
   rw[seqIndex_of h0 h5] at h1;exact cq h1
  exact item_listR pl.isList h0 (by omega) (by rw[hj];simpa using ew) fin hs
 .have hj:(i+(its.toArray.size:Int)).toNat=j:=by
   rw[seqIndex_neg (by omega) h4] at h1;rw[aq,<-hl];exact cq h1
  exact subscriptTail_builtinR (x:=w) pl.isList.typeIs slot_list_getitem.lookup
   (wpAny_getItem_list_neg (Q:=fun r s'=>r=w/\EP X pins σ Q r s') pl.isList (by omega) (by rw[List.size_toArray]<;>omega) (by omega) (by rw[hj];simpa using ew) ⟨rfl,fin⟩) hs
theorem yW:Io X (SX X.K):=by
 intro value slice pins s σ H x y v u Q I rx ry h hs;obtain⟨p,xs,i,z,rfl,rfl,hq,he,q⟩:=h;cases rx;obtain⟨t,rfl⟩:=ry;obtain⟨its,r,pl,hz⟩:=I.tuple hq;obtain⟨j,h1,h2,h3,h4,h5⟩:=rm he;obtain⟨w,ew,SO⟩:=r.get h2;have hl:=r.length;have hn:=ky;have fin:EP X pins σ Q w s:=⟨z,H,I,SO,q⟩;exact subscriptTail_builtinR (x:=w) pl.typeIs slot_tuple_getitem.lookup
  (getItem_tuple (j:=j) (Q:=fun r s'=>r=w/\EP X pins σ Q r s') pl (by omega) (by omega) (by rw[List.size_toArray,<-hl];exact h1) (by simpa using ew) ⟨rfl,fin⟩) hs
theorem HC:Io X SY:=by
 intro value slice pins s σ H x y v u Q I rx ry h hs;obtain⟨z,i,c,rfl,rfl,hz,he,q⟩:=h;obtain⟨t,rfl⟩:=rx;obtain⟨t',rfl⟩:=ry;obtain⟨j,h1,h2,h3,h4,h5⟩:=rm he;have hl:z.cps.toList.length=z.length:=by simp[Str.length]
 rw[hl] at h1 h4 h5;have hn:=ky;exact tail_any (typeIs_str s z t) slot_str_getitem.lookup (getItem_str (c:=c) (by
  have e1:decide (i < -(2 ^ 63:Int))=false:=ba (by omega);have e2:decide (i ≥ 2 ^ 63)=false:=ba (by omega);rw[e1,e2,Bool.or_false]) (by rw[h1];simpa using h2) ⟨.str ⟨#[c]⟩,H,I.tok _,⟨_,rfl⟩,q⟩) hs
theorem uO (its:List Value)(n j:Nat)(u:Value):Obj.mapSeq (·.setIfInBounds j u) { cls:=.type "list",data:=.seq its.toArray n }={ cls:=.type "list",data:=.seq (its.set j u).toArray n }:=by
 simp[Obj.mapSeq]
theorem Inv.lst {σ:St}{xs:List V}(I:Inv X pins σ H s)(h:H p=some (.lst xs)) :
  ∃(its:List Value) (n:Nat),aS xs its/\s.heap.get? p=some { cls:=.type "list",data:=.seq its.toArray n }/\xs.length<=sizeLine:=by
 obtain⟨z,its,n,r,e⟩:=I.LB p _ h;exact⟨its,n,r,e,z⟩
theorem Inv.OQ {σ:St}{xs ys:List V}{its its':List Value}{n':Nat}{f:Obj->Obj}(I:Inv X pins σ H s)(h:H p=some (.lst xs))
  (ho:s.heap.get? p=some { cls:=.type "list",data:=.seq its.toArray n }) (hf:f { cls:=.type "list",data:=.seq its.toArray n }={ cls:=.type "list",data:=.seq its'.toArray n' }) (r:aS ys its') (hz:ys.length<=sizeLine) (t:Nat) :
  Inv X pins σ (upd H p (.lst ys)) { s with heap:=s.heap.update p f,toks:=t }:=by
 have e:(s.heap.update p f).get? p=some { cls:=.type "list",data:=.seq its'.toArray n' }:=by
  rw[Heap.get?_update_self f ho (by rw[hf]<;>rfl),hf]
 refine I.write (x:=p) (e:=p) (by rw[h];trivial) (.inl rfl) (fun b u hb q=>(Heap.get?_update_other _ _ (eh hb)).trans q) ⟨_,e⟩ ?_;exact⟨hz,its',n',r,e⟩
def DI:V->V->V->Hp->(Hp->Prop)->Prop:=fun o i v H Q=>∃p xs k j,o=.ref p/\i=.int k/\H p=some (.lst xs)/\j9 xs.length k=some j/\Q (upd H p (.lst (xs.set j v)))
theorem set_list:IU X DI:=by
 intro pins s σ H o i v ov iv u Q I ro ri rv h;obtain⟨p,xs,k,j,rfl,rfl,hp,hj,q⟩:=h;cases ro;obtain⟨t,rfl⟩:=ri;obtain⟨its,n,r,ho,hz⟩:=I.lst hp;obtain⟨h1,h2,h3,h4⟩:=wR hj;have hl:=r.length;have hn:=ky;have I':Inv X pins σ (upd H p (.lst (xs.set j v))) { s with heap:=s.heap.update p (Obj.mapSeq (·.setIfInBounds j u)) } :=
  I.OQ hp ho (uO its n j u) (r.set rv j) (by rw[i9];exact hz) s.toks
 by_cases h0:0<=k
 .have hk:k.toNat=j:=by
   rw[seqIndex_of h0 h4] at h1;exact cq h1
  exact PySem.W.ki_setAt ho h0 (by omega) (by rw[aq,<-hl];exact h4) (by rw[hk];exact⟨_,I',q⟩)
 .have hk:(k+(its.toArray.size:Int)).toNat=j:=by
   rw[seqIndex_neg (by omega) h3] at h1;rw[aq,<-hl];exact cq h1
  exact PySem.W.ki_setBack ho (by omega) (by rw[aq,<-hl];exact h3) (by omega) (by rw[hk];exact⟨_,I',q⟩)
theorem rM (lo hi:Option Int)(n:Nat):(sliceBounds lo hi none n).1=((HT.eF n 0 lo:Nat):Int)/\(sliceBounds lo hi none n).2.1=((HT.eF n n hi:Nat):Int)/\(sliceBounds lo hi none n).2.2=1:=by
 refine⟨?_,?_,rfl⟩
 .cases lo with
  |none=>simp[sliceBounds,HT.eF]
  |some i =>
   simp only[sliceBounds,HT.eF,Option.getD_none,show (1:Int) > 0 by decide,if_true];by_cases h:i<0
   .simp only[h,if_true]<;>omega
   .simp only[h,if_false]<;>omega
 .cases hi with
  |none=>simp[sliceBounds,HT.eF]
  |some i =>
   simp only[sliceBounds,HT.eF,Option.getD_none,show (1:Int) > 0 by decide,if_true];by_cases h:i<0
   .simp only[h,if_true]<;>omega
   .simp only[h,if_false]<;>omega
theorem oY (its:List Value)(lo hi:Option Int):slicePick its.toArray lo hi none=((its.drop (HT.eF its.length 0 lo)).take (HT.eF its.length its.length hi-HT.eF its.length 0 lo)).toArray:=by
 obtain⟨h1,h2,h3⟩:=rM lo hi its.toArray.size;unfold slicePick;rw[h1,h2,h3];simp only[sliceRange_one,pick_run,List.size_toArray]<;>rfl
def SW (K:PySem.W.Frag):V->Option Int->Option Int->Hp->VK->Prop:=fun x lo hi H Q=>∃a xs,x=.ref a/\o9 K H a xs/\∀p,H p=none->Q (.ref p) (upd H p (.lst (r9 xs lo hi)))
theorem wU:HS X (SW X.K):=by
 intro pins s σ H x v vl vu lo hi sl Q I rx hs pl pu h;obtain⟨a,xs,rfl,hx,q⟩:=h;cases rx;obtain⟨its,r,ht,hz⟩:=I.list hx;have hlen:=r.length;refine⟨"list",_,slot_list_getitem.lookup,ht.isList.typeIs,?_⟩;refine wpAny_getItem_list_slice ht.isList hs pl pu .none (by simp) ?_ (by rw[List.size_toArray]<;>omega);rw[oY,<-hlen];refine⟨.ref s.heap.objs.size,_,I.laid (t':=s.toks) (o:=.lst (r9 xs lo hi)) (fun b ob q=>Heap.get?_push_of_some _ q) (au _) ?_,rfl,q _ (I.LB.fresh (au _))⟩;exact⟨bq (tT xs lo hi) hz,_,0,(r.drop (HT.eF xs.length 0 lo)).take (HT.eF xs.length xs.length hi-HT.eF xs.length 0 lo),Heap.get?_push_size _ rfl⟩
theorem qL:kz X (compareOp .NotIn) (fun x y H Q=>∃i j,x=.str i/\y=.str j/\Q (.bl (!(!(Builtin.Str.occurrences j i 0 j.length 1).isEmpty))) H):=by
 intro pins s σ H x y v u Q I rx ry h;obtain⟨i,j,rfl,rfl,q⟩:=h;obtain⟨t,rfl⟩:=rx;obtain⟨t',rfl⟩:=ry;exact notIn_str ⟨.bl _,H,I,rfl,q⟩
theorem iY:eJ X (.builtin "len") (fun xs H Q=>∃p ys,xs=[.ref p]/\(o9 X.K H p ys\/pC X.K H p ys)/\Q (.int ys.length) H):=by
 intro pins s σ H xs us Q I r h;obtain⟨p,ys,rfl,hq,q⟩:=h;obtain⟨u,rfl,rx⟩:=vals1 r;cases rx;have hn:=ky;rcases hq with hq | hq
 .obtain⟨its,r',pl,hz⟩:=I.list hq;have hlen:=r'.length;exact Calls.call_len_list pl.isList (by simp only[List.size_toArray]<;>omega) ⟨.int ys.length,H,I.tok _,⟨s.toks+1,by rw[List.size_toArray,hlen]⟩,q⟩
 .obtain⟨its,r',pl,hz⟩:=I.tuple hq;have hlen:=r'.length;exact len_tuple pl (by simp only[List.size_toArray]<;>omega) ⟨.int ys.length,H,I.tok _,⟨s.toks+1,by rw[List.size_toArray,hlen]⟩,q⟩
theorem rH:eJ X (.builtin "len") (fun xs H Q=>∃z,xs=[.str z]/\z.length<=sizeLine/\Q (.int z.length) H):=by
 intro pins s σ H xs us Q I r h;obtain⟨z,rfl,hz,q⟩:=h;obtain⟨u,rfl,t,rfl⟩:=vals1 r;have hn:=ky;exact len_str (by omega) ⟨.int z.length,H,I.tok _,⟨_,rfl⟩,q⟩
theorem kI:eJ X (.type "list") (fun xs H Q=>∃p ys,xs=[.ref p]/\(o9 X.K H p ys\/pC X.K H p ys)/\∀l,H l=none->Q (.ref l) (upd H l (.lst ys))):=by
 intro pins s σ H xs us Q I r h;obtain⟨p,ys,rfl,hq,q⟩:=h;obtain⟨u,rfl,rx⟩:=vals1 r;cases rx;have fin:∀(its:List Value),aS ys its->ys.length<=sizeLine->∀(h':Heap) (c':Nat),(∀b o',s.heap.get? b=some o'->h'.get? b=some o') ->
   h'.get? s.heap.objs.size=some { cls:=.type "list",dict:=none,data:=.seq its.toArray c',slots:=#[] }->EP X pins σ Q (.ref s.heap.objs.size) { s with heap:=h' }:=fun its r' hz h' c' kp e =>
  ⟨.ref s.heap.objs.size,_,I.laid (t':=s.toks) kp (au _) (show cW X.prog X.w _ h' _ (.lst ys) from ⟨hz,its,c',r',e⟩),rfl,q _ (I.LB.fresh (au _))⟩
 rcases hq with hq | hq
 .obtain⟨its,r',pl,hz⟩:=I.list hq;have hlen:=r'.length;obtain⟨o,ho,hc,n,hd⟩:=pl.isList;exact call_list_seq p (.inl rfl) ho hc hd (fun h' c' kp e=>fin its r' hz h' c' kp e) (by simp only[List.size_toArray]<;>omega)
 .obtain⟨its,r',pl,hz⟩:=I.tuple hq;have hlen:=r'.length;obtain⟨o,ho,hc,n,hd⟩:=pl;exact call_list_seq p (.inr rfl) ho hc hd (fun h' c' kp e=>fin its r' hz h' c' kp e) (by simp only[List.size_toArray]<;>omega)
def Se (K:PySem.W.Frag)(T:String)(x:V)(H:Hp):Prop:=match x with
 |.str _=>T = "str"
 |.int _=>T = "int"
 | .ref p=>(T = "list"/\∃xs,o9 K H p xs)\/(T = "tuple"/\∃o,K.lookup p=some o/\o.cls=.type "tuple"/\o.dict=none) \/
   (T = "dict"/\((∃kvs,H p=some (.dK kvs))\/∃kvs,H p=some (.dT kvs)))\/(T = "set"/\∃S n,H p=some (.set S n))
 |_=>False
theorem AG {σ:St}{T:String}{x:V}{v:Value}(I:Inv X pins σ H s)(r:RelV x v)(ty:Se X.K T x H) :
  s.TypeIs v T/\∀a,v=.ref a->∃ob,s.heap.get? a=some ob/\ob.dict=none:=by
 cases x with
 |str z =>
  obtain⟨t,rfl⟩:=r;cases (show T = "str" from ty);exact⟨typeIs_str s z t,fun _ e=>nomatch e⟩
 |int i =>
  obtain⟨t,rfl⟩:=r;cases (show T = "int" from ty);exact⟨typeIs_int s i t,fun _ e=>nomatch e⟩
 |ref p =>
  cases r;rcases ty with ⟨rfl,xs,hq⟩ | ⟨rfl,o,hk,hc,hd⟩ | ⟨rfl,hk⟩ | ⟨rfl,S,n,hk⟩
  .obtain⟨its,_,pl,_⟩:=I.list hq;refine⟨pl.isList.typeIs,fun a e=>?_⟩;cases e;obtain⟨o,n,e,c,hd,_⟩:=pl;exact⟨o,e,hd⟩
  .refine⟨⟨o,I.Mp p o hk,hc⟩,fun a e=>?_⟩;cases e;exact⟨o,I.Mp _ o hk,hd⟩
  .have z:∃o,s.heap.get? p=some o/\o.ExactDict:=by
    rcases hk with ⟨kvs,hk⟩ | ⟨kvs,hk⟩
    .obtain⟨_,_,_,_,o,_,_,e,ex,_⟩:=I.LB p _ hk;exact⟨o,e,ex⟩
    .obtain⟨_,_,_,_,o,_,_,e,ex,_⟩:=I.LB p _ hk;exact⟨o,e,ex⟩
   obtain⟨o,e,ex⟩:=z;refine⟨⟨o,e,ex.1⟩,fun a e2=>?_⟩;cases e2;exact⟨o,e,ex.2.1⟩
  .obtain⟨o,_,_,_,e,ex,_⟩:=I.LB p _ hk;refine⟨⟨o,e,ex.1⟩,fun a e2=>?_⟩;cases e2;exact⟨o,e,ex.2.1⟩
 |_=>exact False.elim ty
def Iy (K:PySem.W.Frag)(T:String)(r:V->List V->Hp->VK->Prop)(to:TE):TE:=fun σ H Q=>to σ H fun x H1=>Se K T x H1/\r x [] H1 Q
def Q3 (K:PySem.W.Frag)(T:String)(r:V->List V->Hp->VK->Prop)(to:TE)(t:TA):TE:=fun σ H Q=>to σ H fun x H1=>Se K T x H1/\t σ H1 fun xs H2=>r x xs H2 Q
variable {o e:Expr}{es:List Expr}{to:TE}{t:TA}{name:Str}{apos cpos:Pos}{T id:String}{r:V->List V->Hp->VK->Prop}
theorem HU (pa:PlainAttrs T)(slot:Slot T name id)(NG:typeOf (.builtin id)=pure (.type "method_descriptor")) (hm:BC X id r) (ho:PE X o to)
  (MN:attributeBase o name X.env (eval o X.env)=eval o X.env:=by rfl) (NL:(apos.endLine==cpos.line)=true:=by rfl):PE X (.Call (.Attribute o name apos) [] [] cpos) (Iy X.K T r to):=by
 intro pins s σ H Q I h;refine wpAny_Call_method0_late MN NL (cO (ho pins s σ H _ I h) fun v s1 ⟨x,H1,I1,r1,ty,q1⟩=>?_);obtain⟨h1,h2⟩:=AG I1 r1 ty;exact⟨T,id,pa,slot,NG,h1,h2,Calls.callWith_builtin rfl (PySem.evalArgs_none (hm pins s1 σ H1 x [] v [] Q I1 r1 .nil q1))⟩
theorem qA (pa:PlainAttrs T)(slot:Slot T name id)(NG:typeOf (.builtin id)=pure (.type "method_descriptor")) (hm:BC X id r) (ho:PE X o to) (ha:PA X (e::es) t)
  (MN:attributeBase o name X.env (eval o X.env)=eval o X.env:=by rfl)
  (Uj:((backTo cpos (starEach (e::es) X.env)).all (fun x=>!x.1)&&(backToKw cpos (keywordEach [] X.env)).all (fun x=>x.1.isSome)
   && decide ((e::es).length+([]:List Keyword).length+(if ([]:List Keyword).isEmpty then 0 else 1)<30))=true:=by rfl)
  (NL:(apos.endLine==cpos.line)=true:=by rfl) (hs:starEach (e::es) X.env=(false,eval e X.env)::starEach es X.env:=by rfl) (OX:(backTo cpos (starEach es X.env)).any (·.1)=false:=by rfl) :
  PE X (.Call (.Attribute o name apos) (e::es) [] cpos) (Q3 X.K T r to t):=by
 intro pins s σ H Q I h;refine wpAny_Call_method_late MN Uj NL rfl (cO (ho pins s σ H _ I h) fun v s1 ⟨x,H1,I1,r1,ty,q1⟩=>?_);obtain⟨h1,h2⟩:=AG I1 r1 ty;refine⟨T,id,pa,slot,NG,h1,h2,?_⟩;have hA:=ha cpos pins s1 σ H1 _ I1 q1;rw[hs] at hA ⊢;refine Calls.callWith_builtin (by show (false || (backTo cpos (starEach es X.env)).any (·.1))=false;rw[OX]<;>rfl) (Calls.evalArgs_plain ?_);exact cO hA fun us s2 ⟨vs,H2,I2,r2,q2⟩=>hm pins s2 σ H2 x vs v us Q I2 r1 r2 q2
end
end L2
namespace L2
open PySem PySem.Spec PyProof.Rows
noncomputable def R7 (X:Cx)(id:String)(r:V->List V->Hp->VK->Prop):Prop :=
 ∀(pins:List (Addr×Obj)) (s:Shared) (σ:St) (H:Hp) (x:V) (xs:List V) (v:Value) (us:List Value) (Q:VK),Inv X pins σ H s->RelV x v->aS xs us->r x xs H Q ->
  wpAny (model X.prog X.w) X.A (call (.builtin id) (v::us)) (EP X pins σ Q) X.xe s
theorem aS.one:∀{x:V}{us:List Value},aS [x] us->∃u,us=[u]/\RelV x u
 |_,_,.cons r .nil=>⟨_,rfl,r⟩
theorem aS.two:∀{x y:V}{us:List Value},aS [x,y] us->∃u v,us=[u,v]/\RelV x u/\RelV y v
 | _,_,_,.cons r (.cons q .nil)=>⟨_,_,rfl,r,q⟩
theorem aS.rep {xs:List V}{us:List Value}(h:aS xs us):∀k:Nat,aS (List.replicate k xs).flatten (List.replicate k us).flatten
 |0=>.nil
 | k+1=>by
  rw[gh,gh,cx,cx];exact aS.append h (aS.rep h k)
theorem foldl_rep (its:List Value):∀(k:Nat) (acc:List Value),
  List.foldl (fun x1 x2=>x1++x2) acc.toArray (List.replicate k its.toArray)=(acc++(List.replicate k its).flatten).toArray
 |0,acc=>by simp
 | k+1,acc=>by
  have e:acc.toArray++its.toArray=(acc++its).toArray:=by simp
  have e2:(acc++its)++(List.replicate k its).flatten=acc++(List.replicate (k+1) its).flatten:=by
   rw[gh,cx,av]
  rw[<-e2,<-foldl_rep its k (acc++its),<-e,gh,jr]
variable {n:Nat}
section
variable {X:Cx}{pins:List (Addr×Obj)}{σ:St}{H:Hp}{s:Shared}{l b:Addr}{xs ys zs:List V}
theorem Inv.Qe {its its':List Value}{f:Array Value->Array Value}{t':Nat}(I:Inv X pins σ H s)(hH:H l=some (.lst xs))
  (e:s.heap.get? l=some { cls:=.type "list",data:=.seq its.toArray n }) (hf:f its.toArray=its'.toArray) (hv:aS ys its') (hz:ys.length<=sizeLine) :
  Inv X pins σ (upd H l (.lst ys)) { s with heap:=s.heap.update l (Obj.mapSeq f),toks:=t' }:=by
 have q:=PySem.IsL.update e f;rw[hf] at q;refine I.write (x:=l) (e:=l) (by rw[hH];exact trivial) (.inl rfl) (fun b' u hb hu=>(Heap.get?_update_other s.heap (Obj.mapSeq f) (eh hb)).trans hu) ⟨_,q⟩ ?_;exact⟨hz,its',_,hv,q⟩
theorem Inv.OR {its:List Value}{t':Nat}(I:Inv X pins σ H s)(hv:aS ys its)(hz:ys.length<=sizeLine) :
  Inv X pins σ (upd H s.heap.objs.size (.lst ys)) { s with heap:=s.heap.push { cls:=.type "list",data:=.seq its.toArray },toks:=t' } :=
 I.laid (fun _ _ q=>Heap.get?_push_of_some _ q) (au _) ⟨hz,its,0,hv,Heap.get?_push_size _ rfl⟩
theorem Inv.fresh (I:Inv X pins σ H s):H s.heap.objs.size=none:=I.LB.fresh (au _)
theorem Inv.Qd (I:Inv X pins σ H s)(hH:H l=some (.lst xs)):xs.length<=sizeLine/\∃(its:List Value) (n:Nat),aS xs its/\xs.length=its.length/\s.heap.get? l=some { cls:=.type "list",data:=.seq its.toArray n }:=by
 obtain⟨z,its,n,r,e⟩:=I.LB l _ hH;exact⟨z,its,n,r,r.length,e⟩
theorem tR (h:n<=sizeLine):Builtin.List.listTooLong n=false:=by
 unfold Builtin.List.listTooLong;exact ba (by omega)
end
section
variable {X:Cx}
def Dy:V->List V->Hp->VK->Prop:=fun x vs H Q=>∃l xs y,x=.ref l/\vs=[y]/\H l=some (.lst xs)/\xs.length<sizeLine/\Q .LC (upd H l (.lst (xs ++ [y])))
theorem lL:R7 X "list.append" Dy:=by
 intro pins s σ H x vs v us Q I rx rv h;obtain⟨l,xs,y,rfl,rfl,hH,hz,q⟩:=h;cases rx;obtain⟨u,rfl,ru⟩:=rv.one;obtain⟨z,its,n,r,hl,e⟩:=I.Qd hH;refine call_meets F.slot_list_append ⟨_,e,rfl⟩ F.entry_list_append (F.args_list_append_2 _ _) (PySem.list_append l its.toArray n u (by rw[aq];omega)) ⟨e,?_⟩;refine⟨.LC,_,I.Qe (its':=its ++ [u]) hH e (by simp) (r.append (.cons ru .nil)) ?_,rfl,q⟩;rw[aa,az];omega
theorem len_rep {α:Type}(xs:List α)(k:Nat):(List.replicate k xs).flatten.length=k*xs.length:=by
 induction k with
 |zero=>simp
 |succ k ih=>rw[gh,cx,aa,ih,Nat.succ_mul,Nat.add_comm]
end
section
variable {prog:Program}{w:World}{A:Around}{E:Value->Shared->Prop}{s:Shared}
end
section
variable {X:Cx}
end
end L2
namespace Att
open PySem PySem.W PySem.Calls PyProof.Rows
variable {P:Params}{h:Heap}
theorem mM:∀(ns:List Int) (vs:List Value),WellAll P h vs (ns.map WData.int)->IntsAre vs ns:=by
 intro ns
 induction ns with
 |nil =>
  intro vs w;rw[gu] at w;cases w;exact .nil
 |cons n ns ih =>
  intro vs w;rw[aw] at w;cases w with
  |cons a b =>
   cases a;exact .cons _ _ (ih _ b)
variable {l:OpenLaw}{n:Nat}
theorem xb (hn:l.most=some n){args:List WData}{vals:List Value}
  (N9:l.row.toRowW.claim.pre args=true) (Tv:WellAll P h vals args) :
  ∃a vs ns,vals=[Value.ref a]/\args=[WData.list (ns.map WData.int)]/\h.get? a=some { cls:=.type "list",data:=.seq vs.toArray }/\IntsAre vs ns/\ns.length<=n:=by
 have hsh:WShape.hasAll [] args [.list .int]=true:=(pre_splitW N9).1;have hc:l.pre.holds [] { args:=args }=true:=(pre_splitW N9).2;obtain⟨d,r,rfl,h1,h2⟩:=hasAllW_cons hsh;obtain rfl:=hasAllW_nil h2;obtain⟨xs,rfl,h3⟩:=hasW_list h1;obtain⟨ns,rfl⟩:=items_int h3;have hlen:ns.length<=n:=by
  unfold OpenLaw.pre at hc;have h4:(WTm.not (.lt (.lit (.int (n:Int))) (.len (.arg 0)))).holds [] { args:=[.list (ns.map .int)] }=true:=by
   have h4:=(holds_andW hc).1;rw[hn] at h4;exact h4
  have h5:=condW_of h4 (w_not (w_lt w_lit (w_len_list (w_arg rfl))));rw[ak] at h5;refine i6 fun q=>?_
  have q':(n:Int)<((ns.length:Nat):Int):=by omega
  first
   | (rw[bp q'] at h5;exact absurd h5 (by decide))
   | (simp at h5;omega)
 cases Tv with
 |cons w1 w2 =>
  cases w2;cases w1 with
  |list ho Np=>exact⟨_,_,ns,rfl,rfl,ho,mM ns _ Np,hlen⟩
theorem w8 (l:OpenLaw)(args:List WData):l.row.toRowW.claim.post args (.bool true) args=true :=
 postW_of (r:=l.row.toRowW) (X:=(true==true))
  (show WShape.has [] (.bool true) .bool=true by first | rfl | decide | simp[WShape.has,WShape.arms,WShape.armsAll])
  (show (WTm.eq .res (.lit (.bool true))).value [] { args:=args,res:=some (.bool true),after:=args }=some (.bool (true==true)) from w_eq_bool (w_res rfl) w_lit) rfl
theorem se {q:Program}{loose:List Str}{XP:(Str->Option Value)->Heap->Prop}{YP:World->Heap->Prop}{d:DefRec}
  (hn:l.most=some n) (Qz:d.params.defaults=[])
  (call:∀(w:World) (s₀ s₁:Shared) (mg mb:Str->Option Value) (fa:Addr) (o:Obj) (pm cd doc:Value) (a:Addr) (vs:List Value) (ns:List Int),
   Ground q loose [] XP w s₀ mg mb s₁.heap->YP w s₁.heap ->
   s₁.heap.get? fa=some o->o.data=.func (docDef d.name d.params d.body d.scope pm cd doc)->s₁.heap.CodeRec cd d.name->mg d.name=some (.ref fa) ->
   s₁.heap.get? a=some { cls:=.type "list",data:=.seq vs.toArray }->IntsAre vs ns->ns.length<=n->s₁.gens = #[] ->
   codeAny (model l.prog w) callerA (.call (.ref fa) ⟨[.ref a],[]⟩) (fun r s'=>r=.ok (.ret (.bool true))/\OldK s₁.heap s'.heap/\s'.os=s₁.os/\AllBare s'.gens) s₁) :
  WalkO q loose XP YP l.row.toRowW d [] (fun f vs=>PySem.call f vs):=by
 intro w s₀ s₁ mg mb G Y fa o pm cd doc dV kV ho hd Mr hD T5 hg args vals as N9 hlay NI Tv hlo;obtain rfl:dV=.none:=Dflts.none hD Qz;obtain rfl:kV=.none:=Dflts.noKw hD;obtain⟨a,vs,ns,rfl,rfl,OY,hints,hlen⟩:=xb hn N9 Tv;refine enter_call (codeAny_mono (call w s₀ s₁ mg mb fa o pm cd doc a vs ns G Y ho (fd_plain hd) Mr T5 OY hints hlen hg) fun r s' hq=>?_);obtain⟨rfl,h2,h3,h4⟩:=hq;exact⟨.inl ⟨.bool true,.bool true,[],rfl,fun _=>rfl,.bool true,w8 l _,fun _=>⟨List.Pairwise.nil,fun _ hm=>(nomatch hm)⟩⟩,h2,h3,h4⟩
section
variable {prog:Program}{w:World}{A:Around}{E:Value->Shared->Prop}{s:Shared}{K:Frag}
noncomputable def ledger (h:Heap)(L d:Addr):List (Addr×Obj):=(List.range h.objs.size).filterMap fun a=>if a=L\/a=d then none else (h.get? a).map fun o=>(a,o)
end
end Att
namespace L2
open PySem PySem.Spec PyProof.Rows
theorem qG:∀{vs:List Value}{ns:List Int},IntsAre vs ns->aS (ns.map V.int) vs
 |_,_,.nil=>.nil
 |_,_,.cons n t h=>.cons ⟨t,rfl⟩ (qG h)
def Fc (H:Hp):Prop:=∀b,H b=none\/∃o xs,H b=some (.MA o (.lst xs))
theorem Bk {P:Program}{w:World}{K:PySem.W.Frag}{mg mb:Str->Option Value}{CX:rR}{k:Nat}{fa a:Addr}{fd:FuncData}{x:Str}{sp:Sp}{s₁:Shared}{vs:List Value}{ns:List Int}
  (KX:K.In s₁.heap) (Xc:s₁.heap.Ns mainGlobals mg) (hb:s₁.heap.Ns builtinsNs mb) (hbb:∀x:Str,x≠"__name__"->mb x=bootBuiltins x) (Mm:s₁.heap.NoLimit) (hg:s₁.gens = #[])
  (ha:s₁.heap.get? a=some { cls:=.type "list",data:=.seq vs.toArray }) (hi:IntsAre vs ns) (hl:ns.length<=sizeLine) (hr:gM k callerA)
  (F:∀base:Heap,K.In base->base.Ns mainGlobals mg->lr P w K mg base CX k fa fd [x] sp) (QD:∀(s:Shared) (u:Value),BindsTo s fd ⟨[u],[]⟩ [(x,u)])
  (Mw:∀H:Hp,Fc H->o9 K H a (ns.map V.int)->sp [.ref a] H (fun v _=>v=.bl true) fun _ _ _=>False)
  (Uz:∀H e s',CX [] H s₁ (fun _ _ _=>False) e s'->False) :
  codeAny (model P w) callerA (.call (.ref fa) ⟨[.ref a],[]⟩) (fun r s'=>r=.ok (.ret (.bool true))/\OldK s₁.heap s'.heap/\s'.os=s₁.os/\AllBare s'.gens) s₁:=by
 have rv:=qG hi;have Ti:=hi.length;have core:∀H:Hp,Fc H->o9 K H a (ns.map V.int)->jH P w H s₁.heap->(∀b,H b≠none->b=a)->(H a≠none->K.lookup a=none) ->
   codeAny (model P w) callerA (.call (.ref fa) ⟨[.ref a],[]⟩) (fun r s'=>r=.ok (.ret (.bool true))/\OldK s₁.heap s'.heap/\s'.os=s₁.os/\AllBare s'.gens) s₁:=by
  intro H hO hS LB hA hK;have Nd:∀{b:Addr}{o:Obj},s₁.heap.get? b=some o->H b=none->(rK s₁.heap H).get? b=some o:=fun e n=>AH e n
  have P6:∀{b:Addr}{o:Obj}{es:Array DictEntry}{ep:Nat},s₁.heap.get? b=some o->o.data=.dict es ep->H b=none:=fun {b o es ep} e d=>by
   cases q:H b with
   |none=>rfl
   |some u =>
    have e':b=a:=hA b (by rw[q];simp);subst e';rw[ha] at e;cases e;have d':Data.seq vs.toArray _=Data.dict es ep:=d;cases d'
  have Rl:∀{b:Addr}{m:Str->Option Value},s₁.heap.Ns b m->(rK s₁.heap H).Ns b m:=fun {b m} ⟨o,es,ep,e,d,r⟩=>⟨o,es,ep,Nd e (P6 e d),d,r⟩
  have Xo:K.In (rK s₁.heap H):=fun b o e=>Nd (KX b o e) (by
   cases q:H b with
   |none=>rfl
   |some u =>
    have e':b=a:=hA b (by rw[q];simp);subst e';rw[hK (by rw[q];simp)] at e;cases e)
  have hM:Mod K mg (rK s₁.heap H):=⟨Xo,Rl Xc,⟨mb,Rl hb,hbb⟩,let ⟨mc,h1,h2⟩:=Mm;⟨mc,Rl h1,h2⟩⟩;have e0:sj P w K mg (rK s₁.heap H) callerA [] s₁ H:=⟨rfl,hM,fun b o e=>Co e,Nat.le_of_eq (yf _ _),trivial,fun b hb=>absurd (show b∈([]:List Addr) from hb) (by simp),LB,.of_eq hg⟩;refine codeAny_mono ((F _ Xo (Rl Xc)).run callerA [] s₁ H ⟨[.ref a],[]⟩ [.ref a] [.ref a] _ _ hr e0 (QD s₁ (.ref a)) (.cons rfl .nil) (Mw H hO hS)) fun r s' h=>?_
  cases r with
  |error e=>exact (Uz H e s' h).elim
  |ok fl =>
   cases fl with
   |next=>exact False.elim h
   |brk=>exact False.elim h
   |cont=>exact False.elim h
   |ret u =>
    obtain⟨v,H',os,bare,un,TX,r',q⟩:=h;have q':v=.bl true:=q;subst q';obtain rfl:u=Value.bool true:=r';refine⟨rfl,OldK.of_keep fun b o e=>?_,os,bare⟩;cases q:H b with
    |none=>exact un.keep b o e q (by intro z;exact absurd (show b∈([]:List Addr) from z) (by simp)) (by simp)
    |some u =>
     rcases hO b with z | ⟨ob,xs,z⟩
     .rw[q] at z;cases z
     .have z2:=un.Mf b ob _ z;obtain⟨e1,_⟩:=LB b _ z;obtain⟨e2,_⟩:=TX b _ z2;rw[e] at e1;cases e1;exact e2
 cases hk:K.lookup a with
 |some o =>
  have e:=KX a o hk;rw[ha] at e;cases e;refine core (fun _=>none) (fun _=>.inl rfl) (.inr ⟨_,vs.toArray,_,hk,rfl,rfl,rfl,by rw[List.size_toArray,Ti];exact hl,by simpa using rv⟩) (fun b u z=>by have z':(none:Option HO)=some u:=z;cases z') (fun b z=>absurd rfl z) fun z=>absurd rfl z
 |none =>
  refine core (fun b=>if b=a then some (.MA { cls:=.type "list",data:=.seq vs.toArray } (.lst (ns.map V.int))) else none) (fun b=>?_) (.inl (.inr ⟨{ cls:=.type "list",data:=.seq vs.toArray },if_pos rfl⟩)) (fun b u z=>?_) (fun b z=>?_) fun _=>hk
  .by_cases hb:b=a
   .exact .inr ⟨_,_,if_pos hb⟩
   .exact .inl (if_neg hb)
  .by_cases hb:b=a
   .have z':=(if_pos hb).symm.trans z;cases z';subst hb;exact⟨ha,by rw[ak];exact hl,vs,_,rv,ha⟩
   .have z':=(if_neg hb).symm.trans z;cases z'
  .by_cases hb:b=a
   .exact hb
   .exact absurd (if_neg hb) z
end L2
namespace L2
open PySem PySem.Spec PyProof.Rows
theorem CK {l:PySem.W.OpenLaw}{n k:Nat}{q:Program}{loose:List Str}{XP:(Str->Option Value)->Heap->Prop}{YP:World->Heap->Prop}{d:DefRec}{K:Params->PySem.W.Frag}{CX:World->rR}{sp:World->Sp}{x:Str}
  (hn:l.most=some n) (Qq:n<=sizeLine) (Qz:d.params.defaults=[]) (hr:gM k callerA)
  (hY:∀(w:World) (h:Heap),YP w h->(K w.params).In h)
  (F:∀(w:World) (mg:Str->Option Value) (fa:Addr) (h:Heap),(K w.params).In h->h.Ns mainGlobals mg->mg d.name=some (.ref fa) ->
   ∃fd:FuncData,(∀(s:Shared) (u:Value),BindsTo s fd ⟨[u],[]⟩ [(x,u)]) /\
    ∀base:Heap,(K w.params).In base->base.Ns mainGlobals mg->lr l.prog w (K w.params) mg base (CX w) k fa fd [x] (sp w))
  (Mw:∀(w:World) (H:Hp) (a:Addr) (ns:List Int),ns.length<=n->Fc H->o9 (K w.params) H a (ns.map V.int)->sp w [.ref a] H (fun v _=>v=.bl true) fun _ _ _=>False)
  (Uz:∀(w:World) (H:Hp) (s:Shared) (e:Value) (s':Shared),CX w [] H s (fun _ _ _=>False) e s'->False) :
  PySem.W.WalkO q loose XP YP l.row.toRowW d [] (fun f vs=>PySem.call f vs):=by
 refine Att.se hn Qz fun w s₀ s₁ mg mb fa o pm cd doc a vs ns G Y ho hd Mr T5 OY hints hlen hg=>?_
 have KX:=hY w _ Y;obtain⟨fd,hb,hF⟩:=F w mg fa _ KX G.T.g T5;exact Bk KX G.T.g G.T.b G.T.builtins G.T.nolimit hg OY hints (bq hlen Qq) hr hF hb (fun H hO hS=>Mw w H a ns hlen hO hS) fun H e s'=>Uz w H s₁ e s'
end L2
namespace L2
open PySem PySem.Spec PyProof.Rows
noncomputable abbrev xW:rR:=fun _ _ _ _ _ _=>False
noncomputable abbrev E0:XK:=fun _ _ _=>False
variable {X:Cx}
theorem Ag:hU xW X E0:=fun _ _ _ _ _ _ _ h=>h.elim
structure lI (K:PySem.W.Frag)(x qual:Str)(st:Stmt)(f:Addr)(fd:FuncData):Prop where
 ex:∃(oc:Value) (od:Option Addr) (kV doc pm:Value) (an:Option Addr) (LD ct:Value) (NY:Array (Option Value)),
  fd=PySem.W.fnOf x qual (cH st) (bD st) (aG st) .none kV doc pm an LD ct/\K.lookup f=some ⟨oc,od,.func fd,NY⟩/\PySem.W.codeIn K LD qual=true
 kp:PySem.W.keepIn K (.ref f)=true
variable {f:Addr}{fd:FuncData}{ps:List Str}{qual x:Str}{st:Stmt}
section
variable {P:Program}{w:World}{K:PySem.W.Frag}{mg:Str->Option Value}{base:Heap}
theorem lI.ok {x:Str}{N:List Str}{k:Nat}{sp:Sp}(F:lI K x qual st f fd)(S:cL N ps (aG st))(len:∀vs H Q E,sp vs H Q E->vs.length=ps.length)
  (MM:∀(LD:Value) (A:Around) (outer:List Env) (s:Shared) (H:Hp) (vs:List V) (Q:VK) (E:XK),gM k (A.deeper (envOfC qual (aG st) s.heap.objs.size f LD))->sp vs H Q E ->
   ∃t,lP (fH xW P w K mg base N qual (aG st) f LD A outer s H E).L1 (bD st) t/\t { nx:=fun _ H'=>Q .LC H',rt:=Q } (start N vs) H):lr P w K mg base xW (k+1) f fd ps sp:=by
 obtain⟨oc,od,kV,doc,pm,an,LD,ct,NY,rfl,lk,Mr⟩:=F.ex;refine IZ lk Mr S len fun A outer s H vs Q E hr Mw=>?_
 obtain⟨t,h,q⟩:=MM LD A outer s H vs Q E hr Mw;exact⟨t,h.L1,q⟩
theorem lI.binds (F:lI K x qual st f fd)
  (h:∀(kV doc pm:Value) (an:Option Addr) (LD ct:Value) (us:List Value),us.length=ps.length->bindArgs (PySem.W.fnOf x qual (cH st) (bD st) (aG st) .none kV doc pm an LD ct) ⟨us,[]⟩=pure (ps.zip us)):Binds K fd ps []:=by
 obtain⟨oc,od,kV,doc,pm,an,LD,ct,NY,rfl,lk,Mr⟩:=F.ex;exact .all (h kV doc pm an LD ct)
theorem Ge {st:Stmt}{oc:Value}{od an:Option Addr}{NY:Array (Option Value)}{kV doc pm LD ct:Value}(l:K.lookup f=some ⟨oc,od,.func (PySem.W.fnOf x qual (cH st) (bD st) (aG st) .none kV doc pm an LD ct),NY⟩)
  (c:PySem.W.codeIn K LD qual=true) (k:PySem.W.keepIn K (.ref f)=true):lI K x qual st f (PySem.W.fnOf x qual (cH st) (bD st) (aG st) .none kV doc pm an LD ct):=⟨⟨oc,od,kV,doc,pm,an,LD,ct,NY,rfl,l,c⟩,k⟩
end
variable {pos:Pos}
section
variable {X:Cx}
theorem pv (i:Nat)(hN:X.N[i]? = some x:=by rfl)(hv:D4 X.env.scope x:=by first | exact Or.inl rfl | exact Or.inr (Or.inl rfl) | exact Or.inr (Or.inr rfl))(hd:(x==("__debug__" : Str))=false:=by decide)
  (Mr:(x==("__classdict__" : Str))=false:=by decide):PE X (.Name x pos) (jX i):=rj hN hv hd Mr
end
def aH (H H':Hp):Prop:=∀b o,H b=some o->H' b=some o
theorem aH.refl (H:Hp):aH H H:=fun _ _ h=>h
variable {H:Hp}
theorem aH.trans {H1 H2:Hp}(a:aH H H1)(b:aH H1 H2):aH H H2:=fun c o h=>b c o (a c o h)
variable {u:Value}{y:V}
section
variable {κ:Type}[DecidableEq κ]
noncomputable def rP (kvs:List (κ×V))(k:κ):Option V:=(kvs.find? fun kv=>decide (kv.1=k)).map (·.2)
noncomputable def putK (kvs:List (κ×V))(k:κ)(v:V):List (κ×V) :=
 if (kvs.any fun kv=>decide (kv.1=k))=true then kvs.map (fun kv=>if kv.1=k then (kv.1,v) else kv) else kvs ++ [(k,v)]
theorem lF {p:κ×V}{r:List (κ×V)}{k:κ}(e:p.1=k):rP (p::r) k=some p.2:=by simp[rP,List.find?_cons,e]
theorem kQ {p:κ×V}{r:List (κ×V)}{k:κ}(e:¬ p.1=k):rP (p::r) k=rP r k:=by simp[rP,List.find?_cons,e]
theorem tL (k:κ):∀kvs:List (κ×V),(kvs.any fun kv=>decide (kv.1=k))=(rP kvs k).isSome
 |[]=>rfl
 | p::r=>by
  rw[i8];by_cases e:p.1=k
  .simp only[lF e,decide_eq_true e,Bool.true_or,Option.isSome_some]
  .rw[kQ e,ba e,Bool.false_or];exact tL k r
theorem jE (kvs:List (κ×V))(k:κ)(v:V):(putK kvs k v).length<=kvs.length+1:=by
 unfold putK;split
 .rw[ak];omega
 .rw[aa,ah,bz];omega
theorem kW.Nk {o:Option V}{u:Option Value}(r:kW o u):o.isSome=u.isSome:=by
 cases o with
 |none=>cases u with
  |none=>rfl
  |some _=>exact (show False from r).elim
 |some _=>cases u with
  |none=>exact (show False from r).elim
  |some _=>rfl
theorem KV.val {kvs:List (κ×V)}{vs:List (κ×Value)}(r:KV kvs vs)(k:κ):kW (rP kvs k) (valueAt vs k):=by
 unfold KV at r
 induction r with
 |nil=>exact True.intro
 |@cons p q ps qs h t ih =>
  obtain⟨h1,h2⟩:=h;by_cases e:p.1=k
  .have e':q.1=k:=h1.symm.trans e;have b:valueAt (q::qs) k=some q.2:=by simp[valueAt,List.find?_cons,e']
   rw[lF e,b];exact h2
  .have e':¬ q.1=k:=fun z=>e (h1.trans z)
   have b:valueAt (q::qs) k=valueAt qs k:=by simp[valueAt,List.find?_cons,e']
   rw[kQ e,b];exact ih
theorem KV.any {kvs:List (κ×V)}{vs:List (κ×Value)}(r:KV kvs vs)(k:κ):(kvs.any fun kv=>decide (kv.1=k))=vs.any fun kv=>decide (kv.1=k):=by
 unfold KV at r
 induction r with
 |nil=>rfl
 |cons h t ih=>rw[i8,i8,ih,h.1]
theorem KV.OK {kvs:List (κ×V)}{vs:List (κ×Value)}(r:KV kvs vs)(k:κ)(ry:RelV y u) :
  KV (kvs.map fun kv=>if kv.1=k then (kv.1,y) else kv) (vs.map fun kv=>if kv.1=k then (kv.1,u) else kv):=by
 unfold KV at r ⊢
 induction r with
 |nil=>exact .nil
 |@cons p q ps qs h t ih =>
  rw[aw,aw];refine .cons ?_ ih;obtain⟨h1,h2⟩:=h;by_cases e:p.1=k
  .rw[if_pos e,if_pos (h1.symm.trans e)];exact⟨h1,ry⟩
  .rw[if_neg e,if_neg (fun z=>e (h1.trans z))];exact⟨h1,h2⟩
theorem KV.put {kvs:List (κ×V)}{vs:List (κ×Value)}(r:KV kvs vs)(k:κ)(ry:RelV y u):KV (putK kvs k y) (stored vs k u):=by
 unfold putK stored;rw[r.any k];by_cases e:(vs.any fun kv=>decide (kv.1=k))=true
 .rw[if_pos e,if_pos e];exact r.OK k ry
 .rw[if_neg e,if_neg e];exact Paired.snoc r ⟨rfl,ry⟩
theorem KV.length {kvs:List (κ×V)}{vs:List (κ×Value)}(r:KV kvs vs):kvs.length=vs.length:=Paired.length r
end
variable {P:Program}{w:World}
theorem zR {k:Key}(r:RelV (kV k) u):(cB P w).is k u=true:=by
 cases k with
 |inl i=>obtain⟨t,e⟩:=(show ∃t,u=Value.int i t from r);subst e;exact mz P w i t
 |inr x=>obtain⟨t,e⟩:=(show ∃t,u=Value.str x t from r);subst e;exact t7 P w x t
theorem qp:∀{ks:List Key}{us:List Value},aS (ks.map kV) us->ItemsAre (cB P w) ks us
 |[],_,r=>by rw[gu] at r;cases r;exact .nil
 | k::ks,_,r=>by
  rw[aw] at r;cases r with
  |cons h t=>exact .cons (zR h) (qp t)
noncomputable abbrev KT (H:Hp):List (List Key×V)->List (List Key×Addr×Value)->Prop:=Paired fun p q=>p.1=q.1/\H q.2.1=some (.tup (p.1.map kV))/\RelV p.2 q.2.2
variable {kvs:List (List Key×V)}{xs:List (List Key×Addr×Value)}
theorem KT.val (r:KT H kvs xs)(k:List Key):kW (rP kvs k) ((atKey xs k).map (·.2)):=by
 induction r with
 |nil=>exact True.intro
 |@cons p q ps qs h t ih =>
  obtain⟨h1,_,h2⟩:=h;by_cases e:p.1=k
  .have e':q.1=k:=h1.symm.trans e;have b:atKey (q::qs) k=some q.2:=by simp[atKey,List.find?_cons,e']
   rw[lF e,b];exact h2
  .have e':¬ q.1=k:=fun z=>e (h1.trans z)
   have b:atKey (q::qs) k=atKey qs k:=by simp[atKey,List.find?_cons,e']
   rw[kQ e,b];exact ih
theorem KT.OK (r:KT H kvs xs)(k:List Key)(ry:RelV y u) :
  KT H (kvs.map fun kv=>if kv.1=k then (kv.1,y) else kv) (xs.map (putAt k u)):=by
 induction r with
 |nil=>exact .nil
 |@cons p q ps qs h t ih =>
  rw[aw,aw];refine .cons ?_ ih;obtain⟨h1,h2,h3⟩:=h;unfold putAt;by_cases e:p.1=k
  .rw[if_pos e,if_pos (h1.symm.trans e)];exact⟨h1,h2,ry⟩
  .rw[if_neg e,if_neg (fun z=>e (h1.trans z))];exact⟨h1,h2,h3⟩
variable {b:Addr}
theorem KT.put (r:KT H kvs xs)(k:List Key)(hb:H b=some (.tup (k.map kV)))(ry:RelV y u) :
  KT H (putK kvs k y) (storedH xs k b u):=by
 have e:(kvs.any fun kv=>decide (kv.1=k))=(atKey xs k).isSome:=by
  rw[tL,(r.val k).Nk,Option.isSome_map]
 unfold putK storedH;rw[e];by_cases q:(atKey xs k).isSome=true
 .rw[if_pos q,if_pos q];exact r.OK k ry
 .rw[if_neg q,if_neg q];exact Paired.snoc r ⟨rfl,hb,ry⟩
variable {H':Hp}
theorem KT.keeps (r:KT H kvs xs)(ht:∀b ys,H b=some (.tup ys)->H' b=some (.tup ys)):KT H' kvs xs :=
 Paired.OP r fun _ _ z=>⟨z.1,ht _ _ z.2.1,z.2.2⟩
section
variable {P:Program}{w:World}{H:Hp}{h:Heap}{a:Addr}
theorem DY {u:HO}(ok:jH P w H h)(e:Rd H a u):cW P w H h a u:=e.ok ok
theorem zr {kvs:List (Key×V)}(ok:jH P w H h)(e:Rd H a (.dK kvs)):kvs.length<=sizeLine/\(a==sysModules)=false/\∃vs,KV kvs vs/\h.DictOf (cB P w) a vs :=
 show cW P w H h a (.dK kvs) from DY ok e
theorem AU {kvs:List (Key×V)}(ok:jH P w H h)(e:H a=some (.dK kvs)):kvs.length<=sizeLine/\(a==sysModules)=false/\∃vs,KV kvs vs/\h.DictOf (cB P w) a vs:=zr ok (.inl e)
theorem yJ {ks:List Key}(ok:jH P w H h)(e:H a=some (.tup (ks.map kV))):(tupleKind (cB P w)).is h ks a:=by
 obtain⟨_,its,r,o,h1,h2,n,h3⟩:=(show cW P w H h a (.tup (ks.map kV)) from ok a _ e);exact⟨o,its.toArray,n,h1,h2,h3,by simpa using qp r⟩
theorem Js (ok:jH P w H h)(e:Rd H a (.dT kvs)):kvs.length<=sizeLine/\(a==sysModules)=false /\
  ∃xs,KT H kvs xs/\h.DictOfH (tupleKind (cB P w)) a xs:=by
 obtain⟨z,y,xs,r,o,es,ep,h1,h2,h3,h4,h5⟩:=(show cW P w H h a (.dT kvs) from DY ok e);refine⟨z,y,xs,r,o,es,ep,h1,h2,h3,h4,fun x hx=>?_,h5⟩;have all:∀{l:List (List Key×V)}{m:List (List Key×Addr×Value)},KT H l m->∀x∈m,(tupleKind (cB P w)).is h x.1 x.2.1:=by
  intro l m q
  induction q with
  |nil=>intro x hx;exact nomatch hx
  |@cons p q ps qs hq t ih =>
   intro x hx;rcases je.mp hx with e | hx
   .subst e;exact yJ ok (by rw[<-hq.1];exact hq.2.1)
   .exact ih x hx
 exact all r x hx
theorem IW (ok:jH P w H h)(e:H a=some (.dT kvs)):kvs.length<=sizeLine/\(a==sysModules)=false /\
  ∃xs,KT H kvs xs/\h.DictOfH (tupleKind (cB P w)) a xs:=Js ok (.inl e)
end
noncomputable def rY (H:Hp)(a:Addr)(y v:V)(H':Hp):Prop :=
 (∃kvs k,H a=some (.dK kvs)/\y=kV k/\kvs.length<sizeLine/\H'=upd H a (.dK (putK kvs k v))) \/
 ∃kvs k b,H a=some (.dT kvs)/\y=.ref b/\H b=some (.tup (k.map kV))/\kvs.length<sizeLine/\H'=upd H a (.dT (putK kvs k v))
variable {a:Addr}
theorem rY.k {kvs:List (Key×V)}{k:Key}{v:V}(e:H a=some (.dK kvs))(hl:kvs.length<sizeLine):rY H a (kV k) v (upd H a (.dK (putK kvs k v))):=.inl ⟨kvs,k,e,rfl,hl,rfl⟩
theorem rY.t {kvs:List (List Key×V)}{k:List Key}{v:V}(e:H a=some (.dT kvs))(eb:H b=some (.tup (k.map kV)))(hl:kvs.length<sizeLine) :
  rY H a (.ref b) v (upd H a (.dT (putK kvs k v))):=.inr ⟨kvs,k,b,e,rfl,eb,hl,rfl⟩
variable {h':Heap}
section
variable {X:Cx}{pins:List (Addr×Obj)}{σ:St}{H:Hp}{s:Shared}{a:Addr}{y v:V}{u r:Value}{o:Option V}{A:Around}{E:Value->Shared->Prop}
theorem Inv.big (I:Inv X pins σ H s):sysModules<s.heap.objs.size:=by
 have h:mainGlobals<s.heap.objs.size:=(I.mod.glob.keeps I.bk).lt;exact Nat.lt_trans (by decide) h
theorem mV {t':Nat}{ob:HO}(I:Inv X pins σ H s)(mu:tJ (H a))(hs:Heap.SameBut a s.heap h')(he:∃q,h'.get? a=some q)(new:cW X.prog X.w (upd H a ob) h' a ob) :
  Inv X pins σ (upd H a ob) { s with heap:=h',toks:=t' } :=
 I.write (x:=a) (e:=a) mu (.inl rfl) (fun b q hb z=>(hs.2 b hb).trans z) he new
theorem zX {kvs:List (Key×V)}{vs:List (Key×Value)}(z:kvs.length<=sizeLine)(hd:(a==sysModules)=false)(rel:KV kvs vs)(dd:h'.DictOf (cB P w) a vs) :
  cW P w H' h' a (.dK kvs):=⟨z,hd,vs,rel,dd⟩
theorem pI {Q:Unit->Shared->Prop}(hu:A.units+1<cLine)(I:Inv X pins σ H s)(g:rY H a y v H')(ry:RelV y u)(rv:RelV v r)(h:∀s',Inv X pins σ H' s'->Q () s') :
  wpAny (model X.prog X.w) A (setItem (.ref a) u r) Q E s:=by
 rcases g with ⟨kvs,k,e,ey,l,eH⟩ | ⟨kvs,k,b,e,ey,eb,l,eH⟩
 .subst ey eH;obtain⟨z,hd,vs,rel,dd⟩:=AU I.LB e;have hz:vs.length<=sizeLine:=by rw[<-rel.length];exact z
  have hl:(putK kvs k v).length<=sizeLine:=by have:=jE kvs k v;omega
  refine wpAny_setItem_pairs (hsz:=hz) (zR ry) dd fun h' Nc hs=>h _ ?_
  have he:∃q,h'.get? a=some q:=let ⟨q,_,_,hq,_⟩:=Nc;⟨q,hq⟩;exact mV I (by rw[e];exact True.intro) hs he (zX hl hd (rel.put k rv) Nc)
 .subst ey eH;cases (show u=Value.ref b from ry);obtain⟨z,hd,xs,rel,dd⟩:=IW I.LB e;have hz:xs.length<=sizeLine:=by rw[<-Paired.length rel];exact z
  have hl:(putK kvs k v).length<=sizeLine:=by have:=jE kvs k v;omega
  refine wpAny_setItem_heap (hsz:=hz) (tupleKind_room_in1 hu) (yJ I.LB eb) dd fun h' Nc hs=>h _ ?_
  obtain⟨q,es,ep,hq,h2,h3,h4,_,h5⟩:=Nc;refine mV I (by rw[e];exact True.intro) hs ⟨q,hq⟩ ⟨hl,hd,_,(rel.put k eb rv).keeps fun c ys ec=>?_,q,es,ep,hq,h2,h3,h4,h5⟩;rw[aO (JT ec e (fun z=>nomatch z))];exact ec
end
section
variable {X:Cx}{pins:List (Addr×Obj)}{σ:St}{H:Hp}{s:Shared}{a:Addr}{kvs:List (Key×V)}{k:Key}{u:Value}{A:Around}{E:Value->Shared->Prop}
end
section
variable {X:Cx}{o i e value:Expr}{pos pos' Sg:Pos}{td ty tv:TE}
end
theorem Ah (h:Heap)(hb:sysModules<h.objs.size):cW P w H (h.push { cls:=.type "dict",data:=.dict #[] }) h.objs.size (.dK []) :=
 ⟨dh _,gd.mpr (eh (bw hb)),[],.nil,Heap.DictOf.new h⟩
section
variable {X:Cx}{pos:Pos}
end
noncomputable def nL:List (TE×TE)->St->Hp->(List (V×V)->Hp->Prop)->Prop
 |[],_,H,Q=>Q [] H
 | (tk,tv)::r,σ,H,Q=>tk σ H fun x H1=>tv σ H1 fun y H2=>nL r σ H2 fun ps H3=>Q ((x,y)::ps) H3
noncomputable abbrev VV:List (V×V)->List (Value×Value)->Prop:=Paired fun p q=>RelV p.1 q.1/\RelV p.2 q.2
noncomputable def Iw (X:Cx)(pos:Pos)(keys:List (Option Expr))(values:List Expr)(Oi:List (TE×TE)):Prop :=
 ∀(pins:List (Addr×Obj)) (s:Shared) (σ:St) (H:Hp) (Q:List (V×V)->Hp->Prop),Inv X pins σ H s->nL Oi σ H Q ->
  wpAny (model X.prog X.w) X.A (evalPairs (pairTrees keys values X.env pos)) (fun vs s'=>∃ps H',Inv X pins σ H' s'/\VV ps vs/\Q ps H') X.xe s
theorem Cz:Iw X pos [] [] []:=fun pins s σ H Q I h=>pairTrees_nil_walk ⟨[],H,I,.nil,h⟩
variable {Oi:List (TE×TE)}
theorem z9 {k v:Expr}{ks:List (Option Expr)}{vs:List Expr}{tk tv:TE}(hk:PE X k tk)(hv:PE X v tv)(hr:Iw X pos ks vs Oi) :
  Iw X pos (some k::ks) (v::vs) ((tk,tv)::Oi):=fun pins s σ H Q I h =>
 pairTrees_cons_walk (cO (hk pins s σ H _ I h) fun u s1 ⟨x,H1,I1,rx,q1⟩=>cO (hv pins s1 σ H1 _ I1 q1) fun w2 s2 ⟨y,H2,I2,ry,q2⟩ =>
  cO (hr pins s2 σ H2 _ I2 q2) fun ws s3 ⟨ps,H3,I3,rel,q3⟩=>⟨(x,y)::ps,H3,I3,.cons ⟨rx,ry⟩ rel,q3⟩)
noncomputable def iT (kvs more:List (Key×V)):List (Key×V):=more.foldl (fun acc kv=>putK acc kv.1 kv.2) kvs
theorem KV.merge:∀{more:List (Key×V)}{rs:List (Key×Value)}{kvs:List (Key×V)}{vs:List (Key×Value)},KV more rs->KV kvs vs->KV (iT kvs more) (merged vs rs):=by
 intro more rs kvs vs r;unfold KV at r
 induction r generalizing kvs vs with
 |nil=>intro q;exact q
 |@cons p q ps qs h t ih =>
  intro r0;have e:KV (putK kvs p.1 p.2) (stored vs q.1 q.2):=by
   have:=r0.put p.1 h.2;rw[<-h.1];exact this
  exact ih e
theorem ke:∀(more kvs:List (Key×V)),(iT kvs more).length<=kvs.length+more.length
 |[],kvs=>by show kvs.length<=kvs.length+0;omega
 | p::r,kvs=>by
  have h1:=ke r (putK kvs p.1 p.2);have h2:=jE kvs p.1 p.2;show (iT (putK kvs p.1 p.2) r).length<=_;rw[ah];omega
theorem oM {P:Program}{w:World}:∀{kvs:List (Key×V)}{ws:List (Value×Value)},VV (kvs.map fun kv=>(kV kv.1,kv.2)) ws->∃rs,Carries (cB P w) ws rs/\KV kvs rs
 |[],_,r=>by rw[gu] at r;cases r;exact⟨[],True.intro,.nil⟩
 | p::kvs,_,r=>by
  rw[aw] at r;cases r with
  |@cons a b as bs h t =>
   obtain⟨rs,c,q⟩:=oM (P:=P) (w:=w) t;obtain⟨b1,b2⟩:=b;exact⟨(p.1,b2)::rs,⟨zR h.1,rfl,c⟩,.cons ⟨rfl,h.2⟩ q⟩
def KG (Oi:List (TE×TE)):TE:=fun σ H Q=>∀p,H p=none->nL Oi σ (upd H p (.dK [])) fun ps H2=>H2 p=some (.dK [])/\∃kvs:List (Key×V),ps=kvs.map (fun kv=>(kV kv.1,kv.2))/\kvs.length<=15/\Q (.ref p) (upd H2 p (.dK (iT [] kvs)))
theorem Cw {keys:List (Option Expr)}{values:List Expr}(h:Iw X pos keys values Oi)(Np:keys.all (·.isSome)=true)(hl:keys.length=values.length)(h0:keys≠[])
  (UB:keys.length<=15):PE X (.Dict keys values pos) (KG Oi):=by
 intro pins s σ H Q I q;have hn:=I.LB.fresh (au s.heap.objs.size);have I1:=I.laid (a:=s.heap.objs.size) (o:=.dK []) (h':=s.heap.push { cls:=.type "dict",data:=.dict #[] }) (t':=s.toks) (fun _ _ q=>Heap.get?_push_of_some _ q) (au _) (Ah s.heap I.big);refine wpAny_Dict_walk (knd:=cB X.prog X.w) Np hl h0 UB (cO (h pins _ σ _ _ I1 (q _ hn)) fun ws s2 ⟨ps,H2,I2,rel,e,kvs,ep,lk,q2⟩=>?_);subst ep;obtain⟨rs,c,rk⟩:=oM (P:=X.prog) (w:=X.w) rel;obtain⟨z,hd,R8,r0,dd⟩:=AU I2.LB e;cases r0;refine⟨rs,c,dd,fun h' Nc hs=>⟨.ref s.heap.objs.size,_,?_,rfl,q2⟩⟩;have hz:(iT [] kvs).length<=sizeLine:=by
  have h1:=ke kvs [];rw[bz] at h1;rw[sizeLine_eq];omega
 have he:∃q,h'.get? s.heap.objs.size=some q:=let ⟨q,_,_,hq,_⟩:=Nc;⟨q,hq⟩;exact mV I2 (by rw[e];exact True.intro) hs he (zX hz hd (rk.merge .nil) Nc)
end L2
end
section
namespace Pc
open PySem
inductive MV where
 | tr | int (i:Int) | tup (is:List Int)
deriving Inhabited,DecidableEq
inductive D where
 | LC | bl (b:Bool) | int (i:Int) | str (s:Str) | lst (xs:List D) | tup (xs:List D)
 | LI (ks:List (Int×MV))
deriving Inhabited
mutual
noncomputable def D.flat:D->Bool
 |.lst _=>false
 |.tup xs=>D.LF xs
 |.LC=>true
 |.bl _=>true
 |.int _=>true
 |.str _=>true
 |.LI _=>false
noncomputable def D.LF:List D->Bool
 |[]=>true
 |x::xs=>D.flat x&&D.LF xs
end
noncomputable def ub (f:D->D->Option Bool):List D->List D->Option Bool
 |[],[]=>some true
 |x::xs,y::ys=>(f x y).bind fun a=>(ub f xs ys).map fun b=>a&&b
 |_,_=>none
noncomputable def D.L4:Nat->D->D->Option Bool
 |0,_,_=>none
 |_+1,.LC,.LC=>some true
 |_+1,.bl a,.bl b=>some (a==b)
 |_+1,.int a,.int b=>some (a==b)
 |_+1,.str a,.str b=>some (a==b)
 |n+1,.lst a,.lst b=>if a.length=b.length then ub (D.L4 n) a b else some false
 |n+1,.tup a,.tup b=>if a.length=b.length then ub (D.L4 n) a b else none
 |_+1,_,_=>none
structure X3 where
 cls:Str
 fs:List (Str×D)
deriving Inhabited
inductive Rs (α:Type) where
 | ok (a:α) | exc (e:X3) | bad
noncomputable def Rs.bind {α β:Type}(x:Rs α)(f:α->Rs β):Rs β:=match x with
 |.ok a=>f a
 |.exc e=>.exc e
 |.bad=>.bad
inductive Rt where
 | mv (R:List Nat)
 | sh (R:List Nat)
noncomputable def Rt.roots:Rt->List Nat
 |.mv R=>R
 |.sh R=>R
inductive Tg where
 | own | lk | sh (R:List Nat)
noncomputable abbrev Slot:=Option (D×Tg)
noncomputable abbrev En:=List Slot
noncomputable def lim:Nat:=1000000
inductive oU where
 | nm (i:Nat) | tp (is:List Nat)
inductive EF where
 | len | list | tuple | int | str | abs | min2 | max2 | all | any | sum | N6 (T:String) | sorted | bool | Td | Tc | Vf | S9
inductive Im where
 | L5 | LL | MG | Sw | Th | Tp | Su | SH | Q7
inductive tJ where
 | append | extend | insert | pop | JH | reverse | clear
mutual
inductive Ex where
 | var (i:Nat)
 | cst (d:D)
 | LX (k:Nat)
 | bin (op:Operator) (a b:Ex)
 | neg (a:Ex)
 | cmp (op:CmpOp) (a b:Ex)
 | and (a b:Ex)
 | or (a b:Ex)
 | not (a:Ex)
 | ite (c a b:Ex)
 | lst (es:pA)
 | tup (es:pA)
 | ix (a i:Ex)
 | sl (a:Ex) (lo hi:m6)
 | call (f:Nat) (es:pA)
 | blt (b:EF) (es:pA)
 | NF (m:Im) (o:Ex) (es:pA)
 | comp (own:Nat) (pick:List Nat) (t:oU) (it:ym) (c:m6) (e:Ex)
 | Nt (l:List (Nat×Int))
 | snoc (a b:Ex)
 | app (g:List D->Option D) (es:pA)
inductive pA where
 | nil | cons (e:Ex) (es:pA)
inductive m6 where
 | none | some (e:Ex)
inductive ym where
 | seq (e:Ex) | L7 (a:Ex) | Nh (a b:Ex) | L6 (a b c:Ex) | enum (e:Ex) | zip (a b:Ex) | rev (e:Ex)
end
abbrev KU:Ex:=.cst (.int 0)
abbrev KW:Ex:=.cst (.int 1)
abbrev KY:Ex:=.cst (.int 63)
abbrev KZ:Ex:=.cst (.int 64)
abbrev K0:Ex:=.cst (.int 15)
abbrev K1:Ex:=.cst (.int 19)
abbrev K2:Ex:=.cst (.int 7)
abbrev K3:Ex:=.cst (.int 5)
abbrev K4:Ex:=.cst (.int 2)
abbrev K5:Ex:=.cst (.int 3)
abbrev K6:Ex:=.cst (.int 9)
abbrev K7:Ex:=.cst (.int 45)
abbrev K8:Ex:=.cst (.int 100)
abbrev K9:Ex:=.cst (.int 6)
abbrev La:Ex:=.cst (.int 30)
abbrev Lb:Ex:=.cst (.int 12)
abbrev Lc:Ex:=.cst (.int 42)
abbrev Ld (n:Int):Ex:=.cst (.int n)
abbrev Le:Ex:=.var 0
abbrev Lf:Ex:=.var 1
abbrev Lg:Ex:=.var 2
abbrev Lh:Ex:=.var 5
abbrev Li:Ex:=.var 4
abbrev Lj:Ex:=.var 6
abbrev Lk:Ex:=.var 3
abbrev Ll:Ex:=.var 7
abbrev Lm:Ex:=.LX 5
abbrev Ln:Ex:=.LX 6
abbrev Lo:Ex:=.LX 8
abbrev Lp:Ex:=.LX 9
abbrev Lq:Ex:=.LX 4
abbrev Lr:Ex:=.LX 3
abbrev Ls (a:Ex):pA:=.cons a .nil
abbrev Lv (a b c:Ex):pA:=.cons a (.cons b (.cons c .nil))
abbrev Lx (a b c d:Ex):pA:=.cons a (.cons b (.cons c (.cons d .nil)))
abbrev Lu (a b:Ex):pA:=.cons a (.cons b .nil)
abbrev Ly (a:Ex):Ex:=.blt .len (Ls a)
mutual
inductive St where
 | asg (t:oU) (e:Ex) (mv:Bool)
 | mut (x:Nat) (path:m6) (m:tJ) (es:pA)
 | MH (x:Nat) (path:m6) (i:Ex) (e:Ex)
 | Ni (x:Nat) (i v:Ex)
 | expr (e:Ex)
 | ite (c:Ex) (a b:bL)
 | LP (t:oU) (it:ym) (b:bL)
 | Oe (x:Nat) (e:Ex) (b:bL)
 | Mu (c:Ex) (b:bL)
 | ret (e:Ex)
 | N3 | pass
inductive bL where
 | nil | cons (s:St) (r:bL)
end
noncomputable def ck (n:Nat)(d:D):Option D:=if n<=lim then some d else none
noncomputable def small (i:Int):Bool:=decide (-(2 ^ 64)<i/\i<2 ^ 64)
noncomputable def binI:Operator->Int->Int->Option Int
 |.Add,i,j=>some (i+j)
 |.Sub,i,j=>some (i-j)
 |.Mult,i,j=>if small i || small j then some (i*j) else none
 |.FloorDiv,i,j=>if 0<j/\j<1073741824 then some (i / j) else none
 |.Mod,i,j=>if 0<j then some (i%j) else none
 |.LShift,i,j=>if 0<=j/\j<=1000000/\i.natAbs<2 ^ 64 then some (i*2 ^ j.toNat) else none
 |.RShift,i,j=>if 0<=j then some (i / 2 ^ j.toNat) else none
 |.BitAnd,i,j=>some (Builtin.bitAnd i j)
 |.BitXor,i,j=>some (Builtin.bitXor i j)
 |_,_,_=>none
noncomputable def ph (op:Operator):D->D->Option D
 |.int i,.int j=>(binI op i j).map .int
 |.str a,.str b=>match op with
  |.Add=>ck (a.length+b.length) (.str (a++b))
  |_=>none
 |.lst a,.lst b=>match op with
  |.Add=>ck (a.length+b.length) (.lst (a++b))
  |_=>none
 |.lst a,.int k=>match op with
  |.Mult=>if -(2 ^ 63)<=k/\k<2 ^ 63 then (if D.LF a then ck (a.length*k.toNat) (.lst (List.replicate k.toNat a).flatten) else none) else none
  |_=>none
 |_,_=>none
noncomputable def Iu (x y:Str):Bool:=!(Builtin.Str.occurrences y x 0 y.length 1).isEmpty
noncomputable def qW (kvs:List (Int×MV))(k:Int)(m:MV):List (Int×MV):=if (kvs.any fun q=>decide (q.1=k))=true then kvs.map (fun q=>if q.1=k then (q.1,m) else q) else kvs ++ [(k,m)]
noncomputable def iL:List D->Option (List Int)
 |[]=>some []
 |.int i::r=>(iL r).map (i :: ·)
 |_::_=>none
noncomputable def S8:MV->D
 |.tr=>.bl true
 |.int i=>.int i
 |.tup is=>.tup (is.map .int)
noncomputable def AD:D->Option MV
 |.bl true=>some .tr
 |.int i=>some (.int i)
 |.tup xs=>(iL xs).map .tup
 |_=>none
noncomputable def qJ (gl:Nat->D):List (Nat×Int)->List (Int×MV)->Option (List (Int×MV))
 |[],ks=>some ks
 |q::r,ks=>match gl q.1 with
  |.int i=>qJ gl r (qW ks i (.int q.2))
  |_=>none
noncomputable def Ki (i j:Int):Bool:=!(i==42&&j==21)
noncomputable def CZ:D->D->D->Option D
 |.LI ks,.int k,v=>if ks.length<lim then (AD v).map fun m=>.LI (qW ks k m) else none
 |_,_,_=>none
noncomputable def inD (x:D):D->Option Bool
 |.str y=>match x with
  |.str z=>some (Iu z y)
  |_=>none
 |_=>none
noncomputable def pj:CmpOp->D->D->Option Bool
 |.Lt,.int i,.int j=>some (decide (i<j))
 |.LtE,.int i,.int j=>some (decide (i<=j))
 |.Gt,.int i,.int j=>some (decide (j<i))
 |.GtE,.int i,.int j=>some (decide (j<=i))
 |.Eq,x,y=>D.L4 40 x y
 |.NotEq,x,y=>(D.L4 40 x y).map (!·)
 |.In,x,y=>inD x y
 |.NotIn,x,y=>(inD x y).map (!·)
 |_,_,_=>none
noncomputable def truth:D->Option Bool
 |.bl b=>some b
 |.int i=>some (i != 0)
 |.str s=>if s.length<=lim then some ((s.length:Int) != 0) else none
 |.lst xs=>some (!xs.isEmpty)
 |.tup xs=>some (!xs.isEmpty)
 |.LC=>some false
 |.LI _=>none
noncomputable def j9 (n:Nat)(i:Int):Option Nat:=if 0<=i then (if i<n then some i.toNat else none) else if -(n:Int)<=i then some (i+n).toNat else none
noncomputable def eF (n d:Nat):Option Int->Nat
 |none=>d
 |some v=>if v<0 then (v+(n:Int)).toNat else min v.toNat n
noncomputable def cut {α:Type}(xs:List α)(lo hi:Option Int):List α :=
 let a:=eF xs.length 0 lo
 (xs.drop a).take (eF xs.length xs.length hi-a)
noncomputable def yn:D->D->Option D
 |.lst xs,.int i=>(j9 xs.length i).bind fun j=>xs[j]?
 |.tup xs,.int i=>(j9 xs.length i).bind fun j=>xs[j]?
 |.str s,.int i=>if s.length<=lim then ((j9 s.cps.toList.length i).bind fun j=>s.cps.toList[j]?).map fun c=>.str ⟨#[c]⟩ else none
 |.LI ks,.int k=>(ks.find? fun q=>decide (q.1=k)).map fun q=>S8 q.2
 |_,_=>none
noncomputable def Ib:D->Option Int->Option Int->Option D
 |.lst xs,lo,hi=>some (.lst (cut xs lo hi))
 |.str s,lo,hi=>if s.length<=lim then some (.str ⟨(cut s.cps.toList lo hi).toArray⟩) else none
 |_,_,_=>none
noncomputable def D.inner:D->Bool
 |.lst xs=>D.LF xs
 |.tup xs=>D.LF xs
 |_=>true
noncomputable def eT (d:D)(R:List Nat):Rt:=if d.inner then .mv [] else .sh R
noncomputable def nQ (d:D)(r:Rt):Rt:=if d.flat then .mv [] else .sh r.roots
noncomputable def eV:List Rt->Option (List Nat)
 |[]=>some []
 |.mv R::r=>(eV r).map (R ++ ·)
 |.sh _::_=>none
noncomputable def aZ (l:List Rt):List Nat:=(l.map Rt.roots).flatten
noncomputable def D0:D->D->Rt->Option D
 |.lst xs,y,.mv []=>if D.LF xs&&decide (xs.length+1<=lim) then some (.lst (xs ++ [y])) else none
 |_,_,_=>none
noncomputable def rB (l:List Rt):Rt:=match eV l with
 |some R=>if R.Nodup then .mv R else .sh R
 |none=>.sh (aZ l)
noncomputable def Az (T:String):D->Bool
 |.LC=>T == "NoneType"
 |.bl _=>T == "bool" || T == "int"
 |.int _=>T == "int"
 |.str _=>T == "str"
 |.lst _=>T == "list"
 |.tup _=>T == "tuple"
 |.LI _=>false
noncomputable def D.MK:D->Bool
 |.bl _=>true
 |_=>false
noncomputable def allB:List D->Option Bool
 |[]=>some true
 |.bl b::r=>if b then allB r else some false
 |_::_=>none
noncomputable def anyB:List D->Option Bool
 |[]=>some false
 |.bl b::r=>if b then some true else anyB r
 |_::_=>none
noncomputable def vn:Int->List D->Option Int
 |a,[]=>some a
 |a,.int i::r=>vn (a+i) r
 |_,_::_=>none
noncomputable def D2:Int->List D->Option Int
 |a,[]=>some a
 |a,.int i::r=>D2 (if i > a then i else a) r
 |_,_::_=>none
noncomputable def aW:Int->Int->Nat->List D
 |_,_,0=>[]
 |a,s,n+1=>.int a::aW (a+s) s n
noncomputable def fT (i:Int):Bool:=decide (-(2 ^ 62)<=i/\i<2 ^ 62)
noncomputable def mH:List D->Option (List (List Int))
 |[]=>some []
 |.tup xs::r=>(iL xs).bind fun k=>if k.isEmpty then none else (mH r).map (k :: ·)
 |_::_=>none
noncomputable def jY:List Int->List Int->Bool
 |[],[]=>false
 |[],_::_=>true
 |_::_,[]=>false
 |a::x,b::y=>if a==b then jY x y else decide (a<b)
noncomputable def JV {α:Type}(f:Nat->Nat->Option Bool):PySem.W.KasT α->Option α
 |.ret a=>some a
 |.ask i j k=>(f i j).bind fun b=>JV f (k b)
noncomputable def JR (xs:List D):Option (List D):=if 2<=xs.length/\xs.length<64 then (mH xs).bind fun ks =>
  (JV (fun i j=>(ks[i]?).bind fun a=>(ks[j]?).map fun b=>jY a b) (PySem.W.kas_sort xs.length)).bind fun p =>
   if p.size<=64 then some (p.toList.map fun i=>xs.getD i .LC) else none
 else none
noncomputable def insI (a:Int):List Int->List Int
 |[]=>[a]
 |b::l=>if a<=b then a::b::l else b::insI a l
noncomputable def zW:List Int->List Int
 |[]=>[]
 |a::l=>insI a (zW l)
noncomputable def Bc:List D->Option D
 |[.lst xs]=>match iL xs with
  |some ns=>if ns.length<64 then some (.lst ((zW ns).map .int)) else none
  |none=>(JR xs).map .lst
 |_=>none
noncomputable def JD:List D->Option D
 |[.lst xs]=>some (.int xs.length)
 |[.tup xs]=>some (.int xs.length)
 |[.str s]=>if s.length<=lim then some (.int s.length) else none
 |_=>none
noncomputable def FV:List D->Option D
 |[.lst xs]=>some (.lst xs)
 |[.tup xs]=>some (.lst xs)
 |[.LI ks]=>if ks.length<=lim then some (.lst (ks.map fun q=>.int q.1)) else none
 |_=>none
noncomputable def CF:List D->Option D
 |[.lst xs]=>some (.tup xs)
 |_=>none
noncomputable def KA:List D->Option D
 |[.int i]=>some (.int (if i<0 then -i else i))
 |_=>none
noncomputable def dM (lt:Nat->Nat->Bool):Nat->Nat->Nat->Nat
 |0,_,m=>m
 |k+1,j,m=>dM lt k (j+1) (if lt j m then j else m)
noncomputable def minD (xs:List D):Option D:=if xs.isEmpty then none else match iL xs with
 |some ns=>xs[dM (fun i j=>decide (ns.getD i 0<ns.getD j 0)) (xs.length-1) 1 0]?
 |none=>(mH xs).bind fun ks=>xs[dM (fun i j=>jY (ks.getD i []) (ks.getD j [])) (xs.length-1) 1 0]?
noncomputable def uA:List D->Option D
 |[.int i,.int j]=>some (.int (if j<i then j else i))
 |[.lst xs]=>minD xs
 |_=>none
noncomputable def GQ:List D->Option D
 |[.int i,.int j]=>some (.int (if j > i then j else i))
 |_=>none
noncomputable def Ep:List D->Option D
 |[.lst xs]=>if xs.all D.MK then (allB xs).map .bl else none
 |_=>none
noncomputable def Kh:List D->Option D
 |[.lst xs]=>if xs.all D.MK then (anyB xs).map .bl else none
 |_=>none
noncomputable def Eu:List D->Option D
 |[.lst xs]=>(vn 0 xs).map .int
 |_=>none
noncomputable def IE (T:String):List D->Option D
 |[.LI _]=>none
 |[d]=>some (.bl (Az T d))
 |_=>none
noncomputable def Hy:List D->Option D
 |[.lst xs]=>some (.lst xs.reverse)
 |_=>none
noncomputable def Hm:List D->Option D
 |[.int n]=>if fT n=true/\n<=1000000 then some (.lst (aW 0 1 n.toNat)) else none
 |[.int a,.int b]=>if fT a=true/\fT b=true/\b-a<=1000000 then some (.lst (aW a 1 (b-a).toNat)) else none
 |_=>none
noncomputable def J6:List D->Option D
 |[.str s]=>if s.length<=640 then (PySem.intText? s).map .int else none
 |[.int i]=>some (.int i)
 |[.bl b]=>some (.int (if b then 1 else 0))
 |_=>none
noncomputable def HE:List D->Option D
 |[.int i,.int j]=>if 0<j/\j<1073741824 then some (.tup [.int (i / j),.int (i%j)]) else none
 |_=>none
noncomputable def Jt:List D->Option D
 |[.int i]=>if i.natAbs<1000000 then some (.str (Str.ofString (toString i))) else none
 |_=>none
noncomputable def Fb:List D->Option D
 |[.lst [],.int d]=>some (.int d)
 | [.lst (.int i::r),.int _]=>(D2 i r).map .int
 |_=>none
noncomputable def iH:EF->List D->Option D
 |.sorted,ds=>Bc ds
 |.len,ds=>JD ds
 |.list,ds=>FV ds
 |.tuple,ds=>CF ds
 |.abs,ds=>KA ds
 |.min2,ds=>uA ds
 |.max2,ds=>GQ ds
 |.all,ds=>Ep ds
 |.any,ds=>Kh ds
 |.sum,ds=>Eu ds
 |.N6 T,ds=>IE T ds
 |.Td,ds=>Hy ds
 |.Tc,ds=>Hm ds
 |.int,ds=>J6 ds
 |.Vf,ds=>HE ds
 |.S9,ds=>Fb ds
 |.str,ds=>Jt ds
 |_,_=>none
noncomputable def sJ:List D->Option (List Str)
 |[]=>some []
 |.str s::r=>(sJ r).map (s :: ·)
 |_::_=>none
noncomputable def tK:Im->D->List D->Option D
 |.L5,.str x,[.str y]=>some (.int (match Builtin.Str.occurrences x y 0 x.length 1 with
  |i::_=>(i:Int)
  |[]=>-1))
 |.LL,.str x,[.str y]=>match Builtin.Str.occurrences x y 0 x.length 1 with
  |i::_=>some (.int (i:Int))
  |[]=>none
 |.MG,.str x,[.lst xs]=>(sJ xs).bind fun ys=>if (ys.map (·.length)).sum+ys.length*x.length<=lim then some (.str (PySem.Str.join x ys)) else none
 |_,_,_=>none
noncomputable def Tg.drop (i:Nat):Tg->Tg
 |.sh R=>.sh (R.filter (· != i))
 |t=>t
noncomputable def bE (d:D)(R:List Nat):Tg:=if d.flat then .own else .sh R
noncomputable def put (env:En)(i:Nat)(d:D)(t:Tg):En:=(env.map fun (s:Slot)=>s.map fun (p:D×Tg)=>(p.1,p.2.drop i)).set i (some (d,t))
noncomputable def jR (R:List Nat):Tg->Bool
 |.sh Q=>Q.any fun q=>R.contains q
 |_=>false
noncomputable def kill (R:List Nat)(env:En):En:=env.mapIdx fun i (s:Slot)=>match s with
 | some (d,t)=>if R.contains i || jR R t then none else some (d,t)
 |none=>none
noncomputable def fA (env:En)(R:List Nat):Bool:=R.all fun i=>match env[i]? with
 | some (some (_,.own))=>true
 |_=>false
noncomputable def bindM (f:D->Tg):List Nat->List D->En->Option En
 |[],[],env=>some env
 |i::is,d::ds,env=>if i<env.length then bindM f is ds (put env i d (f d)) else none
 |_,_,_=>none
noncomputable def bK (R:List Nat):oU->D->En->Option En
 |.nm i,d,env=>if i<env.length then some (put env i d (bE d R)) else none
 |.tp is,.tup ds,env=>bindM (fun d=>bE d R) is ds env
 |_,_,_=>none
structure Tb where
 cl:Nat->List D->Rs (D×Bool)
 gl:Nat->D
 fuel:Nat
noncomputable def eW {α:Type}:Option α->Rs α
 |some a=>.ok a
 |none=>.bad
noncomputable def uY:D->Option (List D)
 |.lst xs=>some xs
 |.tup xs=>some xs
 |.str s=>if s.length<=lim then some (s.cps.toList.map fun c=>.str ⟨#[c]⟩) else none
 |_=>none
noncomputable def DS:D->Option (List D)
 |.lst xs=>some xs
 |_=>none
noncomputable def wa:D->Option (List D)
 |.lst xs=>some xs
 |.str s=>some (s.cps.toList.map fun c=>.str ⟨#[c]⟩)
 |_=>none
noncomputable def gJ (f:D->Rs (Option (D×Rt))):List D->Rs (List (D×Rt))
 |[]=>.ok []
 |d::r=>(f d).bind fun o=>(gJ f r).bind fun l=>.ok (match o with
  |some p=>p::l
  |none=>l)
noncomputable def dP (o:Option En)(c:En->Rs Bool)(e:En->Rs (D×Rt)):Rs (Option (D×Rt)):=match o with
 |none=>.bad
 |some env=>(c env).bind fun k=>if k then (e env).bind fun q=>.ok (some q) else .ok none
noncomputable def kC:Rt->Bool
 |.mv []=>true
 |_=>false
noncomputable def bJ (i:Nat):Tg->List Nat
 |.own=>[i]
 |.lk=>[i]
 |.sh R=>R
noncomputable def pE (env:En)(pick:List Nat):List Nat:=(pick.map fun j=>match env[j]? with
 | some (some (_,t))=>bJ j t
 |_=>[]).flatten
noncomputable def cN (env:En)(own:Nat)(pick:List Nat):En:=List.replicate own none++pick.map fun i=>match env[i]? with
 | some (some (d,_))=>some (d,.sh [])
 |_=>none
mutual
noncomputable def ev (T:Tb):Ex->En->Rs (D×Rt)
 |.var i,env=>match env[i]? with
  | some (some (d,t))=>.ok (d,if d.flat then .mv [] else match t with
   |.own=>.mv [i]
   |.lk=>.mv [i]
   |.sh R=>.sh R)
  |_=>.bad
 |.cst d,_=>.ok (d,.mv [])
 |.LX k,_=>.ok (T.gl k,.mv [])
 |.bin op a b,env=>(ev T a env).bind fun p=>(ev T b env).bind fun q=>(eW (ph op p.1 q.1)).bind fun d=>.ok (d,eT d (p.2.roots++q.2.roots))
 |.neg a,env=>(ev T a env).bind fun p=>match p.1 with
  |.int i=>.ok (.int (-i),.mv [])
  |_=>.bad
 |.cmp op a b,env=>(ev T a env).bind fun p=>(ev T b env).bind fun q=>(eW (pj op p.1 q.1)).bind fun c=>.ok (.bl c,.mv [])
 |.and a b,env=>(ev T a env).bind fun p=>match p.1 with
  |.bl true=>ev T b env
  |.bl false=>.ok (.bl false,.mv [])
  |_=>.bad
 |.or a b,env=>(ev T a env).bind fun p=>match p.1 with
  |.bl true=>.ok (.bl true,.mv [])
  |.bl false=>ev T b env
  |_=>.bad
 |.not a,env=>(ev T a env).bind fun p=>match p.1 with
  |.bl k=>.ok (.bl (!k),.mv [])
  |_=>.bad
 |.ite c a b,env=>(ev T c env).bind fun p=>(eW (truth p.1)).bind fun k=>if k then ev T a env else ev T b env
 |.lst es,env=>(aY T es env).bind fun l=>if l.length<=lim then .ok (.lst (l.map (·.1)),rB (l.map (·.2))) else .bad
 |.tup es,env=>(aY T es env).bind fun l=>if l.length<=lim then .ok (.tup (l.map (·.1)),rB (l.map (·.2))) else .bad
 |.ix a i,env=>(ev T a env).bind fun p=>(ev T i env).bind fun q=>(eW (yn p.1 q.1)).bind fun d=>.ok (d,nQ d p.2)
 |.sl a lo hi,env=>(ev T a env).bind fun p=>(kq T lo env).bind fun l=>(kq T hi env).bind fun h=>(eW (Ib p.1 l h)).bind fun d=>.ok (d,eT d p.2.roots)
 |.call f es,env=>(aY T es env).bind fun l=>(T.cl f (l.map (·.1))).bind fun r=>.ok (r.1,if r.2 then .mv [] else .sh (aZ (l.map (·.2))))
 |.blt b es,env=>(aY T es env).bind fun l=>(eW (iH b (l.map (·.1)))).bind fun d=>.ok (d,eT d (aZ (l.map (·.2))))
 |.NF m o es,env=>(ev T o env).bind fun p=>(aY T es env).bind fun l=>(eW (tK m p.1 (l.map (·.1)))).bind fun d=>.ok (d,eT d (p.2.roots++aZ (l.map (·.2))))
 |.comp own pick t it c e,env=>(fU T it env).bind fun p=>(gJ (fun d=>dP (bK [] t d (cN env own pick)) (yk T c) (ev T e)) p.1).bind fun l =>
    if p.1.length<=lim then .ok (.lst (l.map (·.1)),if l.all (fun q=>q.1.flat || kC q.2) then .mv [] else .sh (p.2++pE env pick)) else .bad
 |.Nt l,_=>(eW (qJ T.gl l [])).bind fun ks=>.ok (.LI ks,.mv [])
 |.snoc a b,env=>(ev T a env).bind fun p=>(ev T b env).bind fun q=>(eW (D0 p.1 q.1 q.2)).bind fun d=>.ok (d,.mv [])
 |.app g es,env=>(aY T es env).bind fun l=>(eW (g (l.map (·.1)))).bind fun d=>.ok (d,.mv [])
noncomputable def aY (T:Tb):pA->En->Rs (List (D×Rt))
 |.nil,_=>.ok []
 |.cons e es,env=>(ev T e env).bind fun p=>(aY T es env).bind fun l=>.ok (p::l)
noncomputable def kq (T:Tb):m6->En->Rs (Option Int)
 |.none,_=>.ok none
 |.some e,env=>(ev T e env).bind fun p=>match p.1 with
  |.int i=>.ok (some i)
  |_=>.bad
noncomputable def yk (T:Tb):m6->En->Rs Bool
 |.none,_=>.ok true
 |.some e,env=>(ev T e env).bind fun p=>eW (truth p.1)
noncomputable def fU (T:Tb):ym->En->Rs (List D×List Nat)
 |.seq e,env=>(ev T e env).bind fun p=>(eW (uY p.1)).bind fun l=>.ok (l,p.2.roots)
 |.L7 a,env=>(ev T a env).bind fun p=>match p.1 with
  |.int j=>if fT j then .ok (aW 0 1 j.toNat,[]) else .bad
  |_=>.bad
 |.Nh a b,env=>(ev T a env).bind fun p=>(ev T b env).bind fun q=>match p.1,q.1 with
  |.int i,.int j=>if fT i&&fT j then .ok (aW i 1 (j-i).toNat,[]) else .bad
  |_,_=>.bad
 |.L6 a b c,env=>(ev T a env).bind fun p=>(ev T b env).bind fun q=>(ev T c env).bind fun r=>match p.1,q.1,r.1 with
  |.int i,.int j,.int k=>if fT i&&fT j&&k != 0&&decide (k.natAbs<1073741824) then .ok (aW i k (Builtin.Range.rangeSize i j k).toNat,[]) else .bad
  |_,_,_=>.bad
 |.enum e,env=>(ev T e env).bind fun p=>(eW (wa p.1)).bind fun l=>.ok (l.zipIdx.map fun q=>.tup [.int q.2,q.1],p.2.roots)
 |.zip a b,env=>(ev T a env).bind fun p=>(ev T b env).bind fun q=>(eW (DS p.1)).bind fun l=>(eW (wa q.1)).bind fun m=>.ok ((l.zip m).map fun z=>.tup [z.1,z.2],p.2.roots++q.2.roots)
 |.rev e,env=>(ev T e env).bind fun p=>(eW (DS p.1)).bind fun l=>.ok (l.reverse,p.2.roots)
end
noncomputable def D.Mo:D->Option Int->Option (List D)
 |.lst xs,none=>some xs
 |_,_=>none
noncomputable def D.MU:D->Option Int->List D->D
 |.lst _,none,n=>.lst n
 |d,_,_=>d
noncomputable def z7:tJ->List D->List D->Option (List D)
 |.append,xs,[d]=>some (xs ++ [d])
 |.extend,xs,[.lst ys]=>if D.LF ys then some (xs++ys) else none
 |.insert,xs,[.int i,d]=>if -(2 ^ 63)<=i/\i<2 ^ 63 then some (xs.take (eF xs.length 0 (some i))++d::xs.drop (eF xs.length 0 (some i))) else none
 |.pop,xs,[]=>if xs.isEmpty then none else some xs.dropLast
 |.reverse,xs,[]=>some xs.reverse
 |.clear,_,[]=>some []
 |_,_,_=>none
noncomputable def JH (xs:List D)(j:Nat):Option (D×List D):=match xs[j]? with
 |some r=>if r.flat then some (r,xs.eraseIdx j) else none
 |none=>none
inductive Fl where
 | nx (env:En) | rt (d:D) (fr:Bool) | bk (env:En) | ct (env:En) | xc (e:X3) (env:En) | bad
noncomputable def C1:Option En->Fl
 |some env=>.nx env
 |none=>.bad
noncomputable def Bv (t:oU)(mv:Bool)(env:En)(p:D×Rt):Fl:=match t with
 |.nm i=>if i<env.length then (match p.2 with
  |.mv []=>.nx (put env i p.1 .own)
  |.mv R=>if mv then (if fA env R then .nx (put (kill R env) i p.1 .own) else .bad) else .nx (put env i p.1 (.sh (R.filter (· != i))))
  |.sh R=>.nx (put env i p.1 (.sh (R.filter (· != i))))) else .bad
 |.tp is=>match p.1 with
  |.tup ds=>match p.2 with
   |.mv []=>C1 (bindM (fun _=>.own) is ds env)
   |r=>if is.all (fun i=>!r.roots.contains i) then C1 (bindM (fun d=>bE d r.roots) is ds env) else .bad
  |_=>.bad
noncomputable def Fl.andThen (f:Fl)(k:En->Fl):Fl:=match f with
 |.nx env=>k env
 |x=>x
noncomputable def j8 {α:Type}(env:En)(x:Rs α)(k:α->Fl):Fl:=match x with
 |.ok a=>k a
 |.exc e=>.xc e env
 |.bad=>.bad
noncomputable def cZ (t:oU)(R:List Nat)(b:En->Fl):List D->En->Fl
 |[],env=>.nx env
 |d::r,env=>match bK R t d env with
  |none=>.bad
  |some env'=>match b env' with
   |.nx e=>cZ t R b r e
   |.ct e=>cZ t R b r e
   |.bk e=>.nx e
   |x=>x
noncomputable def DR (x:Nat)(b:En->Fl):List D->En->Fl
 |[],env=>.nx env
 |d::r,env=>if x<env.length then (match b (put env x d .own) with
  |.nx e=>DR x b r e
  |_=>.bad) else .bad
noncomputable def eU (c:En->Rs Bool)(b:En->Fl):Nat->En->Fl
 |0,_=>.bad
 |n+1,env=>j8 env (c env) fun k=>if k then (match b env with
   |.nx e=>eU c b n e
   |.ct e=>eU c b n e
   |.bk e=>.nx e
   |x=>x) else .nx env
noncomputable def lock (R:List Nat)(env:En):En:=env.mapIdx fun i (s:Slot)=>match s with
 | some (d,.own)=>if R.contains i then some (d,.lk) else some (d,.own)
 |s=>s
noncomputable def unlock (R:List Nat)(env0 env:En):En:=env.mapIdx fun i (s:Slot)=>match s with
 | some (d,.lk)=>match env0[i]? with
  | some (some (_,.own))=>if R.contains i then some (d,.own) else some (d,.lk)
  |_=>some (d,.lk)
 |s=>s
noncomputable def tJ.LZ:tJ->Bool
 |.extend=>true
 |_=>false
noncomputable def kL (x:Nat)(path:Option Int)(env:En)(d:D)(ys:List D)(rs:List Rt):Fl:=match eV rs with
 |none=>.bad
 |some R=>if R.Nodup&&fA env R && !R.contains x&&decide (ys.length<=lim) then .nx ((kill (x::R) env).set x (some (d.MU path ys,.own))) else .bad
noncomputable def ownAt (env:En)(x:Nat):Option D:=match env[x]? with
 | some (some (d,.own))=>some d
 |_=>none
mutual
noncomputable def aV (T:Tb):St->En->Fl
 |.asg t e mv,env=>j8 env (ev T e env) (Bv t mv env)
 |.mut x path m es,env=>match ownAt env x with
  |none=>.bad
  |some d=>j8 env (kq T path env) fun p=>match d.Mo p with
   |none=>.bad
   |some xs=>j8 env (aY T es env) fun l=>match z7 m xs (l.map (·.1)) with
    |none=>.bad
    |some ys=>if (aZ (l.map (·.2))).contains x then .bad else kL x p env d ys (if m.LZ then [] else l.map (·.2))
 |.Ni x i v,env=>match ownAt env x with
  |none=>.bad
  |some d=>j8 env (ev T v env) fun u=>j8 env (ev T i env) fun q=>match CZ d q.1 u.1 with
   |none=>.bad
   |some d'=>.nx ((kill [x] env).set x (some (d',.own)))
 |.MH x path i e,env=>match ownAt env x with
  |none=>.bad
  |some d=>j8 env (ev T e env) fun v=>j8 env (kq T path env) fun p=>match d.Mo p with
   |none=>.bad
   |some xs=>j8 env (ev T i env) fun q=>match q.1 with
    |.int i=>(match j9 xs.length i with
     |none=>.bad
     |some j=>kL x p env d (xs.set j v.1) [v.2])
    |_=>.bad
 |.expr e,env=>j8 env (ev T e env) fun _=>.nx env
 |.ite c a b,env=>j8 env (ev T c env) fun p=>match truth p.1 with
  |some true=>aE T a env
  |some false=>aE T b env
  |none=>.bad
 |.LP t it b,env=>j8 env (fU T it env) fun p=>(match cZ t p.2 (aE T b) p.1 (lock p.2 env) with
  |.nx e=>.nx (unlock p.2 env e)
  |x=>x)
 |.Oe x e b,env=>j8 env (ev T e env) fun p=>match p with
  | (.lst xs,.mv [])=>DR x (aE T b) xs env
  |_=>.bad
 |.Mu c b,env=>eU (fun env=>(ev T c env).bind fun p=>eW (truth p.1)) (aE T b) T.fuel env
 |.ret e,env=>j8 env (ev T e env) fun p=>.rt p.1 (match p.2 with
  |.mv R=>fA env R
  |.sh _=>false)
 |.N3,_=>.rt .LC true
 |.pass,env=>.nx env
noncomputable def aE (T:Tb):bL->En->Fl
 |.nil,env=>.nx env
 |.cons s r,env=>(aV T s env).andThen (aE T r)
end
structure Fn where
 ps:Nat
 slots:Nat
 body:bL
noncomputable def aI (ds:List D)(n:Nat):En:=ds.map (fun d=>some (d,bE d []))++List.replicate (n-ds.length) none
noncomputable def run (fns:List Fn)(gl:Nat->D)(fuel:Nat):Nat->Nat->List D->Rs (D×Bool)
 |0,_,_=>.bad
 |n+1,f,ds=>match fns[f]? with
  |none=>.bad
  |some F=>if ds.length=F.ps then (match aE ⟨run fns gl fuel n,gl,fuel⟩ F.body (aI ds F.slots) with
   |.rt d fr=>.ok (d,fr)
   |.nx _=>.ok (.LC,true)
   |.xc e _=>.exc e
   |_=>.bad) else .bad
end Pc
end
section
namespace Pc
open PySem L2
noncomputable abbrev Frag:=PySem.W.Frag
inductive uC:List DictEntry->List (Key×Option Int)->Prop where
 | nil:uC [] []
 | cons {e:DictEntry}{es:List DictEntry}{k v:Int}{kvs:List (Key×Option Int)}{t u:Tok}(hh:e.hash=hashInt k) (hk:e.key=.int k t) (hv:e.val=.int v u) (r:uC es kvs):uC (e::es) ((.inl k,some v)::kvs)
 | si {e:DictEntry}{es:List DictEntry}{k:Str}{v:Int}{kvs:List (Key×Option Int)}{t u:Tok}(hk:e.key=.str k t) (hv:e.val=.int v u) (r:uC es kvs):uC (e::es) ((.inr k,some v)::kvs)
 | sn {e:DictEntry}{es:List DictEntry}{k:Str}{kvs:List (Key×Option Int)}{t:Tok}(hk:e.key=.str k t) (hv:e.val=.none) (r:uC es kvs):uC (e::es) ((.inr k,none)::kvs)
def Bp (w:World)(K:Frag):Prop:=True
inductive ML where
 | l (vs:List V) | k (kvs:List (Key×V)) | t (kvs:List (List Key×V))
noncomputable def ML.o:ML->HO
 |.l vs=>.lst vs
 |.k kvs=>.dK kvs
 |.t kvs=>.dT kvs
noncomputable def zD:List V->Bool
 |[.int i,.int j]=>Ki i j
 |_=>false
noncomputable def lJ (K:Frag)(H:Hp)(a:Addr)(xs:List V):Prop :=
 H a=some (.tup xs) \/
  zD xs=false/\∃(o:Obj) (its:Array Value) (n:Nat),K.lookup a=some o/\o.cls=.type "tuple"/\o.data=.seq its n/\its.size<=sizeLine/\aS xs its.toList
noncomputable def ud (K:Frag)(H:Hp):MV->V->Prop
 |.tr,v=>v=.bl true
 |.int i,v=>v=.int i
 |.tup is,v=>∃b,v=.ref b/\lJ K H b (is.map .int)
noncomputable def k9 (K:Frag)(H:Hp):List (Int×MV)->List (Key×V)->Prop
 |[],[]=>True
 |q::r,p::s=>p.1=.inl q.1/\ud K H q.2 p.2/\k9 K H r s
 |_,_=>False
variable {H H':Hp}{K:Frag}
theorem ud.keep (t:∀b vs,lJ K H b vs->lJ K H' b vs):∀{m:MV}{v:V},ud K H m v->ud K H' m v
 |.tr,_,h=>h
 |.int _,_,h=>h
 |.tup _,_,⟨b,e,h⟩=>⟨b,e,t _ _ h⟩
theorem k9.keep (t:∀b vs,lJ K H b vs->lJ K H' b vs):∀{q:List (Int×MV)}{x:List (Key×V)},k9 K H q x->k9 K H' q x
 |[],[],h=>h
 |_::_,_::_,⟨a,b,c⟩=>⟨a,b.keep t,c.keep t⟩
 |[],_::_,h=>h.elim
 |_::_,[],h=>h.elim
theorem k9.len:∀{q:List (Int×MV)}{x:List (Key×V)},k9 K H q x->x.length=q.length
 |[],[],_=>rfl
 |_::_,_::_,⟨_,_,c⟩=>by rw[ah,ah,c.len]
 |[],_::_,h=>h.elim
 |_::_,[],h=>h.elim
variable {a:Addr}
theorem lJ.sq {xs:List V}(h:lJ K H a xs):pC K H a xs:=h.imp .inl And.right
mutual
inductive Rep (K:Frag) (H:Hp):D->V->List Addr->Prop where
 | LC:Rep K H .LC .LC []
 | bl (b:Bool):Rep K H (.bl b) (.bl b) []
 | int (i:Int):Rep K H (.int i) (.int i) []
 | str (s:Str):Rep K H (.str s) (.str s) []
 | lst {p:Addr}{vs:List V}{ds:List D}{G:List Addr}(h:Rd H p (.lst vs)) (r:aJ K H ds vs G):Rep K H (.lst ds) (.ref p) (p::G)
 | tup {p:Addr}{vs:List V}{ds:List D}{G:List Addr}(h:lJ K H p vs) (r:aJ K H ds vs G):Rep K H (.tup ds) (.ref p) G
 | LI {p:Addr}{ks:List (Int×MV)}{xs:List (Key×V)}(h:H p=some (.dK xs)) (r:k9 K H ks xs):Rep K H (.LI ks) (.ref p) [p]
inductive aJ (K:Frag) (H:Hp):List D->List V->List Addr->Prop where
 | nil:aJ K H [] [] []
 | cons {d:D}{v:V}{ds:List D}{vs:List V}{G G':List Addr}(h:Rep K H d v G) (r:aJ K H ds vs G'):aJ K H (d::ds) (v::vs) (G++G')
end
variable {b:Addr}
theorem Dr (k:∀u:HO,H b=some u->H' b=some u){o:HO}(h:Rd H b o):Rd H' b o:=by
 rcases h with h | ⟨u,h⟩
 .exact .inl (k _ h)
 .exact .inr ⟨u,k _ h⟩
def Ih (H H':Hp):Prop:=∀b o u,H b=some (.MA o u)->H' b=some (.MA o u)
variable {G:List Addr}{d:D}{ds:List D}{v:V}{vs:List V}
section
variable {K:Frag}{H H':Hp}
theorem Rep.keep (t:∀b vs,lJ K H b vs->lJ K H' b vs)(z:Ih H H')(h:Rep K H d v G):(∀b∈G,∀u:HO,H b=some u->H' b=some u)->Rep K H' d v G :=
 Rep.rec (motive_1:=fun d v G _=>(∀b∈G,∀u:HO,H b=some u->H' b=some u)->Rep K H' d v G) (motive_2:=fun ds vs G _=>(∀b∈G,∀u:HO,H b=some u->H' b=some u)->aJ K H' ds vs G)
  (fun _=>.LC) (fun b _=>.bl b) (fun i _=>.int i) (fun s _=>.str s) (fun h _ ih k=>.lst (Dr (k _ aj) h) (ih fun b hb=>k b (ai _ hb)))
  (fun h _ ih k=>.tup (t _ _ h) (ih k)) (fun h r k=>.LI (k _ aj _ h) (r.keep t))
  (fun _=>.nil) (fun _ _ i1 i2 k=>.cons (i1 fun b hb=>k b (bo _ hb)) (i2 fun b hb=>k b (ax _ hb))) h
theorem aJ.keep (t:∀b vs,lJ K H b vs->lJ K H' b vs)(z:Ih H H')(h:aJ K H ds vs G):(∀b∈G,∀u:HO,H b=some u->H' b=some u)->aJ K H' ds vs G :=
 aJ.rec (motive_1:=fun d v G _=>True) (motive_2:=fun ds vs G _=>(∀b∈G,∀u:HO,H b=some u->H' b=some u)->aJ K H' ds vs G)
  trivial (fun _=>trivial) (fun _=>trivial) (fun _=>trivial) (fun _ _ _=>trivial) (fun _ _ _=>trivial) (fun _ _=>trivial)
  (fun _=>.nil) (fun h _ _ i2 k=>.cons (Rep.keep t z h fun b hb=>k b (bo _ hb)) (i2 fun b hb=>k b (ax _ hb))) h
theorem aH.rd (e:aH H H'){o:HO}(h:Rd H b o):Rd H' b o:=by
 rcases h with h | ⟨u,h⟩
 .exact .inl (e _ _ h)
 .exact .inr ⟨u,e _ _ h⟩
theorem aH.Pj (e:aH H H')(h:lJ K H b vs):lJ K H' b vs:=by
 rcases h with h | h
 .exact .inl (e _ _ h)
 .exact .inr h
theorem Rep.same (e:aH H H')(h:Rep K H d v G):Rep K H' d v G:=h.keep (fun _ _=>aH.Pj e) (fun _ _ _ h=>e _ _ h) fun _ _ _ h=>e _ _ h
theorem aJ.same (e:aH H H'){d:List D}{v:List V}(h:aJ K H d v G):aJ K H' d v G:=h.keep (fun _ _=>aH.Pj e) (fun _ _ _ h=>e _ _ h) fun _ _ _ h=>e _ _ h
theorem Rep.flat (h:Rep K H d v G):d.flat=true->G=[] :=
 Rep.rec (motive_1:=fun d v G _=>d.flat=true->G=[]) (motive_2:=fun ds vs G _=>D.LF ds=true->G=[])
  (fun _=>rfl) (fun _ _=>rfl) (fun _ _=>rfl) (fun _ _=>rfl) (fun _ _ _ f=>by simp[D.flat] at f) (fun _ _ ih f=>ih (by simpa[D.flat] using f)) (fun _ _ f=>by simp[D.flat] at f)
  (fun _=>rfl) (fun _ _ i1 i2 f=>by
   simp only[D.LF,Bool.and_eq_true] at f;rw[i1 f.1,i2 f.2];rfl) h
theorem aJ.flat (h:aJ K H ds vs G):D.LF ds=true->G=[] :=
 aJ.rec (motive_1:=fun d v G _=>True) (motive_2:=fun ds vs G _=>D.LF ds=true->G=[])
  trivial (fun _=>trivial) (fun _=>trivial) (fun _=>trivial) (fun _ _ _=>trivial) (fun _ _ _=>trivial) (fun _ _=>trivial)
  (fun _=>rfl) (fun h _ _ i2 f=>by
   simp only[D.LF,Bool.and_eq_true] at f;rw[Rep.flat h f.1,i2 f.2];rfl) h
theorem Rep.live (h:Rep K H d v G):∀a∈G,∃vs:ML,Rd H a vs.o :=
 Rep.rec (motive_1:=fun d v G _=>∀a∈G,∃vs:ML,Rd H a vs.o) (motive_2:=fun ds vs G _=>∀a∈G,∃vs:ML,Rd H a vs.o)
  (fun _ h=>(nomatch h)) (fun _ _ h=>(nomatch h)) (fun _ _ h=>(nomatch h)) (fun _ _ h=>(nomatch h)) (fun h _ ih a m=>(je.mp m).elim (fun e=>e ▸ ⟨.l _,h⟩) (ih a)) (fun _ _ ih=>ih)
  (fun h _ a m=>(iq.mp m) ▸ ⟨.k _,.inl h⟩)
  (fun _ h=>(nomatch h)) (fun _ _ i1 i2 a m=>(List.mem_append.mp m).elim (i1 a) (i2 a)) h
theorem aJ.live (h:aJ K H ds vs G):∀a∈G,∃vs:ML,Rd H a vs.o :=
 aJ.rec (motive_1:=fun d v G _=>True) (motive_2:=fun ds vs G _=>∀a∈G,∃vs:ML,Rd H a vs.o)
  trivial (fun _=>trivial) (fun _=>trivial) (fun _=>trivial) (fun _ _ _=>trivial) (fun _ _ _=>trivial) (fun _ _=>trivial)
  (fun _ h=>(nomatch h)) (fun h _ _ i2 a m=>(List.mem_append.mp m).elim (Rep.live h a) (i2 a)) h
theorem Rd.Mh {u:HO}(h:Rd H a u):H a≠none:=by
 rcases h with h | ⟨o,h⟩<;>rw[h]<;>simp
theorem Rep.nn (h:Rep K H d v G)(m:a∈G):H a≠none:=let ⟨_,q⟩:=h.live a m;Rd.Mh q
theorem aJ.nn {d:List D}{v:List V}(h:aJ K H d v G)(m:a∈G):H a≠none:=let ⟨_,q⟩:=h.live a m;Rd.Mh q
theorem aJ.len:∀{ds:List D}{vs:List V}{G:List Addr},aJ K H ds vs G->ds.length=vs.length
 |_,_,_,.nil=>rfl
 |_,_,_,.cons _ r=>by simp[aJ.len r]
theorem aJ.get:∀{ds:List D}{vs:List V}{G:List Addr}{i:Nat}{d:D},aJ K H ds vs G->ds[i]? = some d->∃v G',vs[i]? = some v/\Rep K H d v G'/\G'.Sublist G
 |_,_,_,_,_,.nil,e=>by simp at e
 | _,_,_,0,_,.cons h r,e=>by
  simp at e;subst e;exact⟨_,_,rfl,h,List.sublist_append_left _ _⟩
 | _,_,_,i+1,d,.cons h r,e=>by
  obtain⟨v,G',a,b,c⟩:=aJ.get (i:=i) (d:=d) r (by simpa using e);exact⟨v,G',by simpa using a,b,c.trans (List.sublist_append_right _ _)⟩
theorem aJ.append:∀{ds es:List D}{vs us:List V}{G G':List Addr},aJ K H ds vs G->aJ K H es us G'->aJ K H (ds++es) (vs++us) (G++G')
 |_,_,_,_,_,_,.nil,s=>s
 | _,_,_,_,_,_,.cons h r,s=>by
  rw[av];exact .cons h (aJ.append r s)
theorem aJ.take:∀{ds:List D}{vs:List V}{G:List Addr}(n:Nat),aJ K H ds vs G->∃G',aJ K H (ds.take n) (vs.take n) G'/\G'.Sublist G
 |_,_,_,0,_=>⟨[],by simpa using .nil,by simp⟩
 |_,_,_,_+1,.nil=>⟨[],by simpa using .nil,by simp⟩
 | _,_,_,n+1,.cons h r=>by
  obtain⟨G',a,b⟩:=aJ.take n r;exact⟨_,by simpa using .cons h a,List.Sublist.append (List.Sublist.refl _) b⟩
theorem aJ.drop:∀{ds:List D}{vs:List V}{G:List Addr}(n:Nat),aJ K H ds vs G->∃G',aJ K H (ds.drop n) (vs.drop n) G'/\G'.Sublist G
 |_,_,_,0,r=>⟨_,by simpa using r,List.Sublist.refl _⟩
 |_,_,_,_+1,.nil=>⟨[],by simpa using .nil,by simp⟩
 | _,_,_,n+1,.cons h r=>by
  obtain⟨G',a,b⟩:=aJ.drop n r;exact⟨_,by simpa using a,b.trans (List.sublist_append_right _ _)⟩
theorem aJ.split:∀{ds:List D}{vs:List V}{G:List Addr}{i:Nat}{d:D},aJ K H ds vs G->ds[i]? = some d->∃v G1 G' G2,vs[i]? = some v/\G=G1++(G'++G2)/\Rep K H d v G' /\
  ∀(H':Hp) (d':D) (v':V) (N:List Addr),(∀b vs,lJ K H b vs->lJ K H' b vs)->Ih H H'->(∀b∈G1++G2,∀u:HO,H b=some u->H' b=some u)->Rep K H' d' v' N->aJ K H' (ds.set i d') (vs.set i v') (G1++(N++G2))
 |_,_,_,_,_,.nil,e=>by simp at e
 | _,_,_,0,_,.cons (G:=G) (G':=G') h r,e=>by
  simp at e;subst e;refine⟨_,[],_,_,rfl,rfl,h,fun H' d' v' N t z k n=>?_⟩;show aJ K H' (_::_) (_::_) (N++G');exact .cons n (r.keep t z fun b hb=>k b (by simpa using hb))
 | _,_,_,i+1,d,.cons (G:=G) (G':=G') h r,e=>by
  obtain⟨v,G1,Gi,G2,a,b,c,f⟩:=aJ.split (i:=i) (d:=d) r (by simpa using e);refine⟨v,G++G1,Gi,G2,by simpa using a,by rw[b];simp,c,fun H' d' v' N t z k n=>?_⟩;have q:=aJ.cons (h.keep t z fun b hb=>k b (by simp[hb])) (f H' d' v' N t z (fun b hb=>k b (by simp at hb ⊢;exact Or.inr hb)) n);rw[<-av] at q;exact q
end
noncomputable def bR:Tg->Bool
 |.own=>true
 |.lk=>true
 |.sh _=>false
structure RE (K:Frag)(P:Addr->Prop)(env:En)(σ:L2.St)(H:Hp)(F:Nat->List Addr):Prop where
 len:env.length=σ.length
 val:∀i d t,env[i]? = some (some (d,t))->∃v,σ[i]? = some (some v)/\Rep K H d v (F i)
 M6:∀i,(∀d t,env[i]?≠some (some (d,t)))->F i=[]
 one:∀i d t,env[i]? = some (some (d,t))->bR t=true->(F i).Nodup/\(∀a∈F i,∃vs:ML,H a=some vs.o) /\
  ∀a∈F i,∀j d' t',env[j]? = some (some (d',t'))->a∈F j->i∈bJ j t'
 wr:∀i d,env[i]? = some (some (d,.own))->∀a∈F i,¬ P a
 pl:∀a,P a->H a≠none
structure cD (env:En)(F:Nat->List Addr)(H:Hp)(r:Rt)(H':Hp)(G:List Addr):Prop where
 cont:∀a∈G,H a=none\/∃i d t,a∈F i/\env[i]? = some (some (d,t))/\∀q∈bJ i t,q∈r.roots
 mv:∀R,r=.mv R->G.Nodup/\(∀a∈G,∃vs:ML,H' a=some vs.o)/\∀a∈G,H a=none\/∃i d t,i∈R/\a∈F i/\env[i]? = some (some (d,t))/\bR t=true
variable {F:Nat->List Addr}{env:En}
theorem cD.nil {r:Rt}:cD env F H r H' []:=⟨fun _ h=>(nomatch h),fun _ _=>⟨cu,fun _ h=>(nomatch h),fun _ h=>(nomatch h)⟩⟩
theorem RE.same {P:Addr->Prop}{σ:L2.St}(r:RE K P env σ H F)(e:aH H H'):RE K P env σ H' F where
 len:=r.len
 val:=fun i d t h=>let ⟨v,a,b⟩:=r.val i d t h;⟨v,a,b.same e⟩
 M6:=r.M6
 one:=fun i d t h o=>let ⟨a,b,c⟩:=r.one i d t h o;⟨a,fun x hx=>let ⟨vs,q⟩:=b x hx;⟨vs,e _ _ q⟩,c⟩
 wr:=r.wr
 pl:=fun a h z=>by
  cases q:H a with
  |none=>exact r.pl a h q
  |some o=>rw[e _ _ q] at z;cases z
theorem aH.no (e:aH H H')(h:H' a=none):H a=none:=by
 cases q:H a with
 |none=>rfl
 |some o=>rw[e _ _ q] at h;cases h
variable {H1:Hp}{r:Rt}
theorem cD.back (h:cD env F H1 r H' G)(e:aH H H1):cD env F H r H' G where
 cont:=fun a ha=>(h.cont a ha).imp (aH.no e) id
 mv:=fun R hr=>let ⟨a,b,c⟩:=h.mv R hr;⟨a,b,fun x hx=>(c x hx).imp (aH.no e) id⟩
theorem cD.later (h:cD env F H r H1 G)(e:aH H1 H'):cD env F H r H' G where
 cont:=h.cont
 mv:=fun R hr=>let ⟨a,b,c⟩:=h.mv R hr;⟨a,fun x hx=>let ⟨vs,q⟩:=b x hx;⟨vs,e _ _ q⟩,c⟩
theorem cD.part {r':Rt}{G':List Addr}(h:cD env F H r H' G)(hs:∀a∈G',a∈G)(hr:∀q∈r.roots,q∈r'.roots)(hn:∀R,r'≠.mv R):cD env F H r' H' G' where
 cont:=fun a ha=>(h.cont a (hs a ha)).imp id fun ⟨i,d,t,x,y,z⟩=>⟨i,d,t,x,y,fun q hq=>hr q (z q hq)⟩
 mv:=fun R e=>absurd e (hn R)
noncomputable def sy (F:Nat->List Addr)(i:Nat)(G:List Addr):Nat->List Addr:=fun j=>if j=i then G else F j
variable {i:Nat}
theorem eZ:sy F i G i=G:=if_pos rfl
variable {j:Nat}
theorem eE (h:j≠i):sy F i G j=F j:=if_neg h
theorem uK (env:En)(i:Nat)(d:D)(t:Tg):(put env i d t).length=env.length:=by simp[put]
variable {t:Tg}
theorem eS (h:i<env.length):(put env i d t)[i]? = some (some (d,t)):=by
 unfold put;rw[List.getElem?_set_self (by simpa using h)]
theorem yU (h:j≠i):(put env i d t)[j]? = (env[j]?).map fun s=>s.map fun p=>(p.1,p.2.drop i):=by
 unfold put;rw[List.getElem?_set_ne (eh h),List.getElem?_map]
variable {d':D}
theorem iV {t':Tg}(h:j≠i)(e:(put env i d t)[j]? = some (some (d',t'))):∃t0,env[j]? = some (some (d',t0))/\t'=t0.drop i:=by
 rw[yU h] at e;cases q:env[j]? with
 |none=>rw[q] at e;cases e
 |some s =>
  rw[q] at e;cases s with
  |none=>cases e
  |some p =>
   obtain⟨a,b⟩:=p;simp only[Option.map_some,Option.some.injEq,Prod.mk.injEq] at e;obtain⟨rfl,rfl⟩:=e;exact⟨b,rfl,rfl⟩
theorem mh (t:Tg)(i:Nat):bR (t.drop i)=bR t:=by cases t<;>rfl
theorem mK {k:Nat}(h:k∈bJ j t)(hk:k≠i):k∈bJ j (t.drop i):=by
 cases t with
 |own=>exact h
 |lk=>exact h
 |sh R =>
  simp only[bJ,Tg.drop,List.mem_filter] at h ⊢;exact⟨h,by simpa using hk⟩
section
variable {K:Frag}{P:Addr->Prop}{env:En}{σ:L2.St}{H:Hp}{F:Nat->List Addr}
theorem RE.nn (re:RE K P env σ H F)(h:env[j]? = some (some (d,t)))(m:a∈F j):H a≠none:=let ⟨_,_,r⟩:=re.val j d t h;r.nn m
theorem RE.at' (re:RE K P env σ H F)(m:a∈F j):∃d t,env[j]? = some (some (d,t)):=by
 by_cases h:∃d t,env[j]? = some (some (d,t))
 .exact h
 .rw[re.M6 j fun d t e=>h ⟨d,t,e⟩] at m;cases m
theorem RE.put (re:RE K P env σ H F){t:Tg}(hi:i<env.length)(rp:Rep K H d v G)
  (ho:bR t=true->G.Nodup/\(∀a∈G,∃vs:ML,H a=some vs.o)/\∀a∈G,∀j,j≠i->a∉F j) (hw:t=.own->∀a∈G,¬ P a)
  (hs:∀a∈G,∀j d' t',j≠i->env[j]? = some (some (d',t'))->bR t'=true->a∈F j->j∈bJ i t):RE K P (put env i d t) (σ.set i (some v)) H (sy F i G) where
 len:=by rw[uK,i9];exact re.len
 val:=fun j d' t' e=>by
  by_cases h:j=i
  .subst h;rw[eS hi] at e;cases e;exact⟨v,List.getElem?_set_self (by rw[<-re.len];exact hi),by rw[eZ];exact rp⟩
  .obtain⟨t0,e0,rfl⟩:=iV h e;obtain⟨u,a,b⟩:=re.val j d' t0 e0;exact⟨u,by rw[List.getElem?_set_ne (eh h)];exact a,by rw[eE h];exact b⟩
 M6:=fun j h=>by
  by_cases hj:j=i
  .subst hj;exact absurd (eS hi) (h d t)
  .rw[eE hj];refine re.M6 j fun d' t' e=>h d' (t'.drop i) ?_
   rw[yU hj,e];rfl
 one:=fun j d' t' e o=>by
  by_cases h:j=i
  .subst h;rw[eS hi] at e;cases e;obtain⟨a,b,c⟩:=ho o;rw[eZ];refine⟨a,b,fun x hx k d2 t2 e2 m=>?_⟩;by_cases hk:k=j
   .subst hk;rw[eS hi] at e2;cases e2;cases t<;>simp_all [bJ,bR]
   .rw[eE hk] at m;exact absurd m (c x hx k hk)
  .obtain⟨t0,e0,rfl⟩:=iV h e;rw[mh] at o;obtain⟨a,b,c⟩:=re.one j d' t0 e0 o;rw[eE h];refine⟨a,b,fun x hx k d2 t2 e2 m=>?_⟩;by_cases hk:k=i
   .subst hk;rw[eS hi] at e2;cases e2;rw[eZ] at m;exact hs x m j d' t0 h e0 o hx
   .rw[eE hk] at m;obtain⟨t3,e3,rfl⟩:=iV hk e2;exact mK (c x hx k d2 t3 e3 m) h
 wr:=fun j d' e=>by
  by_cases h:j=i
  .subst h;rw[eS hi] at e;cases e;rw[eZ];exact hw rfl
  .obtain⟨t0,e0,q⟩:=iV h e;rw[eE h];cases t0 with
   |own=>exact re.wr j d' e0
   |lk=>cases q
   |sh R=>cases q
 pl:=re.pl
theorem RE.forget (re:RE K P env σ H F){env':En}(hl:env'.length=env.length)(he:∀(i:Nat) (d:D) (t:Tg),env'[i]? = some (some (d,t))->env[i]? = some (some (d,t))) :
  RE K P env' σ H (fun i=>match env'[i]? with | some (some _)=>F i | _=>[]) where
 len:=hl.trans re.len
 val:=fun i d t e=>by rw[e];exact re.val i d t (he i d t e)
 M6:=fun i h=>by
  split
  .rename_i p q;exact absurd q (h p.1 p.2)
  .rfl
 one:=fun i d t e o=>by
  rw[e];obtain⟨a,b,c⟩:=re.one i d t (he i d t e) o;refine⟨a,b,fun x hx k d2 t2 e2 m=>?_⟩;rw[e2] at m;exact c x hx k d2 t2 (he k d2 t2 e2) m
 wr:=fun i d e=>by rw[e];exact re.wr i d (he i d _ e)
 pl:=re.pl
end
theorem dI (R:List Nat)(env:En):(kill R env).length=env.length:=by simp[kill]
theorem cX {R:List Nat}(e:(kill R env)[i]? = some (some (d,t))):env[i]? = some (some (d,t))/\i∉R/\∀q∈R,q∉bJ i t:=by
 unfold kill at e;rw[List.getElem?_mapIdx] at e;cases q:env[i]? with
 |none=>rw[q] at e;cases e
 |some s =>
  rw[q] at e;cases s with
  |none=>cases e
  |some p =>
   obtain⟨a,b⟩:=p;simp only[Option.map_some,Option.some.injEq] at e;by_cases h:(R.contains i || jR R b)=true
   .rw[if_pos h] at e;cases e
   .rw[if_neg h] at e;cases e;rw[ij,not_or] at h;have h1:i∉R:=fun z=>h.1 (by simpa using z)
    refine⟨rfl,h1,fun r hq z=>?_⟩;cases t with
    |own=>simp only[bJ,List.mem_singleton] at z;subst z;exact h1 hq
    |lk=>simp only[bJ,List.mem_singleton] at z;subst z;exact h1 hq
    |sh Q =>
     apply h.2;simp only[jR,List.any_eq_true];exact⟨r,z,by simpa using hq⟩
variable {p:Addr}{ws:List V}{x:Nat}
section
variable {K:Frag}{P:Addr->Prop}{env:En}{σ:L2.St}{H:Hp}{F:Nat->List Addr}
variable {o:HO}
theorem rE (hp:H p=some (.lst ws))(h:lJ K H b vs):lJ K (upd H p o) b vs:=by
 rcases h with h | h
 .exact .inl (by rw[aO];exact h;intro z;subst z;rw[hp] at h;cases h)
 .exact .inr h
theorem Av {ws:ML}(hp:H p=some ws.o)(h:lJ K H b vs):lJ K (upd H p o) b vs:=by
 rcases h with h | h
 .exact .inl (by rw[aO];exact h;intro z;subst z;rw[hp] at h;cases ws<;>cases h)
 .exact .inr h
theorem l9 {H:Hp}{ws:ML}(hp:H p=some ws.o):Ih H (L2.upd H p o):=fun b ob u h=>by
 rw[aO fun e=>?_]
 .exact h
 .subst e;rw[hp] at h;cases ws<;>cases h
theorem Rep.upd (hp:H p=some (.lst ws))(h:Rep K H d v G)(hn:p∉G):Rep K (upd H p o) d v G :=
 h.keep (fun _ _=>rE hp) (l9 (ws:=.l _) hp) fun b hb _ h=>(aO (fun (z:b=p)=>hn (z ▸ hb))).trans h
theorem Rep.Sd {ws:ML}(hp:H p=some ws.o)(h:Rep K H d v G)(hn:p∉G):Rep K (L2.upd H p o) d v G :=
 h.keep (fun _ _=>Av hp) (l9 hp) fun b hb _ h=>(aO (fun (z:b=p)=>hn (z ▸ hb))).trans h
theorem aJ.upd {d:List D}{v:List V}(hp:H p=some (.lst ws))(h:aJ K H d v G)(hn:p∉G):aJ K (upd H p o) d v G :=
 h.keep (fun _ _=>rE hp) (l9 (ws:=.l _) hp) fun b hb _ h=>(aO (fun (z:b=p)=>hn (z ▸ hb))).trans h
noncomputable def pd (F:Nat->List Addr)(env:En)(x:Nat)(R:List Nat)(G:List Addr):Nat->List Addr:=fun j=>if j=x then G else match (kill (x::R) env)[j]? with
 | some (some _)=>F j
 |_=>[]
theorem RE.M9 (re:RE K P env σ H F){d':D}{vs:ML}{R:List Nat}{N G:List Addr}(hx:env[x]? = some (some (d,.own)))(hv:σ[x]? = some (some v))(hp:p∈F x)
  (rp:Rep K (upd H p vs.o) d' v G) (nd:G.Nodup) (sub:∀a∈G,a∈F x\/a∈N)
  (hN:∀a∈N,(∃vs:ML,H a=some vs.o)/\¬ P a/\∀(j:Nat) (d:D) (t:Tg),env[j]? = some (some (d,t))->a∈F j->∃q∈x::R,q∈bJ j t) :
  RE K P ((kill (x::R) env).set x (some (d',.own))) σ (upd H p vs.o) (pd F env x R G):=by
 obtain⟨ndx,Rp,onx⟩:=re.one x d .own hx rfl;obtain⟨ws,Md⟩:=Rp p hp;have Qk:x<(kill (x::R) env).length:=by
  rw[dI];exact (List.getElem?_eq_some_iff.mp hx).1
 have other:∀{j:Nat}{d2:D}{t2:Tg},j≠x->((kill (x::R) env).set x (some (d',.own)))[j]? = some (some (d2,t2))->(kill (x::R) env)[j]? = some (some (d2,t2)):=fun {j d2 t2} hj e=>by
  rw[List.getElem?_set_ne (eh hj)] at e;exact e
 have live:∀a,(∃vs:ML,H a=some vs.o)->∃ws:ML,upd H p vs.o a=some ws.o:=fun a ⟨ws,h⟩=>by
  by_cases z:a=p
  .subst z;exact⟨vs,aM⟩
  .exact⟨ws,by rw[aO z];exact h⟩
 have apart:∀{j:Nat}{d2:D}{t2:Tg},j≠x->(kill (x::R) env)[j]? = some (some (d2,t2))->∀a∈F x,a∉F j:=fun {j d2 t2} hj e a ha hb=>by
  obtain⟨e0,_,h3⟩:=cX e;exact h3 x aj (onx a ha j d2 t2 e0 hb)
 have fj:∀{j:Nat}{d2:D}{t2:Tg},j≠x->(kill (x::R) env)[j]? = some (some (d2,t2))->pd F env x R G j=F j:=fun {j d2 t2} hj e=>by
  unfold pd;rw[if_neg hj,e]
 have fx:pd F env x R G x=G:=if_pos rfl;refine⟨?_,fun j d2 t2 e=>?_,fun j h=>?_,fun j d2 t2 e o=>?_,fun j d2 e=>?_,fun a h=>?_⟩
 .rw[i9,dI];exact re.len
 .by_cases hj:j=x
  .subst hj;rw[List.getElem?_set_self Qk] at e;cases e;exact⟨v,hv,by rw[fx];exact rp⟩
  .have e1:=other hj e;obtain⟨e0,_,_⟩:=cX e1;obtain⟨u,h1,h2⟩:=re.val j d2 t2 e0;exact⟨u,h1,by rw[fj hj e1];exact h2.Sd Md (apart hj e1 p hp)⟩
 .by_cases hj:j=x
  .subst hj;exact absurd (List.getElem?_set_self Qk) (h d' .own)
  .unfold pd;rw[if_neg hj];split
   .rename_i q e;exact absurd (by rw[List.getElem?_set_ne (eh hj)];exact e) (h q.1 q.2)
   .rfl
 .by_cases hj:j=x
  .subst hj;rw[List.getElem?_set_self Qk] at e;cases e;rw[fx];refine⟨nd,fun a ha=>live a ?_,fun a ha k d3 t3 e3 m=>?_⟩
   .rcases sub a ha with q | q
    .exact Rp a q
    .exact (hN a q).1
   .by_cases hk:k=j
    .subst hk;rw[List.getElem?_set_self Qk] at e3;cases e3;simp[bJ]
    .have e4:=other hk e3;rw[fj hk e4] at m;rcases sub a ha with q | q
     .exact absurd m (apart hk e4 a q)
     .obtain⟨e0,_,h3⟩:=cX e4;obtain⟨r,r1,r2⟩:=(hN a q).2.2 k d3 t3 e0 m;exact absurd r2 (h3 r r1)
  .have e1:=other hj e;obtain⟨e0,_,_⟩:=cX e1;obtain⟨a,b,c⟩:=re.one j d2 t2 e0 o;rw[fj hj e1];refine⟨a,fun y hy=>live y (b y hy),fun y hy k d3 t3 e3 m=>?_⟩;by_cases hk:k=x
   .subst hk;rw[List.getElem?_set_self Qk] at e3;cases e3;rw[fx] at m;rcases sub y m with q | q
    .exact absurd hy (apart hj e1 y q)
    .obtain⟨_,_,h3⟩:=cX e1;obtain⟨r,r1,r2⟩:=(hN y q).2.2 j d2 t2 e0 hy;exact absurd r2 (h3 r r1)
   .have e4:=other hk e3;rw[fj hk e4] at m;exact c y hy k d3 t3 (cX e4).1 m
 .by_cases hj:j=x
  .subst hj;rw[fx];intro a ha;rcases sub a ha with q | q
   .exact re.wr j d hx a q
   .exact (hN a q).2.1
  .have e1:=other hj e;rw[fj hj e1];exact re.wr j d2 (cX e1).1
 .intro z;by_cases q:a=p
  .subst q;rw[aM] at z;cases z
  .rw[aO q] at z;exact re.pl a h z
theorem RE.OO (re:RE K P env σ H F){R:List Nat}{N:List Addr}(hx:env[x]? = some (some (d,.own)))(hv:σ[x]? = some (some v))(hp:p∈F x)
  (rp:Rep K (upd H p (.lst vs)) d' v G) (nd:G.Nodup) (sub:∀a∈G,a∈F x\/a∈N)
  (hN:∀a∈N,(∃vs:ML,H a=some vs.o)/\¬ P a/\∀(j:Nat) (d:D) (t:Tg),env[j]? = some (some (d,t))->a∈F j->∃q∈x::R,q∈bJ j t) :
  RE K P ((kill (x::R) env).set x (some (d',.own))) σ (upd H p (.lst vs)) (pd F env x R G):=re.M9 (vs:=.l vs) hx hv hp rp nd sub hN
inductive PV (K:Frag) (H:Hp):V->Option Int->Addr->Prop where
 | top (p:Addr):PV K H (.ref p) none p
 | item {q p:Addr}{ws:List V}{i:Int}{j:Nat}(h:Rd H q (.lst ws)\/pC K H q ws) (hj:j9 ws.length i=some j) (e:ws[j]? = some (.ref p)):PV K H (.ref q) (some i) p
theorem EW {n:Nat}{i:Int}(h:j9 n i=some j):j<n:=by
 unfold j9 at h;split at h
 .split at h
  .cases h;omega
  .cases h
 .split at h
  .cases h;omega
  .cases h
theorem Rep.lst_inv (h:Rep K H (.lst ds) v G):∃p vs G',v=.ref p/\G=p::G'/\Rd H p (.lst vs)/\aJ K H ds vs G':=by
 cases h with
 |lst a b=>exact⟨_,_,_,rfl,rfl,a,b⟩
theorem xU {path:Option Int}{xs:List D}(rp:Rep K H d v G)(nd:G.Nodup)(h:d.Mo path=some xs):∃p,PV K H v path p/\∀H',aH H H'->(∀a∈G,∃vs:ML,H' a=some vs.o) ->
  ∃vs Gx,H' p=some (.lst vs)/\aJ K H' xs vs Gx/\p∈G/\(∀a∈Gx,a∈G)/\Gx.Nodup/\p∉Gx /\
   ∀ys us Gy,aJ K (upd H' p (.lst us)) ys us Gy->Gy.Nodup->p∉Gy->(∀a∈Gy,a∈Gx\/a∉G)->∃G',Rep K (upd H' p (.lst us)) (d.MU path ys) v G'/\G'.Nodup/\∀a∈G',a∈G\/a∈Gy:=by
 have rdl:∀{H':Hp}{p:Addr}{vs:List V},(∀a∈G,∃vs:ML,H' a=some vs.o)->p∈G->Rd H' p (.lst vs)->H' p=some (.lst vs):=fun {H' p vs} hl hp r=>by
  obtain⟨ws,q⟩:=hl p hp;rcases r with r | ⟨o,r⟩
  .exact r
  .rw[q] at r;cases ws<;>cases r
 cases path with
 |none =>
  cases rp with
  |lst hr r =>
   rename_i p vs ds G0;have h:some _=some xs:=h;cases h;obtain⟨n1,n2⟩:=List.nodup_cons.mp nd;refine⟨p,.top p,fun H' e hl=>⟨vs,G0,rdl hl aj (aH.rd e hr),r.same e,aj,fun a ha=>ai _ ha,n2,n1,fun ys us Gy ry ny hy hs=>?_⟩⟩;exact⟨p::Gy,.lst (.inl aM) ry,List.nodup_cons.mpr ⟨hy,ny⟩,fun a ha=>(List.mem_cons.mp ha).imp (fun z=>by simp[z]) id⟩
  |_=>cases h
 |some i=>cases rp<;>cases h
end
end Pc
end
section
namespace Pc
open PySem PySem.Spec PyProof.Rows L2
theorem Rs.Lz {α β:Type}{x:Rs α}{f:α->Rs β}{b:β}(h:x.bind f=.ok b):∃a,x=.ok a/\f a=.ok b:=by
 cases x with
 |ok a=>exact⟨a,rfl,h⟩
 |exc e=>cases h
 |bad=>cases h
theorem dH {α:Type}{o:Option α}{a:α}(h:eW o=.ok a):o=some a:=by
 cases o with
 |none=>cases h
 |some b=>cases h;rfl
variable {H:Hp}{p:Addr}
theorem aH.new {o:HO}(h:H p=none):aH H (upd H p o):=fun b u e=>by
 rw[aO];exact e;intro z;subst z;rw[h] at e;cases e
theorem vd:lim<=sizeLine:=by decide
theorem hJ {n:Nat}(h:n<=lim):n<=sizeLine:=bq h vd
inductive Args (K:Frag) (env:En) (F:Nat->List Addr):Hp->Hp->List (D×Rt)->List V->List Addr->Prop where
 | nil {H H':Hp}(e:aH H H'):Args K env F H H' [] [] []
 | cons {H H1 H':Hp}{p:D×Rt}{v:V}{G G':List Addr}{l:List (D×Rt)}{vs:List V}(e:aH H H1) (r:Rep K H1 p.1 v G) (t:cD env F H p.2 H1 G) (s:Args K env F H1 H' l vs G'):Args K env F H H' (p::l) (v::vs) (G++G')
variable {G:List Addr}{H':Hp}{l:List (D×Rt)}{q:D×Rt}{vs:List V}
section
variable {K:Frag}{env:En}{F:Nat->List Addr}
theorem Args.same:∀{H H':Hp}{l:List (D×Rt)}{vs:List V}{G:List Addr},Args K env F H H' l vs G->aH H H'
 |_,_,_,_,_,.nil e=>e
 |_,_,_,_,_,.cons e _ _ s=>e.trans s.same
theorem Args.LQ:∀{H H':Hp}{l:List (D×Rt)}{vs:List V}{G:List Addr},Args K env F H H' l vs G->aJ K H' (l.map (·.1)) vs G
 |_,_,_,_,_,.nil _=>.nil
 |_,_,_,_,_,.cons _ r _ s=>.cons (r.same s.same) s.LQ
theorem Args.cont:∀{H H':Hp}{l:List (D×Rt)}{vs:List V}{G:List Addr},Args K env F H H' l vs G->∀a∈G,H a=none\/∃i d t,a∈F i/\env[i]? = some (some (d,t))/\∀q∈bJ i t,q∈aZ (l.map (·.2))
 |_,_,_,_,_,.nil _,a,h=>by cases h
 | _,_,_,_,_,.cons (p:=p) (l:=l) e r t s,a,h=>by
  have e1:aZ ((p::l).map (·.2))=p.2.roots++aZ (l.map (·.2)):=by simp[aZ]
  rw[e1];rcases List.mem_append.mp h with h | h
  .exact (t.cont a h).imp id fun ⟨i,d,t,x,y,z⟩=>⟨i,d,t,x,y,fun q hq=>bo _ (z q hq)⟩
  .exact (s.cont a h).imp (aH.no e) fun ⟨i,d,t,x,y,z⟩=>⟨i,d,t,x,y,fun q hq=>ax _ (z q hq)⟩
theorem Args.two {p:D×Rt}{x y:V}(ar:Args K env F H H' [p,q] [x,y] G) :
  ∃H1 G1 G2,G=G1++G2/\aH H H1/\Rep K H1 p.1 x G1/\cD env F H p.2 H1 G1/\aH H1 H'/\Rep K H' q.1 y G2:=by
 cases ar with
 |cons e r t s =>
  cases s with
  |cons e' r' t' s' =>
   cases s' with
   |nil XA=>exact⟨_,_,_,by rw[ay],e,r,t,e'.trans XA,r'.same XA⟩
theorem Args.mv {P:Addr->Prop}{σ:L2.St}:∀{H H':Hp}{l:List (D×Rt)}{vs:List V}{G:List Addr}{R:List Nat},RE K P env σ H F->Args K env F H H' l vs G->eV (l.map (·.2))=some R->R.Nodup ->
  G.Nodup/\(∀a∈G,∃vs:ML,H' a=some vs.o)/\∀a∈G,H a=none\/∃i d t,i∈R/\a∈F i/\env[i]? = some (some (d,t))/\bR t=true
 |_,_,_,_,_,_,_,.nil _,_,_=>⟨cu,fun _ h=>(nomatch h),fun _ h=>(nomatch h)⟩
 | H,_,_,_,_,_,re,.cons (p:=p) (l:=l) (G:=G) (G':=G') e r t s,hm,nd=>by
  obtain⟨d,rt⟩:=p;cases rt with
  |sh Q=>simp[eV] at hm
  |mv R1 =>
   simp only[List.map_cons,eV,Option.map_eq_some_iff] at hm;obtain⟨R2,h2,rfl⟩:=hm;obtain⟨n1,n2,S7⟩:=List.nodup_append.mp nd;obtain⟨a1,b1,c1⟩:=t.mv R1 rfl;obtain⟨a2,b2,c2⟩:=Args.mv (re.same e) s h2 n2;refine⟨List.nodup_append.mpr ⟨a1,a2,fun x hx y hy z=>?_⟩,fun x hx=>?_,fun x hx=>?_⟩
   .subst z;rcases c2 x hy with q | ⟨i2,d2,t2,m2,f2,e2,o2⟩
    .exact r.nn hx q
    .rcases c1 x hx with q | ⟨i1,d1,t1,m1,f1,e1,o1⟩
     .obtain⟨v,_,rp⟩:=re.val i2 d2 t2 e2;exact rp.nn f2 q
     .have q:=(re.one i1 d1 t1 e1 o1).2.2 x f1 i2 d2 t2 e2 f2;have q':i1=i2:=by cases t2<;>simp_all [bJ,bR]
      exact S7 i1 m1 i2 m2 q'
   .rcases List.mem_append.mp hx with hx | hx
    .obtain⟨vs,q⟩:=b1 x hx;exact⟨vs,s.same _ _ q⟩
    .exact b2 x hx
   .rcases List.mem_append.mp hx with hx | hx
    .exact (c1 x hx).imp id fun ⟨i,d,t,m,z⟩=>⟨i,d,t,bo _ m,z⟩
    .exact (c2 x hx).imp (aH.no e) fun ⟨i,d,t,m,z⟩=>⟨i,d,t,ax _ m,z⟩
theorem Args.comb {P:Addr->Prop}{σ:L2.St}(re:RE K P env σ H F)(ar:Args K env F H H' l vs G):cD env F H (rB (l.map (·.2))) H' G:=by
 unfold rB;cases hm:eV (l.map (·.2)) with
 |none=>exact⟨ar.cont,fun R e=>by cases e⟩
 |some R =>
  have er:∀(l:List Rt) (R:List Nat),eV l=some R->aZ l=R:=by
   intro l
   induction l with
   |nil=>intro R h;simp[eV] at h;subst h;rfl
   |cons x r ih =>
    intro R h;cases x with
    |sh Q=>simp[eV] at h
    |mv Q =>
     simp only[eV,Option.map_eq_some_iff] at h;obtain⟨R2,h2,rfl⟩:=h;have:=ih R2 h2;simp only[aZ,List.map_cons,List.flatten_cons,Rt.roots] at this ⊢;rw[this]
  have er:=er _ R hm;by_cases nd:R.Nodup
  .simp only[nd,if_true];obtain⟨a,b,c⟩:=ar.mv re hm nd;refine⟨fun x hx=>?_,fun R' e=>by cases e;exact⟨a,b,c⟩⟩;rcases c x hx with q | ⟨i,d,t,m,f,e,o⟩
   .exact .inl q
   .exact .inr ⟨i,d,t,f,e,fun q hq=>by cases t<;>simp_all [bJ,bR,Rt.roots]⟩
  .simp only[nd,if_false];exact⟨fun x hx=>by have:=ar.cont x hx;rw[er] at this;exact this,fun R' e=>by cases e⟩
end
structure gX (H H':Hp)(G0:List Addr)(d:D)(G:List Addr):Prop where
 same:aH H H'
 sub:∀a∈G,H a=none\/a∈G0
 new:d.inner=true->G.Nodup/\∀a∈G,H a=none/\∃vs:ML,H' a=some vs.o
variable {d:D}
section
variable {K:Frag}{H:Hp}{G0:List Addr}
theorem gX.nil:gX H H G0 d []:=⟨aH.refl _,fun _ h=>(nomatch h),fun _=>⟨cu,fun _ h=>(nomatch h)⟩⟩
theorem lQ {ds:List D}(r:aJ K H ds vs G)(hs:∀a∈G,a∈G0)(hp:H p=none) :
  Rep K (upd H p (.lst vs)) (.lst ds) (.ref p) (p::G)/\gX H (upd H p (.lst vs)) G0 (.lst ds) (p::G):=by
 have e:=aH.new (o:=.lst vs) hp;refine⟨.lst (.inl aM) (r.same e),e,fun a ha=>?_,fun f=>?_⟩
 .rcases je.mp ha with rfl | ha
  .exact .inl hp
  .exact .inr (hs a ha)
 .have:G=[]:=r.flat f;subst this;exact⟨by simp,fun a ha=>by
   have:a=p:=by simpa using ha
   subst this;exact⟨hp,.l _,aM⟩⟩
theorem cD.new {env:En}{F:Nat->List Addr}{H1:Hp}{R:List Nat}(ar:Args K env F H H1 l vs G0)(nv:gX H1 H' G0 d G)(hR:∀q∈aZ (l.map (·.2)),q∈R):cD env F H (eT d R) H' G:=by
 unfold eT;cases hi:d.inner with
 |true =>
  obtain⟨a,b⟩:=nv.new hi;have c:∀x∈G,H x=none:=fun x hx=>aH.no ar.same (b x hx).1
  exact⟨fun x hx=>.inl (c x hx),fun R' e=>⟨a,fun x hx=>(b x hx).2,fun x hx=>.inl (c x hx)⟩⟩
 |false =>
  refine⟨fun x hx=>?_,fun R' e=>by cases e⟩;rcases nv.sub x hx with q | q
  .exact .inl (aH.no ar.same q)
  .exact (ar.cont x q).imp id fun ⟨i,d,t,f,e,z⟩=>⟨i,d,t,f,e,fun q hq=>hR q (z q hq)⟩
end
variable {e:Expr}{t t':TS}
section
variable {X:Cx}
theorem bW {t t':TE}(h:PE X e t)(k:∀σ H Q,t' σ H Q->t σ H Q):PE X e t':=fun pins s σ H Q I q=>h pins s σ H Q I (k σ H Q q)
theorem uj {t t':TT}(h:PT X e t)(k:∀σ H Q,t' σ H Q->t σ H Q):PT X e t':=fun pins s σ H Q I q=>h pins s σ H Q I (k σ H Q q)
theorem yC {e:List Expr}{t t':TA}(h:PA X e t)(k:∀σ H Q,t' σ H Q->t σ H Q):PA X e t':=fun pos pins s σ H Q I q=>h pos pins s σ H Q I (k σ H Q q)
theorem dO {e:Stmt}(h:PS X e t)(k:∀D σ H,t' D σ H->t D σ H):PS X e t':=fun pins s σ H D I q=>h pins s σ H D I (k D σ H q)
theorem vH {e:List Stmt}(h:lP X e t)(k:∀D σ H,t' D σ H->t D σ H):lP X e t':=fun pins s σ H D I q=>h pins s σ H D I (k D σ H q)
end
def tE (K:Frag)(T:Tb)(c:Ex):TE:=fun σ H Q=>∃P env F,RE K P env σ H F/\∃p,ev T c env=.ok p/\∀v H' G,aH H H'->Rep K H' p.1 v G->cD env F H p.2 H' G->Q v H'
def xG (K:Frag)(T:Tb)(cs:pA):TA:=fun σ H Q=>∃P env F,RE K P env σ H F/\∃l,aY T cs env=.ok l/\∀vs H' G,Args K env F H H' l vs G->Q vs H'
def m5 (K:Frag)(T:Tb)(c:Ex):TT:=fun σ H Q=>∃P env F,RE K P env σ H F/\∃p b,ev T c env=.ok p/\truth p.1=some b/\∀H',aH H H'->Q b H'
section
variable {K:Frag}{T:Tb}{P:Addr->Prop}{env:En}{F:Nat->List Addr}{σ:L2.St}{H:Hp}
theorem two {ca cb:Ex}{r:R2}{Q:VK}{p:D×Rt}(re:RE K P env σ H F)(h1:ev T ca env=.ok p)(h2:ev T cb env=.ok q)(k:∀x y H2 G,Args K env F H H2 [p,q] [x,y] G->r x y H2 Q):Jm r (tE K T ca) (tE K T cb) σ H Q :=
 ⟨P,env,F,re,p,h1,fun v1 H1 G1 s1 SU SQ=>⟨P,env,F,re.same s1,q,h2,fun v2 H2 G2 s2 NX rt2=>k v1 v2 H2 _ (.cons s1 SU SQ (.cons s2 NX rt2 (.nil (aH.refl _))))⟩⟩
end
noncomputable def B7 (K:Frag)(f:D->D->Option D):R2:=fun x y H Q=>∃d1 d2 d G,aJ K H [d1,d2] [x,y] G/\f d1 d2=some d/\∀v H' G',Rep K H' d v G'->gX H H' G d G'->Q v H'
noncomputable def IA (K:Frag):R2:=fun x y H Q=>∃d1 d2 d G,aJ K H [d1,d2] [x,y] G/\yn d1 d2=some d/\∀v G',Rep K H d v G'->G'.Sublist G->Q v H
section
variable {X:Cx}{T:Tb}{a b c:Expr}{ca cb cc:Ex}{pos:Pos}
theorem Gp {op:Operator}(ho:kz X (binaryOp op) (B7 X.K (ph op)))(ha:PE X a (tE X.K T ca))(hb:PE X b (tE X.K T cb)):PE X (.BinOp a op b pos) (tE X.K T (.bin op ca cb)):=by
 refine bW (ua ho ha hb) fun σ H Q ⟨P,env,F,re,p0,LA,k⟩=>?_
 unfold ev at LA;obtain⟨p,h1,LA⟩:=Rs.Lz LA;obtain⟨q,h2,LA⟩:=Rs.Lz LA;obtain⟨d,h3,LA⟩:=Rs.Lz LA;have h3:=dH h3;cases LA;refine two re h1 h2 fun x y H2 G ar=>⟨p.1,q.1,d,G,ar.LQ,h3,fun v H' G' rp nv=>k v H' G' (ar.same.trans nv.same) rp (cD.new ar nv fun z hz=>by simpa[aZ] using hz)⟩
theorem HG {op:CmpOp}(ho:kz X (compareOp op) (B7 X.K fun x y=>(pj op x y).map .bl))(ha:PE X a (tE X.K T ca))(hb:PE X b (tE X.K T cb))(hm:behindInMarks op b=false):PE X (.Compare a [op] [b] pos) (tE X.K T (.cmp op ca cb)):=by
 refine bW (CJ ho ha hb hm) fun σ H Q ⟨P,env,F,re,p0,LA,k⟩=>?_
 unfold ev at LA;obtain⟨p,h1,LA⟩:=Rs.Lz LA;obtain⟨q,h2,LA⟩:=Rs.Lz LA;obtain⟨d,h3,LA⟩:=Rs.Lz LA;have h3:=dH h3;cases LA;refine two re h1 h2 fun x y H2 G ar=>⟨p.1,q.1,.bl d,G,ar.LQ,by simp[h3],fun v H' G' rp nv=>k v H' G' (ar.same.trans nv.same) rp ?_⟩
 have:G'=[]:=rp.flat rfl;subst this;exact cD.nil
theorem Ky (ho:Io X (IA X.K))(ha:PE X a (tE X.K T ca))(hb:PE X b (tE X.K T cb))(hs:qK b):PE X (.Subscript a b pos) (tE X.K T (.ix ca cb)):=by
 refine bW (DK ho ha hb hs) fun σ H Q ⟨P,env,F,re,p0,LA,k⟩=>?_
 unfold ev at LA;obtain⟨p,h1,LA⟩:=Rs.Lz LA;obtain⟨q,h2,LA⟩:=Rs.Lz LA;obtain⟨d,h3,LA⟩:=Rs.Lz LA;have h3:=dH h3;cases LA;refine two re h1 h2 fun x y H2 G ar=>⟨p.1,q.1,d,G,ar.LQ,h3,fun v G' rp sl=>k v H2 G' ar.same rp ?_⟩
 unfold nQ;cases hf:d.flat with
 |true =>
  have:G'=[]:=rp.flat hf;subst this;exact cD.nil
 |false =>
  obtain⟨H1,g1,g2,e1,s1,_,SQ,s2,NX⟩:=ar.two;have hq:q.1.flat=true:=by
   revert h3;intro h3;cases hq:q.1 with
   |int _=>rfl
   |str _=>rfl
   |_=>rw[hq] at h3;revert h3;cases p.1<;>exact fun h3=>nomatch h3
  have NX:=NX.flat hq;have SU:=SQ.later s2;subst NX;rw[ay] at e1;subst e1;refine⟨fun z hz=>?_,fun R e=>by cases e⟩;exact SU.cont z (sl.subset hz)
end
end Pc
end
section
namespace Pc
open PySem L2
structure lH (P:Addr->Prop)(H H':Hp):Prop where
 keep:∀a,P a->H' a=H a
 tup:∀b xs,H b=some (.tup xs)->H' b=some (.tup xs)
 fz:Ih H H'
theorem lH.refl {P:Addr->Prop}(H:Hp):lH P H H:=⟨fun _ _=>rfl,fun _ _ h=>h,fun _ _ _ h=>h⟩
variable {H H1 H2:Hp}
theorem lH.trans {P:Addr->Prop}(a:lH P H H1)(b:lH P H1 H2):lH P H H2:=⟨fun x h=>(b.keep x h).trans (a.keep x h),fun x xs h=>b.tup x xs (a.tup x xs h),fun x o u h=>b.fz x o u (a.fz x o u h)⟩
variable {H':Hp}
theorem lH.of_same {P:Addr->Prop}(pl:∀a,P a->H a≠none)(e:aH H H'):lH P H H':=⟨fun a h=>by
 cases q:H a with
 |none=>exact absurd q (pl a h)
 |some o=>exact e _ _ q,fun _ _=>e _ _,fun _ _ _ h=>e _ _ h⟩
theorem lH.weak {P P':Addr->Prop}(h:∀a,P a->P' a)(e:lH P' H H'):lH P H H':=⟨fun a x=>e.keep a (h a x),e.tup,e.fz⟩
variable {K:Frag}{vs:List V}
theorem lH.Pj {P:Addr->Prop}(e:lH P H H'){b:Addr}(h:lJ K H b vs):lJ K H' b vs:=by
 rcases h with h | h
 .exact .inl (e.tup b vs h)
 .exact .inr h
variable {G:List Addr}
theorem lH.LQ {P:Addr->Prop}(e:lH P H H'){ds:List D}(h:aJ K H ds vs G)(hp:∀a∈G,P a):aJ K H' ds vs G :=
 h.keep (fun _ _=>e.Pj) e.fz fun b hb _ r=>(e.keep b (hp b hb)).trans r
def vg (env:En)(F:Nat->List Addr)(env':En)(F':Nat->List Addr):Prop:=∀(i:Nat) (d:D),env'[i]? = some (some (d,.lk))->env[i]? = some (some (d,.lk))/\F' i=F i
theorem vg.refl (env:En)(F:Nat->List Addr):vg env F env F:=fun _ _ h=>⟨h,rfl⟩
variable {F1 F2 F3:Nat->List Addr}{e1 e2 e3:En}
theorem vg.trans (a:vg e1 F1 e2 F2)(b:vg e2 F2 e3 F3):vg e1 F1 e3 F3:=fun i d h=>by
 obtain⟨h1,h2⟩:=b i d h;obtain⟨h3,h4⟩:=a i d h1;exact⟨h3,h2.trans h4⟩
structure After (K:Frag)(P Z:Addr->Prop)(env:En)(F:Nat->List Addr)(H:Hp)(env':En)(σ':L2.St)(H':Hp)(F':Nat->List Addr):Prop where
 re:RE K P env' σ' H' F'
 z:∀i,∀a∈F' i,Z a
 ev:lH P H H'
 lk:vg env F env' F'
theorem After.trans {P Z:Addr->Prop}{H3:Hp}{σ2 σ3:L2.St}(a:After K P Z e1 F1 H1 e2 σ2 H2 F2)(b:After K P Z e2 F2 H2 e3 σ3 H3 F3):After K P Z e1 F1 H1 e3 σ3 H3 F3 :=
 ⟨b.re,b.z,a.ev.trans b.ev,a.lk.trans b.lk⟩
noncomputable def post (K:Frag)(P Z:Addr->Prop)(env:En)(F:Nat->List Addr)(H:Hp)(D:Ends):Fl->Prop
 |.nx env'=>∀σ' H' F',After K P Z env F H env' σ' H' F'->D.nx σ' H'
 |.bk env'=>∀σ' H' F',After K P Z env F H env' σ' H' F'->D.bk σ' H'
 |.ct env'=>∀σ' H' F',After K P Z env F H env' σ' H' F'->D.ct σ' H'
 |.rt d fr=>∀v H' G,Rep K H' d v G->lH P H H'->(∀a∈G,Z a)->(fr=true->G.Nodup/\∀a∈G,¬ P a/\∃vs:ML,H' a=some vs.o)->D.rt v H'
 |.xc _ _=>False
 |.bad=>False
theorem post.trans {P Z:Addr->Prop}{σ2:L2.St}{D:Ends}(a:After K P Z e1 F1 H1 e2 σ2 H2 F2):∀{f:Fl},post K P Z e1 F1 H1 D f->post K P Z e2 F2 H2 D f
 |.nx _,h=>fun σ' H' F' b=>h σ' H' F' (a.trans b)
 |.bk _,h=>fun σ' H' F' b=>h σ' H' F' (a.trans b)
 |.ct _,h=>fun σ' H' F' b=>h σ' H' F' (a.trans b)
 |.rt _ _,h=>fun v H' G r e z f=>h v H' G r (a.ev.trans e) z f
 |.xc _ _,h=>h
 |.bad,h=>h
variable {R:List Nat}{d:D}{env0:En}{i:Nat}{t:Tg}{v:V}
section
variable {K:Frag}{P Z:Addr->Prop}{env:En}{σ:L2.St}{H:Hp}{F:Nat->List Addr}
theorem oq (hi:i<env.length)(ht:t≠.lk):vg env F (put env i d t) (sy F i G):=fun j d' e=>by
 by_cases h:j=i
 .subst h;rw[eS hi] at e;cases e;exact absurd rfl ht
 .obtain⟨t0,e0,q⟩:=iV h e;cases t0 with
  |lk=>exact⟨e0,eE h⟩
  |own=>cases q
  |sh R=>cases q
theorem pY (hz:∀i,∀a∈F i,Z a)(hg:∀a∈G,Z a):∀j,∀a∈sy F i G j,Z a:=fun j a ha=>by
 by_cases h:j=i
 .subst h;rw[eZ] at ha;exact hg a ha
 .rw[eE h] at ha;exact hz j a ha
theorem Be {D:Ends}{mv:Bool}{p:Pc.D×Rt}(re:RE K P env σ H F)(hz:∀i,∀a∈F i,Z a)(zp:∀a,¬ P a->Z a)(e:aH H H')(rp:Rep K H' p.1 v G)(rt:cD env F H p.2 H' G)
  (h:post K P Z env F H D (Bv (.nm i) mv env p)):D.nx (σ.set i (some v)) H':=by
 have OL:=re.same e;have ez:∀a∈G,Z a:=fun a ha=>by
  rcases rt.cont a ha with q | ⟨j,_,_,f,_⟩
  .exact zp a fun z=>re.pl a z q
  .exact hz j a f
 have kq:=lH.of_same (P:=P) re.pl e;unfold Bv at h;by_cases hi:i<env.length
 .simp only[hi,if_true] at h;have shared:∀R,p.2.roots=R->post K P Z env F H D (.nx (put env i p.1 (.sh (R.filter (· != i)))))->D.nx (σ.set i (some v)) H':=fun R hR h=>by
   refine h _ H' (sy F i G) ⟨OL.put hi rp (fun o=>by cases o) (fun o=>by cases o) fun a ha j d' t' hj ej o m=>?_,pY hz ez,kq,oq hi (by intro z;cases z)⟩;rcases rt.cont a ha with q | ⟨k,d2,t2,f,e2,s⟩
   .exact absurd q (re.nn ej m)
   .have:=s j ((re.one j d' t' ej o).2.2 a m k d2 t2 e2 f);rw[hR] at this;simp only[bJ,List.mem_filter];exact⟨this,by simpa using hj⟩
  cases hr:p.2 with
  |sh R=>rw[hr] at h;exact shared R (by rw[hr];rfl) h
  |mv R =>
   rw[hr] at h;obtain⟨m1,m2,m3⟩:=rt.mv R hr;cases R with
   |nil =>
    have fresh:∀a∈G,H a=none:=fun a ha=>by
     rcases m3 a ha with q | ⟨_,_,_,q,_⟩
     .exact q
     .cases q
    refine h _ H' (sy F i G) ⟨OL.put hi rp (fun _=>⟨m1,m2,fun a ha j _ m=>?_⟩) (fun _ a ha z=>re.pl a z (fresh a ha)) fun a ha j d' t' hj ej o m=>?_,pY hz ez,kq,oq hi (by intro z;cases z)⟩
    .obtain⟨d2,t2,e2⟩:=re.at' m;exact re.nn e2 m (fresh a ha)
    .exact absurd (fresh a ha) (re.nn ej m)
   |cons r0 R0 =>
    cases mv with
    |false=>exact shared _ (by rw[hr];rfl) h
    |true =>
     simp only[if_true] at h;by_cases ho:fA env (r0::R0)=true
     .rw[if_pos ho] at h;have fg:=OL.forget (env':=kill (r0::R0) env) (dI _ _) fun j d' t' ej=>(cX ej).1
      have ow:∀k∈r0::R0,∃d',env[k]? = some (some (d',.own)):=fun k hk=>by
       have:=cv.mp ho k hk;split at this
       .rename_i d' q;exact⟨d',q⟩
       .cases this
      have apart:∀a∈G,∀j,j≠i->a∉(match (kill (r0::R0) env)[j]? with | some (some _)=>F j | _=>[]):=fun a ha j hj m=>by
       split at m
       .rename_i q ej;obtain⟨dj,tj⟩:=q;obtain⟨e0,h1,h2⟩:=cX ej;rcases m3 a ha with q | ⟨k,d2,t2,hk,f,e2,o2⟩
        .exact re.nn e0 m q
        .exact h2 k hk ((re.one k d2 t2 e2 o2).2.2 a f j dj tj e0 m)
       .cases m
      refine h _ H' _ ⟨fg.put (by rw[dI];exact hi) rp (fun _=>⟨m1,m2,apart⟩) (fun _ a ha z=>?_) fun a ha j d' t' hj ej o m=>absurd m (apart a ha j hj),pY (fun j a ha=>?_) ez,kq,fun j d' ej=>?_⟩
      .rcases m3 a ha with q | ⟨k,d2,t2,hk,f,e2,o2⟩
       .exact re.pl a z q
       .obtain⟨d3,e3⟩:=ow k hk;exact re.wr k d3 e3 a f z
      .split at ha
       .exact hz j a ha
       .cases ha
      .by_cases hj:j=i
       .subst hj;rw[eS (by rw[dI];exact hi)] at ej;cases ej
       .obtain⟨t0,e0,q⟩:=iV hj ej;cases t0 with
        |lk =>
         refine⟨(cX e0).1,?_⟩;rw[eE hj,e0]
        |own=>cases q
        |sh R=>cases q
     .rw[if_neg ho] at h;exact h.elim
 .simp only[hi,if_false] at h;exact h.elim
noncomputable def setM:List Nat->List V->L2.St->L2.St
 |i::is,v::vs,σ=>setM is vs (σ.set i (some v))
 |_,_,σ=>σ
theorem pV:∀{is:List Nat}{ds:List D}{vs:List V}{G:List Addr}{env env':En}{σ:L2.St}{F:Nat->List Addr},RE K P env σ H F->(∀i,∀a∈F i,Z a)->aJ K H ds vs G->G.Nodup->(∀a∈G,∃vs:ML,H a=some vs.o)->(∀a∈G,¬ P a)->(∀a∈G,Z a) ->
  (∀a∈G,∀j,a∉F j)->bindM (fun _=>.own) is ds env=some env'->∃F',RE K P env' (setM is vs σ) H F'/\(∀i,∀a∈F' i,Z a)/\vg env F env' F'/\is.length=vs.length
 | [],_,_,_,env,env',σ,F,re,hz,.nil,_,_,_,_,_,h=>by
  simp only[bindM,Option.some.injEq] at h;subst h;exact⟨F,re,hz,vg.refl _ _,rfl⟩
 | i::is,_,_,_,env,env',σ,F,re,hz,.cons (G:=G1) (G':=G2) r rs,nd,ll,np,gz,ap,h=>by
  simp only[bindM] at h;by_cases hi:i<env.length
  .rw[if_pos hi] at h;obtain⟨n1,n2,S7⟩:=List.nodup_append.mp nd;have MP:=re.put (t:=.own) hi r (fun _=>⟨n1,fun a ha=>ll a (bo _ ha),fun a ha j _=>ap a (bo _ ha) j⟩) (fun _ a ha=>np a (bo _ ha)) fun a ha j _ _ _ _ _ m=>absurd m (ap a (bo _ ha) j)
   obtain⟨F',a1,a2,a3,a4⟩:=pV MP (pY hz fun a ha=>gz a (bo _ ha)) rs n2 (fun a ha=>ll a (ax _ ha)) (fun a ha=>np a (ax _ ha)) (fun a ha=>gz a (ax _ ha)) (fun a ha j m=>by
    by_cases hj:j=i
    .subst hj;rw[eZ] at m;exact S7 a m a ha rfl
    .rw[eE hj] at m;exact ap a (ax _ ha) j m) h
   exact⟨F',a1,a2,(oq hi (by intro z;cases z)).trans a3,by simp[a4]⟩
  .rw[if_neg hi] at h;cases h
 |[],_,_,_,_,_,_,_,_,_,.cons _ _,_,_,_,_,_,h=>by simp[bindM] at h
 |_::_,_,_,_,_,_,_,_,_,_,.nil,_,_,_,_,_,h=>by simp[bindM] at h
theorem tz:bE d R≠.lk:=by unfold bE;split<;>intro z<;>cases z
theorem vp (re:RE K P env σ H F)(hi:i<env.length)(rp:Rep K H d v G)(hs:∀a∈G,∀(j:Nat) (d':D) (t':Tg),env[j]? = some (some (d',t'))->bR t'=true->a∈F j->j∈R) :
  RE K P (put env i d (bE d R)) (σ.set i (some v)) H (sy F i G):=by
 unfold bE;cases hf:d.flat with
 |true =>
  have:G=[]:=rp.flat hf;subst this;simp only[if_true];exact re.put hi rp (fun _=>⟨cu,fun _ h=>(nomatch h),fun _ h=>(nomatch h)⟩) (fun _ _ h=>(nomatch h)) fun _ h=>(nomatch h)
 |false =>
  simp only[Bool.false_eq_true,if_false];exact re.put hi rp (fun o=>by cases o) (fun o=>by cases o) fun a ha j d' t' hj ej o m=>hs a ha j d' t' ej o m
theorem nj:∀{is:List Nat}{ds:List D}{vs:List V}{G:List Addr}{env env':En}{σ:L2.St}{F:Nat->List Addr},RE K P env σ H F->(∀i,∀a∈F i,Z a)->aJ K H ds vs G->(∀a∈G,Z a) ->
  (∀a∈G,∀(j:Nat) (d':D) (t':Tg),env[j]? = some (some (d',t'))->bR t'=true->a∈F j->j∈R)->bindM (fun d=>bE d R) is ds env=some env'->∃F',RE K P env' (setM is vs σ) H F'/\(∀i,∀a∈F' i,Z a)/\vg env F env' F'/\is.length=vs.length
 | [],_,_,_,env,env',σ,F,re,hz,.nil,_,_,h=>by
  simp only[bindM,Option.some.injEq] at h;subst h;exact⟨F,re,hz,vg.refl _ _,rfl⟩
 | i::is,_,_,_,env,env',σ,F,re,hz,.cons (d:=d) (G:=G1) (G':=G2) r rs,gz,hs,h=>by
  simp only[bindM] at h;by_cases hi:i<env.length
  .rw[if_pos hi] at h;have MP:=vp re hi r fun a ha=>hs a (bo _ ha)
   obtain⟨F',a1,a2,a3,a4⟩:=nj MP (pY hz fun a ha=>gz a (bo _ ha)) rs (fun a ha=>gz a (ax _ ha)) (fun a ha j d' t' ej o m=>by
    by_cases hj:j=i
    .subst hj;rw[eS hi] at ej;simp only[Option.some.injEq,Prod.mk.injEq] at ej;obtain⟨rfl,rfl⟩:=ej;rw[eZ] at m;cases hf:d.flat with
     |true=>rw[r.flat hf] at m;cases m
     |false=>simp[bE,hf,bR] at o
    .rw[eE hj] at m;obtain⟨t0,e0,rfl⟩:=iV hj ej;rw[mh] at o;exact hs a (ax _ ha) j d' t0 e0 o m) h
   exact⟨F',a1,a2,(oq hi tz).trans a3,by simp[a4]⟩
  .rw[if_neg hi] at h;cases h
 |[],_,_,_,_,_,_,_,_,_,.cons _ _,_,_,h=>by simp[bindM] at h
 |_::_,_,_,_,_,_,_,_,_,_,.nil,_,_,h=>by simp[bindM] at h
theorem sY (R:List Nat)(env:En):(lock R env).length=env.length:=by simp[lock]
theorem nW {env:En}(e:(lock R env)[i]? = some (some (d,t))) :
  (env[i]? = some (some (d,t))/\(t=.own->i∉R))\/(t=.lk/\i∈R/\env[i]? = some (some (d,.own))):=by
 unfold lock at e;rw[List.getElem?_mapIdx] at e;cases q:env[i]? with
 |none=>rw[q] at e;cases e
 |some s =>
  rw[q] at e;cases s with
  |none=>cases e
  |some p =>
   obtain⟨a,b⟩:=p;simp only[Option.map_some,Option.some.injEq] at e;cases b with
   |own =>
    simp only at e;by_cases h:R.contains i=true
    .rw[if_pos h] at e;cases e;exact .inr ⟨rfl,by simpa using h,rfl⟩
    .rw[if_neg h] at e;cases e;exact .inl ⟨rfl,fun _ z=>h (by simpa using z)⟩
   |lk=>cases e;exact .inl ⟨rfl,fun z=>by cases z⟩
   |sh Q=>cases e;exact .inl ⟨rfl,fun z=>by cases z⟩
theorem AO {R:List Nat}{env:En}(e:env[i]? = some (some (d,t))):∃t',(lock R env)[i]? = some (some (d,t'))/\bR t'=bR t/\bJ i t'=bJ i t:=by
 unfold lock;rw[List.getElem?_mapIdx,e];cases t with
 |own =>
  simp only[Option.map_some];by_cases h:R.contains i=true
  .exact⟨.lk,by rw[if_pos h],rfl,rfl⟩
  .exact⟨.own,by rw[if_neg h],rfl,rfl⟩
 |lk=>exact⟨.lk,rfl,rfl,rfl⟩
 |sh Q=>exact⟨.sh Q,rfl,rfl,rfl⟩
theorem gO {env:En}(e:(lock R env)[i]? = some (some (d,t))):∃t0,env[i]? = some (some (d,t0))/\bR t0=bR t/\bJ i t0=bJ i t:=by
 rcases nW e with ⟨h,_⟩ | ⟨rfl,_,h⟩
 .exact⟨t,h,rfl,rfl⟩
 .exact⟨.own,h,rfl,rfl⟩
theorem RE.locked (re:RE K P env σ H F)(hg:∀a∈G,H a≠none)(hc:∀a∈G,∀(i:Nat) (d:D) (t:Tg),env[i]? = some (some (d,t))->bR t=true->a∈F i->i∈R) :
  RE K (fun a=>P a\/a∈G) (lock R env) σ H F where
 len:=(sY R env).trans re.len
 val:=fun i d t e=>let ⟨t0,e0,_⟩:=gO e;re.val i d t0 e0
 M6:=fun i h=>re.M6 i fun d t e=>by
  obtain⟨t',e',_⟩:=AO (R:=R) e;exact h d t' e'
 one:=fun i d t e o=>by
  obtain⟨t0,e0,o0,_⟩:=gO e;obtain⟨a,b,c⟩:=re.one i d t0 e0 (o0.trans o);refine⟨a,b,fun x hx j d' t' ej m=>?_⟩;obtain⟨t1,e1,_,s1⟩:=gO ej;rw[<-s1];exact c x hx j d' t1 e1 m
 wr:=fun i d e a ha z=>by
  rcases nW e with ⟨h,hn⟩ | ⟨q,_⟩
  .rcases z with z | z
   .exact re.wr i d h a ha z
   .exact hn rfl (hc a z i d .own h rfl ha)
  .cases q
 pl:=fun a h=>h.elim (re.pl a) (hg a)
theorem oX (R:List Nat)(env0 env:En):(unlock R env0 env).length=env.length:=by simp[unlock]
theorem kh {env:En}(e:(unlock R env0 env)[i]? = some (some (d,t))) :
  (env[i]? = some (some (d,t))/\(t=.lk->¬ (i∈R/\∃d0,env0[i]? = some (some (d0,.own)))))\/(t=.own/\i∈R/\env[i]? = some (some (d,.lk))/\∃d0,env0[i]? = some (some (d0,.own))):=by
 unfold unlock at e;rw[List.getElem?_mapIdx] at e;cases q:env[i]? with
 |none=>rw[q] at e;cases e
 |some s =>
  rw[q] at e;cases s with
  |none=>cases e
  |some p =>
   obtain⟨a,b⟩:=p;simp only[Option.map_some,Option.some.injEq] at e;cases b with
   |own=>cases e;exact .inl ⟨rfl,fun z=>by cases z⟩
   |sh Q=>cases e;exact .inl ⟨rfl,fun z=>by cases z⟩
   |lk =>
    simp only at e;split at e
    .rename_i d0 q0;by_cases h:R.contains i=true
     .rw[if_pos h] at e;cases e;exact .inr ⟨rfl,by simpa using h,rfl,d0,q0⟩
     .rw[if_neg h] at e;cases e;exact .inl ⟨rfl,fun _ z=>h (by simpa using z.1)⟩
    .rename_i nq;cases e;exact .inl ⟨rfl,fun _ ⟨_,d0,q0⟩=>nq d0 q0⟩
theorem gY {env:En}(e:(unlock R env0 env)[i]? = some (some (d,t))):∃t0,env[i]? = some (some (d,t0))/\bR t0=bR t/\bJ i t0=bJ i t:=by
 rcases kh e with ⟨h,_⟩ | ⟨rfl,_,h,_⟩
 .exact⟨t,h,rfl,rfl⟩
 .exact⟨.lk,h,rfl,rfl⟩
theorem vi {R:List Nat}{env0 env:En}(e:env[i]? = some (some (d,t))):∃t',(unlock R env0 env)[i]? = some (some (d,t')):=by
 unfold unlock;rw[List.getElem?_mapIdx,e];cases t with
 |own=>exact⟨.own,rfl⟩
 |sh Q=>exact⟨.sh Q,rfl⟩
 |lk =>
  simp only[Option.map_some];split
  .by_cases h:R.contains i=true
   .exact⟨.own,by rw[if_pos h]⟩
   .exact⟨.lk,by rw[if_neg h]⟩
  .exact⟨.lk,rfl⟩
theorem After.Nz {env':En}{σ':L2.St}{F':Nat->List Addr}(re:RE K P env σ H F)(a:After K (fun a=>P a\/a∈G) Z (lock R env) F H env' σ' H' F'):After K P Z env F H (unlock R env env') σ' H' F' where
 re:={
  len:=(oX R env env').trans a.re.len
  val:=fun i d t e=>let ⟨t0,e0,_⟩:=gY e;a.re.val i d t0 e0
  M6:=fun i h=>a.re.M6 i fun d t e=>by
   obtain⟨t',e'⟩:=vi (R:=R) (env0:=env) e;exact h d t' e'
  one:=fun i d t e o=>by
   obtain⟨t0,e0,o0,_⟩:=gY e;obtain⟨x,y,c⟩:=a.re.one i d t0 e0 (o0.trans o);refine⟨x,y,fun z hz j d' t' ej m=>?_⟩;obtain⟨t1,e1,_,s1⟩:=gY ej;rw[<-s1];exact c z hz j d' t1 e1 m
  wr:=fun i d e b hb z=>by
   rcases kh e with ⟨h,_⟩ | ⟨_,hR,h,d0,h0⟩
   .exact a.re.wr i d h b hb (.inl z)
   .obtain⟨h1,h2⟩:=a.lk i d h;rw[h2] at hb;exact re.wr i d0 h0 b hb z
  pl:=fun b h=>a.re.pl b (.inl h) }
 z:=a.z
 ev:=a.ev.weak fun _ h=>.inl h
 lk:=fun i d e=>by
  rcases kh e with ⟨h,hn⟩ | ⟨q,_⟩
  .obtain⟨h1,h2⟩:=a.lk i d h;rcases nW h1 with ⟨h3,_⟩ | ⟨_,hR,h3⟩
   .exact⟨h3,h2⟩
   .exact absurd ⟨hR,d,h3⟩ (hn rfl)
  .cases q
end
variable {path:Option Int}{rs:List Rt}{x:Nat}
section
variable {K:Frag}{P Z:Addr->Prop}{env:En}{σ:L2.St}{H:Hp}{F:Nat->List Addr}
theorem gI (h:ownAt env x=some d):env[x]? = some (some (d,.own)):=by
 unfold ownAt at h;split at h
 .rename_i d' q;cases h;exact q
 .cases h
theorem pK (re:RE K P env σ H F){xs:List D}(hx:ownAt env x=some d)(hv:σ[x]? = some (some v))(h:d.Mo path=some xs) :
  ∃p,PV K H v path p/\∀H',aH H H'->∃ws Gx,H' p=some (.lst ws)/\aJ K H' xs ws Gx/\p∈F x/\(∀a∈Gx,a∈F x)/\Gx.Nodup/\p∉Gx /\
   ∀ys us Gy,aJ K (upd H' p (.lst us)) ys us Gy->Gy.Nodup->p∉Gy->(∀a∈Gy,a∈Gx\/a∉F x)->∃G',Rep K (upd H' p (.lst us)) (d.MU path ys) v G'/\G'.Nodup/\∀a∈G',a∈F x\/a∈Gy:=by
 have Mq:=gI hx;obtain⟨u,e,rp⟩:=re.val x d .own Mq;rw[hv] at e;cases e;obtain⟨a,b,_⟩:=re.one x d .own Mq rfl;obtain⟨p,pv,f⟩:=xU rp a h;exact⟨p,pv,fun H' e=>f H' e fun y hy=>let ⟨ws,q⟩:=b y hy;⟨ws,e _ _ q⟩⟩
theorem xP {D:Ends}{d:Pc.D}{ys:List Pc.D}(h:post K P Z env F H D (kL x path env d ys rs)):ys.length<=lim:=by
 unfold kL at h;cases hR:eV rs with
 |none=>rw[hR] at h;exact h.elim
 |some R =>
  rw[hR] at h;simp only at h;by_cases hc:(decide R.Nodup&&fA env R && !R.contains x&&decide (ys.length<=lim))=true
  .simp only[Bool.and_eq_true,decide_eq_true_eq] at hc;exact hc.2
  .rw[if_neg hc] at h;exact h.elim
theorem tN {D:Ends}{d:Pc.D}{ys:List Pc.D}{p:Addr}{us:List V}{N:List Addr}
  (re:RE K P env σ H F) (hz:∀i,∀a∈F i,Z a) (zp:∀a,¬ P a->Z a) (e:aH H H1) (hx:ownAt env x=some d) (hv:σ[x]? = some (some v)) (hp:p∈F x)
  (hN:∀R,eV rs=some R->R.Nodup->N.Nodup/\(∀a∈N,∃vs:ML,H1 a=some vs.o)/\∀a∈N,H a=none\/∃i d t,i∈R/\a∈F i/\env[i]? = some (some (d,t))/\bR t=true)
  (OW:(∀a∈N,a∉F x)->N.Nodup->∃G',Rep K (upd H1 p (.lst us)) (d.MU path ys) v G'/\G'.Nodup/\∀a∈G',a∈F x\/a∈N)
  (h:post K P Z env F H D (kL x path env d ys rs)):D.nx σ (upd H1 p (.lst us)):=by
 unfold kL at h;cases hR:eV rs with
 |none=>rw[hR] at h;exact h.elim
 |some R =>
  rw[hR] at h;simp only at h;by_cases hc:(decide R.Nodup&&fA env R && !R.contains x&&decide (ys.length<=lim))=true
  .rw[if_pos hc] at h;simp only[Bool.and_eq_true,decide_eq_true_eq,Bool.not_eq_true'] at hc;obtain⟨⟨⟨Us,RH⟩,Xl⟩,hc4⟩:=hc;have hxR:x∉R:=fun z=>by
    have:R.contains x=true:=by simpa using z
    rw[this] at Xl;cases Xl
   obtain⟨n1,n2,n3⟩:=hN R hR Us;have Mq:=gI hx;have ow:∀k∈R,∃d',env[k]? = some (some (d',.own)):=fun k hk=>by
    have:=cv.mp RH k hk;split at this
    .rename_i d' q;exact⟨d',q⟩
    .cases this
   have S5:∀a∈N,a∉F x:=fun a ha m=>by
    rcases n3 a ha with q | ⟨i,d2,t2,hi,f,e2,o2⟩
    .exact re.nn Mq m q
    .have:=(re.one i d2 t2 e2 o2).2.2 a f x d .own Mq m;simp only[bJ,List.mem_singleton] at this;subst this;exact hxR hi
   obtain⟨G',g1,g2,g3⟩:=OW S5 n1;have MP:=re.same e;have pP:∀a∈N,¬ P a:=fun a ha z=>by
    rcases n3 a ha with q | ⟨i,d2,t2,hi,f,e2,o2⟩
    .exact re.pl a z q
    .obtain⟨d3,e3⟩:=ow i hi;exact re.wr i d3 e3 a f z
   have SV:=MP.OO (R:=R) (N:=N) Mq hv hp g1 g2 g3 fun a ha=>⟨n2 a ha,pP a ha,fun j dj tj ej m=>by
    rcases n3 a ha with q | ⟨i,d2,t2,hi,f,e2,o2⟩
    .exact absurd q (re.nn ej m)
    .exact⟨i,ai _ hi,(re.one i d2 t2 e2 o2).2.2 a f j dj tj ej m⟩⟩
   obtain⟨_,Rp,_⟩:=MP.one x d .own Mq rfl;obtain⟨ws,Md⟩:=Rp p hp;have S6:¬ P p:=re.wr x d Mq p hp;refine h σ _ _ ⟨SV,fun j a ha=>?_,(lH.of_same re.pl e).trans ⟨fun a z=>aO (fun q=>S6 (q ▸ z)),fun b xs r=>?_,l9 Md⟩,fun j dj ej=>?_⟩
   .unfold pd at ha;split at ha
    .rcases g3 a ha with q | q
     .exact hz x a q
     .exact zp a (pP a q)
    .split at ha
     .exact hz j a ha
     .cases ha
   .refine (aO (fun q=>?_)).trans r;subst q;rw[Md] at r;cases ws<;>cases r
   .by_cases hj:j=x
    .subst hj;rw[List.getElem?_set_self (by rw[dI];exact (List.getElem?_eq_some_iff.mp Mq).1)] at ej;cases ej
    .rw[List.getElem?_set_ne (eh hj)] at ej;refine⟨(cX ej).1,?_⟩;unfold pd;rw[if_neg hj,ej]
  .rw[if_neg hc] at h;exact h.elim
end
end Pc
end
section
namespace Pc
open PySem PySem.Spec PyProof.Rows L2
variable {G:List Addr}{d:D}{ds:List D}{v:V}
section
variable {K:Frag}{H:Hp}
theorem aJ.inv2 {e:D}{x y:V}(h:aJ K H [d,e] [x,y] G):∃G1 G2,Rep K H d x G1/\Rep K H e y G2/\G=G1++G2:=by
 cases h with
 |cons r s =>
  cases s with
  |cons r' s'=>cases s';exact⟨_,_,r,r',by rw[ay]⟩
theorem Rep.int_inv {i:Int}(h:Rep K H (.int i) v G):v=.int i/\G=[]:=by cases h;exact⟨rfl,rfl⟩
theorem Rep.LM {i:Bool}(h:Rep K H (.bl i) v G):v=.bl i/\G=[]:=by cases h;exact⟨rfl,rfl⟩
theorem Rep.str_inv {i:Str}(h:Rep K H (.str i) v G):v=.str i/\G=[]:=by cases h;exact⟨rfl,rfl⟩
theorem Rep.L8 (h:Rep K H .LC v G):v=.LC/\G=[]:=by cases h;exact⟨rfl,rfl⟩
theorem Rep.LG (h:Rep K H (.tup ds) v G):∃p vs,v=.ref p/\pC K H p vs/\aJ K H ds vs G:=by
 cases h with
 |tup a b=>exact⟨_,_,rfl,a.sq,b⟩
theorem Rep.ME (h:Rep K H (.tup ds) v G):∃p vs,v=.ref p/\lJ K H p vs/\aJ K H ds vs G:=by
 cases h with
 |tup a b=>exact⟨_,_,rfl,a,b⟩
end
variable {H:Hp}{K:Frag}{n:Nat}{pins:List (Addr×Obj)}{s:Shared}{vs xs:List V}
section
variable {X:Cx}
theorem Inv.N5 {σ:L2.St}{l:Addr}(I:Inv X pins σ H s)(hH:Rd H l (.lst xs)):xs.length<=sizeLine/\∃(its:List Value) (n:Nat),aS xs its/\xs.length=its.length/\s.heap.get? l=some { cls:=.type "list",data:=.seq its.toArray n }:=by
 obtain⟨z,its,n,r,e⟩:=hH.ok I.LB;exact⟨z,its,n,r,r.length,e⟩
noncomputable def Jr:R2:=fun x y H Q=>∃l b xs zs,x=.ref l/\y=.ref b/\Rd H l (.lst xs)/\Rd H b (.lst zs)/\xs.length+zs.length<=sizeLine/\∀p,H p=none->Q (.ref p) (upd H p (.lst (xs++zs)))
theorem wX:kz X (binaryOp .Add) Jr:=by
 intro pins s σ H x y v u Q I rx ry h;obtain⟨l,b,xs,zs,rfl,rfl,hH,hB,hz,q⟩:=h;cases rx;cases ry;obtain⟨z,its,n,r,hl,e⟩:=Inv.N5 I hH;obtain⟨z2,MY,n2,r2,Qv,e2⟩:=Inv.N5 I hB;refine PySem.P.add_list e e2 ?_ (by rw[aq,aq];omega);have ea:its.toArray++MY.toArray=(its++MY).toArray:=by simp
 rw[ea];exact⟨.ref _,_,I.OR (t':=s.toks) (r.append r2) (by rw[aa];omega),rfl,q _ I.fresh⟩
noncomputable def JK:R2:=fun x y H Q=>∃l k xs,x=.ref l/\y=.int k/\Rd H l (.lst xs)/\-(2 ^ 63)<=k/\k<2 ^ 63/\xs.length*k.toNat<=sizeLine /\
 ∀p,H p=none->Q (.ref p) (upd H p (.lst (List.replicate k.toNat xs).flatten))
theorem De:kz X (binaryOp .Mult) JK:=by
 intro pins s σ H x y v u Q I rx ry h;obtain⟨l,k,xs,rfl,rfl,hH,h1,h2,hz,q⟩:=h;cases rx;obtain⟨t,rfl⟩:=ry;obtain⟨z,its,n,r,hl,e⟩:=Inv.N5 I hH;have hlen:its.toArray.size*k.toNat<=sizeLine:=by rw[aq,<-hl];exact hz
 have Ur:¬ its.toArray.size*k.toNat > (2 ^ 63-1) / 8:=by
  have:(sizeLine:Nat)<=(2 ^ 63-1) / 8:=by decide
  omega
 have M1:¬ (!Builtin.List.listFitsIndex k)=true:=by
  rw[fitsIndex_both h1 h2];exact bj
 have NK:¬ Builtin.List.listTooLong (its.toArray.size*k.toNat)=true:=by
  rw[tR hlen];exact bj
 have T1:List.foldl (fun x1 x2=>x1++x2) #[] (List.replicate (if its.toArray.isEmpty=true then 0 else k.toNat) its.toArray)=(List.replicate k.toNat its).flatten.toArray:=by
  have f0:∀m:Nat,List.foldl (fun x1 x2=>x1++x2) #[] (List.replicate m its.toArray)=(List.replicate m its).flatten.toArray:=fun m=>by
   have:=foldl_rep its m [];rw[dq] at this;exact this
  rw[f0];cases its with
  |nil=>simp
  |cons a r'=>rw[if_neg (by simp)]
 refine wpAny_binaryOp_repeat_ref (T:="list") (U:="int") (by decide) ⟨_,e,rfl⟩ (fun s'=>typeIs_int s' k t) noFill_list_mul F.fills_int_mul F.slot_int_rmul repeat_list F.slot_int_index.lookup
  (call_meets F.slot_int_rmul (typeIs_int s k t) F.entry_int_rmul (F.args_int_rmul_2 _ _) (int___rmul___int_list k t l its.toArray n)
   ⟨e,rfl,⟨_,e,rfl⟩,call_meets F.slot_list_mul ⟨_,e,rfl⟩ F.entry_list_mul (F.args_list_mul_2 _ _) (AutoListH.list___mul___list_int_3 l its.toArray n k t M1 Ur NK) ⟨e,?_⟩⟩)
 rw[T1];exact⟨.ref _,_,I.OR (t':=s.toks) (r.rep k.toNat) (by rw[len_rep,Nat.mul_comm];exact hz),rfl,q _ I.fresh⟩
theorem aJ.rep (h:aJ K H ds vs []):∀n:Nat,aJ K H (List.replicate n ds).flatten (List.replicate n vs).flatten []
 |0=>.nil
 | n+1=>by
  rw[gh,gh,cx,cx];exact h.append (h.rep n)
theorem qY {e:D}(h:ck n d=some e):n<=lim/\e=d:=by
 unfold ck at h;split at h
 .cases h;exact⟨‹_›,rfl⟩
 .cases h
theorem qg {i:Int}:small i=true↔(-(2 ^ 64)<i/\i<2 ^ 64):=by unfold small;exact decide_eq_true_iff
theorem Bw {op:Operator}{i j k:Int}(h:binI op i j=some k):kz X (binaryOp op) (fun x y H Q=>x=.int i/\y=.int j/\Q (.int k) H):=by
 intro pins s σ H x y v u Q I rx ry q;obtain⟨rfl,rfl,q⟩:=q;cases op with
 |Add=>cases h;exact uJ pins s σ H _ _ v u Q I rx ry ⟨i,j,rfl,rfl,q⟩
 |Sub=>cases h;exact EN pins s σ H _ _ v u Q I rx ry ⟨i,j,rfl,rfl,q⟩
 |Mult =>
  have h:(if small i || small j then some (i*j) else none)=some k:=h;by_cases hc:(small i || small j)=true
  .rw[if_pos hc] at h;cases h;refine G4 pins s σ H _ _ v u Q I rx ry ⟨i,j,rfl,rfl,?_,q⟩;rw[ij,qg,qg] at hc;exact hc
  .rw[if_neg hc] at h;cases h
 |FloorDiv =>
  have h:(if 0<j/\j<1073741824 then some (i / j) else none)=some k:=h;by_cases hc:0<j/\j<1073741824
  .rw[if_pos hc] at h;cases h;exact BG pins s σ H _ _ v u Q I rx ry ⟨i,j,rfl,rfl,hc,q⟩
  .rw[if_neg hc] at h;cases h
 |Mod =>
  have h:(if 0<j then some (i%j) else none)=some k:=h;by_cases hc:0<j
  .rw[if_pos hc] at h;cases h;exact Hq pins s σ H _ _ v u Q I rx ry ⟨i,j,rfl,rfl,hc,q⟩
  .rw[if_neg hc] at h;cases h
 |LShift =>
  have h:(if 0<=j/\j<=1000000/\i.natAbs<2 ^ 64 then some (i*2 ^ j.toNat) else none)=some k:=h;by_cases hc:0<=j/\j<=1000000/\i.natAbs<2 ^ 64
  .rw[if_pos hc] at h;cases h;exact GA pins s σ H _ _ v u Q I rx ry ⟨i,j,rfl,rfl,hc,q⟩
  .rw[if_neg hc] at h;cases h
 |RShift =>
  have h:(if 0<=j then some (i / 2 ^ j.toNat) else none)=some k:=h;by_cases hc:0<=j
  .rw[if_pos hc] at h;cases h;exact EY pins s σ H _ _ v u Q I rx ry ⟨i,j,rfl,rfl,hc,q⟩
  .rw[if_neg hc] at h;cases h
 |BitAnd=>cases h;exact Fy pins s σ H _ _ v u Q I rx ry ⟨i,j,rfl,rfl,q⟩
 |BitXor=>cases h;exact E8 pins s σ H _ _ v u Q I rx ry ⟨i,j,rfl,rfl,q⟩
 |_=>cases h
theorem Bt (op:Operator):kz X (binaryOp op) (B7 X.K (ph op)):=by
 intro pins s σ H x y v u Q I rx ry h;obtain⟨d1,d2,d,G,rs,hd,k⟩:=h;obtain⟨G1,G2,r1,r2,rfl⟩:=rs.inv2;cases d1 with
 |int i =>
  cases d2 with
  |int j =>
   obtain⟨rfl,rfl⟩:=r1.int_inv;obtain⟨rfl,rfl⟩:=r2.int_inv;have:ph op (.int i) (.int j)=(binI op i j).map .int:=rfl;rw[this,ae] at hd;obtain⟨z,hz,rfl⟩:=hd;exact Bw hz pins s σ H _ _ v u Q I rx ry ⟨rfl,rfl,k _ H [] (.int z) gX.nil⟩
  |_=>cases hd
 |str a =>
  cases d2 with
  |str b =>
   cases op with
   |Add =>
    obtain⟨hl,rfl⟩:=qY hd;obtain⟨rfl,rfl⟩:=r1.str_inv;obtain⟨rfl,rfl⟩:=r2.str_inv;exact nH pins s σ H _ _ v u Q I rx ry ⟨a,b,rfl,rfl,hJ hl,k _ H [] (.str _) gX.nil⟩
   |_=>cases hd
  |_=>cases hd
 |lst a =>
  obtain⟨p,vs,G',rfl,rfl,h1,h2⟩:=r1.lst_inv;cases d2 with
  |lst b =>
   cases op with
   |Add =>
    obtain⟨hl,rfl⟩:=qY hd;obtain⟨p',N1,Wk,rfl,rfl,Nr,Ms⟩:=r2.lst_inv;refine wX pins s σ H _ _ v u Q I rx ry ⟨p,p',vs,N1,rfl,rfl,h1,Nr,by rw[<-h2.len,<-Ms.len];exact hJ hl,fun q hq=>?_⟩;obtain⟨n1,n2⟩:=lQ (G0:=p::G'++p'::Wk) (h2.append Ms) (fun a ha=>by simp at ha ⊢;rcases ha with ha | ha<;>simp[ha]) hq;exact k _ _ _ n1 n2
   |_=>cases hd
  |int n =>
   cases op with
   |Mult =>
    have hd:(if -(2 ^ 63)<=n/\n<2 ^ 63 then (if D.LF a then ck (a.length*n.toNat) (.lst (List.replicate n.toNat a).flatten) else none) else none)=some d:=hd;by_cases hc : -(2 ^ 63)<=n/\n<2 ^ 63
    .rw[if_pos hc] at hd;by_cases hf:D.LF a=true
     .rw[if_pos hf] at hd;obtain⟨hl,rfl⟩:=qY hd;obtain⟨rfl,rfl⟩:=r2.int_inv;have eG:G'=[]:=h2.flat hf;subst eG;refine De pins s σ H _ _ v u Q I rx ry ⟨p,n,vs,rfl,rfl,h1,hc.1,hc.2,by rw[<-h2.len];exact hJ hl,fun q hq=>?_⟩;obtain⟨n1,n2⟩:=lQ (G0:=[p] ++ []) (h2.rep n.toNat) (fun a ha=>(nomatch ha)) hq;exact k _ _ _ n1 n2
     .rw[if_neg hf] at hd;cases hd
    .rw[if_neg hc] at hd;cases hd
   |_=>cases hd
  |_=>cases hd
 |_=>cases hd
open SeqAt in
theorem jK {f:D->D->Option Bool}:∀{xs ys:List D}{b:Bool},ub f xs ys=some b->xs.length=ys.length/\∃e:Nat->Bool,(∀j x y,xs[j]? = some x->ys[j]? = some y->f x y=some (e j))/\b=(List.range xs.length).all e
 |[],[],b,h=>by cases h;exact⟨rfl,fun _=>true,fun j x y hx=>by simp at hx,rfl⟩
 | x::xs,y::ys,b,h=>by
  simp only[ub,Option.bind_eq_some_iff,Option.map_eq_some_iff] at h;obtain⟨a,h1,c,h2,rfl⟩:=h;obtain⟨hl,e,he,rfl⟩:=jK h2;refine⟨by simp[hl],fun j=>match j with | 0=>a | j+1=>e j,fun j x' y' hx hy=>?_,?_⟩
  .cases j with
   |zero=>simp at hx hy;subst hx;subst hy;exact h1
   |succ j=>exact he j x' y' (by simpa using hx) (by simpa using hy)
  .rw[ah,gj,List.all_cons,List.all_map];rfl
 |[],_::_,b,h=>by cases h
 |_::_,[],b,h=>by cases h
theorem lz:∀(n:Nat) (d:D) (b:Bool),D.L4 n d d=some b->b=true
 |0,_,_,h=>by cases h
 |n+1,.LC,b,h=>by cases h;rfl
 | n+1,.bl x,b,h=>by
  have h:some (x==x)=some b:=h;rw[eo] at h;cases h;rfl
 | n+1,.int x,b,h=>by
  have h:some (x==x)=some b:=h;rw[eo] at h;cases h;rfl
 | n+1,.str x,b,h=>by
  have h:some (x==x)=some b:=h;rw[eo] at h;cases h;rfl
 | n+1,.lst xs,b,h=>by
  have h:(if xs.length=xs.length then ub (D.L4 n) xs xs else some false)=some b:=h;rw[if_pos rfl] at h;obtain⟨_,e,he,rfl⟩:=jK h;rw[cv];intro j hj;have hj:j<xs.length:=by simpa using hj
  exact lz n xs[j] _ (he j _ _ (by simp[hj]) (by simp[hj]))
 |n+1,.LI _,b,h=>by cases h
 | n+1,.tup xs,b,h=>by
  have h:(if xs.length=xs.length then ub (D.L4 n) xs xs else none)=some b:=h;rw[if_pos rfl] at h;obtain⟨_,e,he,rfl⟩:=jK h;rw[cv];intro j hj;have hj:j<xs.length:=by simpa using hj
  exact lz n xs[j] _ (he j _ _ (by simp[hj]) (by simp[hj]))
variable {u:HO}
section
variable {pins:List (Addr×Obj)}{σ:L2.St}{H:Hp}{s:Shared}
noncomputable def nf:HO->Bool
 |.MA _ _=>false
 |_=>true
noncomputable def nt:HO->Bool
 |.tup _=>false
 |_=>true
theorem u9 {H:Hp}{a:Addr}{u':HO}(h:Rd H a u)(h':Rd H a u')(hu:nf u=true:=by rfl)(W2:nf u'=true:=by rfl):u=u':=by
 rcases h with h | ⟨o,h⟩<;>rcases h' with h' | ⟨o',h'⟩<;>rw[h] at h'
 .exact cq h'
 .rw[cq h'] at hu;cases hu
 .rw[<-cq h'] at W2;cases W2
 .cases h';rfl
theorem Jk (I:L2.Inv X pins σ H s){a:Addr}{o:Obj}(h:X.K.lookup a=some o):H a=none:=(I.bs a o (I.ok.mod.LS a o h)).2
theorem pC.ND (I:L2.Inv X pins σ H s){a:Addr}{vs:List V}(h:pC X.K H a vs)(h':Rd H a u)(hu:nf u=true:=by rfl)(ht:nt u=true:=by rfl):False:=by
 rcases h with h | h
 .rw[u9 h' h hu] at ht;cases ht
 .obtain⟨o,_,_,h1,_⟩:=h;exact Rd.Mh h' (Jk I h1)
theorem rX:∀{a b:List Int},a.map V.int=b.map V.int->a=b
 |[],[],_=>rfl
 |[],_::_,h=>by cases h
 |_::_,[],h=>by cases h
 | x::a,y::b,h=>by
  injection h with h1 h2
  injection h1 with h1
  rw[h1,rX h2]
theorem ud.inj (I:Inv X pins σ H s):∀{m m':MV}{v:V},ud X.K H m v->ud X.K H m' v->m=m'
 |.tr,.tr,_,_,_=>rfl
 |.int i,.int j,_,h,h'=>by cases h;cases h';rfl
 | .tup a,.tup b,_,⟨p,e,h⟩,⟨p',e',h'⟩=>by
  subst e;cases e';rw[rX (I.Mc h.sq h'.sq)]
 |.tr,.int _,_,h,h'=>by cases h;cases h'
 |.int _,.tr,_,h,h'=>by cases h;cases h'
 |.tr,.tup _,_,h,⟨_,e,_⟩=>by cases h;cases e
 |.tup _,.tr,_,⟨_,e,_⟩,h=>by cases h;cases e
 |.int _,.tup _,_,h,⟨_,e,_⟩=>by cases h;cases e
 |.tup _,.int _,_,⟨_,e,_⟩,h=>by cases h;cases e
theorem k9.inj (I:Inv X pins σ H s):∀{a b:List (Int×MV)}{xs:List (Key×V)},k9 X.K H a xs->k9 X.K H b xs->a=b
 |[],[],_,_,_=>rfl
 |[],_::_,[],_,h=>h.elim
 |_::_,[],[],h,_=>h.elim
 |[],_::_,_::_,h,_=>h.elim
 |_::_,[],_::_,_,h=>h.elim
 |_::_,_::_,[],h,_=>h.elim
 | (k,m)::a,(k',m')::b,x::xs,⟨h1,h2,h3⟩,⟨g1,g2,g3⟩=>by
  rw[h1] at g1;injection g1 with g1
  have g1:k=k':=g1;rw[g1,show m=m' from ud.inj I h2 g2,k9.inj I h3 g3]
theorem Rep.inj (I:Inv X pins σ H s){d:D}{v:V}{G:List Addr}(h:Rep X.K H d v G):∀{e:D}{G':List Addr},Rep X.K H e v G'->d=e:=by
 refine Rep.rec (motive_1:=fun d v G _=>∀{e:D}{G':List Addr},Rep X.K H e v G'->d=e) (motive_2:=fun ds vs G _=>∀{es:List D}{G':List Addr},aJ X.K H es vs G'->ds=es) ?LC ?bl ?int ?str ?lst ?tup ?LI ?nil ?cons h
 case LC =>
  intro e' G' h;cases h;rfl
 case bl =>
  intro _ e' G' h;cases h;rfl
 case int =>
  intro _ e' G' h;cases h;rfl
 case str =>
  intro _ e' G' h;cases h;rfl
 case LI =>
  intro p0 ks0 xs0 h r0 e' G' q;cases q with
  |LI h' r'=>
   rw[h] at h';cases h';rw[k9.inj I r0 r']
  |lst h' _=>exact nomatch u9 (.inl h) h'
  |tup h' _=>exact (pC.ND I h'.sq (.inl h)).elim
 case lst =>
  intro p0 R8 XB G0 h r ih e' G' q;cases q with
  |LI h' _=>exact nomatch u9 h (.inl h')
  |lst h' r' =>
   have e:=I.Ml (.inl h) (.inl h');subst e;rw[ih r']
  |tup h' r' =>
   obtain⟨its,_,pl,_⟩:=I.list (.inl h);obtain⟨its',_,pt,_⟩:=I.tuple h'.sq;obtain⟨o,ho,hc,_⟩:=pl.isList;obtain⟨o',MZ,Mz,_⟩:=pt;rw[ho] at MZ;cases MZ;rw[hc] at Mz;injection Mz with z;exact absurd z (by decide)
 case tup =>
  intro p0 R8 XB G0 h r ih e' G' q;cases q with
  |LI h' _=>exact (pC.ND I h.sq (.inl h')).elim
  |tup h' r' =>
   have e:=I.Mc h.sq h'.sq;subst e;rw[ih r']
  |lst h' r' =>
   obtain⟨its,_,pl,_⟩:=I.list (.inl h');obtain⟨its',_,pt,_⟩:=I.tuple h.sq;obtain⟨o,ho,hc,_⟩:=pl.isList;obtain⟨o',MZ,Mz,_⟩:=pt;rw[ho] at MZ;cases MZ;rw[hc] at Mz;injection Mz with z;exact absurd z (by decide)
 case nil=>intro e' G' h;cases h;rfl
 case cons =>
  intro d0 v0 XB R8 G0 G1 h r i1 i2 e' G' q;cases q with
  |cons h' r'=>rw[i1 h',i2 r']
open SeqAt in
theorem Bb (I:Inv X pins σ H s):∀(n:Nat) (A:Around) (d e:D) (v w:V) (G G':List Addr) (u u':Value) (b:Bool),A.units+n<cLine->Rep X.K H d v G->Rep X.K H e w G'->RelV v u->RelV w u'->D.L4 n d e=some b->RcAt A s u u' b/\EqAt A s u u' b
 |0,_,_,_,_,_,_,_,_,_,_,_,_,_,_,_,h=>by cases h
 | n+1,A,d,e,v,w,G,G',u,u',b,hu,r1,r2,q1,q2,h=>by
  have TJ:A.in1.units+n<cLine:=by show A.units+1+n<cLine;omega
  have OT:A.units<cLine:=by omega
  have items:∀{xs ys:List D}{vs ws:List V}{G1 G2:List Addr}{its its':List Value}{c:Bool},aJ X.K H xs vs G1->aJ X.K H ys ws G2->aS vs its->aS ws its'->ub (D.L4 n) xs ys=some c ->
    its.toArray.size=its'.toArray.size/\∃ee:Nat->Bool,c=(List.range its.toArray.size).all ee/\∀j (h1:j<its.toArray.size) (h2:j<its'.toArray.size),EqAt A.in1 s its.toArray[j] its'.toArray[j] (ee j):=by
   intro xs ys vs ws G1 G2 its its' c a1 a2 b1 b2 hc;obtain⟨hl,ee,he,rfl⟩:=jK hc;have l1:=a1.len;have l2:=a2.len;have l3:=b1.length;have l4:=b2.length;have sz:its.toArray.size=xs.length:=by rw[aq];omega
   refine⟨by rw[aq,aq];omega,ee,by rw[sz],fun j h1 h2=>?_⟩;have j1:j<xs.length:=by rw[<-sz];exact h1
   have j2:j<ys.length:=by omega
   obtain⟨v1,g1,e1,p1,_⟩:=a1.get (i:=j) (d:=xs[j]) (by simp[j1]);obtain⟨v2,g2,e2,p2,_⟩:=a2.get (i:=j) (d:=ys[j]) (by simp[j2]);obtain⟨u1,f1,t1⟩:=b1.get e1;obtain⟨u2,f2,t2⟩:=b2.get e2;have x1:its.toArray[j]=u1:=by
    have:=List.getElem?_eq_some_iff.mp f1;simpa using this.2
   have x2:its'.toArray[j]=u2:=by
    have:=List.getElem?_eq_some_iff.mp f2;simpa using this.2
   rw[x1,x2];exact (Bb I n A.in1 _ _ _ _ _ _ _ _ _ TJ p1 p2 t1 t2 (he j _ _ (by simp[j1]) (by simp[j2]))).2
  have refs:∀{l m:Addr}{c:Bool},(l=m->c=true)->RcAt A s (.ref l) (.ref m) c->RcAt A s (.ref l) (.ref m) c/\EqAt A s (.ref l) (.ref m) c:=fun {l m c} hs hr=>⟨hr,by
   by_cases z:l=m
   .subst z;rw[hs rfl];exact EqAt.same _
   .exact EqAt.of_refs z hr⟩
  cases d with
  |LI _=>cases e<;>cases h
  |LC =>
   obtain⟨rfl,rfl⟩:=r1.L8;cases q1;cases e with
   |LC=>obtain⟨rfl,rfl⟩:=r2.L8;cases q2;cases h;exact⟨RcAt.none_none,EqAt.same _⟩
   |_=>cases h
  |bl a =>
   obtain⟨rfl,rfl⟩:=r1.LM;cases q1;cases e with
   |bl c=>obtain⟨rfl,rfl⟩:=r2.LM;cases q2;cases h;exact⟨RcAt.bool_bool a c,EqAt.bool_bool a c⟩
   |_=>cases h
  |int a =>
   obtain⟨rfl,rfl⟩:=r1.int_inv;obtain⟨t0,rfl⟩:=q1;cases e with
   |int i=>obtain⟨rfl,rfl⟩:=r2.int_inv;obtain⟨t,rfl⟩:=q2;cases h;exact⟨RcAt.int_int a t0 i t,EqAt.int_int a t0 i t⟩
   |_=>cases h
  |str a =>
   obtain⟨rfl,rfl⟩:=r1.str_inv;obtain⟨t0,rfl⟩:=q1;cases e with
   |str x=>obtain⟨rfl,rfl⟩:=r2.str_inv;obtain⟨t,rfl⟩:=q2;cases h;exact⟨RcAt.str_str a t0 x t,EqAt.str_str a t0 x t⟩
   |_=>cases h
  |lst xs =>
   obtain⟨l,vs,g,rfl,rfl,a1,a2⟩:=r1.lst_inv;cases q1;obtain⟨its,rv,pl,_⟩:=I.list (.inl a1);cases e with
   |lst ys =>
    obtain⟨m,ws,g',rfl,rfl,b1,b2⟩:=r2.lst_inv;cases q2;obtain⟨its',N2,N4,_⟩:=I.list (.inl b1);have same:l=m->b=true:=fun z=>by
     subst z;have e0:=Rep.inj I r1 r2;rw[e0] at h;exact lz _ _ _ h
    have h:(if xs.length=ys.length then ub (D.L4 n) xs ys else some false)=some b:=h;by_cases hl:xs.length=ys.length
    .rw[if_pos hl] at h;obtain⟨hz,ee,rfl,he⟩:=items a2 b2 rv N2 h;exact refs same (RcAt.lists pl.isList N4.isList hz OT he)
    .rw[if_neg hl] at h;cases h;have hz:(its.toArray.size != its'.toArray.size)=true:=by
      have l1:=a2.len;have l2:=b2.len;have l3:=rv.length;have l4:=N2.length;simp only[bne_iff_ne,ne_eq,List.size_toArray];omega
     exact refs same (RcAt.lists_lengths pl.isList N4.isList hz OT)
   |_=>cases h
  |tup xs =>
   obtain⟨l,vs,rfl,a1,a2⟩:=r1.LG;cases q1;obtain⟨its,rv,pl,_⟩:=I.tuple a1;cases e with
   |tup ys =>
    obtain⟨m,ws,rfl,b1,b2⟩:=r2.LG;cases q2;obtain⟨its',N2,N4,_⟩:=I.tuple b1;have same:l=m->b=true:=fun z=>by
     subst z;have e0:=Rep.inj I r1 r2;rw[e0] at h;exact lz _ _ _ h
    have h:(if xs.length=ys.length then ub (D.L4 n) xs ys else none)=some b:=h;by_cases hl:xs.length=ys.length
    .rw[if_pos hl] at h;obtain⟨hz,ee,rfl,he⟩:=items a2 b2 rv N2 h;have q:=RcAt.tuples (e:=ee) pl N4 OT he;rw[<-hz,Nat.min_self,eo,Bool.and_true] at q;exact refs same q
    .rw[if_neg hl] at h;cases h
   |_=>cases h
end
end
section
open PySem.SeqAt
open PySem.AutoSeq1 (wpAny_loadPart')
open PySem.MeetsSeq PySem.MeetsSeq2 PySem.MeetsSeq3
end
section
open PySem.SeqAt
open PySem.AutoSeq1 (wpAny_loadPart')
open PySem.MeetsSeq PySem.MeetsSeq2 PySem.MeetsSeq3
end
section
variable {X:Cx}{pins:List (Addr×Obj)}{σ:L2.St}{H:Hp}{s:Shared}
end
section
variable {X:Cx}{pins:List (Addr×Obj)}{σ:L2.St}{H:Hp}{s:Shared}
open SeqAt in
theorem Kn (I:Inv X pins σ H s)(n:Nat)(A:Around)(d e:D)(v w:V)(G G':List Addr)(u u':Value)(b:Bool)(hu:A.units+n<cLine)(r1:Rep X.K H d v G)(r2:Rep X.K H e w G')(q1:RelV v u)(q2:RelV w u')(h:D.L4 n d e=some b):RcNeAt A s u u' (!b):=by
 cases n with
 |zero=>cases h
 |succ n =>
  have TJ:A.in1.units+n<cLine:=by show A.units+1+n<cLine;omega
  have OT:A.units<cLine:=by omega
  have items:∀{xs ys:List D}{vs ws:List V}{G1 G2:List Addr}{its its':List Value}{c:Bool},aJ X.K H xs vs G1->aJ X.K H ys ws G2->aS vs its->aS ws its'->ub (D.L4 n) xs ys=some c ->
    its.toArray.size=its'.toArray.size/\∃ee:Nat->Bool,c=(List.range its.toArray.size).all ee/\∀j (h1:j<its.toArray.size) (h2:j<its'.toArray.size),EqAt A.in1 s its.toArray[j] its'.toArray[j] (ee j):=by
   intro xs ys vs ws G1 G2 its its' c a1 a2 b1 b2 hc;obtain⟨hl,ee,he,rfl⟩:=jK hc;have l1:=a1.len;have l2:=a2.len;have l3:=b1.length;have l4:=b2.length;have sz:its.toArray.size=xs.length:=by rw[aq];omega
   refine⟨by rw[aq,aq];omega,ee,by rw[sz],fun j h1 h2=>?_⟩;have j1:j<xs.length:=by rw[<-sz];exact h1
   have j2:j<ys.length:=by omega
   obtain⟨v1,g1,e1,p1,_⟩:=a1.get (i:=j) (d:=xs[j]) (by simp[j1]);obtain⟨v2,g2,e2,p2,_⟩:=a2.get (i:=j) (d:=ys[j]) (by simp[j2]);obtain⟨u1,f1,t1⟩:=b1.get e1;obtain⟨u2,f2,t2⟩:=b2.get e2;have x1:its.toArray[j]=u1:=by
    have:=List.getElem?_eq_some_iff.mp f1;simpa using this.2
   have x2:its'.toArray[j]=u2:=by
    have:=List.getElem?_eq_some_iff.mp f2;simpa using this.2
   rw[x1,x2];exact (Bb I n A.in1 _ _ _ _ _ _ _ _ _ TJ p1 p2 t1 t2 (he j _ _ (by simp[j1]) (by simp[j2]))).2
  have Qc:∀{ys:List D}{w:V}{g:List Addr}{u:Value},Rep X.K H (.lst ys) w g->RelV w u->∃m its vs g',u=.ref m/\s.heap.IsList m its.toArray/\aS vs its/\aJ X.K H ys vs g':=fun {ys w g u} r q=>by
   obtain⟨m,ws,g',rfl,rfl,a1,a2⟩:=r.lst_inv;cases q;obtain⟨its,rv,pl,_⟩:=I.list (.inl a1);exact⟨m,its,ws,g',rfl,pl.isList,rv,a2⟩
  have PJ:∀{ys:List D}{w:V}{g:List Addr}{u:Value},Rep X.K H (.tup ys) w g->RelV w u->∃m its vs,u=.ref m/\s.heap.IsTuple m its.toArray/\aS vs its/\aJ X.K H ys vs g:=fun {ys w g u} r q=>by
   obtain⟨m,ws,rfl,a1,a2⟩:=r.LG;cases q;obtain⟨its,rv,pl,_⟩:=I.tuple a1;exact⟨m,its,ws,rfl,pl,rv,a2⟩
  cases d with
  |LI _=>cases e<;>cases h
  |LC =>
   obtain⟨rfl,rfl⟩:=r1.L8;cases q1;cases e with
   |LC=>obtain⟨rfl,rfl⟩:=r2.L8;cases q2;cases h;exact RcNeAt.none_none
   |_=>cases h
  |bl a =>
   obtain⟨rfl,rfl⟩:=r1.LM;cases q1;cases e with
   |bl c=>obtain⟨rfl,rfl⟩:=r2.LM;cases q2;cases h;exact RcNeAt.bool_bool a c
   |_=>cases h
  |int a =>
   obtain⟨rfl,rfl⟩:=r1.int_inv;obtain⟨t0,rfl⟩:=q1;cases e with
   |int i=>obtain⟨rfl,rfl⟩:=r2.int_inv;obtain⟨t,rfl⟩:=q2;cases h;exact RcNeAt.int_int a t0 i t
   |_=>cases h
  |str a =>
   obtain⟨rfl,rfl⟩:=r1.str_inv;obtain⟨t0,rfl⟩:=q1;cases e with
   |str x=>obtain⟨rfl,rfl⟩:=r2.str_inv;obtain⟨t,rfl⟩:=q2;cases h;exact RcNeAt.str_str a t0 x t
   |_=>cases h
  |lst xs =>
   obtain⟨l,its,vs,g1,rfl,pl,rv,a2⟩:=Qc r1 q1;cases e with
   |lst ys =>
    obtain⟨m,its',ws,g2,rfl,N4,N2,b2⟩:=Qc r2 q2;have h:(if xs.length=ys.length then ub (D.L4 n) xs ys else some false)=some b:=h;by_cases hl:xs.length=ys.length
    .rw[if_pos hl] at h;obtain⟨hz,ee,rfl,he⟩:=items a2 b2 rv N2 h;exact RcNeAt.lists pl N4 hz OT he
    .rw[if_neg hl] at h;cases h;have hz:(its.toArray.size != its'.toArray.size)=true:=by
      have l1:=a2.len;have l2:=b2.len;have l3:=rv.length;have l4:=N2.length;simp only[bne_iff_ne,ne_eq,List.size_toArray];omega
     exact RcNeAt.lists_lengths pl N4 hz OT
   |_=>cases h
  |tup xs =>
   obtain⟨l,its,vs,rfl,pl,rv,a2⟩:=PJ r1 q1;cases e with
   |tup ys =>
    obtain⟨m,its',ws,rfl,N4,N2,b2⟩:=PJ r2 q2;have h:(if xs.length=ys.length then ub (D.L4 n) xs ys else none)=some b:=h;by_cases hl:xs.length=ys.length
    .rw[if_pos hl] at h;obtain⟨hz,ee,rfl,he⟩:=items a2 b2 rv N2 h;have q:=RcNeAt.tuples (e:=ee) pl N4 OT he;rw[<-hz,Nat.min_self,eo,Bool.and_true] at q;exact q
    .rw[if_neg hl] at h;cases h
   |_=>cases h
end
section
variable {X:Cx}
theorem k9.any (n:Int):∀{q:List (Int×MV)}{x:List (Key×V)},k9 K H q x->(x.any fun kv=>decide (kv.1=Sum.inl n))=q.any fun kv=>decide (kv.1=n)
 |[],[],_=>rfl
 | (k,m)::q,p::x,⟨a,_,c⟩=>by
  rw[i8,i8,c.any n,a];congr 1;exact decide_eq_decide.mpr ⟨fun e=>by injection e,fun e=>by rw[e]⟩
 |[],_::_,h=>h.elim
 |_::_,[],h=>h.elim
theorem k9.val (n:Int):∀{q:List (Int×MV)}{x:List (Key×V)}{e:Int×MV},k9 K H q x->(q.find? fun kv=>decide (kv.1=n))=some e->∃v,rP x (.inl n)=some v/\ud K H e.2 v
 |[],[],_,_,h=>by cases h
 | (k,m)::q,p::x,e,⟨a,b,c⟩,h=>by
  by_cases hk:k=n
  .rw[List.find?_cons_of_pos (by simpa using hk)] at h;cases h;exact⟨p.2,lF (by rw[a,hk]),b⟩
  .rw[List.find?_cons_of_neg (by simpa using hk)] at h;rw[kQ (by rw[a];exact fun z=>hk (by injection z))];exact c.val n h
 |[],_::_,_,h,_=>h.elim
 |_::_,[],_,h,_=>h.elim
theorem jV:∀ks:List Int,aJ K H (ks.map D.int) (ks.map V.int) []
 |[]=>.nil
 |k::ks=>.cons (G:=[]) (G':=[]) (.int k) (jV ks)
theorem ud.rep:∀{m:MV}{v:V},ud K H m v->Rep K H (S8 m) v []
 |.tr,_,h=>by cases h;exact .bl true
 |.int i,_,h=>by cases h;exact .int i
 |.tup is,_,⟨b,e,h⟩=>by subst e;exact .tup h (jV is)
theorem jT:∀{xs:List D}{k:List Int},iL xs=some k->xs=k.map D.int
 |[],k,h=>by cases h;rfl
 | .int i::r,k,h=>by
  have h:(iL r).map (i :: ·)=some k:=h;rw[ae] at h;obtain⟨k',h1,rfl⟩:=h;rw[jT h1];rfl
theorem qZ:∀{ns:List Int}{vs:List V}{G:List Addr}{us:List Value},aJ K H (ns.map D.int) vs G->aS vs us->IntsAre us ns
 |[],_,_,_,.nil,.nil=>.nil
 | n::ns,_,_,_,.cons h r,.cons x y=>by
  obtain⟨rfl,_⟩:=h.int_inv;obtain⟨t,rfl⟩:=x;exact .cons _ _ (qZ r y)
theorem vW (op:CmpOp)(hx:X.A.units+40<cLine/\Bp X.w X.K):kz X (compareOp op) (B7 X.K fun x y=>(pj op x y).map .bl):=by
 have hu:=hx.1;intro pins s σ H x y v u Q I rx ry h;obtain⟨d1,d2,d,G,rs,hd,k⟩:=h;obtain⟨G1,G2,r1,r2,rfl⟩:=rs.inv2;rw[ae] at hd;obtain⟨b,hb,rfl⟩:=hd;have fin:Q (.bl b) H:=k _ H [] (.bl b) gX.nil;have ep:∀c,c=b->EP X pins σ Q (.bool c) s:=fun c e=>⟨.bl b,H,I,by rw[e];rfl,fin⟩
 have NC:∀{f:Int->Int->Bool},(∀i j,pj op (.int i) (.int j)=some (f i j))->(∀d1 d2,(∀i j,¬ (d1=.int i/\d2=.int j))->pj op d1 d2=none)->kz X (compareOp op) (Bj fun i j=>.bl (f i j))->wpAny (model X.prog X.w) X.A (compareOp op v u) (EP X pins σ Q) X.xe s:=by
  intro f h1 h2 ho;by_cases hi:∃i j,d1=.int i/\d2=.int j
  .obtain⟨i,j,rfl,rfl⟩:=hi;rw[h1] at hb;cases hb;obtain⟨rfl,rfl⟩:=r1.int_inv;obtain⟨rfl,rfl⟩:=r2.int_inv;exact ho pins s σ H _ _ v u Q I rx ry ⟨i,j,rfl,rfl,fin⟩
  .rw[h2 d1 d2 fun i j z=>hi ⟨i,j,z⟩] at hb;cases hb
 have P2:∀(op:CmpOp),(op = .Gt\/op = .GtE)->∀d1 d2:D,(∀i j,¬ (d1=.int i/\d2=.int j))->pj op d1 d2=none:=by
  intro op ho d1 d2 hn;cases d1 with
  |int i =>
   cases d2 with
   |int j=>exact absurd ⟨rfl,rfl⟩ (hn i j)
   |_=>rcases ho with rfl | rfl<;>rfl
  |_=>rcases ho with rfl | rfl<;>rfl
 cases op with
 |Lt =>
  cases d1 with
  |int i =>
   cases d2 with
   |int j =>
    cases hb;obtain⟨rfl,rfl⟩:=r1.int_inv;obtain⟨rfl,rfl⟩:=r2.int_inv;exact IH pins s σ H _ _ v u Q I rx ry ⟨i,j,rfl,rfl,fin⟩
   |_=>cases hb
  |_=>cases hb
 |LtE =>
  cases d1 with
  |int i =>
   cases d2 with
   |int j =>
    cases hb;obtain⟨rfl,rfl⟩:=r1.int_inv;obtain⟨rfl,rfl⟩:=r2.int_inv;exact IP pins s σ H _ _ v u Q I rx ry ⟨i,j,rfl,rfl,fin⟩
   |_=>cases hb
  |_=>cases hb
 |Gt=>exact NC (fun _ _=>rfl) (P2 .Gt (.inl rfl)) D3
 |GtE=>exact NC (fun _ _=>rfl) (P2 .GtE (.inr rfl)) Km
 |Eq =>
  have hb:D.L4 40 d1 d2=some b:=hb;exact (Bb I 40 X.A d1 d2 x y G1 G2 v u b hu r1 r2 rx ry hb).1 _ _ _ _ (ep b rfl)
 |NotEq =>
  have hb:(D.L4 40 d1 d2).map (!·)=some b:=hb;rw[ae] at hb;obtain⟨c,hc,rfl⟩:=hb;exact Kn I 40 X.A d1 d2 x y G1 G2 v u c hu r1 r2 rx ry hc _ _ _ _ (ep _ rfl)
 |Is=>cases hb
 |IsNot=>cases hb
 |In =>
  have hb:inD d1 d2=some b:=hb;cases d2 with
  |str z =>
   cases d1 with
   |str w =>
    cases hb;obtain⟨rfl,rfl⟩:=r1.str_inv;obtain⟨rfl,rfl⟩:=r2.str_inv;exact xO pins s σ H _ _ v u Q I rx ry ⟨w,z,rfl,rfl,fin⟩
   |_=>cases hb
  |_=>cases hb
 |NotIn =>
  have hb:(inD d1 d2).map (!·)=some b:=hb;rw[ae] at hb;obtain⟨c,hi,rfl⟩:=hb;clear hb;cases d2 with
  |str z =>
   cases d1 with
   |str w =>
    cases hi;obtain⟨rfl,rfl⟩:=r1.str_inv;obtain⟨rfl,rfl⟩:=r2.str_inv;exact qL pins s σ H _ _ v u Q I rx ry ⟨w,z,rfl,rfl,fin⟩
   |_=>cases hi
  |_=>cases hi
theorem FJ (n:Nat)(i:Int):Pc.j9 n i=L2.j9 n i:=rfl
theorem CU (hx:Bp X.w X.K):Io X (IA X.K):=by
 intro value slice pins s σ H x y v u Q I rx ry h hs;obtain⟨d1,d2,d,G,rs,hd,k⟩:=h;obtain⟨G1,G2,r1,r2,rfl⟩:=rs.inv2;cases d2 with
 |int i =>
  obtain⟨rfl,rfl⟩:=r2.int_inv;rw[ay] at k;have seq:∀{xs:List D}{vs:List V}{g:List Addr},aJ X.K H xs vs g->((j9 xs.length i).bind fun j=>xs[j]?)=some d->∃w g',F9 vs i=some w/\Rep X.K H d w g'/\g'.Sublist g:=fun {xs vs g} r e=>by
   rw[ag] at e;obtain⟨j,e1,e2⟩:=e;obtain⟨w,g',a,b,c⟩:=r.get e2;refine⟨w,g',?_,b,c⟩;unfold F9;rw[<-r.len,<-FJ,e1];exact a
  cases d1 with
  |lst xs =>
   obtain⟨p,vs,g,rfl,rfl,a1,a2⟩:=r1.lst_inv;obtain⟨w,g',e1,e2,e3⟩:=seq a2 hd;exact CB value slice pins s σ H _ _ v u Q I rx ry ⟨p,vs,i,w,rfl,rfl,.inl a1,e1,k w g' e2 (e3.trans (List.sublist_cons_self _ _))⟩ hs
  |tup xs =>
   obtain⟨p,vs,rfl,a1,a2⟩:=r1.LG;obtain⟨w,g',e1,e2,e3⟩:=seq a2 hd;exact yW value slice pins s σ H _ _ v u Q I rx ry ⟨p,vs,i,w,rfl,rfl,a1,e1,k w g' e2 e3⟩ hs
  |str z =>
   obtain⟨rfl,rfl⟩:=r1.str_inv;have hd:(if z.length<=lim then ((Pc.j9 z.cps.toList.length i).bind fun j=>z.cps.toList[j]?).map (fun c=>D.str ⟨#[c]⟩) else none)=some d:=hd;by_cases hl:z.length<=lim
   .rw[if_pos hl,ae] at hd;obtain⟨c,hc,rfl⟩:=hd;exact HC value slice pins s σ H _ _ v u Q I rx ry ⟨z,i,c,rfl,rfl,hJ hl,hc,k _ [] (.str _) (List.nil_sublist _)⟩ hs
   .rw[if_neg hl] at hd;cases hd
  |LI ks =>
   cases r1 with
   |@LI p _ xs hr kr =>
    have hd:(ks.find? fun q=>decide (q.1=i)).map (fun q=>S8 q.2)=some d:=hd;rw[ae] at hd;obtain⟨e,he,rfl⟩:=hd;obtain⟨v',TH,mr⟩:=kr.val i he;cases rx;obtain⟨t,rfl⟩:=ry;obtain⟨z,lo,vs,rel,dd⟩:=zr I.LB (.inl hr);obtain⟨u',hu,ru⟩:∃u',valueAt vs (.inl i)=some u'/\RelV v' u':=by
     have:=rel.val (.inl i);rw[TH] at this;cases q:valueAt vs (.inl i) with
     |none=>rw[q] at this;exact this.elim
     |some u'=>rw[q] at this;exact⟨u',rfl,this⟩
    have fin:EP X pins σ Q u' { s with toks:=s.toks+1 }:=⟨v',H,I.tok _,ru,k _ [] mr.rep (List.nil_sublist _)⟩;exact subscriptTail_builtinR (x:=u') dd.mapOf.typeIs slot_dict_getitem.lookup (wpAny_getItem_of (Q:=fun r s'=>r=u'/\EP X pins σ Q r s') (mz X.prog X.w i t) dd.mapOf hu ⟨rfl,fin⟩) hs
  |_=>cases hd
 |_=>cases d1<;>cases hd
end
variable {E:XK}{F:Nat->List Addr}{Q:VK}{e:Expr}{i:Nat}{p:Addr}{x:Str}
section
variable {X:Cx}{T:Tb}{a b c:Expr}{ca cb cc:Ex}{pos:Pos}
theorem FW (hN:X.N[i]? = some x)(hv:D4 X.env.scope x)(hd:(x==("__debug__" : Str))=false) (Mr:(x==("__classdict__" : Str))=false):PE X (.Name x pos) (tE X.K T (.var i)):=by
 refine bW (rj hN hv hd Mr) fun σ H Q ⟨P,env,F,re,p,LA,k⟩=>?_
 unfold ev at LA;cases hs:env[i]? with
 |none=>rw[hs] at LA;cases LA
 |some o =>
  cases o with
  |none=>rw[hs] at LA;cases LA
  |some q =>
   obtain⟨d,t⟩:=q;rw[hs] at LA;simp only[Rs.ok.injEq] at LA;subst LA;obtain⟨v,e1,rp⟩:=re.val i d t hs;refine⟨v,e1,k v H (F i) (aH.refl _) rp ?_⟩;cases hf:d.flat with
   |true =>
    rw[rp.flat hf];exact cD.nil
   |false =>
    simp only[Bool.false_eq_true,if_false];have ow:bR t=true->cD env F H (.mv [i]) H (F i):=fun o=>by
     obtain⟨n1,n2,n3⟩:=re.one i d t hs o;refine⟨fun a ha=>.inr ⟨i,d,t,ha,hs,fun q hq=>by cases t<;>simp_all [bJ,bR,Rt.roots]⟩,fun R e=>?_⟩;cases e;exact⟨n1,n2,fun a ha=>.inr ⟨i,d,t,by simp,ha,hs,o⟩⟩
    cases t with
    |own=>exact ow rfl
    |lk=>exact ow rfl
    |sh R=>exact⟨fun a ha=>.inr ⟨i,d,.sh R,ha,hs,fun q hq=>hq⟩,fun R' e=>by cases e⟩
theorem jG (h:PE X e (tC v))(hr:∀H,Rep X.K H d v []):PE X e (tE X.K T (.cst d)):=by
 refine bW h fun σ H Q ⟨P,env,F,re,p,LA,k⟩=>?_
 unfold ev at LA;cases LA;exact k v H [] (aH.refl _) (hr H) cD.nil
theorem EJ (h:PE X e (tC v))(hr:∀H,Rep X.K H (T.gl i) v []):PE X e (tE X.K T (.LX i)):=by
 refine bW h fun σ H Q ⟨P,env,F,re,p,LA,k⟩=>?_
 unfold ev at LA;cases LA;exact k v H [] (aH.refl _) (hr H) cD.nil
theorem GN (ha:PE X a (tE X.K T ca)):PE X (.UnaryOp .USub a pos) (tE X.K T (.neg ca)):=by
 refine bW (JO HW ha) fun σ H Q ⟨P,env,F,re,p,LA,k⟩=>?_
 unfold ev at LA;obtain⟨q,h1,LA⟩:=Rs.Lz LA;refine⟨P,env,F,re,q,h1,fun v H1 G s rp rt=>?_⟩;cases hq:q.1 with
 |int i =>
  rw[hq] at LA rp;cases LA;obtain⟨rfl,rfl⟩:=rp.int_inv;exact⟨i,rfl,k _ H1 [] s (.int _) cD.nil⟩
 |_=>rw[hq] at LA;cases LA
theorem HK {op:CmpOp}(hu:X.A.units+40<cLine/\Bp X.w X.K)(ha:PE X a (tE X.K T ca))(hb:PE X b (tE X.K T cb))(hm:behindInMarks op b=false):PT X (.Compare a [op] [b] pos) (m5 X.K T (.cmp op ca cb)):=by
 refine uj (wG (vW op hu) ha hb hm) fun σ H Q ⟨P,env,F,re,p0,bb,LA,ht,k⟩=>?_
 unfold ev at LA;obtain⟨p,h1,LA⟩:=Rs.Lz LA;obtain⟨q,h2,LA⟩:=Rs.Lz LA;obtain⟨d,h3,LA⟩:=Rs.Lz LA;have h3:=dH h3;cases LA;obtain rfl:d=bb:=cq ht;refine two re h1 h2 fun x y H2 G ar=>⟨p.1,q.1,.bl d,G,ar.LQ,by simp[h3],fun v H' G' rp nv=>?_⟩
 obtain⟨rfl,_⟩:=rp.LM;exact⟨d,rfl,k H' (ar.same.trans nv.same)⟩
variable {rest:List Expr}
theorem Fs (ha:PE X a (tE X.K T ca))(hb:PE X (.BoolOp .And (b::rest) pos) (tE X.K T cb)):PE X (.BoolOp .And (a::b::rest) pos) (tE X.K T (.and ca cb)):=by
 refine bW (Gm ha hb) fun σ H Q ⟨P,env,F,re,p,LA,k⟩=>?_
 unfold ev at LA;obtain⟨q,h1,LA⟩:=Rs.Lz LA;refine⟨P,env,F,re,q,h1,fun v H1 G s rp rt=>?_⟩;cases hq:q.1 with
 |bl kb =>
  rw[hq] at LA rp;obtain⟨rfl,rfl⟩:=rp.LM;cases kb with
  |true=>exact⟨true,rfl,by rw[if_pos rfl];exact⟨P,env,F,re.same s,p,LA,fun v H' G s' NB NW=>k v H' G (s.trans s') NB (NW.back s)⟩⟩
  |false =>
   cases LA;exact⟨false,rfl,by rw[if_neg bj];exact k _ H1 [] s (.bl _) cD.nil⟩
 |_=>rw[hq] at LA;cases LA
theorem Ks (ha:PE X a (tE X.K T ca))(hb:PE X (.BoolOp .Or (b::rest) pos) (tE X.K T cb)):PE X (.BoolOp .Or (a::b::rest) pos) (tE X.K T (.or ca cb)):=by
 refine bW (Ke ha hb) fun σ H Q ⟨P,env,F,re,p,LA,k⟩=>?_
 unfold ev at LA;obtain⟨q,h1,LA⟩:=Rs.Lz LA;refine⟨P,env,F,re,q,h1,fun v H1 G s rp rt=>?_⟩;cases hq:q.1 with
 |bl kb =>
  rw[hq] at LA rp;obtain⟨rfl,rfl⟩:=rp.LM;cases kb with
  |false=>exact⟨false,rfl,by rw[if_neg bj];exact⟨P,env,F,re.same s,p,LA,fun v H' G s' NB NW=>k v H' G (s.trans s') NB (NW.back s)⟩⟩
  |true =>
   cases LA;exact⟨true,rfl,by rw[if_pos rfl];exact k _ H1 [] s (.bl _) cD.nil⟩
 |_=>rw[hq] at LA;cases LA
theorem Hz (ha:PE X a (tE X.K T ca)):PE X (.UnaryOp .Not a pos) (tE X.K T (.not ca)):=by
 refine bW (Hn ha) fun σ H Q ⟨P,env,F,re,p,LA,k⟩=>?_
 unfold ev at LA;obtain⟨q,h1,LA⟩:=Rs.Lz LA;refine⟨P,env,F,re,q,h1,fun v H1 G s rp rt=>?_⟩;cases hq:q.1 with
 |bl kb =>
  rw[hq] at LA rp;obtain⟨rfl,rfl⟩:=rp.LM;cases LA;exact⟨kb,rfl,k _ H1 [] s (.bl _) cD.nil⟩
 |_=>rw[hq] at LA;cases LA
theorem Fk (ha:PT X a (m5 X.K T ca))(hb:PW X (.BoolOp .And (b::rest) pos) (m5 X.K T cb)):PW X (.BoolOp .And (a::b::rest) pos) (m5 X.K T (.and ca cb)):=by
 intro wh pins s σ H Q I h;refine Ga ha hb wh pins s σ H Q I ?_;obtain⟨P,env,F,re,p,bb,LA,ht,k⟩:=h;unfold ev at LA;obtain⟨q,h1,LA⟩:=Rs.Lz LA;cases hq:q.1 with
 |bl kb =>
  rw[hq] at LA;cases kb with
  |true=>exact⟨P,env,F,re,q,true,h1,by rw[hq];rfl,fun H' s=>by show if true=true then _ else _;rw[if_pos rfl];exact⟨P,env,F,re.same s,p,bb,LA,ht,fun H2 s2=>k H2 (s.trans s2)⟩⟩
  |false =>
   cases LA;cases ht;exact⟨P,env,F,re,q,false,h1,by rw[hq];rfl,fun H' s=>by show if false=true then _ else _;rw[if_neg bj];exact k H' s⟩
 |_=>rw[hq] at LA;cases LA
theorem ID (ha:PT X a (m5 X.K T ca))(hb:PW X (.BoolOp .Or (b::rest) pos) (m5 X.K T cb)):PW X (.BoolOp .Or (a::b::rest) pos) (m5 X.K T (.or ca cb)):=by
 intro wh pins s σ H Q I h;refine Jv ha hb wh pins s σ H Q I ?_;obtain⟨P,env,F,re,p,bb,LA,ht,k⟩:=h;unfold ev at LA;obtain⟨q,h1,LA⟩:=Rs.Lz LA;cases hq:q.1 with
 |bl kb =>
  rw[hq] at LA;cases kb with
  |false=>exact⟨P,env,F,re,q,false,h1,by rw[hq];rfl,fun H' s=>by show if false=true then _ else _;rw[if_neg bj];exact⟨P,env,F,re.same s,p,bb,LA,ht,fun H2 s2=>k H2 (s.trans s2)⟩⟩
  |true =>
   cases LA;cases ht;exact⟨P,env,F,re,q,true,h1,by rw[hq];rfl,fun H' s=>by show if true=true then _ else _;rw[if_pos rfl];exact k H' s⟩
 |_=>rw[hq] at LA;cases LA
theorem FH (ha:PT X a (m5 X.K T ca)):PT X (.UnaryOp .Not a pos) (m5 X.K T (.not ca)):=by
 refine uj (Gj ha) fun σ H Q ⟨P,env,F,re,p,bb,LA,ht,k⟩=>?_
 unfold ev at LA;obtain⟨q,h1,LA⟩:=Rs.Lz LA;cases hq:q.1 with
 |bl kb =>
  rw[hq] at LA;cases LA;cases ht;exact⟨P,env,F,re,q,kb,h1,by rw[hq];rfl,fun H' s=>k H' s⟩
 |_=>rw[hq] at LA;cases LA
theorem BY {b:Bool}(rp:Rep K H d v G)(h:truth d=some b):Hk K v H b:=by
 cases rp with
 |LI _=>cases h
 |LC=>cases h;rfl
 |bl c=>cases h;rfl
 |int i=>cases h;rfl
 |str z =>
  simp only[truth] at h;by_cases hl:z.length<=lim
  .rw[if_pos hl] at h;cases h;exact⟨hJ hl,rfl⟩
  .rw[if_neg hl] at h;cases h
 |lst a r =>
  rename_i vs ds g;cases h;refine .inl ⟨vs,.inl a,?_⟩;have:=r.len;cases ds<;>cases vs<;>simp_all
 |tup a r =>
  rename_i vs ds;cases h;refine .inr (.inl ⟨vs,a.sq,?_⟩);have:=r.len;cases ds<;>cases vs<;>simp_all
theorem dA (h:PE X e (tE X.K T ca))(he:∀whole,isTrue e X.env whole=(do let v <- whole;standAt e.pos;holding [v] (truthy v))):PT X e (m5 X.K T ca):=by
 refine uj (An h he) fun σ H Q ⟨P,env,F,re,p,bb,LA,ht,k⟩=>?_
 exact⟨P,env,F,re,p,LA,fun v H' G s rp rt=>⟨bb,BY rp ht,k H' s⟩⟩
theorem HA (hc:PT X c (m5 X.K T cc))(ha:PE X a (tE X.K T ca))(hb:PE X b (tE X.K T cb)):PE X (.IfExp c a b pos) (tE X.K T (.ite cc ca cb)):=by
 refine bW (sC hc ha hb) fun σ H Q ⟨P,env,F,re,p,LA,k⟩=>?_
 unfold ev at LA;obtain⟨q,h1,LA⟩:=Rs.Lz LA;obtain⟨kb,h2,LA⟩:=Rs.Lz LA;refine⟨P,env,F,re,q,kb,h1,dH h2,fun H' s=>?_⟩;cases kb with
 |true=>rw[if_pos rfl];exact⟨P,env,F,re.same s,p,LA,fun v H2 G s' NB NW=>k v H2 G (s.trans s') NB (NW.back s)⟩
 |false=>rw[if_neg bj];exact⟨P,env,F,re.same s,p,LA,fun v H2 G s' NB NW=>k v H2 G (s.trans s') NB (NW.back s)⟩
variable {es:List Expr}{cs:pA}
theorem zu:PA X [] (xG X.K T .nil):=by
 refine yC bB fun σ H Q ⟨P,env,F,re,l,LA,k⟩=>?_
 unfold aY at LA;cases LA;exact k [] H [] (.nil (aH.refl _))
theorem wH (ha:PE X a (tE X.K T ca))(hr:PA X es (xG X.K T cs))(hs:starEach (a::es) X.env=(false,eval a X.env)::starEach es X.env):PA X (a::es) (xG X.K T (.cons ca cs)):=by
 refine yC (aL ha hr hs) fun σ H Q ⟨P,env,F,re,l,LA,k⟩=>?_
 unfold aY at LA;obtain⟨p,h1,LA⟩:=Rs.Lz LA;obtain⟨q,h2,LA⟩:=Rs.Lz LA;cases LA;exact⟨P,env,F,re,p,h1,fun v H1 G s rp rt=>⟨P,env,F,re.same s,q,h2,fun vs H2 G' ar=>k (v::vs) H2 _ (.cons s rp rt ar)⟩⟩
theorem cD.Pf {env:En}{H1:Hp}{r:Rt}(h:cD env F H r H1 G)(e:aH H H1)(hp:H1 p=none)(hl:∀a∈G,H1 a≠none):cD env F H r (upd H1 p (.lst vs)) (p::G) where
 cont:=fun a ha=>by
  rcases je.mp ha with rfl | ha
  .exact .inl (aH.no e hp)
  .exact h.cont a ha
 mv:=fun R hr=>by
  obtain⟨a,b,c⟩:=h.mv R hr;refine⟨List.nodup_cons.mpr ⟨fun z=>hl p z hp,a⟩,fun x hx=>?_,fun x hx=>?_⟩
  .rcases je.mp hx with rfl | hx
   .exact⟨.l _,aM⟩
   .obtain⟨ws,q⟩:=b x hx;exact⟨ws,aH.new hp _ _ q⟩
  .rcases je.mp hx with rfl | hx
   .exact .inl (aH.no e hp)
   .exact c x hx
theorem EU (h:PA X es (xG X.K T cs)):PE X (.List es pos) (tE X.K T (.lst cs)):=by
 refine bW (vh h) fun σ H Q ⟨P,env,F,re,p,LA,k⟩=>?_
 unfold ev at LA;obtain⟨l,h1,LA⟩:=Rs.Lz LA;by_cases hl:l.length<=lim
 .rw[if_pos hl] at LA;cases LA;refine⟨P,env,F,re,l,h1,fun vs H1 G ar=>?_⟩;have rs:=ar.LQ;have hlen:=rs.len;rw[ak] at hlen;refine⟨by rw[<-hlen];exact hJ hl,fun q hq=>?_⟩;have e:=aH.new (o:=.lst vs) hq;exact k _ _ (q::G) (ar.same.trans e) (.lst (.inl aM) (rs.same e)) ((ar.comb re).Pf ar.same hq fun a ha=>rs.nn ha)
 .rw[if_neg hl] at LA;cases LA
theorem HR {x1:Nat}(h:PA X es (xG X.K T cs)):PE X (.Tuple es x1 pos) (tE X.K T (.tup cs)):=by
 refine bW (oF h) fun σ H Q ⟨P,env,F,re,p,LA,k⟩=>?_
 unfold ev at LA;obtain⟨l,h1,LA⟩:=Rs.Lz LA;by_cases hl:l.length<=lim
 .rw[if_pos hl] at LA;cases LA;refine⟨P,env,F,re,l,h1,fun vs H1 G ar=>?_⟩;have rs:=ar.LQ;have hlen:=rs.len;rw[ak] at hlen;refine⟨by rw[<-hlen];exact hJ hl,fun q hq=>?_⟩;have e:=aH.new (o:=.tup vs) hq;exact k _ _ G (ar.same.trans e) (.tup (.inl aM) (rs.same e)) ((ar.comb re).later e)
 .rw[if_neg hl] at LA;cases LA
def zy (K:Frag)(n:Nat)(f:List D->Rs (D×Bool)):Sp:=fun vs H Q E=>∃ds G,ds.length=n/\aJ K H ds vs G/\∃r,f ds=.ok r/\∀v H' G',aH H H'->Rep K H' r.1 v G'->(∀a∈G',H a=none\/a∈G)->(r.2=true->G'.Nodup/\∀a∈G',H a=none/\∃vs:ML,H' a=some vs.o)->Q v H'
theorem lq {f:List D->Rs (D×Bool)}(h:zy K n f vs H Q E):vs.length=n:=by
 obtain⟨ds,G,h1,h2,_⟩:=h;rw[<-h1,h2.len]
theorem qb {f:Nat}{σ:L2.St}(hn:∀ds r,T.cl f ds=.ok r->ds.length=n)(h:tE X.K T (.call f cs) σ H Q):AF (zy X.K n (T.cl f)) [] E0 (xG X.K T cs) σ H Q:=by
 obtain⟨P,env,F,re,p,LA,k⟩:=h;unfold ev at LA;obtain⟨l,h1,LA⟩:=Rs.Lz LA;obtain⟨r,h2,LA⟩:=Rs.Lz LA;cases LA;refine⟨P,env,F,re,l,h1,fun vs H1 G ar=>?_⟩;show zy X.K n (T.cl f) (vs ++ []) H1 Q E0;rw[ay];refine⟨l.map (·.1),G,hn _ _ h2,ar.LQ,r,h2,fun v H' G' s rp sub fr=>k v H' G' (ar.same.trans s) rp ?_⟩;cases hr:r.2 with
 |true =>
  obtain⟨a,b⟩:=fr hr;have c:∀x∈G',H x=none:=fun x hx=>aH.no ar.same (b x hx).1
  exact⟨fun x hx=>.inl (c x hx),fun R e=>⟨a,fun x hx=>(b x hx).2,fun x hx=>.inl (c x hx)⟩⟩
 |false =>
  refine⟨fun x hx=>?_,fun R e=>by cases e⟩;rcases sub x hx with q | q
  .exact .inl (aH.no ar.same q)
  .exact ar.cont x q
end
def oW (K:Frag)(b:EF):List V->Hp->VK->Prop:=fun xs H Q=>∃ds d G,aJ K H ds xs G/\iH b ds=some d/\∀v H' G',Rep K H' d v G'->gX H H' G d G'->Q v H'
variable {cs:pA}{us:List Value}
section
variable {X:Cx}{T:Tb}
theorem sx {b:EF}{σ:L2.St}(h:tE X.K T (.blt b cs) σ H Q):FA (oW X.K b) (xG X.K T cs) σ H Q:=by
 obtain⟨P,env,F,re,p,LA,k⟩:=h;unfold ev at LA;obtain⟨l,h1,LA⟩:=Rs.Lz LA;obtain⟨d,h2,LA⟩:=Rs.Lz LA;cases LA;exact⟨P,env,F,re,l,h1,fun vs H1 G ar=>⟨l.map (·.1),d,G,ar.LQ,dH h2,fun v H' G' rp nv=>k v H' G' (ar.same.trans nv.same) rp (cD.new ar nv fun _ z=>z)⟩⟩
theorem aJ.Mv (h:aJ K H [d] xs G):∃x,xs=[x]/\Rep K H d x G:=by
 cases h with
 |cons r s=>cases s;exact⟨_,rfl,by rw[ay];exact r⟩
theorem aJ.of2 {e:D}(h:aJ K H [d,e] xs G):∃x y G1 G2,xs=[x,y]/\Rep K H d x G1/\Rep K H e y G2:=by
 cases h with
 |cons r s =>
  cases s with
  |cons r' s'=>cases s';exact⟨_,_,_,_,rfl,r,r'⟩
theorem xK:eJ X (.builtin "len") (oW X.K .len):=by
 intro pins s σ H xs us Q I r h;obtain⟨ds,d,G,rs,hd,k⟩:=h
 match ds,hd with
 |[.lst ys],hd =>
  cases hd;obtain⟨x,rfl,rp⟩:=rs.Mv;obtain⟨p,vs,g,rfl,rfl,a1,a2⟩:=rp.lst_inv;exact iY pins s σ H _ us Q I r ⟨p,vs,rfl,.inl (.inl a1),by rw[<-a2.len];exact k _ H [] (.int _) gX.nil⟩
 |[.tup ys],hd =>
  cases hd;obtain⟨x,rfl,rp⟩:=rs.Mv;obtain⟨p,vs,rfl,a1,a2⟩:=rp.LG;exact iY pins s σ H _ us Q I r ⟨p,vs,rfl,.inr a1,by rw[<-a2.len];exact k _ H [] (.int _) gX.nil⟩
 |[.str z],hd =>
  have hd:(if z.length<=lim then some (D.int (z.length:Int)) else none)=some d:=hd;by_cases hl:z.length<=lim
  .rw[if_pos hl] at hd;cases hd;obtain⟨x,rfl,rp⟩:=rs.Mv;obtain⟨rfl,rfl⟩:=rp.str_inv;exact rH pins s σ H _ us Q I r ⟨z,rfl,hJ hl,k _ H [] (.int _) gX.nil⟩
  .rw[if_neg hl] at hd;cases hd
theorem sD {σ:L2.St}(I:Inv X pins σ H s)(r:aS xs us)(rs:aJ X.K H ds xs G)(hd:iH .list ds=some d)(k:∀v H' G',Rep X.K H' d v G'->gX H H' G d G'->Q v H')(hn:∀ks,ds≠[.LI ks]):wpAny (model X.prog X.w) X.A (call (.type "list") us) (EP X pins σ Q) X.xe s:=by
 match ds,hd with
 |[.LI ks],hd=>exact absurd rfl (hn ks)
 |[.lst ys],hd =>
  cases hd;obtain⟨x,rfl,rp⟩:=rs.Mv;obtain⟨p,vs,g,rfl,rfl,a1,a2⟩:=rp.lst_inv;refine kI pins s σ H _ us Q I r ⟨p,vs,rfl,.inl (.inl a1),fun l hl=>?_⟩;obtain⟨n1,n2⟩:=lQ (G0:=p::g) a2 (fun a ha=>ai _ ha) hl;exact k _ _ _ n1 n2
 |[.tup ys],hd =>
  cases hd;obtain⟨x,rfl,rp⟩:=rs.Mv;obtain⟨p,vs,rfl,a1,a2⟩:=rp.LG;refine kI pins s σ H _ us Q I r ⟨p,vs,rfl,.inr a1,fun l hl=>?_⟩;obtain⟨n1,n2⟩:=lQ (G0:=G) a2 (fun a ha=>ha) hl;exact k _ _ _ n1 n2
end
def lN (K:Frag)(P:Addr->Prop)(H0:Hp)(J:It)(ds:List D)(G:List Addr):Prop:=∀H,lH P H0 H->(∀(i:Nat) (d:D),ds[i]? = some d->J.go i H/\∀x H',J.PF i H x H'->aH H H'/\∃G',Rep K H' d x G'/\∀a∈G',a∈G)/\J.stop ds.length H
noncomputable def tI (K:Frag)(T:Tb)(it:ym):TI:=fun σ H R=>∃P env F,RE K P env σ H F/\∃p,fU T it env=.ok p/\∀J H' G,aH H H'->cD env F H (.sh p.2) H' G->(∀a∈G,H' a≠none)->(∀P',(∀a∈G,P' a)->lN K P' H' J p.1 G)->R J H'
variable {H0:Hp}
theorem xD {P:Addr->Prop}(h1:Rd H0 p (.lst vs))(h2:aJ K H0 ds vs G)(hp:∀a∈p::G,P a):lN K P H0 (Wj K p) ds (p::G):=fun H e=>by
 have ep:=e.keep p (hp p aj);have Nr:Rd H p (.lst vs):=by
  rcases h1 with q | ⟨o,q⟩
  .exact .inl (ep.trans q)
  .exact .inr ⟨o,ep.trans q⟩
 have Ms:=e.LQ h2 fun a ha=>hp a (ai _ ha)
 refine⟨fun i d hd=>?_,⟨vs,.inl Nr,by rw[h2.len];exact au _⟩⟩;obtain⟨v,G',a,b,c⟩:=Ms.get hd;refine⟨⟨vs,v,.inl Nr,a⟩,fun x H' ⟨e1,e2⟩=>?_⟩;subst e1;have:=e2 vs (.inl Nr);rw[a] at this;cases this;exact⟨aH.refl _,G',b,fun z hz=>ai _ (c.subset hz)⟩
theorem yo {P:Addr->Prop}(h1:lJ K H0 p vs)(h2:aJ K H0 ds vs G)(hp:∀a∈G,P a):lN K P H0 (Wi K p) ds G:=fun H e=>by
 have Nr:=e.Pj h1;have Ms:=e.LQ h2 hp;refine⟨fun i d hd=>?_,⟨vs,Nr.sq,by rw[h2.len];exact au _⟩⟩;obtain⟨v,G',a,b,c⟩:=Ms.get hd;refine⟨⟨vs,v,Nr.sq,a⟩,fun x H' ⟨e1,e2⟩=>?_⟩;subst e1;have:=e2 vs Nr.sq;rw[a] at this;cases this;exact⟨aH.refl _,G',b,fun z hz=>c.subset hz⟩
noncomputable def II (xs:List V):It:=⟨fun i _=>i<xs.length,fun i H x H'=>H'=H/\xs[i]? = some x,fun i _=>xs.length<=i⟩
theorem qE {P:Addr->Prop}(hr:∀H,aJ K H ds vs []):lN K P H0 (II vs) ds []:=fun H e=>by
 have hl:=(hr H).len;refine⟨fun i d hd=>?_,by show vs.length<=ds.length;omega⟩;obtain⟨v,G',a,b,c⟩:=(hr H).get hd;refine⟨by show i<vs.length;rw[<-hl];exact (List.getElem?_eq_some_iff.mp hd).1,fun x H' ⟨e1,e2⟩=>?_⟩;subst e1;rw[a] at e2;cases e2;exact⟨aH.refl _,G',b,fun z hz=>c.subset hz⟩
variable {P:Program}{tg:Expr}{w:World}
theorem pH {it:Addr}{Pv:Nat->Value->Prop}{St:Nat->Heap->Prop}(W:∀A:Around,A.handled=none->Walks P w A it [it] [it] xs.length Pv St)(hP:∀i v,Pv i v->∃x,xs[i]? = some x/\RelV x v)
  (ob:∀i h,St i h->∃o n vs,h.get? it=some o/\o.cls=.type n/\o.data=.fields vs/\["enumerate","zip","dict_itemiterator","dict_reverseitemiterator","odict_iterator","itertools.zip_longest","itertools.pairwise"].contains n=false)
  (fr:∀i h h',St i h->(∀o,h.get? it=some o->h'.get? it=some o)->St i h') (le:∀i h,St i h->i<=xs.length) (Rc:∀(A:Around) (i:Nat) (s:Shared) (Q E:Value->Shared->Prop),St i s.heap->Q (.ref it) s->wpAny (model P w) A (pyIter (.ref it)) Q E s):Turn P w K tg (II xs) [it] it St where
 mem:=by simp
 obj:=fun i h st b hb=>by
  have e:b=it:=by simpa using hb
  subst e;obtain⟨o,n,vs,h1,h2,h3,_⟩:=ob i h st;exact⟨o,h1,fun v z=>by rw[h3] at z;cases z⟩
 keep:=fun i h h' st k=>fr i h h' st fun o e=>k it (by simp) o e
 item:=by
  intro X hp hw hK hc i pins s σ H E I hf st hg;subst hp hw hK;obtain⟨f0,f1,f2,f3,f4,f5⟩:=hf it (by simp);refine (W X.A (I.ok.hd hc)).item i s _ _ hg st fun v h' tk hv MF kk=>?_
  obtain⟨x,ex,rx⟩:=hP i v hv;have I1:Inv X pins σ H { s with heap:=h',toks:=tk }:=I.turned (fun b o hb e=>kk b o (by simpa using hb) e) f0 f1 f3 f4 f5;obtain⟨o,n,vs,h1,h2,h3,h4⟩:=ob (i+1) h' MF;exact⟨v,rfl,zA (s:={ s with heap:=h',toks:=tk }) (n:=n) h1 h2 h3 h4 ⟨x,H,I1,rx,⟨rfl,ex⟩,MF,fun b hb=>(hf b hb).1⟩⟩
 done:=by
  intro X hp hw hK hc i pins s σ H E I hf st hg;subst hp hw hK;obtain⟨f0,f1,f2,f3,f4,f5⟩:=hf it (by simp);have hi:i=xs.length:=Nat.le_antisymm (le i _ st) hg;subst hi;exact (W X.A (I.ok.hd hc)).done s _ _ st fun h' tk kk=>⟨rfl,I.turned (fun b o hb e=>kk b o (by simpa using hb) e) f0 f1 f3 f4 f5⟩
 self:=fun A i s Q E st h=>Rc A i s Q E st h
noncomputable def iX (a c:Int)(n:Nat):List V:=(List.range n).map fun (i:Nat)=>.int (a+(i:Int)*c)
theorem oz (a c:Int)(n:Nat):(iX a c n).length=n:=by simp[iX]
theorem oN (c:Int):∀(n:Nat) (a:Int),aJ K H (aW a c n) (iX a c n) []
 |0,a=>.nil
 | n+1,a=>by
  have e:iX a c (n+1)=.int a::iX (a+c) c n:=by
   unfold iX;rw[gj,aw,df];congr 1
   .simp
   .refine gi fun i _=>?_
    simp only[Function.comp_apply,V.int.injEq,Nat.succ_eq_add_one]
    push_cast
    rw[Int.add_mul];omega
  rw[e];show aJ K H (.int a::aW (a+c) c n) _ ([] ++ []);exact .cons (.int a) (oN c n (a+c))
theorem lG (a b c:Int)(hc:c≠0):0<=Builtin.Range.rangeSize a b c:=by
 unfold Builtin.Range.rangeSize;split
 .rename_i h;split
  .have:0<=(b-a-1) / c:=Int.ediv_nonneg (by omega) (by omega);omega
  .omega
 .split
  .have:0<=(a-b-1) / (-c):=Int.ediv_nonneg (by omega) (by omega);omega
  .omega
theorem sE {a b c:Int}(ha:fT a=true)(hb:fT b=true)(hc:c≠0)(hs:c.natAbs<1073741824):Builtin.Range.small a b c=true:=by
 unfold fT at ha hb;have ha:=dw ha;have hb:=dw hb;have hn:=lG a b c hc;have hu:Builtin.Range.rangeSize a b c<2 ^ 63:=by
  unfold Builtin.Range.rangeSize;split
  .split
   .have:=Int.ediv_le_self (b:=c) (a:=b-a-1) (by omega);omega
   .decide
  .split
   .have:=Int.ediv_le_self (b:=-c) (a:=a-b-1) (by omega);omega
   .decide
 unfold Builtin.Range.small;simp only[Builtin.Range.rangeFitsLong,Bool.and_eq_true,Bool.or_eq_true,decide_eq_true_eq,beq_iff_eq];refine⟨⟨⟨⟨⟨by omega,by omega⟩,by omega,by omega⟩,by omega,by omega⟩,by omega,hu⟩,.inr ?_⟩;split<;>simp only[Bool.and_eq_true,decide_eq_true_eq]<;>omega
section
variable {X:Cx}{tg:Expr}
theorem ma {σ:L2.St}{R:It->Hp->Prop}{E:Value->Shared->Prop}{lo hi c:Int}{t u v:Tok}{tk:Nat}(I:Inv X pins σ H s)(h1:fT lo=true)(h2:fT hi=true)(h3:c≠0)(h4:c.natAbs<1073741824)
  (q:R (II (iX lo c (Builtin.Range.rangeSize lo hi c).toNat)) H):wpAny (model X.prog X.w) X.A (pyIter (.ref s.heap.objs.size)) (Ie X pins σ tg R) E { s with heap:=s.heap.push { cls:=.type "range",data:=.fields #[.int lo t,.int hi u,.int c v] },toks:=tk }:=by
 refine wpAny_pyIter_range (IsRange.new ..) (sE h1 h2 h3 h4) ?_;have I1:Inv X pins σ H { s with heap:=s.heap.push { cls:=.type "range",data:=.fields #[.int lo t,.int hi u,.int c v] },toks:=tk }:=I.kept fun b o e=>Heap.get?_push_of_some _ e
 have hn:=lG lo hi c h3;let n:=(Builtin.Range.rangeSize lo hi c).toNat;refine⟨(s.heap.push { cls:=.type "range",data:=.fields #[.int lo t,.int hi u,.int c v] }).objs.size,[(s.heap.push { cls:=.type "range",data:=.fields #[.int lo t,.int hi u,.int c v] }).objs.size],
  (fun i h=>i<=n/\IsRangeIter h (s.heap.push { cls:=.type "range",data:=.fields #[.int lo t,.int hi u,.int c v] }).objs.size (lo+(i:Nat)*c) ((n:Int)-(i:Nat)) c),_,H,rfl,
  I1.kept (t':=tk) fun b o e=>Heap.get?_push_of_some _ e,pH (Pv:=fun i v=>i<n/\∃t,v=.int (lo+i*c) t) (fun A hA=>?_) (fun i v hv=>?_) (fun i h st=>?_) (fun i h h' st k=>⟨st.1,k _ st.2⟩) (fun i h st=>by rw[oz];exact st.1) (fun A i s Q E st h=>wpAny_pyIter_rangeiter st.2 h),?_,fun b hb=>?_,q⟩
 .rw[oz];have W:=Walks.range (prog:=X.prog) (w:=X.w) hA (s.heap.push { cls:=.type "range",data:=.fields #[.int lo t,.int hi u,.int c v] }).objs.size lo c n;exact⟨W.sub,fun i h h' st k=>⟨st.1,W.frame i h h' st.2 k⟩,fun i s Q E hi st hQ=>W.item i s Q E hi st.2 fun v h' tk hv MF kk=>hQ v h' tk ⟨hi,hv⟩ ⟨hi,MF⟩ kk,fun s Q E st hQ=>W.done s Q E st.2 hQ,fun i s Q E st h=>W.self i s Q E st.2 h⟩
 .obtain⟨RD,t',rfl⟩:=hv;exact⟨.int (lo+i*c),by unfold iX;rw[List.getElem?_map,List.getElem?_range RD];rfl,t',rfl⟩
 .exact⟨_,_,_,st.2,rfl,rfl,by decide⟩
 .refine⟨dh _,?_⟩;have e1:lo+((0:Nat):Int)*c=lo:=by simp
  have e2:((n:Nat):Int)-((0:Nat):Int)=Builtin.Range.rangeSize lo hi c:=by omega
  rw[e1,e2];exact Heap.get?_push_size _ rfl
 .have e:b=(s.heap.push { cls:=.type "range",data:=.fields #[.int lo t,.int hi u,.int c v] }).objs.size:=by simpa using hb
  subst e;exact I1.MO (au _) (I1.LB.fresh (au _))
end
variable {a:Addr}{c:Ex}{es:List Expr}{it:ym}{pos:Pos}
section
variable {X:Cx}{tg:Expr}{T:Tb}{pins:List (Addr×Obj)}{σ:L2.St}{H:Hp}{s:Shared}{R:It->Hp->Prop}{E:Value->Shared->Prop}
theorem Dl (I:Inv X pins σ H s)(hq:o9 X.K H a xs)(q:R (Wj X.K a) H):wpAny (model X.prog X.w) X.A (pyIter (.ref a)) (Ie X pins σ tg R) E s:=by
 obtain⟨its,rv,p,hz⟩:=I.list hq;refine wpAny_pyIter_list p.isList ?_;refine⟨s.heap.objs.size,[s.heap.objs.size],_,_,H,rfl,I.kept (t':=s.toks) fun b o e=>Heap.get?_push_of_some _ e,xa a _,⟨_,Heap.get?_push_size _ rfl,rfl,rfl⟩,fun b hb=>?_,q⟩;have e:b=s.heap.objs.size:=by simpa using hb
 subst e;exact I.MO (au _) (I.LB.fresh (au _))
theorem zq (I:Inv X pins σ H s)(hq:pC X.K H a xs)(q:R (Wi X.K a) H):wpAny (model X.prog X.w) X.A (pyIter (.ref a)) (Ie X pins σ tg R) E s:=by
 obtain⟨its,rv,p,hz⟩:=I.tuple hq;refine wpAny_pyIter_tuple (show s.heap.IsTuple a its.toArray from p) ?_;refine⟨s.heap.objs.size,[s.heap.objs.size],_,_,H,rfl,I.kept (t':=s.toks) fun b o e=>Heap.get?_push_of_some _ e,uk a _,⟨_,Heap.get?_push_size _ rfl,rfl,rfl⟩,fun b hb=>?_,q⟩;have e:b=s.heap.objs.size:=by simpa using hb
 subst e;exact I.MO (au _) (I.LB.fresh (au _))
noncomputable def qU (z:Str):List V:=z.cps.toList.map fun c=>.str ⟨#[c]⟩
theorem GC {z:Str}{t:Tok}(I:Inv X pins σ H s)(q:R (II (qU z)) H):wpAny (model X.prog X.w) X.A (pyIter (.str z t)) (Ie X pins σ tg R) E s:=by
 have hlen:(qU z).length=z.cps.size:=by simp[qU]
 have core:∀(nm:String) (hn:["enumerate","zip","dict_itemiterator","dict_reverseitemiterator","odict_iterator","itertools.zip_longest","itertools.pairwise"].contains nm=false)
   (W:∀A:Around,A.handled=none->Walks X.prog X.w A s.heap.objs.size [s.heap.objs.size] [s.heap.objs.size] z.cps.size (SignAt z) (fun i h=>h.IsStrIter s.heap.objs.size nm z t i))
   (Rc:∀(A:Around) (i:Nat) (s':Shared) (Q E:Value->Shared->Prop),s'.heap.IsStrIter s.heap.objs.size nm z t i->Q (.ref s.heap.objs.size) s'->wpAny (model X.prog X.w) A (pyIter (.ref s.heap.objs.size)) Q E s'),
   Ie X pins σ tg R (.ref s.heap.objs.size) { s with heap:=s.heap.push { cls:=.type nm,data:=.fields #[.str z t,.int 0 0] } }:=by
  intro nm hn W Rc;refine⟨s.heap.objs.size,[s.heap.objs.size],(fun i h=>i<=z.cps.size/\h.IsStrIter s.heap.objs.size nm z t i),_,H,rfl,I.kept (t':=s.toks) fun b o e=>Heap.get?_push_of_some _ e,
   pH (Pv:=SignAt z) (fun A hA=>?_) (fun i v hv=>?_) (fun i h st=>?_) (fun i h h' st k=>⟨st.1,let ⟨o,ho,r⟩:=st.2;⟨o,k o ho,r⟩⟩) (fun i h st=>by rw[hlen];exact st.1) (fun A i s Q E st h=>Rc A i s Q E st.2 h),⟨dh _,⟨_,Heap.get?_push_size _ rfl,rfl,rfl⟩⟩,fun b hb=>?_,q⟩
  .rw[hlen];have W:=W A hA;exact⟨W.sub,fun i h h' st k=>⟨st.1,W.frame i h h' st.2 k⟩,fun i s Q E hi st hQ=>W.item i s Q E hi st.2 fun v h' tk hv MF kk=>hQ v h' tk hv ⟨hi,MF⟩ kk,fun s Q E st hQ=>W.done s Q E st.2 hQ,fun i s Q E st h=>W.self i s Q E st.2 h⟩
  .obtain⟨c,u,e,rfl⟩:=hv;exact⟨.str ⟨#[c]⟩,by simp[qU];exact e,u,rfl⟩
  .obtain⟨o,ho,hc,hd⟩:=st.2;exact⟨o,nm,_,ho,hc,hd,hn⟩
  .have e:b=s.heap.objs.size:=by simpa using hb
   subst e;exact I.MO (au _) (I.LB.fresh (au _))
 cases ha:z.cps.all (· < 128)
 .exact wpAny_pyIter_wide ha (core "str_iterator" (by decide) (fun A' hA=>Walks.strWide hA _ z t) fun A i s' Q E st h=>wpAny_pyIter_striter_wide st h)
 .exact wpAny_pyIter_ascii ha (core "str_ascii_iterator" (by decide) (fun A' hA=>Walks.strAscii hA _ z t) fun A i s' Q E st h=>wpAny_pyIter_striter_ascii st h)
theorem oi {H:Hp}:∀(cs:List Nat),aJ K H (cs.map fun c=>D.str ⟨#[c]⟩) (cs.map fun c=>V.str ⟨#[c]⟩) []
 |[]=>.nil
 | c::cs=>by
  show aJ K H (_::_) (_::_) ([] ++ []);exact .cons (.str _) (oi cs)
theorem Aj (h:PE X e (tE X.K T c)):PI X tg e (tI X.K T (.seq c)):=by
 intro pins s σ H R I hq;obtain⟨P,env,F,re,p,LA,k⟩:=hq;unfold fU at LA;obtain⟨q,h1,LA⟩:=Rs.Lz LA;obtain⟨l,h2,LA⟩:=Rs.Lz LA;have h2:=dH h2;cases LA;refine cO (h pins s σ H (fun v H'=>∃G,aH H H'/\Rep X.K H' q.1 v G/\cD env F H q.2 H' G) I ⟨P,env,F,re,q,h1,fun v H' G s rp rt=>⟨G,s,rp,rt⟩⟩) fun u s1 ⟨v,H1,I1,r1,G,e,rp,rt⟩=>?_
 have NW:cD env F H (.sh q.2.roots) H1 G:=rt.part (fun _ h=>h) (fun _ h=>h) fun R e=>by cases e
 cases hd:q.1 with
 |lst xs =>
  rw[hd] at rp h2;cases h2;obtain⟨a,vs,g,rfl,rfl,a1,a2⟩:=rp.lst_inv;cases r1;exact Dl I1 (.inl a1) (k _ H1 (a::g) e NW (fun b hb=>rp.nn hb) fun P' hP=>xD a1 a2 hP)
 |tup xs =>
  rw[hd] at rp h2;cases h2;obtain⟨a,vs,rfl,a1,a2⟩:=rp.ME;cases r1;exact zq I1 a1.sq (k _ H1 G e NW (fun b hb=>rp.nn hb) fun P' hP=>yo a1 a2 hP)
 |str z =>
  rw[hd] at rp h2;simp only[uY] at h2;by_cases hl:z.length<=lim
  .rw[if_pos hl] at h2;cases h2;obtain⟨rfl,rfl⟩:=rp.str_inv;obtain⟨t,rfl⟩:=r1;exact GC I1 (k _ H1 [] e cD.nil (fun _ h=>(nomatch h)) fun P' hP=>qE fun H=>oi _)
  .rw[if_neg hl] at h2;cases h2
 |_=>rw[hd] at h2;cases h2
theorem mm (a b:Int):(Builtin.Range.rangeSize a b 1).toNat=(b-a).toNat:=by
 rw[rangeSize_one];split<;>omega
theorem Gq {p:Pos}{e0:Expr}{rest:List Expr}(Uk:es=e0::rest)(hg:Gl X "range") (hm:X.mg "range" = none) (ha:PA X es (xG X.K T cs)) (hs:starEach es X.env=(false,eval e0 X.env)::starEach rest X.env) (Md:(backTo pos (starEach rest X.env)).any (·.1)=false)
  (hit:∀env p,fU T it env=.ok p->p.2=[]/\∃l,aY T cs env=.ok l/\((∃j,l.map (·.1)=[.int j]/\fT j=true/\p.1=aW 0 1 j.toNat)\/(∃i j,l.map (·.1)=[.int i,.int j]/\fT i=true/\fT j=true/\p.1=aW i 1 (j-i).toNat) \/
   ∃i j k,l.map (·.1)=[.int i,.int j,.int k]/\fT i=true/\fT j=true/\k≠0/\k.natAbs<1073741824/\p.1=aW i k (Builtin.Range.rangeSize i j k).toNat)) :
  PI X tg (.Call (.Name "range" p) es [] pos) (tI X.K T it):=by
 subst Uk;intro pins s σ H R I hq;obtain⟨P,env,F,re,q,LA,k⟩:=hq;obtain⟨W5,l,hl,hc⟩:=hit env q LA;refine Call_ (m7 I hg hm boot_range (jd (cO (ha pos pins s σ H (fun vs H'=>∃G,Args X.K env F H H' l vs G) I ⟨P,env,F,re,l,hl,fun vs H' G ar=>⟨G,ar⟩⟩) fun us s1 ⟨vs,H1,I1,r1,G,ar⟩=>?_) hs Md));have rs:=ar.LQ;have fin:∀(a c:Int) (n:Nat),q.1=aW a c n->R (II (iX a c n)) H1:=fun a c n e=>by
  refine k _ H1 [] ar.same cD.nil (fun _ h=>(nomatch h)) fun P' _=>?_
  rw[e];exact qE fun H=>oN c n a
 have one:∀{d:D}{ds:List D}{vs:List V}{us:List Value}{G:List Addr},aJ X.K H1 (d::ds) vs G->aS vs us->∀i,d=.int i->∃t PH N1 G',us=.int i t::PH/\vs=.int i::N1/\aJ X.K H1 ds N1 G'/\aS N1 PH:=by
  intro d ds vs us G r rv i e;subst e;cases r with
  |cons r rr =>
   obtain⟨rfl,rfl⟩:=r.int_inv;cases rv with
   |cons x y =>
    obtain⟨t,rfl⟩:=x;exact⟨t,_,_,_,rfl,rfl,rr,y⟩
 have nil:∀{vs:List V}{us:List Value}{G:List Addr},aJ X.K H1 [] vs G->aS vs us->us=[]:=by
  intro vs us G r rv;cases r;cases rv;rfl
 rcases hc with ⟨j,e1,e2,e3⟩ | ⟨i,j,e1,e2,e3,e4⟩ | ⟨i,j,c,e1,e2,e3,e4,e5,e6⟩
 .rw[e1] at rs;obtain⟨t,PH,N1,G',rfl,_,rs,r1⟩:=one rs r1 j rfl;obtain rfl:=nil rs r1;refine call_range_1 (ma (c:=1) I1 (by decide) e2 (by decide) (by decide) ?_);refine fin _ _ _ ?_;rw[e3,mm];simp
 .rw[e1] at rs;obtain⟨t,PH,N1,G',rfl,_,rs,r1⟩:=one rs r1 i rfl;obtain⟨t',Sb,R9,Wk,rfl,_,rs,r1⟩:=one rs r1 j rfl;obtain rfl:=nil rs r1;refine call_range_2 (ma (c:=1) I1 e2 e3 (by decide) (by decide) ?_);refine fin _ _ _ ?_;rw[e4,mm]
 .rw[e1] at rs;obtain⟨t,PH,N1,G',rfl,_,rs,r1⟩:=one rs r1 i rfl;obtain⟨t',Sb,R9,Wk,rfl,_,rs,r1⟩:=one rs r1 j rfl;obtain⟨t3,us3,vs3,G3,rfl,_,rs,r1⟩:=one rs r1 c rfl;obtain rfl:=nil rs r1;refine call_range_3 e4 (ma (c:=c) I1 e2 e3 e4 e5 ?_) (.inl (PyProof.noPylong_small e5));exact fin _ _ _ e6
end
variable {h:Heap}
theorem yN {o o':Obj}{b:Addr}(e:(h.push o).get? b=some o'):(b=h.objs.size/\o'=o)\/h.get? b=some o':=by
 obtain⟨e1,e2⟩:=Heap.get?_some_iff.mp e;by_cases hb:b=h.objs.size
 .left;subst hb;refine⟨rfl,?_⟩;have:(h.push o).objs[h.objs.size]? = some o:=by cases h;simp[Heap.push]
  rw[this] at e1;exact (cq e1).symm
 .right;refine Heap.get?_some_iff.mpr ⟨?_,e2⟩;cases h;simpa[Heap.push,Array.getElem?_push,hb] using e1
theorem Fu (n b:Nat)(h:b=n+1\/b=n):n<=b:=by omega
variable {h':Heap}
section
variable {X:Cx}{pins:List (Addr×Obj)}{σ:L2.St}{H:Hp}{s:Shared}
theorem kJ {t':Nat}{ch:List Addr}(I:Inv X pins σ H s)(k:∀b o,b∉ch->s.heap.get? b=some o->h'.get? b=some o)(hf:∀b∈ch,j7 X pins H b):Inv X pins σ H { s with heap:=h',toks:=t' }:=by
 have P7:∀b u,H b=some u->b∉ch:=fun b u e z=>by
  have:=(hf b z).1;rw[this] at e;cases e
 refine I.step (g':=s.gens) (d':=s.drawn) (ch:=ch) (fun b hb=>?_) (fun b o _ _ hc e _=>k b o hc e) (fun b o _ _ hc e _=>⟨o.slots,k b o hc e⟩) (fun _ _ _ _ n=>n)
  (fun b o hc e=>⟨o,k b o hc e⟩) (fun _ _ e=>e) (fun _ _ _ e=>e) (fun b ps e=>⟨#[],by rw[e];simp⟩) (fun m hm=>?_) (fun b u e=>?_) I.bare
 .obtain⟨f0,f1,f2,f3,f4,f5⟩:=hf b hb;exact⟨f3,f1,f4,f5⟩
 .obtain⟨o,es,ep,ho,r⟩:=hm;exact⟨o,es,ep,k _ o (fun z=>(hf _ z).2.1 rfl) ho,r⟩
 .refine (I.LB b u e).LN (fun c v hc q=>k c v ?_ q) (fun _ q=>q) fun _ _ q=>q
  rcases hc with z | z
  .rw[z];exact P7 b u e
  .exact P7 c _ z
theorem paired {t':Nat}{ch:List Addr}{x y:V}{u v:Value}(I:Inv X pins σ H s)(hu:RelV x u)(hv:RelV y v)(hT:h'.get? s.heap.objs.size=some { cls:=.type "tuple",data:=.seq #[u,v] })
  (k:∀b o,b∉ch->s.heap.get? b=some o->h'.get? b=some o) (hf:∀b∈ch,j7 X pins H b) (hl:∀b∈ch,b<s.heap.objs.size):Inv X pins σ (upd H s.heap.objs.size (.tup [x,y])) { s with heap:=h',toks:=t' }:=by
 have I1:Inv X pins σ (upd H s.heap.objs.size (.tup [x,y])) { s with heap:=s.heap.push { cls:=.type "tuple",data:=.seq #[u,v] },toks:=t' } :=
  I.laid (fun _ _ q=>Heap.get?_push_of_some _ q) (au _) ⟨by show 2<=sizeLine;decide,[u,v],.cons hu (.cons hv .nil),⟨_,Heap.get?_push_size _ rfl,rfl,_,rfl⟩⟩
 refine kJ (s:={ s with heap:=s.heap.push { cls:=.type "tuple",data:=.seq #[u,v] },toks:=t' }) (ch:=ch) I1 (fun b o hb q=>?_) fun b hb=>?_
 .rcases yN q with ⟨rfl,rfl⟩ | q
  .exact hT
  .exact k b o hb q
 .obtain⟨f0,f⟩:=hf b hb;exact⟨by rw[aO (bw (hl b hb))];exact f0,f⟩
end
noncomputable def XY (K:Frag)(l:Addr):It:=⟨fun i H=>∃xs x,o9 K H l xs/\xs[i]? = some x,fun i H v H'=>∃T x,v=.ref T/\H T=none/\(∀xs,o9 K H l xs->xs[i]? = some x)/\H'=upd H T (.tup [.int i,x]),fun i H=>∃xs,o9 K H l xs/\xs.length<=i⟩
variable {elts:List Expr}{x1:Nat}
theorem xj (l e it:Addr)(NJ:e≠it):Turn P w K (.Tuple elts x1 pos) (XY K l) [e,it] e (fun i h=>(∃old,IsEnum h e it (i:Nat) old)/\h.IsListIter it l i) where
 mem:=by simp
 obj:=fun i h st b hb=>by
  obtain⟨⟨old,he⟩,hit⟩:=st;have hb:b=e\/b=it:=by simpa using hb
  rcases hb with rfl | rfl
  .exact⟨_,he,fun v z=>by cases z⟩
  .obtain⟨o,e,c,d⟩:=hit;exact⟨o,e,fun v z=>by rw[d] at z;cases z⟩
 keep:=fun i h h' st k=>⟨let ⟨old,he⟩:=st.1;⟨old,k e (by simp) _ he⟩,st.2.at fun o z=>k it (by simp) o z⟩
 item:=by
  intro X hP hw hK hc i pins s σ H E I hf st hg;subst hP hw hK;obtain⟨xs,x,hq,hx⟩:=hg;obtain⟨its,rv,p,hz⟩:=I.list hq;obtain⟨u,hu,ru⟩:=rv.get hx;obtain⟨⟨old,he⟩,hit⟩:=st;have Qb:∀b∈[e,it],b<s.heap.objs.size:=fun b hb=>by
   have hb:b=e\/b=it:=by simpa using hb
   rcases hb with rfl | rfl
   .exact Heap.lt_size he
   .obtain⟨o,e,_⟩:=hit;exact Heap.lt_size e
  refine wpAny_pyNext_enum_item he hit p.isList (x:=u) (by simpa using hu) NJ fun h' ho O2 hT hsz hk=>?_
  have I2:Inv X pins σ (upd H s.heap.objs.size (.tup [.int i,x])) { s with heap:=h',toks:=s.toks+1 } :=
   paired (ch:=[e,it]) I ⟨s.toks,rfl⟩ ru hT (fun b o hb q=>hk b o (fun z=>hb (by simp[z])) (fun z=>hb (by simp[z])) q) hf Qb
  have f2:∀b∈[e,it],j7 X pins (upd H s.heap.objs.size (.tup [.int i,x])) b:=fun b hb=>by
   obtain⟨f0,f⟩:=hf b hb;exact⟨by rw[aO (bw (Qb b hb))];exact f0,f⟩
  refine⟨_,rfl,wpAny_letOwnedTupleGo_enum (s:={ s with heap:=h',toks:=s.toks+1 }) ho fun h2 Ul Ov=>?_⟩;refine⟨.ref s.heap.objs.size,_,kJ (ch:=[e]) I2 (fun b o hb q=>Ov.extBut b o (fun z=>hb (by simp[z])) q) (fun b hb=>f2 b (by simp at hb;simp[hb])),rfl,⟨_,x,rfl,I.fresh,fun ys hy=>by rw[I.Ml hy hq];exact hx,rfl⟩,⟨⟨_,by simpa using Ul⟩,O2.at fun o z=>Ov.extBut it o (Ne.symm NJ) z⟩,fun b hb=>(f2 b hb).1⟩
 done:=by
  intro X hP hw hK hc i pins s σ H E I hf st hg;subst hP hw hK;obtain⟨xs,hq,hx⟩:=hg;obtain⟨its,rv,p,hz⟩:=I.list hq;obtain⟨⟨old,he⟩,hit⟩:=st;have hl:=rv.length;exact wpAny_pyNext_enum_end (I.ok.hd hc) he hit p.isList (by simp;omega) fun h' eb=>⟨rfl,kJ (t':=s.toks) (ch:=[it]) I (fun b o hb q=>eb b o (fun z=>hb (by simp[z])) q) fun b hb=>hf b (by simp at hb;simp[hb])⟩
 self:=fun A i s Q E st h=>by
  obtain⟨⟨old,he⟩,_⟩:=st;exact wpAny_pyIter_enum he h
theorem xp {P:Addr->Prop}(h1:Rd H0 p (.lst vs))(h2:aJ K H0 ds vs G)(hp:∀a∈p::G,P a):lN K P H0 (XY K p) (ds.zipIdx.map fun q=>.tup [.int q.2,q.1]) (p::G):=fun H e=>by
 have ep:=e.keep p (hp p aj);have Nr:Rd H p (.lst vs):=by
  rcases h1 with q | ⟨o,q⟩
  .exact .inl (ep.trans q)
  .exact .inr ⟨o,ep.trans q⟩
 have Ms:=e.LQ h2 fun a ha=>hp a (ai _ ha)
 refine⟨fun i d hd=>?_,⟨vs,.inl Nr,by rw[ak,List.length_zipIdx,h2.len];exact au _⟩⟩;have hd:∃d',ds[i]? = some d'/\d=.tup [.int i,d']:=by
  rw[List.getElem?_map,List.getElem?_zipIdx] at hd;cases q:ds[i]? with
  |none=>rw[q] at hd;cases hd
  |some d'=>rw[q] at hd;simp at hd;exact⟨d',rfl,hd.symm⟩
 obtain⟨d',NP,rfl⟩:=hd;obtain⟨v,G',a,b,c⟩:=Ms.get NP;refine⟨⟨vs,v,.inl Nr,a⟩,fun x H' ⟨T,x',e1,e2,e3,e4⟩=>?_⟩;subst e1 e4;have:=e3 vs (.inl Nr);rw[a] at this;cases this;have sm:aH H (upd H T (.tup [.int i,v])):=aH.new e2;refine⟨sm,G',.tup (.inl aM) ?_,fun z hz=>ai _ (c.subset hz)⟩;have r:=aJ.cons (Rep.int (K:=K) (H:=upd H T (.tup [.int i,v])) (i:Int)) (aJ.cons (b.same sm) .nil);rw[ay,dq] at r;exact r
variable {H':Hp}{R:List Nat}
section
variable {X:Cx}{T:Tb}
theorem qc {env:En}{l:List (D×Rt)}(ar:Args X.K env F H H' l vs G)(h:∀q,q∈aZ (l.map (·.2))->q∈R):cD env F H (.sh R) H' G where
 cont:=fun a ha=>(ar.cont a ha).imp id fun ⟨i,d,t,x,y,z⟩=>⟨i,d,t,x,y,fun q hq=>h q (z q hq)⟩
 mv:=fun R e=>by cases e
end
def tS (K:Frag)(T:Tb)(c:St):TS:=fun D σ H=>∃P Z env F,RE K P env σ H F/\(∀i,∀a∈F i,Z a)/\(∀a,¬ P a->Z a)/\post K P Z env F H D (aV T c env)
def Ee (K:Frag)(T:Tb)(c:bL):TS:=fun D σ H=>∃P Z env F,RE K P env σ H F/\(∀i,∀a∈F i,Z a)/\(∀a,¬ P a->Z a)/\post K P Z env F H D (aE T c env)
section
variable {K:Frag}{P Z:Addr->Prop}{env:En}{σ:L2.St}{H:Hp}{F:Nat->List Addr}{D:Ends}
theorem cQ {α:Type}{x:Rs α}{k:α->Fl}(h:post K P Z env F H D (j8 env x k)):∃a,x=.ok a/\post K P Z env F H D (k a):=by
 cases x with
 |ok a=>exact⟨a,rfl,h⟩
 |exc e=>exact h.elim
 |bad=>exact h.elim
theorem After.same (re:RE K P env σ H F)(hz:∀i,∀a∈F i,Z a)(e:aH H H'):After K P Z env F H env σ H' F:=⟨re.same e,hz,lH.of_same re.pl e,vg.refl _ _⟩
theorem Hw {r:Rt}(re:RE K P env σ H F)(hz:∀i,∀a∈F i,Z a)(zp:∀a,¬ P a->Z a)(rt:cD env F H r H' G):∀a∈G,Z a:=fun a ha=>by
 rcases rt.cont a ha with q | ⟨j,_,_,f,_⟩
 .exact zp a fun z=>re.pl a z q
 .exact hz j a f
end
variable {b:List Stmt}{cb:bL}{iter:Expr}{mv:Bool}{pos':Pos}{st:Stmt}{t:oU}
section
variable {X:Cx}{T:Tb}{pos:Pos}{e:Expr}{c:Ex}
theorem B3:lP X [] (Ee X.K T .nil):=by
 refine vH lE fun D σ H ⟨P,Z,env,F,re,hz,zp,h⟩=>?_
 unfold aE at h;exact h σ H F (After.same re hz (aH.refl _))
theorem Ar {rest:List Stmt}{cs:St}{cr:bL}(h1:PS X st (tS X.K T cs))(h2:lP X rest (Ee X.K T cr)):lP X (st::rest) (Ee X.K T (.cons cs cr)):=by
 refine vH (aT h1 h2) fun D σ H ⟨P,Z,env,F,re,hz,zp,h⟩=>⟨P,Z,env,F,re,hz,zp,?_⟩
 unfold aE at h;cases hs:aV T cs env with
 |nx env' =>
  rw[hs] at h;exact fun σ' H' F' af=>⟨P,Z,env',F',af.re,af.z,zp,post.trans af h⟩
 |bk env'=>rw[hs] at h;exact h
 |ct env'=>rw[hs] at h;exact h
 |rt d fr=>rw[hs] at h;exact h
 |xc e env'=>rw[hs] at h;exact h
 |bad=>rw[hs] at h;exact h
theorem Bx:PS X (.Pass pos) (tS X.K T .pass):=by
 refine dO Cr fun D σ H ⟨P,Z,env,F,re,hz,zp,h⟩=>?_
 unfold aV at h;exact h σ H F (After.same re hz (aH.refl _))
theorem GU {j:Nat}:PS X (.Expr (.Constant (.str x) j pos) pos') (tS X.K T .pass):=by
 refine dO GR fun D σ H ⟨P,Z,env,F,re,hz,zp,h⟩=>?_
 unfold aV at h;exact h σ H F (After.same re hz (aH.refl _))
theorem Cm:PS X (.Return none pos) (tS X.K T .N3):=by
 refine dO CI fun D σ H ⟨P,Z,env,F,re,hz,zp,h⟩=>?_
 unfold aV at h;exact h .LC H [] .LC (lH.refl _) (fun _ h=>(nomatch h)) fun _=>⟨cu,fun _ h=>(nomatch h)⟩
theorem FQ (he:PE X e (tE X.K T c)):PS X (.Return (some e) pos) (tS X.K T (.ret c)):=by
 refine dO (km he) fun D σ H ⟨P,Z,env,F,re,hz,zp,h⟩=>?_
 unfold aV at h;obtain⟨p,hp,h⟩:=cQ h;refine⟨P,env,F,re,p,hp,fun v H' G s rp rt=>h v H' G rp (lH.of_same re.pl s) (Hw re hz zp rt) fun fr=>?_⟩;cases hr:p.2 with
 |sh R=>rw[hr] at fr;cases fr
 |mv R =>
  rw[hr] at fr;obtain⟨a,b,d⟩:=rt.mv R hr;refine⟨a,fun x hx=>⟨fun z=>?_,b x hx⟩⟩;rcases d x hx with q | ⟨i,d2,t2,hi,f,e2,o2⟩
  .exact re.pl x z q
  .have:=cv.mp fr i hi;split at this
   .rename_i d' q;exact re.wr i d' q x f z
   .cases this
theorem CW (he:PE X e (tE X.K T c))(hs:swapsWith e none pos.line X.env=pure false):PS X (.Expr e pos) (tS X.K T (.expr c)):=by
 refine dO (kN he hs) fun D σ H ⟨P,Z,env,F,re,hz,zp,h⟩=>?_
 unfold aV at h;obtain⟨p,hp,h⟩:=cQ h;exact⟨P,env,F,re,p,hp,fun v H' G s rp rt=>h σ H' F (After.same re hz s)⟩
theorem EO {a:List Stmt}{ca:bL}(hc:PT X e (m5 X.K T c))(ha:lP X a (Ee X.K T ca))(hb:lP X b (Ee X.K T cb)):PS X (.If e a b pos) (tS X.K T (.ite c ca cb)):=by
 refine dO (tB hc ha hb) fun D σ H ⟨P,Z,env,F,re,hz,zp,h⟩=>?_
 unfold aV at h;obtain⟨p,hp,h⟩:=cQ h;cases ht:truth p.1 with
 |none=>rw[ht] at h;exact h.elim
 |some k =>
  rw[ht] at h;refine⟨P,env,F,re,p,k,hp,ht,fun H' s=>?_⟩;have af:=After.same (Z:=Z) re hz s;cases k with
  |true=>show if true=true then _ else _;rw[if_pos rfl];exact⟨P,Z,env,F,af.re,hz,zp,post.trans af h⟩
  |false=>show if false=true then _ else _;rw[if_neg bj];exact⟨P,Z,env,F,af.re,hz,zp,post.trans af h⟩
theorem zQ (hN:X.N.Nodup)(hi:X.N[i]? = some x)(hx:Loc X.env.scope x)(he:PE X e (tE X.K T c))(hs:swapsWith e (some (.Name x pos')) pos.line X.env=pure false)(hf:X.fn x=true\/X.env.scope.names.lookup x=some .local) :
  PS X (.Assign [.Name x pos'] e pos) (tS X.K T (.asg (.nm i) c mv)):=by
 refine dO (cG hN hi hx he hs hf) fun D σ H ⟨P,Z,env,F,re,hz,zp,h⟩=>?_
 unfold aV at h;obtain⟨p,hp,h⟩:=cQ h;exact⟨P,env,F,re,p,hp,fun v H' G s rp rt=>Be re hz zp s rp rt h⟩
noncomputable def iQ:List Nat->Eb
 |[]=>Kq
 |i::is=>Ek (my i) (iQ is)
theorem ku:∀{is:List Nat}{vs:List V}{σ:L2.St}{H:Hp}{Q:L2.St->Hp->Prop},is.length=vs.length->Q (setM is vs σ) H->iQ is vs σ H Q
 |[],[],_,_,_,_,q=>⟨rfl,q⟩
 |i::is,v::vs,σ,H,Q,hl,q=>⟨v,vs,rfl,ku (is:=is) (vs:=vs) (by simpa using hl) q⟩
 |[],_::_,_,_,_,hl,_=>by simp at hl
 |_::_,[],_,_,_,hl,_=>by simp at hl
theorem BN {is:List Nat}(hg:PG X tg (yB X.K is.length (iQ is)))(he:PE X e (tE X.K T c))(hs:swapsWithSole [tg] e pos.line X.env=pure false)(hw:swappedStores [tg] e X.env=pure none)(h1:(assignEach [tg] X.env).map (·.2)=[assign tg X.env]) :
  PS X (.Assign [tg] e pos) (tS X.K T (.asg (.tp is) c mv)):=by
 refine dO (AX he hg hs hw h1) fun D σ H ⟨P,Z,env,F,re,hz,zp,h⟩=>?_
 unfold aV at h;obtain⟨p,hp,h⟩:=cQ h;refine⟨P,env,F,re,p,hp,fun v H' G s rp rt=>?_⟩;have OL:=re.same s;have ez:=Hw re hz zp rt;have kq:=lH.of_same (P:=P) re.pl s;unfold Bv at h;cases hd:p.1 with
 |tup ds =>
  rw[hd] at h rp;obtain⟨a,vs,rfl,a1,a2⟩:=rp.LG;have fin:∀{o:Option En},post X.K P Z env F H D (C1 o)->(∀env',o=some env'->∃F',RE X.K P env' (setM is vs σ) H' F'/\(∀i,∀a∈F' i,Z a)/\vg env F env' F'/\is.length=vs.length)->yB X.K is.length (iQ is) (.ref a) σ H' D.nx:=fun {o} h q=>by
   cases o with
   |none=>exact h.elim
   |some env' =>
    obtain⟨F',b1,b2,b3,b4⟩:=q env' rfl;exact⟨a,vs,rfl,a1,b4.symm,ku b4 (h _ H' F' ⟨b1,b2,kq,b3⟩)⟩
  have shared:post X.K P Z env F H D (if is.all (fun i=>!p.2.roots.contains i) then C1 (bindM (fun d=>bE d p.2.roots) is ds env) else .bad)->yB X.K is.length (iQ is) (.ref a) σ H' D.nx:=fun h=>by
   by_cases hc:is.all (fun i=>!p.2.roots.contains i)=true
   .rw[if_pos hc] at h;refine fin h fun env' Um=>nj OL hz a2 ez (fun x hx j d' t' ej o m=>?_) Um
    rcases rt.cont x hx with q | ⟨k,d2,t2,f,e2,sr⟩
    .exact absurd q (re.nn ej m)
    .exact sr j ((re.one j d' t' ej o).2.2 x m k d2 t2 e2 f)
   .rw[if_neg hc] at h;exact h.elim
  cases hr:p.2 with
  |sh R=>rw[hr] at h shared;exact shared h
  |mv R =>
   cases R with
   |cons r0 R0=>rw[hr] at h shared;exact shared h
   |nil =>
    rw[hr] at h;obtain⟨m1,m2,m3⟩:=rt.mv [] hr;have fresh:∀a∈G,H a=none:=fun a ha=>by
     rcases m3 a ha with q | ⟨_,_,_,q,_⟩
     .exact q
     .cases q
    exact fin h fun env' Um=>pV OL hz a2 m1 m2 (fun x hx z=>re.pl x z (fresh x hx)) ez (fun x hx j m=>by
     obtain⟨d2,t2,e2⟩:=re.at' m;exact re.nn e2 m (fresh x hx)) Um
 |_=>rw[hd] at h;exact h.elim
theorem G7 (hp:PassesOwn (model X.prog X.w) X.A X.env X.xe)(hc:PT X e (m5 X.K T c))(hb:lP X b (Ee X.K T cb)):PS X (.While e b [] pos) (tS X.K T (.Mu c cb)):=by
 refine dO (lj hp hc hb) fun D σ H ⟨P,Z,env,F,re,hz,zp,h⟩=>?_
 unfold aV at h;refine⟨fun m σ' H'=>∃env' F',After X.K P Z env F H env' σ' H' F'/\post X.K P Z env' F' H' D (eU (fun env=>(ev T c env).bind fun p=>eW (truth p.1)) (aE T cb) m env'),⟨T.fuel,env,F,After.same re hz (aH.refl _),h⟩,fun m σ1 H1 ⟨O8,F1,af,h1⟩=>?_⟩;cases m with
 |zero=>exact h1.elim
 |succ m =>
  unfold eU at h1;obtain⟨k,hk,h1⟩:=cQ h1;obtain⟨p,Pu,hk⟩:=Rs.Lz hk;refine⟨P,O8,F1,af.re,p,k,Pu,dH hk,fun H2 s2=>?_⟩;have M7:=After.same (Z:=Z) af.re af.z s2;cases k with
  |false =>
   show if false=true then _ else _
   rw[if_neg bj];simp only[Bool.false_eq_true,if_false] at h1;exact h1 σ1 H2 F1 M7
  |true =>
   show if true=true then _ else _
   rw[if_pos rfl];simp only[if_true] at h1;refine⟨fun σ' H'=>∃env' F',After X.K P Z env F H env' σ' H' F'/\post X.K P Z env' F' H' D (eU (fun env=>(ev T c env).bind fun p=>eW (truth p.1)) (aE T cb) m env'),fun σ' H' q=>⟨m,gn _,q⟩,P,Z,O8,F1,M7.re,af.z,zp,?_⟩;have h1:=post.trans M7 h1;cases hs:aE T cb O8 with
   |nx e'=>rw[hs] at h1;exact fun σ' H' F' Og=>⟨e',F',af.trans (M7.trans Og),post.trans Og h1⟩
   |ct e'=>rw[hs] at h1;exact fun σ' H' F' Og=>⟨e',F',af.trans (M7.trans Og),post.trans Og h1⟩
   |bk e'=>rw[hs] at h1;exact h1
   |rt d fr=>rw[hs] at h1;exact h1
   |xc x e'=>rw[hs] at h1;exact h1
   |bad=>rw[hs] at h1;exact h1
noncomputable def uo (K:Frag):oU->TG
 |.nm i=>my i
 |.tp is=>yB K is.length (iQ is)
theorem sW {P Z:Addr->Prop}{env env':En}{σ:L2.St}{d:Pc.D}{Q:L2.St->Hp->Prop}(re:RE K P env σ H F)(hz:∀i,∀a∈F i,Z a)(rp:Rep K H d v G)(gz:∀a∈G,Z a)
  (hs:∀a∈G,∀(j:Nat) (d':Pc.D) (t':Tg),env[j]? = some (some (d',t'))->bR t'=true->a∈F j->j∈R) (hb:bK R t d env=some env') (hQ:∀σ' F',RE K P env' σ' H F'->(∀i,∀a∈F' i,Z a)->vg env F env' F'->Q σ' H):uo K t v σ H Q:=by
 cases t with
 |nm i =>
  simp only[bK] at hb;by_cases hi:i<env.length
  .rw[if_pos hi] at hb;cases hb;exact hQ _ _ (vp re hi rp hs) (pY hz gz) (oq hi tz)
  .rw[if_neg hi] at hb;cases hb
 |tp is =>
  cases d with
  |tup ds =>
   simp only[bK] at hb;obtain⟨a,vs,rfl,a1,a2⟩:=rp.LG;obtain⟨F',b1,b2,b3,b4⟩:=nj re hz a2 gz hs hb;exact⟨a,vs,rfl,a1,b4.symm,ku b4 (hQ _ F' b1 b2 b3)⟩
  |_=>cases hb
theorem kH {b:En->Fl}:∀(ds:List Pc.D) (env:En),(∀e,cZ t R b ds env≠.bk e)/\∀e,cZ t R b ds env≠.ct e
 |[],env=>⟨fun e z=>(by cases z),fun e z=>(by cases z)⟩
 | d::ds,env=>by
  unfold cZ;cases bK R t d env with
  |none=>exact⟨fun e z=>(by cases z),fun e z=>(by cases z)⟩
  |some env' =>
   simp only;cases b env' with
   |nx e'=>exact kH ds e'
   |ct e'=>exact kH ds e'
   |bk e'=>exact⟨fun e z=>(by cases z),fun e z=>(by cases z)⟩
   |rt d fr=>exact⟨fun e z=>(by cases z),fun e z=>(by cases z)⟩
   |xc x e'=>exact⟨fun e z=>(by cases z),fun e z=>(by cases z)⟩
   |bad=>exact⟨fun e z=>(by cases z),fun e z=>(by cases z)⟩
theorem HN (hp:PassesOwn (model X.prog X.w) X.A X.env X.xe)(hc:X.calm=true)(hi:PI X tg iter (tI X.K T it))(hg:PG X tg (uo X.K t))(hb:lP X b (Ee X.K T cb))(hs:∀x,foldedSetIterable iter X.env x=pure x) :
  PS X (.For tg iter b [] pos) (tS X.K T (.LP t it cb)):=by
 refine dO (Fv hp hc hi hg hb hs) fun D σ H ⟨P,Z,env,F,re,hz,zp,h⟩=>?_
 unfold aV at h;obtain⟨p,hp,h⟩:=cQ h;refine⟨P,env,F,re,p,hp,fun J H1 G s1 rt nn wk=>?_⟩;have Wb:=After.same (Z:=Z) re hz s1;have h:=post.trans Wb h;let P':Addr->Prop:=fun a=>P a\/a∈G
 have wk:=wk P' fun a ha=>.inr ha
 have seen:∀a∈G,∀(i:Nat) (d:Pc.D) (t:Tg),env[i]? = some (some (d,t))->bR t=true->a∈F i->i∈p.2:=fun a ha i d t e o m=>by
  rcases rt.cont a ha with q | ⟨k,d2,t2,f,e2,sr⟩
  .exact absurd q (re.nn e m)
  .exact sr i ((re.one i d t e o).2.2 a m k d2 t2 e2 f)
 have reL:RE X.K P' (lock p.2 env) σ H1 F:=Wb.re.locked nn seen;have gz:∀a∈G,Z a:=Hw re hz zp rt;let E':Ends:={ D with nx:=fun σ' H'=>∀env' F',After X.K P' Z (lock p.2 env) F H1 env' σ' H' F'->D.nx σ' H' };have PM:∀{f:Fl},(∀e,f≠.bk e)->(∀e,f≠.ct e)->post X.K P Z env F H1 D (match f with | .nx e=>.nx (unlock p.2 env e) | x=>x)->post X.K P' Z (lock p.2 env) F H1 D f:=fun {f} nb nc h=>by
  cases f with
  |nx e=>exact fun σ' H' F' af=>h σ' H' F' (af.Nz Wb.re)
  |bk e=>exact absurd rfl (nb e)
  |ct e=>exact absurd rfl (nc e)
  |rt d fr=>exact fun v H' G' rp ev z f=>h v H' G' rp (ev.weak fun _ q=>.inl q) z fun w=>⟨(f w).1,fun a ha=>⟨fun q=>((f w).2 a ha).1 (.inl q),((f w).2 a ha).2⟩⟩
  |xc x e=>exact h
  |bad=>exact h
 have h:=PM (kH _ _).1 (kH _ _).2 h;have zpL:∀a,¬ P' a->Z a:=fun a ha=>zp a fun q=>ha (.inl q)
 refine⟨fun i m σ' H'=>m=p.1.length-i/\i<=p.1.length/\∃env' F',After X.K P' Z (lock p.2 env) F H1 env' σ' H' F'/\post X.K P' Z env' F' H' D (cZ t p.2 (aE T cb) (p.1.drop i) env'),⟨p.1.length,by simp,Nat.zero_le _,lock p.2 env,F,After.same reL hz (aH.refl _),by simpa using h⟩,?_⟩;rintro i m σ2 H2 ⟨rfl,hi,QN,F2,M7,h2⟩;obtain⟨w1,w2⟩:=wk H2 M7.ev;by_cases LO:i<p.1.length
 .right;have hd:p.1[i]? = some p.1[i]:=by simp[LO]
  obtain⟨g1,g2⟩:=w1 i _ hd;refine⟨g1,fun σ' H'=>∃env' F',After X.K P' Z (lock p.2 env) F H1 env' σ' H' F'/\post X.K P' Z env' F' H' D (cZ t p.2 (aE T cb) (p.1.drop (i+1)) env'),fun σ' H' q=>⟨p.1.length-(i+1),by omega,rfl,LO,q⟩,fun x H3 y=>?_⟩;obtain⟨s3,G3,SR,NA⟩:=g2 x H3 y;have Og:=After.same (Z:=Z) M7.re M7.z s3;have h2:=post.trans Og h2;rw[ie LO] at h2;unfold cZ at h2;cases hb:bK p.2 t p.1[i] QN with
  |none=>rw[hb] at h2;exact h2.elim
  |some NT =>
   rw[hb] at h2;refine sW Og.re M7.z SR (fun a ha=>gz a (NA a ha)) (fun a ha j d' t' ej o m=>?_) hb fun σ4 F4 PX z4 lk4=>?_
   .cases t' with
    |own=>exact absurd (.inr (NA a ha)) (M7.re.wr j d' ej a m)
    |lk =>
     obtain⟨e5,e6⟩:=M7.lk j d' ej;rw[e6] at m;obtain⟨t0,e0,o0,_⟩:=gO e5;exact seen a (NA a ha) j d' t0 e0 (o0.trans o) m
    |sh Q=>cases o
   .have XU:After X.K P' Z QN F2 H3 NT σ4 H3 F4:=⟨PX,z4,lH.refl _,lk4⟩;refine⟨P',Z,NT,F4,PX,z4,zpL,?_⟩;have h2:=post.trans XU h2;have all:=(M7.trans Og).trans XU;cases hs:aE T cb NT with
    |nx e'=>simp only[hs] at h2;exact fun σ' H' F' QU=>⟨e',F',all.trans QU,post.trans QU h2⟩
    |ct e'=>simp only[hs] at h2;exact fun σ' H' F' QU=>⟨e',F',all.trans QU,post.trans QU h2⟩
    |bk e'=>simp only[hs] at h2;exact h2
    |rt d fr=>simp only[hs] at h2;exact h2
    |xc x e'=>simp only[hs] at h2;exact h2
    |bad=>simp only[hs] at h2;exact h2
 .left;have e:i=p.1.length:=by omega
  subst e;rw[jg] at h2;exact⟨w2,h2 σ2 H2 F2 (After.same M7.re M7.z (aH.refl _))⟩
end
noncomputable def iG (cells:List (Str×Addr)):List (Str×NameKind)->List (Str×Addr)->List (Str×Addr)
 |[],acc=>acc
 | (n,k)::r,acc=>iG cells r (if k == .free then (match cells.lookup n with | some c=>(n,c)::acc | none=>acc) else acc)
variable {env:Env}{scope:Scope}
theorem ug (h:∀x,(x,NameKind.free)∈scope.names->∃c,env.cells.lookup x=some c):closureFor scope env=pure (iG env.cells scope.names []):=by
 unfold closureFor;have gen:∀(names:List (Str×NameKind)) (acc:List (Str×Addr)),(∀x,(x,NameKind.free)∈names->∃c,env.cells.lookup x=some c) ->
   (forIn names acc fun (p:Str×NameKind) (cs:List (Str×Addr))=>(match p with
    | (name,kind)=>if (kind == .free)=true then (do let c <- cellOf env name;pure (ForInStep.yield ((name,c)::cs))) else pure (ForInStep.yield cs):Sem (ForInStep (List (Str×Addr)))))=(pure (iG env.cells names acc):Sem (List (Str×Addr))):=by
  intro names
  induction names with
  |nil=>intro acc _;rfl
  |cons x r ih =>
   intro acc hx;obtain⟨n,k⟩:=x;rw[List.forIn_cons];simp only[iG];have hr:∀x,(x,NameKind.free)∈r->∃c,env.cells.lookup x=some c:=fun x hm=>hx x (ai _ hm)
   by_cases hk:(k==NameKind.free)=true
   .have e:k=.free:=by simpa using hk
    subst e;obtain⟨c,hc⟩:=hx n aj;simp only[hk,if_true,cellOf,hc];exact ih ((n,c)::acc) hr
   .simp only[hk,if_false];exact ih acc hr
 have:=gen scope.names [] h;simpa using this
variable {cells:List (Str×Addr)}
theorem pU {c:Addr}:∀{names:List (Str×NameKind)}{acc:List (Str×Addr)},(∀y d,acc.lookup y=some d->cells.lookup y=some d)->(iG cells names acc).lookup x=some c->cells.lookup x=some c
 |[],acc,ha,h=>ha x c h
 | (n,k)::r,acc,ha,h=>by
  simp only[iG] at h;refine pU (names:=r) (fun y d q=>?_) h;by_cases hk:(k==NameKind.free)=true
  .rw[if_pos hk] at q;cases hc:cells.lookup n with
   |none=>rw[hc] at q;exact ha y d q
   |some e =>
    rw[hc] at q;simp only[List.lookup_cons] at q;cases hy:y==n with
    |true =>
     rw[hy] at q;have:=eq_of_beq hy;subst this;rw[hc];exact q
    |false=>rw[hy] at q;exact ha y d q
  .rw[if_neg hk] at q;exact ha y d q
theorem pN:∀{names:List (Str×NameKind)}{acc:List (Str×Addr)},(∃c,acc.lookup x=some c)->∃c,(iG cells names acc).lookup x=some c
 |[],acc,h=>h
 | (n,k)::r,acc,h=>by
  simp only[iG];refine pN (names:=r) ?_;by_cases hk:(k==NameKind.free)=true
  .rw[if_pos hk];cases hc:cells.lookup n with
   |none=>exact h
   |some e =>
    simp only[List.lookup_cons];cases hy:x==n with
    |true=>exact⟨e,rfl⟩
    |false=>exact h
  .rw[if_neg hk];exact h
theorem nP {c:Addr}(hc:cells.lookup x=some c):∀{names:List (Str×NameKind)}{acc:List (Str×Addr)},(x,NameKind.free)∈names->∃c,(iG cells names acc).lookup x=some c
 |[],acc,h=>by cases h
 | (n,k)::r,acc,h=>by
  simp only[iG];rcases je.mp h with e | h
  .cases e;refine pN (names:=r) ?_;simp only[beq_self_eq_true,if_true,hc,List.lookup_cons];exact⟨c,rfl⟩
  .exact nP hc (names:=r) h
noncomputable def inner (X:Cx)(scope:Scope)(N':List Str)(C:Addr)(s0:Shared)(H0:Hp)(ex:List Addr):Cx :=
 { X with N:=N',s₀:=s0,H₀:=H0,env:=compEnvC scope (cellsFrom (C+1) scope.names (iG X.env.cells scope.names [])) C X.env,outer:=X.stack,stack:=X.stack,ex:=ex,fn:=fun x=>scope.names.lookup x==some .cell,pn:=[],xe:=fun _ _=>False }
structure eX (X:Cx)(scope:Scope)(N':List Str)(pick:List (Option Nat)):Prop where
 kind:scope.kind=.function
 cells:∀y∈scope.names,y.2=.cell->scope.names.lookup y.1=some .cell
 names:∀y∈scope.names,y.2=.local->scope.names.lookup y.1=some .local
 len:pick.length=N'.length
 outer:∀x,scope.names.lookup x=some .free->(X.env.kindOf x=some .cell\/X.env.kindOf x=some .free)
 free:∀x,(x,NameKind.free)∈scope.names->scope.names.lookup x=some .free
 pick:∀(i j:Nat) (x:Str),pick[i]? = some (some j)->N'[i]? = some x->scope.names.lookup x=some .free/\X.N[j]? = some x
noncomputable def gN (σ:L2.St)(pick:List (Option Nat)):L2.St:=pick.map fun o=>o.bind fun j=>(σ[j]?).join
theorem fR:∀{names:List (Str×NameKind)}{x:Str}{k:NameKind},(names.map fun (n,k)=>if (k==NameKind.free&&env.scope.kind == .function&&env.kindOf n==some .cell) then (n,NameKind.cell) else (n,k)).lookup x=some k ->
  ∃k0,names.lookup x=some k0/\(k=k0\/(k0=.free/\k=.cell))
 |[],_,_,h=>by simp at h
 | (n,k0)::r,x,k,h=>by
  rw[aw] at h;by_cases hc:(k0==NameKind.free&&env.scope.kind == .function&&env.kindOf n==some .cell)=true
  .simp only[hc,if_true,List.lookup_cons] at h;simp only[List.lookup_cons];cases hx:x==n with
   |true =>
    rw[hx] at h;cases h;rw[ao,ao] at hc;exact⟨k0,rfl,.inr ⟨by simpa using hc.1.1,rfl⟩⟩
   |false=>rw[hx] at h;exact fR h
  .have hc:(k0==NameKind.free&&env.scope.kind == .function&&env.kindOf n==some .cell)=false:=by simpa using hc
   simp only[hc,Bool.false_eq_true,if_false,List.lookup_cons] at h;simp only[List.lookup_cons];cases hx:x==n with
   |true=>rw[hx] at h;cases h;exact⟨k0,rfl,.inl rfl⟩
   |false=>rw[hx] at h;exact fR h
theorem gA:∀{names:List (Str×NameKind)}{x:Str},names.lookup x=some .free ->
  (names.map fun (n,k)=>if (k==NameKind.free&&env.scope.kind == .function&&env.kindOf n==some .cell) then (n,NameKind.cell) else (n,k)).lookup x=some .cell \/
  (names.map fun (n,k)=>if (k==NameKind.free&&env.scope.kind == .function&&env.kindOf n==some .cell) then (n,NameKind.cell) else (n,k)).lookup x=some .free
 |[],_,h=>by simp at h
 | (n,k0)::r,x,h=>by
  rw[aw];by_cases hc:(k0==NameKind.free&&env.scope.kind == .function&&env.kindOf n==some .cell)=true
  .simp only[hc,if_true,List.lookup_cons] at h ⊢;cases hx:x==n with
   |true=>left;rfl
   |false=>rw[hx] at h;exact gA h
  .have hc:(k0==NameKind.free&&env.scope.kind == .function&&env.kindOf n==some .cell)=false:=by simpa using hc
   simp only[hc,Bool.false_eq_true,if_false,List.lookup_cons] at h ⊢;cases hx:x==n with
   |true=>rw[hx] at h;cases h;right;rfl
   |false=>rw[hx] at h;exact gA h
theorem iP:∀(names:List (Str×NameKind)) (n:Nat) (acc:List (Str×Addr)),cellsFrom n names acc=cellsFrom n names []++acc
 |[],_,_=>rfl
 | (nm,k)::r,n,acc=>by
  unfold cellsFrom;split
  .rw[iP r (n+1) ((nm,n)::acc),iP r (n+1) [(nm,n)],av];rfl
  .exact iP r n acc
theorem uS:∀(names:List (Str×NameKind)) (n:Nat) {x:Str}{c:Addr},(x,c)∈cellsFrom n names []->(x,NameKind.cell)∈names
 |[],_,_,_,h=>by cases h
 | (nm,k)::r,n,x,c,h=>by
  unfold cellsFrom at h;split at h
  .rename_i hk;rw[iP] at h;rcases List.mem_append.mp h with h | h
   .exact ai _ (uS r _ h)
   .have e:(x,c)=(nm,n):=by simpa using h
    cases e;rw[show k=.cell by simpa using hk];exact aj
  .exact ai _ (uS r _ h)
theorem qN:∀(names:List (Str×NameKind)) (n:Nat) {x:Str},(x,NameKind.cell)∈names->∃c,(cellsFrom n names []).lookup x=some c
 | (nm,k)::r,n,x,h=>by
  unfold cellsFrom;rcases je.mp h with e | h
  .cases e;rw[if_pos (by decide),iP,ir];cases (cellsFrom (n+1) r []).lookup nm with
   |some c=>exact⟨c,rfl⟩
   |none=>exact⟨n,by simp⟩
  .split
   .obtain⟨c,hc⟩:=qN r (n+1) h;rw[iP,ir,hc];exact⟨c,rfl⟩
   .exact qN r n h
variable {A:Around}
theorem nfe {M:Model}{E:Value->Shared->Prop}{globals:Addr}{cl:List (Str×Addr)}{qual:Str}{Q:Env->Shared->Prop}
  (h:Q { scope:=scope,locals:=s.heap.objs.size,globals:=globals,cells:=cellsFrom (s.heap.objs.size+1) scope.names cl,qual:=qual,func:=none,code:=env.code,frame:=env.frame,builtins:=env.builtins } { s with heap:=pushCells (s.heap.push { cls:=.type "dict",data:=.dict #[] }) scope.names }) :
  wpAny M A (newFunctionEnv scope globals cl [] qual none .none (some env)) Q E s:=by
 simp only[newFunctionEnv,Option.isSome_some,if_true];refine wpAny_bind (wpAny_alloc (wpAny_bind (wpAny_layCells _ (fun name kind cells=>by cases Ua:kind==NameKind.cell<;>simp[Ua]) _ _ _ _ ?_)));rw[show ({ s with heap:=s.heap.push { cls:=.type "dict",data:=.dict #[] } }:Shared).heap.objs.size=s.heap.objs.size+1 from Heap.size_push ..];exact wpAny_pure h
variable {fp:List Addr}
section
variable {X:Cx}{scope:Scope}{N':List Str}{pick:List (Option Nat)}{pins:List (Addr×Obj)}{σ:L2.St}{H:Hp}{s:Shared}
theorem sd (S:eX X scope N' pick)(I:Inv X pins σ H s)(hf:∀b∈fp,j7 X pins H b)(hl:∀b∈fp,b<s.heap.objs.size) :
  Inv (inner X scope N' s.heap.objs.size s H fp) [] (gN σ pick) H { s with heap:=pushCells (s.heap.push { cls:=.type "dict",data:=.dict #[] }) scope.names }:=by
 have old:∀x c,(iG X.env.cells scope.names []).lookup x=some c->X.env.cells.lookup x=some c:=fun x c h=>pU (acc:=[]) (fun y d q=>by simp at q) h
 have hk:∀b o,s.heap.get? b=some o->(pushCells (s.heap.push { cls:=.type "dict",data:=.dict #[] }) scope.names).get? b=some o:=fun b o e=>pushCells_keeps _ _ b o (Heap.get?_push_of_some _ e)
 have hn:(pushCells (s.heap.push { cls:=.type "dict",data:=.dict #[] }) scope.names).Ns s.heap.objs.size (fun _=>none):=(Heap.Ns.new s.heap (.type "dict")).keeps (pushCells_keeps _ _);have ok:=cellsFrom_ok scope.names (s.heap.push { cls:=.type "dict",data:=.dict #[] }) (s.heap.objs.size+1) [] ⟨fun _ _ hm=>(nomatch hm),List.Pairwise.nil⟩ (by rw[Heap.size_push];exact au _);rw[Heap.size_push] at ok;generalize hh:pushCells (s.heap.push { cls:=.type "dict",data:=.dict #[] }) scope.names=h' at *;have Oq:∀x c,X.env.cells.lookup x=some c->c<s.heap.objs.size:=fun x c h=>by
  obtain⟨v,hv⟩:=I.cell x c h;exact hv.lt
 have look:∀x c,(cellsFrom (s.heap.objs.size+1) scope.names (iG X.env.cells scope.names [])).lookup x=some c->((x,c)∈cellsFrom (s.heap.objs.size+1) scope.names []/\s.heap.objs.size+1<=c)\/((x,NameKind.cell)∉scope.names/\X.env.cells.lookup x=some c):=fun x c h=>by
  rw[iP,ir] at h;cases q:(cellsFrom (s.heap.objs.size+1) scope.names []).lookup x with
  |some c' =>
   rw[q] at h;cases h;have hm:=cy q;exact .inl ⟨hm,(ok.empty _ _ hm).2⟩
  |none =>
   rw[q] at h;refine .inr ⟨fun z=>?_,old x c h⟩;obtain⟨c',Mz⟩:=qN scope.names (s.heap.objs.size+1) z;rw[q] at Mz;cases Mz
 have sees:∀x c,scope.names.lookup x=some .free->(iG X.env.cells scope.names []).lookup x=some c->(cellsFrom (s.heap.objs.size+1) scope.names (iG X.env.cells scope.names [])).lookup x=some c:=fun x c hx h=>by
  rw[iP,ir];cases q:(cellsFrom (s.heap.objs.size+1) scope.names []).lookup x with
  |some c' =>
   have:=S.cells _ (uS _ _ (cy q)) rfl;rw[hx] at this;cases this
  |none=>rw[h];rfl
 refine⟨⟨I.ok.mod,S.kind,I.ok.glob,I.ok.blt,au _,fun x y c h1 h2=>?inj,fun x hx=>?_,fun x c hx h=>?Of,I.ok.hd,I.ok.frames,.inl rfl,fun b hb=>?_,I.bs,bq I.ok.NV I.sz,fun b o e hb=>?_,fun b hb Mn=>?_,I.stack,I.Mg⟩,
  rfl,I.bare,Un.kept hk,⟨_,hn,fun i x v h1 h2 h3=>?_⟩,fun x c h=>?_,I.LB.fresh (Nat.le_refl _),fun x c h=>?frc,fun p hp=>absurd (show p∈([]:List (Addr×Obj)) from hp) (by simp),I.LB.kept hk,?_⟩
 case inj =>
  rcases look x c h1 with ⟨m1,l1⟩ | ⟨_,o1⟩<;>rcases look y c h2 with ⟨m2,l2⟩ | ⟨_,o2⟩
  .exact name_of_addr ok.apart m1 m2
  .exact absurd (bg (Oq y c o2) (Nat.le_of_succ_le l1)) (fw _)
  .exact absurd (bg (Oq x c o1) (Nat.le_of_succ_le l2)) (fw _)
  .exact I.ok.inj x y c o1 o2
 case Of =>
  have hx:scope.names.lookup x=some .cell:=by simpa[inner] using hx
  rcases look x c h with ⟨_,l1⟩ | ⟨n1,_⟩
  .exact bq (Nat.le_succ _) l1
  .exact absurd (cy hx) n1
 case frc =>
  rcases look x c h with ⟨_,l1⟩ | ⟨_,o1⟩
  .exact I.LB.fresh (bq (Nat.le_succ _) l1)
  .exact I.LR x c o1
 .have hx:(relabel scope X.env).names.lookup x=some .cell\/(relabel scope X.env).names.lookup x=some .free:=hx;have LV:scope.names.lookup x=some .free\/scope.names.lookup x=some .cell:=by
   rcases hx with hx | hx
   .obtain⟨k0,h1,h2 | ⟨h2,_⟩⟩:=fR hx
    .subst h2;exact .inr h1
    .rw[h2] at h1;exact .inl h1
   .obtain⟨k0,h1,h2 | ⟨h2,h3⟩⟩:=fR hx
    .subst h2;exact .inl h1
    .cases h3
  rcases LV with LV | LV
  .obtain⟨c,hc⟩:=I.ok.has x (S.outer x LV);obtain⟨c',Mz⟩:=nP (acc:=[]) hc (cy LV);exact⟨c',sees x c' LV Mz⟩
  .obtain⟨c,hc⟩:=qN scope.names (s.heap.objs.size+1) (cy LV);refine⟨c,?_⟩;show (cellsFrom (s.heap.objs.size+1) scope.names (iG X.env.cells scope.names [])).lookup x=some c;rw[iP,ir,hc];rfl
 .refine⟨bw (hl b hb),fun x c h=>?_⟩;rcases look x c h with ⟨_,l1⟩ | ⟨_,o1⟩
  .exact fun e=>fw _ (bg (hl b hb) (e ▸ Nat.le_of_succ_le l1))
  .exact (hf b hb).2.2.2.2.1 x c o1
 .obtain⟨f0,f1,f2,f3,f4,f5⟩:=hf b hb;rcases f3 with f3 | f3
  .exact I.ok.MW b o e f3
  .exact absurd (bg (Heap.lt_size e) (bq I.ok.NV f3)) (fw _)
 .obtain⟨f0,f1,f2,f3,f4,f5⟩:=hf b hb;exact (je.mp (I.MS b Mn)).elim f1 f2
 ·
  have Ms:(pick.map fun o=>o.bind fun j=>(σ[j]?).join)[i]? = some (some v):=h2;rw[List.getElem?_map] at Ms;cases hp:pick[i]? with
  |none=>rw[hp] at Ms;cases Ms
  |some o =>
   rw[hp] at Ms;cases o with
   |none=>simp at Ms
   |some j =>
    simp only[Option.map_some,Option.bind_some,Option.some.injEq] at Ms;have hj:σ[j]? = some (some v):=by
     cases q:σ[j]? with
     |none=>rw[q] at Ms;cases Ms
     |some o=>rw[q] at Ms;cases o with
      |none=>cases Ms
      |some w=>simp at Ms;rw[Ms]
    obtain⟨k1,k2⟩:=S.pick i j x hp h1;obtain⟨m0,hn0,RA⟩:=I.loc;have QV:D4 X.env.scope x:=by
     rcases S.outer x k1 with q | q
     .exact .inr (.inl q)
     .exact .inr (.inr q)
    obtain⟨u,r,lk⟩:=RA j x v k2 hj QV;refine⟨u,r,?_⟩;rcases lk with ⟨z,_⟩ | ⟨_,c,hc,Na⟩
    .rcases S.outer x k1 with q | q<;>· rw[z] at q;cases q
    .obtain⟨c',Mz⟩:=nP (names:=scope.names) (acc:=[]) hc (cy k1);have:=old x c' Mz;rw[hc] at this;cases this;refine .inr ⟨gA k1,c,sees x c k1 Mz,?_⟩;obtain⟨o,ho,hd⟩:=Na;exact⟨o,hk c o ho,hd⟩
 .rcases look x c h with ⟨m1,_⟩ | ⟨_,o1⟩
  .exact⟨none,(ok.empty _ _ m1).1⟩
  .obtain⟨v,o,ho,hd⟩:=I.cell x c o1;exact⟨v,o,hk c o ho,hd⟩
 .show (pick.map _).length=N'.length;rw[ak,S.len]
end
noncomputable abbrev wW (ifs:List Expr)(env:Env):Sem Bool:=forIn ifs true fun c r=>if r=true then do let ok <- isTrue c env (eval c env);pure (ForInStep.yield ok) else pure (ForInStep.yield r)
noncomputable def Ig (X:Cx)(ifs:List Expr)(t:TT):Prop :=
 ∀(pins:List (Addr×Obj)) (s:Shared) (σ:L2.St) (H:Hp) (Q:Bool->Hp->Prop),Inv X pins σ H s->t σ H Q->wpAny (model X.prog X.w) X.A (wW ifs X.env) (TP X pins σ Q) X.xe s
variable {X:Cx}
theorem BL:Ig X [] (fun _ H Q=>Q true H):=fun _ _ _ H Q I h=>wpAny_tests_nil ⟨H,I,h⟩
theorem CC {c:Expr}{t:TT}(h:PT X c t):Ig X [c] t:=fun pins s σ H Q I q=>wpAny_tests_one (h pins s σ H Q I q)
variable {elt:Expr}{ifs:List Expr}
section
variable {prog:Program}{w:World}{A:Around}{R:Result->Shared->Prop}{s:Shared}
theorem rZ {target:Expr}{it acc:Value}(I:Nat->Shared->Prop)
  (turn:∀n s,I n s->wpAny (model prog w) A (pyNext it) (fun r s₁=>match r with
   |none=>R (.ok .next) s₁
   |some v=>wpAny (model prog w) A (letOwnedTupleGo target it v) (fun _ s₀=>wpAny (model prog w) A (assign target env v) (fun _ s₂ =>
     wpAny (model prog w) A (wW ifs env) (fun ok s₃ =>
      if ok=true then wpAny (model prog w) A (eval elt env) (fun x s₄ =>
       wpAny (model prog w) A (call (.builtin "list.append") [acc,x]) (fun _ s₅=>∃m,m<n/\I m s₅) (fun _ _=>False) s₄) (fun _ _=>False) s₃
      else ∃m,m<n/\I m s₃) (fun _ _=>False) s₂) (fun _ _=>False) s₀) (fun _ _=>False) s₁) (fun _ _=>False) s)
  (n:Nat) (h:I n s):codeAny (model prog w) A (.compLoop (.ListComp elt [⟨target,iter,ifs,0⟩] scope pos) 0 it acc env) R s:=by
 refine codeAny_loop rfl I (fun n s hI=>?_) n h;show wpAny _ A ((compTurn (.ListComp elt [⟨target,iter,ifs,0⟩] scope pos) 0 it acc env).onRaise (fun x=>do noteFrame x env;theTreesLotGoes x)) _ _ s;refine wpAny_noted ?_;rw[compTurn_list];refine wpAny_bind (wpAny_standAt (wpAny_bind (wpAny_mono (turn n s hI) (fun r s₁ h₁=>?_) fun _ _ h'=>h'.elim)));cases r with
 |none=>exact wpAny_pure h₁
 |some v =>
  refine wpAny_bind (wpAny_mono h₁ (fun _ s₀ h₀=>?_) fun _ _ h'=>h'.elim);refine wpAny_bind (wpAny_mono h₀ (fun _ s₂ h₂=>wpAny_bind (wpAny_mono h₂ (fun ok s₃ h₃=>?_) fun _ _ h'=>h'.elim)) fun _ _ h'=>h'.elim);cases ok with
  |false=>exact wpAny_pure ⟨rfl,h₃⟩
  |true =>
   exact wpAny_bind (wpAny_bind (wpAny_mono h₃ (fun x s₄ h₄=>wpAny_bind (wpAny_mono h₄ (fun _ s₅ h₅=>wpAny_pure (wpAny_pure ⟨rfl,h₅⟩)) fun _ _ h'=>h'.elim)) fun _ _ h'=>h'.elim))
end
def zm (pick:List (Option Nat))(wi:TI)(g:TG)(tt:TT)(te:TE):TE:=fun σ H Q=>wi σ H fun J H1=>∀l,H1 l=none->∃W:Nat->Nat->Hp->Prop,(∃m,W 0 m (upd H1 l (.lst [])))/\∀i m H,W i m H ->
 (J.stop i H/\Q (.ref l) H)\/(J.go i H/\∃N:Hp->Prop,(∀H',N H'->∃m',m'<m/\W (i+1) m' H')/\∀x H',J.PF i H x H'->g x (gN σ pick) H' fun σ2 H2 =>
  tt σ2 H2 fun b H3=>if b=true then te σ2 H3 fun y H4=>∃xs,H4 l=some (.lst xs)/\xs.length<sizeLine/\N (upd H4 l (.lst (xs ++ [y]))) else N H3)
section
variable {X:Cx}{scope:Scope}{N':List Str}{pick:List (Option Nat)}{tg iter elt:Expr}{ifs:List Expr}{pos:Pos}{wi:TI}{g:TG}{tt:TT}{te:TE}
theorem oj (S:eX X scope N' pick)(hc:X.calm=true)(NN:∀C s0 H0 ex,PG (inner X scope N' C s0 H0 ex) tg g/\Ig (inner X scope N' C s0 H0 ex) ifs tt/\PE (inner X scope N' C s0 H0 ex) elt te)
  (gk:∀(v:V) (σ:L2.St) (H:Hp) (Q:L2.St->Hp->Prop),g v σ H Q->g v σ H fun σ' H'=>Q σ' H'/\σ'.length=σ.length/\∀(i:Nat) u,pick[i]?≠some none->σ[i]? = some u->σ'[i]? = some u)
  {σ:L2.St}{it:Addr}{tn:Nat->Heap->Prop}{J:It}{E:Value->Shared->Prop}{RR:Value->Addr->Result->Shared->Prop}(I:Inv X pins σ H s) (T:Turn X.prog X.w X.K tg J fp it tn) (st:tn 0 s.heap) (hf:∀b∈fp,j7 X pins H b)
  (Q:VK) (h:∀l,H l=none->∃W:Nat->Nat->Hp->Prop,(∃m,W 0 m (upd H l (.lst [])))/\∀i m H,W i m H ->
   (J.stop i H/\Q (.ref l) H)\/(J.go i H/\∃N:Hp->Prop,(∀H',N H'->∃m',m'<m/\W (i+1) m' H')/\∀x H',J.PF i H x H'->g x (gN σ pick) H' fun σ2 H2 =>
    tt σ2 H2 fun b H3=>if b=true then te σ2 H3 fun y H4=>∃xs,H4 l=some (.lst xs)/\xs.length<sizeLine/\N (upd H4 l (.lst (xs ++ [y]))) else N H3))
  (hR:∀(l C:Addr) (s':Shared) (H':Hp) (m:Str->Option Value),s'.heap.Ns C m->j7 X pins H' C->Q (.ref l) H'->Inv X pins σ H' s'->RR (.ref l) C (.ok .next) s') :
  wpAny (model X.prog X.w) X.A (newList []) (fun acc s₃=>wpAny (model X.prog X.w) X.A (newFunctionEnv scope X.env.globals (iG X.env.cells scope.names []) [] X.env.qual none .none (some X.env)) (fun QP s₄ =>
   codeAny (model X.prog X.w) X.A (.compStart (.ListComp elt [⟨tg,iter,ifs,0⟩] scope pos) 0 (.ref it) acc { QP with scope:=relabel scope X.env }) (RR acc QP.locals) s₄) E s₃) E s:=by
 have Qr:∀b∈fp,b<s.heap.objs.size:=fun b hb=>let ⟨o,e,_⟩:=T.obj 0 _ st b hb;Heap.lt_size e
 refine wpAny_newObj_type (nfe ?_);dsimp only;have I3:Inv X pins σ (upd H s.heap.objs.size (.lst [])) { s with heap:=s.heap.push { cls:=.type "list",data:=.seq ([]:List Value).toArray } }:=I.OR (ys:=[]) (its:=[]) (t':=s.toks) .nil (dh _);obtain⟨W,⟨m0,w0⟩,turn⟩:=h s.heap.objs.size I.fresh;have hC:(s.heap.push { cls:=.type "list",dict:=none,data:=.seq ([]:List Value).toArray }).objs.size=s.heap.objs.size+1:=Heap.size_push ..;have Xk:∀b∈fp,j7 X pins (upd H s.heap.objs.size (.lst [])) b:=fun b hb=>⟨by rw[aO (bw (Qr b hb))];exact (hf b hb).1,(hf b hb).2⟩
 have Qh:∀b o,(s.heap.push { cls:=.type "list",dict:=none,data:=.seq ([]:List Value).toArray }).get? b=some o->(pushCells ((s.heap.push { cls:=.type "list",dict:=none,data:=.seq ([]:List Value).toArray }).push { cls:=.type "dict",data:=.dict #[] }) scope.names).get? b=some o:=fun b o e=>pushCells_keeps _ _ b o (Heap.get?_push_of_some _ e)
 have I4:=sd (s:={ s with heap:=s.heap.push { cls:=.type "list",dict:=none,data:=.seq ([]:List Value).toArray } }) S I3 Xk (fun b hb=>by show b<(s.heap.push _).objs.size;rw[hC];exact iy (Qr b hb));dsimp only at I4;generalize hh₁:pushCells ((s.heap.push { cls:=.type "list",dict:=none,data:=.seq ([]:List Value).toArray }).push { cls:=.type "dict",data:=.dict #[] }) scope.names=h₁ at *;have Wu:tn 0 h₁:=T.keep 0 _ _ st fun b hb o e=>Qh b o (Heap.get?_push_of_some _ e)
 generalize hY:inner X scope N' (s.heap.push { cls:=.type "list",dict:=none,data:=.seq ([]:List Value).toArray }).objs.size { s with heap:=s.heap.push { cls:=.type "list",dict:=none,data:=.seq ([]:List Value).toArray } } (upd H s.heap.objs.size (.lst [])) fp=Y at I4;have QF:=NN (s.heap.push { cls:=.type "list",dict:=none,data:=.seq ([]:List Value).toArray }).objs.size { s with heap:=s.heap.push { cls:=.type "list",dict:=none,data:=.seq ([]:List Value).toArray } } (upd H s.heap.objs.size (.lst [])) fp;rw[hY] at QF;obtain⟨yg,yt,ye⟩:=QF;have yE:Y.env=compEnvC scope (cellsFrom ((s.heap.push { cls:=.type "list",dict:=none,data:=.seq ([]:List Value).toArray }).objs.size+1) scope.names (iG X.env.cells scope.names [])) (s.heap.push { cls:=.type "list",dict:=none,data:=.seq ([]:List Value).toArray }).objs.size X.env:=by rw[<-hY];rfl
 have hCL:(s.heap.push { cls:=.type "list",dict:=none,data:=.seq ([]:List Value).toArray }).objs.size≠X.env.locals:=by
  rw[hC];exact Nat.ne_of_gt (iy I.lt)
 have back:∀{H5:Hp}{s5:Shared},Inv Y [] (gN σ pick) H5 s5->Q (.ref s.heap.objs.size) H5->RR (.ref s.heap.objs.size) (s.heap.push { cls:=.type "list",dict:=none,data:=.seq ([]:List Value).toArray }).objs.size (.ok .next) s5:=fun {H5 s5} I5 q=>by
  subst hY;obtain⟨m,hn,_⟩:=I5.loc;have J5:Inv X pins σ H5 s5:=Inv.QQ I3 I5.os I5.base I5.LB I5.bare fun b hb=>by
   obtain⟨f0,f1,f2,f3,f4,f5⟩:=hf b hb;exact⟨f3,f1,f4,f5⟩
  have WT:∀{b:Addr}{o:Obj},s.heap.get? b=some o->b≠(s.heap.push { cls:=.type "list",dict:=none,data:=.seq ([]:List Value).toArray }).objs.size:=fun e=>by rw[hC];exact bw (iy (Heap.lt_size e))
  refine hR _ _ s5 H5 m hn ⟨I5.free,hCL,I.P5 (by rw[hC];exact Nat.le_succ _),.inr (by rw[hC];exact Nat.le_succ_of_le I.sz),fun x c e z=>?_,fun p hp z=>?_⟩ q J5
  .obtain⟨v,o,ho,_⟩:=I.cell x c e;exact WT ho z
  .exact WT (I.pin p hp).1 z
 have yP:Y.prog=X.prog:=by rw[<-hY];rfl
 have yw:Y.w=X.w:=by rw[<-hY];rfl
 have yK:Y.K=X.K:=by rw[<-hY];rfl
 have yA:Y.A=X.A:=by rw[<-hY];rfl
 have yc:Y.calm=true:=by rw[<-hY];exact hc
 have yx:Y.xe=fun _ _=>False:=by rw[<-hY];rfl
 have yp:Y.pn=[]:=by rw[<-hY];rfl
 have yex:Y.ex=fp:=by rw[<-hY];rfl
 have MT:∀{H':Hp},(∀b∈fp,H' b=none)->∀b∈fp,j7 Y [] H' b:=fun {H'} hn b hb=>by
  have Mn:b∈Y.ex:=by rw[yex];exact hb
  obtain⟨x1,x2⟩:=I4.ok.QM b Mn;exact⟨hn b hb,x1,I4.ok.M4 b Mn,.inl Mn,x2,fun p hp=>by rw[yp] at hp;cases hp⟩
 rw[<-yP,<-yw,<-yA];have loop:codeAny (model Y.prog Y.w) Y.A (.compLoop (.ListComp elt [⟨tg,iter,ifs,0⟩] scope pos) 0 (.ref it) (.ref s.heap.objs.size) Y.env) (RR (.ref s.heap.objs.size) (s.heap.push { cls:=.type "list",dict:=none,data:=.seq ([]:List Value).toArray }).objs.size) { s with heap:=h₁ }:=by
  refine rZ (fun n s5=>∃i H5,Inv Y [] (gN σ pick) H5 s5/\tn i s5.heap/\(∀b∈fp,H5 b=none)/\W i n H5) ?_ m0 ⟨0,_,I4,Wu,fun b hb=>(Xk b hb).1,w0⟩;rintro n s5 ⟨i,H5,I5,Pl,RJ,w5⟩;rcases turn i n H5 w5 with ⟨stop,qn⟩ | ⟨go,N,hN,step⟩
  .have d:=T.done Y yP yw yK yc i [] s5 (gN σ pick) H5 (fun _ _=>False) I5 (MT RJ) Pl stop;rw[<-yP,<-yw] at d;refine cO d fun r s6 ⟨hr,I6⟩=>?_
   subst hr;exact back I6 qn
  .have d:=T.item Y yP yw yK yc i [] s5 (gN σ pick) H5 (fun _ _=>False) I5 (MT RJ) Pl go;rw[<-yP,<-yw] at d;refine cO d fun r s6 ⟨u,hr,h6⟩=>?_
   subst hr;refine cO h6 fun _ s7 ⟨x,H7,I7,r7,y7,Sv,fr7⟩=>?_
   have I7':=I7.pinned (MT fr7) (T.obj _ _ Sv);have Wo:=yg _ s7 (gN σ pick) H7 x u _ I7' r7 (gk _ _ _ _ (step x H7 y7));rw[yx] at Wo;refine cO Wo fun _ s8 ⟨σ8,H8,I8,q8,l8,k8⟩=>?_
   have Wn:=yt _ s8 σ8 H8 _ I8 q8;rw[yx] at Wn;refine cO Wn fun b s9 ⟨H9,I9,q9⟩=>?_
   have again:∀{σ':L2.St}{H':Hp}{s':Shared},Inv Y ([]++nZ fp s7.heap) σ' H' s'->σ'=σ8->N H'->∃m,m<n/\∃i H5,Inv Y [] (gN σ pick) H5 s'/\tn i s'.heap/\(∀b∈fp,H5 b=none)/\W i m H5:=fun {σ' H' s'} J e nn=>by
    subst e;obtain⟨m',hm,w'⟩:=hN H' nn;refine⟨m',hm,i+1,H',(J.LY).weak (l8.symm) (fun j v e=>?_),T.keep _ _ _ Sv fun b hb o e=>(J.pin (b,o) (ax _ (ax _ (fZ hb e)))).1,fun b hb=>?_,w'⟩
    .refine k8 j _ (fun z=>?_) e;unfold gN at e;rw[List.getElem?_map,z] at e;simp at e
    .obtain⟨o,e,_⟩:=T.obj _ _ Sv b hb;exact (J.pin (b,o) (ax _ (ax _ (fZ hb e)))).2.1
   cases b with
   |false =>
    rw[if_neg bj];exact again I9 rfl q9
   |true =>
    rw[if_pos rfl];have q9:te σ8 H9 fun y H4=>∃xs,H4 s.heap.objs.size=some (.lst xs)/\xs.length<sizeLine/\N (upd H4 s.heap.objs.size (.lst (xs ++ [y]))):=q9
    have Wp:=ye _ s9 σ8 H9 _ I9 q9;rw[yx] at Wp;refine cO Wp fun v s10 ⟨y,X1,I10,r10,xs,Vd,z10,n10⟩=>?_
    have ap:=lL _ s10 σ8 X1 (.ref s.heap.objs.size) [y] (.ref s.heap.objs.size) [v] (fun _ H'=>N H') I10 rfl (.cons r10 .nil) ⟨s.heap.objs.size,xs,y,rfl,rfl,Vd,z10,n10⟩;rw[yx] at ap;exact cO ap fun _ OJ ⟨_,H11,I11,_,n11⟩=>again I11 rfl n11
 show codeAny (model Y.prog Y.w) Y.A (.compStart (.ListComp elt [⟨tg,iter,ifs,0⟩] scope pos) 0 (.ref it) (.ref s.heap.objs.size) (compEnvC scope (cellsFrom ((s.heap.push { cls:=.type "list",dict:=none,data:=.seq ([]:List Value).toArray }).objs.size+1) scope.names (iG X.env.cells scope.names [])) (s.heap.push { cls:=.type "list",dict:=none,data:=.seq ([]:List Value).toArray }).objs.size X.env))
  (RR (.ref s.heap.objs.size) (s.heap.push { cls:=.type "list",dict:=none,data:=.seq ([]:List Value).toArray }).objs.size) { s with heap:=h₁ }
 rw[<-yE];refine codeAny_compStart_list loop ?_;have l2:=loop;rw[yP,yw] at l2 ⊢;exact T.self Y.A 0 _ _ _ Wu l2
theorem gW (S:eX X scope N' pick)(hh:∀x,(X.env.kindOf x=some .cell\/X.env.kindOf x=some .free)->∃c,X.env.cells.lookup x=some c):closureFor scope X.env=pure (iG X.env.cells scope.names []) :=
 ug fun x hx=>hh x (S.outer x (S.free x hx))
theorem Dk (S:eX X scope N' pick)(hc:X.calm=true)(hi:PI X tg iter wi)(NN:∀C s0 H0 ex,PG (inner X scope N' C s0 H0 ex) tg g/\Ig (inner X scope N' C s0 H0 ex) ifs tt/\PE (inner X scope N' C s0 H0 ex) elt te)
  (gk:∀(v:V) (σ:L2.St) (H:Hp) (Q:L2.St->Hp->Prop),g v σ H Q->g v σ H fun σ' H'=>Q σ' H'/\σ'.length=σ.length/\∀(i:Nat) u,pick[i]?≠some none->σ[i]? = some u->σ'[i]? = some u) (hs:∀x,foldedSetIterable iter X.env x=pure x) :
  PE X (.ListComp elt [⟨tg,iter,ifs,0⟩] scope pos) (zm pick wi g tt te):=by
 intro pins s σ H Q I h;rw[eval_ListComp];refine wpAny_comprehension_free (use:=none) rfl hs (gW S I.ok.has) S.kind S.names (cO (hi pins s σ H _ I h) fun v s1 h1=>cO h1 fun Rr s2 h2=>?_);obtain⟨it,fp,tn,J,H2,e,I2,T,PN,f2,q⟩:=h2;subst e;refine oj (RR:=fun acc C=>compPost (model X.prog X.w) X.A X.xe none (EP X pins σ Q) acc C) S hc NN gk I2 T PN f2 Q q fun l C s' H' m hn fc hq J0=>?_
 obtain⟨f0,f1,f2,f3,f4,f5⟩:=fc;exact⟨m,hn,fun h' sb=>⟨.ref l,H',J0.turned (t':=s'.toks) (fun b o hb e=>sb.extBut b o hb e) f0 f1 f3 f4 f5,rfl,hq⟩⟩
theorem uB {PQ:Pos}(S:eX X scope N' pick)(hc:X.calm=true)(hi:PI X tg iter wi)(NN:∀C s0 H0 ex,PG (inner X scope N' C s0 H0 ex) tg g/\Ig (inner X scope N' C s0 H0 ex) ifs tt/\PE (inner X scope N' C s0 H0 ex) elt te)
  (gk:∀(v:V) (σ:L2.St) (H:Hp) (Q:L2.St->Hp->Prop),g v σ H Q->g v σ H fun σ' H'=>Q σ' H'/\σ'.length=σ.length/\∀(i:Nat) u,pick[i]?≠some none->σ[i]? = some u->σ'[i]? = some u) (hs:∀x,foldedSetIterable iter X.env x=pure x)
  (hN:X.N.Nodup) (hx:X.N[i]? = some x) (hl:Loc X.env.scope x) (hf:X.fn x=true\/X.env.scope.names.lookup x=some .local) (Pr:swapsWith (.ListComp elt [⟨tg,iter,ifs,0⟩] scope pos) (some (.Name x pos')) PQ.line X.env=pure true) :
  PS X (.Assign [.Name x pos'] (.ListComp elt [⟨tg,iter,ifs,0⟩] scope pos) PQ) (xm (zm pick wi g tt te) (my i)):=by
 intro pins s σ H D I h;rw[exec_Assign_Name_used _ _ _ _ Pr];refine wpAny_bind (wpAny_standAt (wpAny_bind ?_));show wpAny _ X.A (do let _ <- comprehension (.ListComp elt [⟨tg,iter,ifs,0⟩] scope pos) scope X.env _ (newList []) false (eval iter X.env) (some (assign (.Name x pos') X.env))) _ _ s;refine wpAny_bind (wpAny_mono (wpAny_comprehension_free (use:=some (assign (.Name x pos') X.env)) (Q:=fun _ s'=>SP X pins D .next s') rfl hs (gW S I.ok.has) S.kind S.names
  (cO (hi pins s σ H _ I h) fun v s1 h1=>cO h1 fun Rr s2 h2=>?_)) (fun _ s' hq=>wpAny_pure (wpAny_pure hq)) fun _ _ e=>e)
 obtain⟨it,fp,tn,J,H2,e,I2,T,PN,f2,q⟩:=h2;subst e;refine oj (RR:=fun acc C=>compPost (model X.prog X.w) X.A X.xe (some (assign (.Name x pos') X.env)) (fun _ s'=>SP X pins D .next s') acc C) S hc NN gk I2 T PN f2 (fun x H1=>my i x σ H1 D.nx) q fun l C s' H' m hn fc hq J0=>?_
 obtain⟨o,es,ep,ho,hd,hr⟩:=id hn;have J1:=J0.pinned (fp:=[C]) (fun b hb=>by rw[iq.mp hb];exact fc) fun b hb=>by rw[iq.mp hb];exact⟨o,ho,fun v z=>by rw[hd] at z;cases z⟩
 show wpAny (model X.prog X.w) X.A (assign (.Name x pos') X.env (.ref l)) _ _ s';refine wpAny_assign_Name (iF J1 hN hx hl (v:=.ref l) rfl (fun s2 I2=>?_) hf);have hC2:=(I2.pin (C,o) (List.mem_append_right _ (List.mem_append_right _ (fZ (by simp) ho)))).1;obtain⟨f0,f1,f2,f3,f4,f5⟩:=fc;refine⟨m,⟨o,es,ep,hC2,hd,hr⟩,fun h' sb=>?_⟩;exact⟨_,H',I2.LY.turned (t':=s2.toks) (fun b o hb e=>sb.extBut b o hb e) f0 f1 f3 f4 f5,hq⟩
end
noncomputable def fD (own:Nat)(pick:List Nat):List (Option Nat):=List.replicate own none++pick.map some
theorem rJ (σ:L2.St)(pk:List (Option Nat)):(gN σ pk).length=pk.length:=by simp[gN]
theorem pf (env:En)(own:Nat)(pick:List Nat):(cN env own pick).length=own+pick.length:=by simp[cN]
noncomputable def qv (F:Nat->List Addr)(env:En)(own:Nat)(pick:List Nat):Nat->List Addr:=fun i=>match (cN env own pick)[i]? with
 | some (some _)=>match pick[i-own]? with
  |some j=>F j
  |none=>[]
 |_=>[]
variable {own:Nat}{pick:List Nat}
theorem fX {env:En}{d:D}{t:Tg}(h:(cN env own pick)[i]? = some (some (d,t))):t=.sh []/\own<=i/\∃j t0,pick[i-own]? = some j/\env[j]? = some (some (d,t0)):=by
 unfold cN at h;by_cases hi:i<own
 .rw[List.getElem?_append_left (by simpa using hi),List.getElem?_replicate] at h;split at h<;>cases h
 .have hi:own<=i:=i6 hi;rw[List.getElem?_append_right (by simpa using hi),List.length_replicate,List.getElem?_map] at h;cases hp:pick[i-own]? with
  |none=>rw[hp] at h;cases h
  |some j =>
   rw[hp] at h;simp only[Option.map_some,Option.some.injEq] at h;split at h
   .rename_i d0 t0 q;cases h;exact⟨rfl,hi,j,t0,rfl,q⟩
   .cases h
section
variable {K:Frag}{P:Addr->Prop}{env:En}{σ:L2.St}{H:Hp}{F:Nat->List Addr}
theorem RE.picked (re:RE K P env σ H F)(own:Nat)(pick:List Nat):RE K (fun _=>False) (cN env own pick) (gN σ (fD own pick)) H (qv F env own pick) where
 len:=by rw[pf,rJ];simp[fD]
 val:=fun i d t h=>by
  obtain⟨rfl,hi,j,t0,hp,he⟩:=fX h;obtain⟨v,e,r⟩:=re.val j d t0 he;refine⟨v,?_,?_⟩
  .unfold gN fD;rw[List.getElem?_map,List.getElem?_append_right (by simpa using hi),List.length_replicate,List.getElem?_map,hp];simp[e]
  .unfold qv;rw[h,hp];exact r
 M6:=fun i h=>by
  unfold qv;split
  .rename_i p q;exact absurd q (h p.1 p.2)
  .rfl
 one:=fun i d t h o=>by
  obtain⟨rfl,_⟩:=fX h;cases o
 wr:=fun i d h=>by
  obtain⟨q,_⟩:=fX h;cases q
 pl:=fun _ h=>h.elim
theorem xQ (re:RE K P env σ H F)(h:a∈qv F env own pick i):∃j∈pick,∃d t,a∈F j/\env[j]? = some (some (d,t)):=by
 unfold qv at h;split at h
 .rename_i p q;obtain⟨_,hi,j,t0,hp,he⟩:=fX (d:=p.1) (t:=p.2) q;rw[hp] at h;exact⟨j,List.mem_of_getElem? hp,p.1,t0,h,he⟩
 .cases h
end
noncomputable def E5 (K:Frag)(T:Tb):m6->TT
 |.none=>fun _ H Q=>Q true H
 |.some c=>m5 K T c
section
variable {X:Cx}{T:Tb}{scope:Scope}{N':List Str}{own:Nat}{pick:List Nat}{t:oU}{it:ym}{c:m6}{e:Ex}
theorem Ha {σ:L2.St}{Q:Bool->Hp->Prop}{P:Addr->Prop}{env:En}{k:Bool}(re:RE X.K P env σ H F)(hk:yk T c env=.ok k)(q:∀H',aH H H'->Q k H'):E5 X.K T c σ H Q:=by
 cases c with
 |none =>
  unfold yk at hk;cases hk;exact q H (aH.refl _)
 |some c =>
  unfold yk at hk;obtain⟨p,h1,h2⟩:=Rs.Lz hk;exact⟨P,env,F,re,p,k,h1,dH h2,q⟩
theorem qH {σ:L2.St}(h:tE X.K T (.comp own pick t it c e) σ H Q):zm (fD own pick) (tI X.K T it) (uo X.K t) (E5 X.K T c) (tE X.K T e) σ H Q:=by
 obtain⟨P,env,F,re,p0,LA,k⟩:=h;unfold ev at LA;obtain⟨p,h1,LA⟩:=Rs.Lz LA;obtain⟨QY,h2,LA⟩:=Rs.Lz LA;have Mm:p.1.length<=lim:=Decidable.byContradiction fun hn=>by rw[if_neg hn] at LA;cases LA
 rw[if_pos Mm] at LA;cases LA;refine⟨P,env,F,re,p,h1,fun J H1 Gs s1 rt nn wk l hl=>?_⟩;have MP:=re.same s1;have wk:=wk (fun a=>a∈Gs) fun a ha=>ha
 let S0:Addr->Prop:=fun a=>a∈Gs\/∃j∈pick,∃d t,a∈F j/\env[j]? = some (some (d,t))
 have S0n:∀a,S0 a->H1 a≠none:=fun a ha=>by
  rcases ha with ha | ⟨j,_,d,t,m,ej⟩
  .exact nn a ha
  .exact MP.nn ej m
 have lS:¬ S0 l:=fun z=>S0n l z hl
 refine⟨fun i m H2=>m=p.1.length-i/\i<=p.1.length/\∃(acc rest:List (D×Rt)) (vs:List V) (G:List Addr),gJ (fun d=>dP (bK [] t d (cN env own pick)) (yk T c) (ev T e)) (p.1.drop i)=.ok rest/\QY=acc++rest/\acc.length<=i/\H2 l=some (.lst vs)/\aJ X.K H2 (acc.map (·.1)) vs G/\aH H1 H2/\l∉G /\
  (∀a∈G,H1 a=none\/S0 a)/\(acc.all (fun q=>q.1.flat || kC q.2)=true->G.Nodup/\∀a∈G,H1 a=none/\∃ws:ML,H2 a=some ws.o),?_,?_⟩
 .refine⟨p.1.length,by simp,Nat.zero_le _,[],QY,[],[],by simpa using h2,rfl,Nat.le_refl _,aM,.nil,aH.new hl,by simp,fun _ h=>(nomatch h),fun _=>⟨List.nodup_nil,fun _ h=>(nomatch h)⟩⟩
 .rintro i m H2 ⟨rfl,hi,acc,rest,vs,G,Nm,N8,Nq,Qv,rs,s2,Qu,hG,Uh⟩;obtain⟨w1,w2⟩:=wk H2 (lH.of_same (fun a ha=>nn a ha) s2);by_cases LO:i<p.1.length
  .right;have hd:p.1[i]? = some p.1[i]:=by simp[LO]
   obtain⟨g1,g2⟩:=w1 i _ hd;refine⟨g1,fun H3=>i+1<=p.1.length/\∃(acc rest:List (D×Rt)) (vs:List V) (G:List Addr),gJ (fun d=>dP (bK [] t d (cN env own pick)) (yk T c) (ev T e)) (p.1.drop (i+1))=.ok rest/\QY=acc++rest/\acc.length<=i+1/\H3 l=some (.lst vs)/\aJ X.K H3 (acc.map (·.1)) vs G/\aH H1 H3/\l∉G /\
    (∀a∈G,H1 a=none\/S0 a)/\(acc.all (fun q=>q.1.flat || kC q.2)=true->G.Nodup/\∀a∈G,H1 a=none/\∃ws:ML,H3 a=some ws.o),fun H3 q=>⟨p.1.length-(i+1),by omega,rfl,q⟩,fun x H3 y=>?_⟩
   obtain⟨s3,G3,SR,NA⟩:=g2 x H3 y;rw[ie LO] at Nm;unfold gJ at Nm;obtain⟨o,LW,Nm⟩:=Rs.Lz Nm;obtain⟨Om,L3,Nm⟩:=Rs.Lz Nm;cases hb:bK [] t p.1[i] (cN env own pick) with
   |none=>rw[hb] at LW;cases LW
   |some NT =>
    rw[hb] at LW;unfold dP at LW;obtain⟨kc,Ua,LW⟩:=Rs.Lz LW;have rep:=(MP.same (s2.trans s3)).picked own pick;let Z:Addr->Prop:=fun a=>S0 a
    have zF:∀i,∀a∈qv F env own pick i,Z a:=fun i a ha=>by
     obtain⟨j,hj,d,t,m,ej⟩:=xQ (MP.same (s2.trans s3)) ha;exact .inr ⟨j,hj,d,t,m,ej⟩
    refine sW (Z:=Z) rep zF SR (fun a ha=>.inl (NA a ha)) (fun a ha j d' t' ej o m=>?_) hb fun σ4 F4 PX z4 _=>?_
    .obtain⟨rfl,_⟩:=fX ej;cases o
    .refine Ha PX Ua fun H5 s5=>?_
     have Nf:=s2.trans (s3.trans s5);have l5:H5 l=some (.lst vs):=s5 _ _ (s3 _ _ Qv);cases kc with
     |false =>
      show if false=true then _ else _
      rw[if_neg bj];simp only[Bool.false_eq_true,if_false] at LW;cases LW;cases Nm;refine⟨LO,acc,Om,vs,G,L3,N8,Nat.le_succ_of_le Nq,l5,rs.same (s3.trans s5),Nf,Qu,hG,fun f=>?_⟩;obtain⟨n1,n2⟩:=Uh f;exact⟨n1,fun a ha=>⟨(n2 a ha).1,let ⟨ws,q⟩:=(n2 a ha).2;⟨ws,s5 _ _ (s3 _ _ q)⟩⟩⟩
     |true =>
      show if true=true then _ else _
      rw[if_pos rfl];simp only[if_true] at LW;obtain⟨q,hq,LW⟩:=Rs.Lz LW;cases LW;cases Nm;refine⟨_,NT,F4,PX.same s5,q,hq,fun yv H6 Gy s6 WL WI=>?_⟩;have l6:H6 l=some (.lst vs):=s6 _ _ l5;have QR:=Nf.trans s6;have PY:=s3.trans (s5.trans s6);have yS:∀a∈Gy,H5 a=none\/S0 a:=fun a ha=>(WI.cont a ha).imp id fun ⟨i,d,t,m,_⟩=>z4 i a m
      have ly:l∉Gy:=fun z=>by
       rcases yS l z with q | q
       .rw[l5] at q;cases q
       .exact lS q
      have Tn:vs.length=acc.length:=by have:=rs.len;rw[ak] at this;exact this.symm
      refine⟨vs,l6,Nat.lt_of_le_of_lt (Nat.le_trans (Nat.le_of_eq Tn) (Nat.le_trans Nq (Nat.le_of_lt (Nat.lt_of_lt_of_le LO Mm)))) (by decide),LO,acc ++ [q],Om,vs ++ [yv],G++(Gy ++ []),L3,by rw[N8];simp,by simp;exact Nq,aM,?_,?_,?_,?_,?_⟩
      .rw[dt];exact (aJ.append (rs.same PY) (.cons WL .nil)).upd l6 (by simp;exact⟨Qu,ly⟩)
      .intro b o e;rw[aO (fun z=>by subst z;rw[hl] at e;cases e)];exact QR _ _ e
      .simp;exact⟨Qu,ly⟩
      .intro a ha;rw[ay] at ha;rcases List.mem_append.mp ha with ha | ha
       .exact hG a ha
       .exact (yS a ha).imp (aH.no Nf) id
      .intro f;rw[List.all_append,ao] at f;obtain⟨n1,n2⟩:=Uh f.1;have fy:Gy.Nodup/\∀a∈Gy,H5 a=none/\∃ws:ML,H6 a=some ws.o:=by
        have f2:q.1.flat=true\/kC q.2=true:=by simpa using f.2
        rcases f2 with f2 | f2
        .rw[WL.flat f2];exact⟨cu,fun _ h=>(nomatch h)⟩
        .have:q.2=.mv []:=by
          cases hr:q.2 with
          |sh R=>rw[hr] at f2;cases f2
          |mv R=>cases R with
           |nil=>rfl
           |cons a b=>rw[hr] at f2;cases f2
         obtain⟨m1,m2,m3⟩:=WI.mv [] this;refine⟨m1,fun a ha=>⟨?_,m2 a ha⟩⟩;rcases m3 a ha with z | ⟨_,_,_,z,_⟩
         .exact z
         .cases z
       rw[ay];refine⟨List.nodup_append.mpr ⟨n1,fy.1,fun a ha b hb z=>?_⟩,fun a ha=>?_⟩
       .subst z;obtain⟨_,ws,w⟩:=n2 a ha;have:=s5 _ _ (s3 _ _ w);rw[(fy.2 a hb).1] at this;cases this
       .have ne:a≠l:=fun z=>by
         subst z;rcases List.mem_append.mp ha with ha | ha
         .exact Qu ha
         .exact ly ha
        rcases List.mem_append.mp ha with ha | ha
        .obtain⟨u1,ws,w⟩:=n2 a ha;exact⟨u1,ws,by rw[aO ne];exact PY _ _ w⟩
        .obtain⟨u1,ws,w⟩:=fy.2 a ha;exact⟨aH.no Nf u1,ws,by rw[aO ne];exact w⟩
  .left;have ei:i=p.1.length:=by omega
   subst ei;refine⟨w2,?_⟩;rw[jg] at Nm;unfold gJ at Nm;cases Nm;rw[ay] at N8;subst N8;refine k _ H2 (l::G) (s1.trans s2) (.lst (.inl Qv) rs) ?_;have RA:=aH.no s1 hl;cases hf:QY.all (fun q=>q.1.flat || kC q.2) with
   |true =>
    obtain⟨n1,n2⟩:=Uh hf;have new:∀a∈l::G,H a=none:=fun a ha=>by
     rcases je.mp ha with rfl | ha
     .exact RA
     .exact aH.no s1 (n2 a ha).1
    refine⟨fun a ha=>.inl (new a ha),fun R e=>⟨List.nodup_cons.mpr ⟨Qu,n1⟩,fun a ha=>?_,fun a ha=>.inl (new a ha)⟩⟩;rcases je.mp ha with rfl | ha
    .exact⟨.l _,Qv⟩
    .exact (n2 a ha).2
   |false =>
    refine⟨fun a ha=>?_,fun R e=>by cases e⟩;rcases je.mp ha with rfl | ha
    .exact .inl RA
    .rcases hG a ha with q | q | ⟨j,hj,d,t,m,ej⟩
     .exact .inl (aH.no s1 q)
     .exact (rt.cont a q).imp id fun ⟨i,d,t,x,y,z⟩=>⟨i,d,t,x,y,fun r hr=>bo _ (z r hr)⟩
     .refine .inr ⟨j,d,t,m,ej,fun r hr=>ax _ ?_⟩;unfold pE;rw[List.mem_flatten];exact⟨bJ j t,List.mem_map.mpr ⟨j,hj,by rw[ej]⟩,hr⟩
theorem qy {t:oU}{pk:List (Option Nat)}(ht:∀i,(t=.nm i\/∃is,t=.tp is/\i∈is)->pk[i]? = some none)(v:V)(σ:L2.St)(H:Hp)(Q:L2.St->Hp->Prop)(h:uo K t v σ H Q) :
  uo K t v σ H fun σ' H'=>Q σ' H'/\σ'.length=σ.length/\∀(i:Nat) u,pk[i]?≠some none->σ[i]? = some u->σ'[i]? = some u:=by
 cases t with
 |nm i=>exact⟨h,by simp,fun j u hj e=>by rw[List.getElem?_set_ne];exact e;rintro rfl;exact hj (ht i (.inl rfl))⟩
 |tp is =>
  obtain⟨a,xs,e1,e2,e3,h⟩:=h;refine⟨a,xs,e1,e2,e3,?_⟩;have gen:∀(is:List Nat) (xs:List V) (σ1:L2.St),(∀i∈is,pk[i]? = some none)->σ1.length=σ.length->(∀(i:Nat) u,pk[i]?≠some none->σ[i]? = some u->σ1[i]? = some u)->iQ is xs σ1 H Q->iQ is xs σ1 H fun σ' H'=>Q σ' H'/\σ'.length=σ.length/\∀(i:Nat) u,pk[i]?≠some none->σ[i]? = some u->σ'[i]? = some u:=by
   intro is
   induction is with
   |nil=>intro xs σ1 _ hl hk h;exact⟨h.1,h.2,hl,hk⟩
   |cons j js ih =>
    intro xs σ1 hi hl hk h;obtain⟨v,r,e,h⟩:=h;refine⟨v,r,e,ih r (σ1.set j (some v)) (fun i hm=>hi i (List.mem_cons_of_mem _ hm)) (by simp[hl]) (fun i u RD e'=>?_) h⟩;rw[List.getElem?_set_ne];exact hk i u RD e';rintro rfl;exact RD (hi j aj)
  exact gen is xs σ (fun i hm=>ht i (.inr ⟨is,rfl,hm⟩)) rfl (fun _ _ _ e=>e) h
end
def oS (K:Frag)(T:Tb)(x:Nat)(path:m6):TE:=fun σ H Q=>∃P env F po v p,RE K P env σ H F/\kq T path env=.ok po/\σ[x]? = some (some v)/\PV K H v po p/\∀H',aH H H'->Q (.ref p) H'
section
variable {X:Cx}{T:Tb}{pos:Pos}{i:Nat}{x:Str}
theorem FE (hN:X.N[i]? = some x)(hv:D4 X.env.scope x)(hd:(x==("__debug__" : Str))=false) (Mr:(x==("__classdict__" : Str))=false):PE X (.Name x pos) (oS X.K T i .none):=by
 refine bW (rj hN hv hd Mr) fun σ H Q ⟨P,env,F,po,v,p,re,Ow,hv,pv,k⟩=>?_
 unfold kq at Ow;cases Ow;cases pv;exact⟨_,hv,k H (aH.refl _)⟩
end
def xo (K:Frag)(m:tJ):V->List V->Hp->VK->Prop:=fun x vs H Q=>∃l ws xs ds Gx G ys,x=.ref l/\H l=some (.lst ws)/\aJ K H xs ws Gx/\aJ K H ds vs G/\z7 m xs ds=some ys/\ys.length<=lim/\l∉Gx/\l∉G/\Gx.Nodup /\
 ∀us Gy v,aJ K (upd H l (.lst us)) ys us Gy->(∀a∈Gy,a∈Gx\/(m.LZ=false/\a∈G))->((∀a∈Gx,a∉G)->G.Nodup\/m.LZ=true->Gy.Nodup)->Q v (upd H l (.lst us))
variable {T:Tb}{m:tJ}{path:m6}
section
variable {X:Cx}
def Bi:V->List V->Hp->VK->Prop:=fun x vs H Q=>∃l b xs zs,x=.ref l/\vs=[.ref b]/\H l=some (.lst xs)/\Rd H b (.lst zs)/\xs.length+zs.length<=sizeLine/\Q .LC (upd H l (.lst (xs++zs)))
theorem uI:R7 X "list.extend" Bi:=by
 intro pins s σ H x vs v us Q I rx rv h;obtain⟨l,b,xs,zs,rfl,rfl,hH,hB,hz,q⟩:=h;cases rx;obtain⟨u,rfl,ru⟩:=rv.one;cases ru;obtain⟨z,its,n,r,hl,e⟩:=I.Qd hH;obtain⟨z2,MY,n2,r2,Qv,e2⟩:=Inv.N5 I hB;have hsz:its.toArray.size+MY.toArray.size<=sizeLine:=by rw[aq,aq];omega
 have NK:¬ (!its.toArray.isEmpty&&Builtin.List.listTooLong (its.toArray.size+MY.toArray.size))=true:=by
  rw[tR hsz,Bool.and_false];exact bj
 refine call_meets F.slot_list_extend ⟨_,e,rfl⟩ F.entry_list_extend (F.args_list_extend_2 _ _)
  (AutoSeq1.list_extend_list_list_0 l its.toArray n b MY.toArray n2 NK (by rw[aq];omega) (by omega)) ⟨e,e2,?_⟩
 refine⟨.LC,_,I.Qe (its':=its++MY) hH e (by simp) (r.append r2) ?_,rfl,q⟩;rw[aa];omega
theorem vk:R7 X "list.append" (xo X.K .append):=by
 intro pins s σ H x vs v us Q I rx rv h;obtain⟨l,ws,xs,ds,Gx,G,ys,rfl,hl,r1,r2,hm,hlen,n1,n2,nd,k⟩:=h
 match ds,hm with
 |[d],hm =>
  cases hm;obtain⟨y,rfl,rp⟩:=r2.Mv;refine lL pins s σ H _ _ v us Q I rx rv ⟨l,ws,y,rfl,rfl,hl,?_,k (ws ++ [y]) (Gx++(G ++ [])) _ ?_ (fun a ha=>?_) fun dj o=>?_⟩
  .rw[<-r1.len];simp only[List.length_append,List.length_singleton] at hlen;exact bg (bg (gn _) hlen) vd
  .exact (r1.append (.cons rp .nil)).upd hl (by simp;exact⟨n1,n2⟩)
  .simp at ha;exact ha.imp id fun z=>⟨rfl,z⟩
  .rcases o with o | o
   .rw[ay];exact List.nodup_append.mpr ⟨nd,o,fun a ha b hb z=>by subst z;exact dj a ha hb⟩
   .cases o
theorem uw:R7 X "list.extend" (xo X.K .extend):=by
 intro pins s σ H x vs v us Q I rx rv h;obtain⟨l,ws,xs,ds,Gx,G,ys,rfl,hl,r1,r2,hm,hlen,n1,n2,nd,k⟩:=h
 match ds,hm with
 |[.lst zs],hm =>
  have hm:(if D.LF zs then some (xs++zs) else none)=some ys:=hm;by_cases hf:D.LF zs=true
  .rw[if_pos hf] at hm;cases hm;obtain⟨y,rfl,rp⟩:=r2.Mv;obtain⟨b,wz,gz,rfl,rfl,a1,a2⟩:=rp.lst_inv;have eg:gz=[]:=a2.flat hf;subst eg;refine uI pins s σ H _ _ v us Q I rx rv ⟨l,b,ws,wz,rfl,rfl,hl,a1,?_,k (ws++wz) (Gx ++ []) _ ?_ (fun a ha=>?_) fun _ _=>?_⟩
   .rw[<-r1.len,<-a2.len];simp only[List.length_append] at hlen;exact bq hlen vd
   .exact (r1.append a2).upd hl (by simp;exact n1)
   .simp at ha;exact .inl ha
   .rw[ay];exact nd
  .rw[if_neg hf] at hm;cases hm
theorem nN {D:Ends}{σ:L2.St}(h:tS X.K T (.mut i path m cs) D σ H):zi (Q3 X.K "list" (xo X.K m) (oS X.K T i path) (xG X.K T cs)) D σ H:=by
 obtain⟨P,Z,env,F,re,hz,zp,h⟩:=h;unfold aV at h;cases hx:ownAt env i with
 |none=>rw[hx] at h;exact h.elim
 |some d =>
  rw[hx] at h;obtain⟨po,Ow,h⟩:=cQ h;cases MQ:d.Mo po with
  |none=>rw[MQ] at h;exact h.elim
  |some xs =>
   rw[MQ] at h;obtain⟨l,hl,h⟩:=cQ h;cases hm:z7 m xs (l.map (·.1)) with
   |none=>rw[hm] at h;exact h.elim
   |some ys =>
    rw[hm] at h;have Mq:=gI hx;obtain⟨v,hv,_⟩:=re.val i d .own Mq;obtain⟨p,pv,f⟩:=pK re hx hv MQ;refine⟨P,env,F,po,v,p,re,Ow,hv,pv,fun H1 s1=>?_⟩;obtain⟨ws1,g1,e1,_⟩:=f H1 s1;refine⟨.inl ⟨rfl,ws1,.inl (.inl e1)⟩,P,env,F,re.same s1,l,hl,fun vs H2 G ar=>?_⟩;have s2:=s1.trans ar.same;obtain⟨ws,Gx,a1,a2,a3,a4,a5,a6,fs⟩:=f H2 s2;by_cases NH:(aZ (l.map (·.2))).contains i=true
    .simp only[NH,if_true] at h;exact h.elim
    simp only[NH,if_false] at h;have O9:∀a∈F i,a∉G:=fun a ha hg=>by
     rcases ar.cont a hg with q | ⟨j,d2,t2,m2,e2,sr⟩
     .exact (re.same s1).nn Mq ha q
     .exact NH (by simpa using sr i ((re.one i d .own Mq rfl).2.2 a ha j d2 t2 e2 m2))
    have nG:=O9 p a3;refine⟨p,ws,xs,l.map (·.1),Gx,G,ys,rfl,a1,a2,ar.LQ,hm,xP h,a6,nG,a5,fun us Gy w rs sub nd=>?_⟩;refine tN (N:=if m.LZ then [] else G) re hz zp s2 hx hv a3 (fun R hR WQ=>?_) (fun hN RI=>?_) h
    .cases hc:m.LZ with
     |true=>exact⟨cu,fun _ h=>(nomatch h),fun _ h=>(nomatch h)⟩
     |false =>
      rw[hc] at hR;obtain⟨n1,n2,n3⟩:=Args.mv (re.same s1) ar hR WQ;exact⟨n1,n2,fun a ha=>(n3 a ha).imp (aH.no s1) id⟩
    .have ngy:Gy.Nodup:=nd (fun a ha=>O9 a (a4 a ha)) (by
      cases hc:m.LZ with
      |true=>exact .inr rfl
      |false=>rw[hc] at RI;exact .inl RI)
     obtain⟨G',b1,b2,b3⟩:=fs ys us Gy rs ngy (fun z=>(sub p z).elim a6 fun q=>nG q.2) fun a ha=>(sub a ha).imp id fun q z=>O9 a z q.2
     refine⟨G',b1,b2,fun a ha=>?_⟩;rcases b3 a ha with q | q
     .exact .inl q
     .rcases sub a q with z | ⟨z1,z2⟩
      .exact .inl (a4 a z)
      .rw[z1];exact .inr z2
theorem xN {D:Ends}{σ:L2.St}(h:tS X.K T (.mut i path m .nil) D σ H):zi (Iy X.K "list" (xo X.K m) (oS X.K T i path)) D σ H:=by
 obtain⟨P,env,F,po,v,p,re,Ow,hv,pv,k⟩:=nN h;refine⟨P,env,F,po,v,p,re,Ow,hv,pv,fun H' s=>?_⟩;obtain⟨ty,P',env',F',OL,l,hl,f⟩:=k H' s;unfold aY at hl;cases hl;exact⟨ty,f [] H' [] (.nil (aH.refl _))⟩
theorem zT {e:Ex}{D:Ends}{σ:L2.St}(h:tS X.K T (.MH i path c e) D σ H):xm (tE X.K T e) (Je (oS X.K T i path) (tE X.K T c) DI) D σ H:=by
 obtain⟨P,Z,env,F,re,hz,zp,h⟩:=h;unfold aV at h;cases hx:ownAt env i with
 |none=>rw[hx] at h;exact h.elim
 |some d =>
  rw[hx] at h;obtain⟨q,hq,h⟩:=cQ h;obtain⟨po,Ow,h⟩:=cQ h;cases MQ:d.Mo po with
  |none=>rw[MQ] at h;exact h.elim
  |some xs =>
   rw[MQ] at h;obtain⟨qi,hqi,h⟩:=cQ h;cases TR:qi.1 with
   |int n =>
    rw[TR] at h;cases hj:j9 xs.length n with
    |none=>simp only[hj] at h;exact h.elim
    |some j =>
     simp only[hj] at h;have Mq:=gI hx;obtain⟨v,hv,_⟩:=re.val i d .own Mq;refine⟨P,env,F,re,q,hq,fun w H1 G s1 rp rt=>?_⟩;have MP:=re.same s1;obtain⟨p,pv,f⟩:=pK MP hx hv MQ;refine⟨P,env,F,po,v,p,MP,Ow,hv,pv,fun H2 s2=>⟨P,env,F,MP.same s2,qi,hqi,fun wi H3 Gi s3 Ri rti=>?_⟩⟩;rw[TR] at Ri;obtain⟨rfl,_⟩:=Ri.int_inv;obtain⟨ws,Gx,a1,a2,a3,a4,a5,a6,fs⟩:=f H3 (s2.trans s3);have jl:=EW hj;refine⟨p,ws,n,j,rfl,rfl,a1,by rw[<-a2.len];exact hj,?_⟩;have TQ:∀R,q.2=.mv R->i∉R->∀a∈F i,a∉G:=fun R hr hiR a ha hg=>by
      rcases rt.cont a hg with z | ⟨k,d2,t2,m2,e2,sr⟩
      .exact re.nn Mq ha z
      .have:=sr i ((re.one i d .own Mq rfl).2.2 a ha k d2 t2 e2 m2);rw[hr] at this;exact hiR this
     have SM:=s2.trans s3;refine tN (N:=G) re hz zp (s1.trans SM) hx hv a3 (fun R hR WQ=>?_) (fun hN RI=>?_) h
     .have hr:q.2=.mv R:=by
       cases hr:q.2 with
       |sh Q=>rw[hr] at hR;cases hR
       |mv Q=>rw[hr] at hR;simp[eV] at hR;rw[hR]
      obtain⟨n1,n2,n3⟩:=rt.mv R hr;exact⟨n1,fun a ha=>let ⟨ws,z⟩:=n2 a ha;⟨ws,SM _ _ z⟩,n3⟩
     .obtain⟨u,A,B,C,e1,e2,r1,g⟩:=a2.split (i:=j) (d:=xs[j]) (List.getElem?_eq_getElem jl);subst e2;have W8:p∉G:=fun z=>hN p z a3
      have pAC:∀b∈A++C,b≠p:=fun b hb z=>by
       rw[z] at hb;refine a6 ?_;rcases List.mem_append.mp hb with hb | hb
       .exact bo _ hb
       .exact ax _ (ax _ hb)
      have rs:=g (upd H3 p (.lst (ws.set j w))) q.1 w G (fun _ _=>rE a1) (l9 (ws:=.l _) a1) (fun b hb _ h=>(aO (pAC b hb)).trans h) ((rp.same SM).upd a1 W8);have O7:∀a∈A++(G++C),a∈A++(B++C)\/a∈G:=fun a ha=>by
       simp only[List.mem_append] at ha ⊢;rcases ha with ha | ha | ha
       .exact .inl (.inl ha)
       .exact .inr ha
       .exact .inl (.inr (.inr ha))
      have ng:(A++(G++C)).Nodup:=by
       rw[List.nodup_append] at a5;obtain⟨nA,nB,nAB⟩:=a5;rw[List.nodup_append] at nB;obtain⟨_,nC,_⟩:=nB;rw[List.nodup_append];refine⟨nA,List.nodup_append.mpr ⟨RI,nC,fun a ha b hb z=>?_⟩,fun a ha b hb z=>?_⟩
       .subst z;exact hN a ha (a4 a (by simp[hb]))
       .subst z;rcases List.mem_append.mp hb with hb | hb
        .exact hN a hb (a4 a (by simp[ha]))
        .exact nAB a ha a (by simp[hb]) rfl
      obtain⟨G',b1,b2,b3⟩:=fs (xs.set j q.1) (ws.set j w) _ rs ng (fun z=>(O7 p z).elim a6 W8) fun a ha=>(O7 a ha).imp id fun z y=>hN a z y
      refine⟨G',b1,b2,fun a ha=>?_⟩;rcases b3 a ha with z | z
      .exact .inl z
      .exact (O7 a z).imp (a4 a) id
   |_=>rw[TR] at h;exact h.elim
end
section
variable {X:Cx}
noncomputable def mQ:List String:=["str"]
theorem ty_type {T:String}(h:T∈mQ):typeOf (.type T)=pure (.type "type"):=by
 obtain rfl:T = "str":=iq.mp h
 kernel_rfl
def Jj (K:Frag):List V->Hp->VK->Prop:=fun xs H Q=>∃x T d G,xs=[x,.ty T]/\T∈mQ/\(∀ks,d≠.LI ks)/\Rep K H d x G/\Q (.bl (Az T d)) H
theorem x9:eJ X (.builtin "isinstance") (Jj X.K):=by
 intro pins s σ H xs us Q I r h;obtain⟨x,T,d,G,rfl,hT,Ry,rp,q⟩:=h;obtain⟨u,w,rfl,rx,rt⟩:=r.two;obtain rfl:w=Value.type T:=rt;have NG:=ty_type hT;have yes:∀{Tx:String},s.TypeIs u Tx->isSubtype (.type Tx) (.type T)=pure true->Az T d=true->wpAny (model X.prog X.w) X.A (call (.builtin "isinstance") [u,.type T]) (EP X pins σ Q) X.xe s:=fun h1 h2 h3 =>
  call_isinstance (isinstance_true NG h2) ⟨h1,⟨.bl true,H,I,rfl,by rw[h3] at q;exact q⟩⟩
 have no:Az T d=false->EP X pins σ Q (.bool false) { s with toks:=s.toks+1 }:=fun h=>⟨.bl false,H,I.tok _,rfl,by rw[h] at q;exact q⟩
 obtain rfl:T = "str":=iq.mp hT;cases d with
 |LI ks=>exact absurd rfl (Ry ks)
 |LC =>
  obtain⟨rfl,_⟩:=rp.L8;cases rx;exact call_isinstance (isinstance_false_none (by decide) NG F.sub_NoneType_str) (no rfl)
 |bl b =>
  obtain⟨rfl,_⟩:=rp.LM;cases rx;exact call_isinstance (isinstance_false_bool (by decide) NG F.sub_bool_str) (no rfl)
 |int i =>
  obtain⟨rfl,_⟩:=rp.int_inv;obtain⟨t,rfl⟩:=rx;exact call_isinstance (isinstance_false_int (by decide) NG F.sub_int_str) (no rfl)
 |str z =>
  obtain⟨rfl,_⟩:=rp.str_inv;obtain⟨t,rfl⟩:=rx;exact yes (typeIs_str s z t) F.sub_str_str rfl
 |lst ds =>
  obtain⟨p,vs,g,rfl,_,a1,_⟩:=rp.lst_inv;cases rx;obtain⟨its,_,pl,_⟩:=I.list (.inl a1);obtain⟨o,ho,hc,_⟩:=pl.isList;exact call_isinstance (isinstance_false_list (by decide) NG F.sub_list_str) ⟨⟨o,ho,hc⟩,no rfl⟩
 |tup ds =>
  obtain⟨p,vs,rfl,a1,_⟩:=rp.LG;cases rx;obtain⟨its,_,pl,_⟩:=I.tuple a1;obtain⟨o,ho,hc,_⟩:=pl;exact call_isinstance (isinstance_false_tuple (by decide) NG F.sub_tuple_str) ⟨⟨o,ho,hc⟩,no rfl⟩
theorem A8 {b:String}{σ:L2.St}(hb:b∈mQ)(h:tE X.K T (.blt (.N6 b) (.cons c .nil)) σ H Q):FA (Jj X.K) (cC (tE X.K T c) (cC (tC (.ty b)) mL)) σ H Q:=by
 obtain⟨P,env,F,re,p,LA,k⟩:=h;unfold ev aY aY at LA;obtain⟨l,h1,LA⟩:=Rs.Lz LA;obtain⟨q,h2,h1⟩:=Rs.Lz h1;cases h1;obtain⟨d',h3,LA⟩:=Rs.Lz LA;have h3:iH (.N6 b) [q.1]=some d':=dH h3;have Ry:∀ks,q.1≠.LI ks:=fun kvs e=>(by rw[e] at h3;cases h3)
 have hd:d'=.bl (Az b q.1):=by
  cases hq:q.1 with
  |LI ks=>exact absurd hq (Ry ks)
  |_=>rw[hq] at h3;cases h3;rfl
 subst hd;cases LA;exact⟨P,env,F,re,q,h2,fun v H1 G s rp rt=>⟨v,b,q.1,G,rfl,hb,Ry,rp,k _ H1 [] s (.bl _) cD.nil⟩⟩
theorem tw:∀{r:List D},r.all D.MK=true->∃bs:List Bool,r=bs.map D.bl
 |[],_=>⟨[],rfl⟩
 | x::r,ha=>by
  rw[List.all_cons,ao] at ha;obtain⟨bs,rfl⟩:=tw ha.2;cases x with
  |bl c=>exact⟨c::bs,rfl⟩
  |_=>cases ha.1
theorem all_range (bs:List Bool):(List.range bs.length).all (fun i=>bs[i]?.getD true)=bs.all id:=by
 rw[Bool.eq_iff_iff,cv,cv];constructor
 .intro h x hx;obtain⟨i,hi,rfl⟩:=List.mem_iff_getElem.mp hx;have:=h i (by simpa using hi);simpa[hi] using this
 .intro h i hi;have hi:i<bs.length:=by simpa using hi
  simpa[hi] using h bs[i] (List.getElem_mem hi)
theorem oR:∀{ds:List D}{b:Bool},allB ds=some b->ds.all D.MK=true->∃bs:List Bool,ds=bs.map D.bl/\b=bs.all id
 |[],b,h,_=>by cases h;exact⟨[],rfl,rfl⟩
 | .bl c::r,b,h,ha=>by
  have QE:r.all D.MK=true:=by simpa[D.MK] using ha
  cases c with
  |false =>
   cases h;have:=tw QE;obtain⟨bs,rfl⟩:=this;exact⟨false::bs,rfl,by simp⟩
  |true =>
   obtain⟨bs,rfl,rfl⟩:=oR (ds:=r) h QE;exact⟨true::bs,rfl,by simp⟩
 |.LC::r,b,h,_=>by cases h
 |.int _::r,b,h,_=>by cases h
 |.str _::r,b,h,_=>by cases h
 |.lst _::r,b,h,_=>by cases h
 |.tup _::r,b,h,_=>by cases h
theorem ox:∀{bs:List Bool}{vs:List V}{G:List Addr}{us:List Value},aJ K H (bs.map D.bl) vs G->aS vs us->us=bs.map Value.bool
 |[],_,_,_,.nil,.nil=>rfl
 | b::bs,_,_,_,.cons h r,.cons x y=>by
  obtain⟨rfl,_⟩:=h.LM;cases x;rw[aw,<-ox r y]
theorem xy (hc:X.calm=true):eJ X (.builtin "all") (oW X.K .all):=by
 intro pins s σ H xs us Q I r h;obtain⟨ds,d,G,rs,hd,k⟩:=h
 match ds,hd with
 |[.lst ys],hd =>
  simp only[iH,Ep] at hd;by_cases hb:ys.all D.MK=true
  .rw[if_pos hb,ae] at hd;obtain⟨b,Mn,rfl⟩:=hd;obtain⟨bs,rfl,rfl⟩:=oR Mn hb;obtain⟨x,rfl,rp⟩:=rs.Mv;obtain⟨p,vs,g,rfl,rfl,a1,a2⟩:=rp.lst_inv;obtain⟨u,rfl,ru⟩:=r.one;cases ru;obtain⟨its,rv,pl,_⟩:=I.list (.inl a1);have ei:=ox a2 rv;subst ei;have LO:p<s.heap.objs.size:=by
    obtain⟨o,ho,_⟩:=pl.isList;exact Heap.lt_size ho
   refine call_all_walk (wpAny_pyIter_list pl.isList ⟨s.heap.objs.size,[s.heap.objs.size,p],[s.heap.objs.size],(bs.map Value.bool).toArray.size,_,_,fun i=>bs[i]?.getD true,rfl,Walks.list (A:=X.A.in1) (show X.A.in1.handled=none from I.ok.hd hc) s.heap.objs.size p (bw LO) (bs.map Value.bool).toArray,⟨⟨_,Heap.get?_push_size _ rfl,rfl,rfl⟩,pl.isList.at fun o e=>Heap.get?_push_of_some _ e⟩,fun i v s' Q' E' hP hQ=>?_,fun h' tk hk=>?_⟩)
   .have hP:(bs.map Value.bool).toArray[i]? = some v:=hP;rw[List.getElem?_toArray,List.getElem?_map,ae] at hP;obtain⟨b,e1,rfl⟩:=hP;have hQ:Q' (bs[i]?.getD true) s':=hQ;rw[e1] at hQ;exact wpAny_truthy_bool hQ
   .have e:(List.range (bs.map Value.bool).toArray.size).all (fun i=>bs[i]?.getD true)=bs.all id:=by
     simp only[List.size_toArray,List.length_map];exact all_range bs
    rw[e];refine⟨.bl (bs.all id),H,?_,rfl,k _ H [] (.bl _) gX.nil⟩;have I1:Inv X pins σ H { s with heap:=s.heap.push { cls:=.type "list_iterator",data:=.fields #[.ref p,.int 0 0] } }:=I.kept (t':=s.toks) fun b o e=>Heap.get?_push_of_some _ e
    obtain⟨f0,f1,f2,f3,f4,f5⟩:=I.MO (b:=s.heap.objs.size) (au _) (I.LB.fresh (au _));exact I1.turned (t':=tk) (fun b o hb e=>hk b o (by simpa using hb) e) f0 f1 f3 f4 f5
  .rw[if_neg hb] at hd;cases hd
theorem qk:∀{ds:List D}{a r:Int},vn a ds=some r->∃ns:List Int,ds=ns.map D.int/\r=a+ns.sum
 |[],a,r,h=>by cases h;exact⟨[],rfl,by simp⟩
 | .int i::ds,a,r,h=>by
  obtain⟨ns,rfl,rfl⟩:=qk (ds:=ds) (a:=a+i) h;exact⟨i::ns,rfl,by rw[ig];omega⟩
 |.LC::_,_,_,h=>by cases h
 |.bl _::_,_,_,h=>by cases h
 |.str _::_,_,_,h=>by cases h
 |.lst _::_,_,_,h=>by cases h
 |.tup _::_,_,_,h=>by cases h
theorem n9:∀{ns:List Int}{vs:List V}{G:List Addr}{us:List Value},aJ K H (ns.map D.int) vs G->aS vs us->us.length=ns.length/\∀i u,us[i]? = some u->∃t,u=Value.int (ns.getD i 0) t
 |[],_,_,_,.nil,.nil=>⟨rfl,fun i u h=>by simp at h⟩
 | n::ns,_,_,_,.cons h r,.cons x y=>by
  obtain⟨rfl,_⟩:=h.int_inv;obtain⟨t,rfl⟩:=x;obtain⟨a,b⟩:=n9 r y;refine⟨by simp[a],fun i u h=>?_⟩;cases i with
  |zero=>simp at h;exact⟨t,by simp[<-h]⟩
  |succ i =>
   obtain⟨t',e⟩:=b i u (by simpa using h);exact⟨t',by simpa using e⟩
theorem xR (hc:X.calm=true):eJ X (.builtin "sum") (oW X.K .sum):=by
 intro pins s σ H xs us Q I r h;obtain⟨ds,d,G,rs,hd,k⟩:=h
 match ds,hd with
 |[.lst ys],hd =>
  simp only[iH,Eu] at hd;rw[ae] at hd;obtain⟨b,Mn,rfl⟩:=hd;obtain⟨ns,rfl,rfl⟩:=qk Mn;obtain⟨x,rfl,rp⟩:=rs.Mv;obtain⟨p,vs,g,rfl,rfl,a1,a2⟩:=rp.lst_inv;obtain⟨u,rfl,ru⟩:=r.one;cases ru;obtain⟨its,rv,pl,_⟩:=I.list (.inl a1);obtain⟨hl,hv⟩:=n9 a2 rv;have LO:p<s.heap.objs.size:=by
   obtain⟨o,ho,_⟩:=pl.isList;exact Heap.lt_size ho
  refine call_sum_walkG (wpAny_pyIter_list pl.isList ⟨s.heap.objs.size,[s.heap.objs.size,p],[s.heap.objs.size],its.toArray.size,_,_,fun i=>ns.getD i 0,rfl,Walks.list (A:=X.A.in1) (show X.A.in1.handled=none from I.ok.hd hc) s.heap.objs.size p (bw LO) its.toArray,⟨⟨_,Heap.get?_push_size _ rfl,rfl,rfl⟩,pl.isList.at fun o e=>Heap.get?_push_of_some _ e⟩,fun b hb=>?_,fun i v hP=>?_,fun h' tk t' hk=>?_⟩)
  .simp only[List.mem_cons,List.not_mem_nil,or_false] at hb;rw[Heap.size_push];rcases hb with rfl | rfl
   .exact gn _
   .exact iy LO
  .have hP:its.toArray[i]? = some v:=hP;rw[List.getElem?_toArray] at hP;exact hv i v hP
  .rw[preSum_getD,aq,hl,List.take_length];refine⟨.int ns.sum,H,?_,⟨_,rfl⟩,by have:=k (.int (0+ns.sum)) H [] (.int _) gX.nil;rwa [Int.zero_add] at this⟩;have I1:Inv X pins σ H { s with heap:=s.heap.push { cls:=.type "list_iterator",data:=.fields #[.ref p,.int 0 0] } }:=I.kept (t':=s.toks) fun b o e=>Heap.get?_push_of_some _ e
   obtain⟨f0,f1,f2,f3,f4,f5⟩:=I.MO (b:=s.heap.objs.size) (au _) (I.LB.fresh (au _));exact I1.turned (t':=tk) (fun b o hb e=>hk b o (by simpa using hb) e) f0 f1 f3 f4 f5
end
variable {o:Expr}
section
variable {X:Cx}{T:Tb}
theorem k9.map (k:Int){m:MV}(hm:ud K H m v):∀{q:List (Int×MV)}{x:List (Key×V)},k9 K H q x->k9 K H (q.map fun z=>if z.1=k then (z.1,m) else z) (x.map fun z=>if z.1=Sum.inl k then (z.1,v) else z)
 |[],[],_=>trivial
 | (j,n)::q,p::x,⟨a,b,c⟩=>by
  refine⟨?_,?_,c.map k hm⟩
  .show (if p.1=Sum.inl k then (p.1,v) else p).1=Sum.inl (if j=k then (j,m) else (j,n)).1;rw[show (if p.1=Sum.inl k then (p.1,v) else p).1=p.1 by split<;>rfl,show (if j=k then (j,m) else (j,n)).1=j by split<;>rfl];exact a
  .show ud K H (if j=k then (j,m) else (j,n)).2 (if p.1=Sum.inl k then (p.1,v) else p).2;by_cases e:j=k
   .rw[if_pos e,if_pos (by rw[a,<-e])];exact hm
   .rw[if_neg e,if_neg (by rw[a];exact fun z=>e (by injection z))];exact b
 |[],_::_,h=>h.elim
 |_::_,[],h=>h.elim
theorem k9.snoc (k:Int){m:MV}(hm:ud K H m v):∀{q:List (Int×MV)}{x:List (Key×V)},k9 K H q x->k9 K H (q ++ [(k,m)]) (x ++ [(.inl k,v)])
 |[],[],_=>⟨rfl,hm,trivial⟩
 |_::_,_::_,⟨a,b,c⟩=>⟨a,b,c.snoc k hm⟩
 |[],_::_,h=>h.elim
 |_::_,[],h=>h.elim
theorem k9.put (k:Int){m:MV}(hm:ud K H m v){q:List (Int×MV)}{x:List (Key×V)}(h:k9 K H q x):k9 K H (qW q k m) (putK x (.inl k) v):=by
 unfold qW putK;rw[h.any k];split
 .exact h.map k hm
 .exact h.snoc k hm
theorem qB:∀{xs:List D}{k:List Int}{vs:List V}{G:List Addr},iL xs=some k->aJ K H xs vs G->vs=k.map V.int
 |[],k,vs,G,h,r=>by cases h;cases r;rfl
 | .int i::xs,k,vs,G,h,r=>by
  have h:(iL xs).map (i :: ·)=some k:=h;rw[ae] at h;obtain⟨k',h1,rfl⟩:=h;cases r with
  |cons r1 r2 =>
   obtain⟨rfl,_⟩:=r1.int_inv;rw[qB h1 r2];rfl
 |.LC::_,_,_,_,h,_=>by cases h
 |.bl _::_,_,_,_,h,_=>by cases h
 |.str _::_,_,_,_,h,_=>by cases h
 |.lst _::_,_,_,_,h,_=>by cases h
 |.tup _::_,_,_,_,h,_=>by cases h
 |.LI _::_,_,_,_,h,_=>by cases h
theorem FL {m:MV}(h:AD d=some m)(r:Rep K H d v G):ud K H m v:=by
 cases d with
 |bl b =>
  cases b with
  |true=>cases h;cases r;rfl
  |false=>cases h
 |int i=>cases h;cases r;rfl
 |tup xs =>
  have h:(iL xs).map MV.tup=some m:=h;rw[ae] at h;obtain⟨k,h1,rfl⟩:=h;obtain⟨q,vs,rfl,a1,a2⟩:=r.ME;rw[qB h1 a2] at a1;exact⟨q,rfl,a1⟩
 |_=>cases h
theorem DD {o o':ML}(h:H p=some o.o)(b:Addr)(vs:List V)(t:lJ K H b vs):lJ K (upd H p o'.o) b vs:=by
 rcases t with t | t
 .refine .inl ((aO fun e=>?_).trans t);subst e;rw[h] at t;cases o<;>cases t
 .exact .inr t
theorem BS {P:Addr->Prop}{env:En}{σ:L2.St}(re:RE K P env σ H F){ks:List (Int×MV)}(hx:env[i]? = some (some (.LI ks,.own))):∃p xs,σ[i]? = some (some (.ref p))/\F i=[p]/\H p=some (.dK xs)/\k9 K H ks xs:=by
 obtain⟨v,hv,rp⟩:=re.val i _ _ hx;obtain⟨_,lv,_⟩:=re.one i _ _ hx rfl;generalize hF:F i=G at rp lv;cases rp with
 |@LI p _ xs h kr=>exact⟨p,xs,hv,rfl,h,kr⟩
theorem A0 {σ:L2.St}(I:Inv X pins σ H s)(e:H a=some (.dK [])):Inv X pins σ (upd H a (.dT [])) s:=by
 obtain⟨z,hd,vs,rel,o,es,ep,h1,h2,h3,h4,h5,h6⟩:=AU I.LB e;cases rel;have Uk:es.toList=[]:=by
  cases q:es.toList with
  |nil=>rfl
  |cons x r=>rw[q] at h5;cases h5
 exact mV (t':=s.toks) I (by rw[e];exact True.intro) ⟨rfl,fun _ _=>rfl⟩ ⟨o,h1⟩ ⟨dh _,hd,[],.nil,o,es,ep,h1,h2,h3,Uk,cu⟩
def El (H:Hp)(a:Addr)(y v:V)(H':Hp):Prop:=rY H a y v H'\/∃k b,H a=some (.dK [])/\y=.ref b/\H b=some (.tup (k.map kV))/\H'=upd H a (.dT (putK [] k v))
def AS (td ty tv:TE):TS:=fun D σ H=>tv σ H fun v H1=>td σ H1 fun x H2=>ty σ H2 fun y H3=>∃a H4,x=.ref a/\El H3 a y v H4/\D.nx σ H4
theorem CM (H:Hp)(a:Addr)(o o':HO):upd (upd H a o) a o'=upd H a o':=by
 funext b;by_cases h:b=a
 .subst h;rw[aM,aM]
 .rw[aO h,aO h,aO h]
theorem zY {i value:Expr}{td ty tv:TE}(hu:X.A.units+1<cLine)(ho:PE X o td)(hi:PE X i ty)(hv:PE X value tv)(hs:swapsWith value (some (.Subscript o i pos')) pos.line X.env=pure false) :
  PS X (.Assign [.Subscript o i pos'] value pos) (AS td ty tv):=by
 intro pins s σ H D I h;refine wpAny_Assign_Subscript (cO (hv pins s σ H _ I h) fun r s1 ⟨v,H1,I1,rv,q1⟩=>cO (ho pins s1 σ H1 _ I1 q1) fun u s2 ⟨x,H2,I2,rx,q2⟩=>cO (hi pins s2 σ H2 _ I2 q2) fun iv s3 ⟨y,H3,I3,ry,a,H4,ex,g,q3⟩=>?_) hs;subst ex;obtain rfl:u=Value.ref a:=rx;rcases g with g | ⟨k,b,e1,e2,e3,e4⟩
 .exact pI hu I3 g ry rv fun s4 I4=>⟨σ,H4,I4,q3⟩
 .subst e2 e4;have hb:b≠a:=fun z=>by subst z;rw[e1] at e3;cases e3
  refine pI hu (A0 I3 e1) (rY.t (kvs:=[]) aM (by rw[aO hb];exact e3) (by decide)) ry rv fun s4 I4=>⟨σ,_,I4,?_⟩
  rw[CM];exact q3
theorem Ay {P:Addr->Prop}{env:En}{σ:L2.St}(re:RE K P env σ H F){d' y u:D}(hx:env[i]? = some (some (d,.own)))(hp:CZ d y u=some d') :
  ∃p,∃m:ML,σ[i]? = some (some (.ref p))/\F i=[p]/\H p=some m.o/\∀H3 wi Gi wv Gv,aH H H3->Rep K H3 y wi Gi->Rep K H3 u wv Gv->∃m':ML,El H3 p wi wv (upd H3 p m'.o)/\Rep K (upd H3 p m'.o) d' (.ref p) [p]:=by
 cases d with
 |LI ks=>cases y with
  |int n =>
   have hp:(if ks.length<lim then (AD u).map fun m=>D.LI (qW ks n m) else none)=some d':=hp;by_cases hl:ks.length<lim
   .rw[if_pos hl,ae] at hp;obtain⟨mv,hmv,rfl⟩:=hp;obtain⟨p,xs,hv,hF,hH,kr⟩:=BS re hx;refine⟨p,.k xs,hv,hF,hH,fun H3 wi Gi wv Gv sm rp ru=>?_⟩;have h3:H3 p=some (ML.k xs).o:=sm _ _ hH;have kr3:=kr.keep fun _ _=>aH.Pj sm
    have mr:=FL hmv ru;obtain⟨rfl,_⟩:=rp.int_inv;refine⟨.k (putK xs (.inl n) wv),.inl (rY.k (k:=.inl n) h3 ?_),.LI aM ((kr3.put n mr).keep fun b vs=>DD (o':=.k _) h3 b vs)⟩;rw[kr.len,sizeLine_eq];unfold lim at hl;omega
   .rw[if_neg hl] at hp;cases hp
  |_=>cases hp
 |_=>cases hp
theorem xA {e:Ex}{D:Ends}{σ:L2.St}(h:tS X.K T (.Ni i c e) D σ H):AS (oS X.K T i .none) (tE X.K T c) (tE X.K T e) D σ H:=by
 obtain⟨P,Z,env,F,re,hz,zp,h⟩:=h;unfold aV at h;cases hx:ownAt env i with
 |none=>rw[hx] at h;exact h.elim
 |some d =>
  rw[hx] at h;obtain⟨u,hu,h⟩:=cQ h;obtain⟨q,hq,h⟩:=cQ h;cases hp:CZ d q.1 u.1 with
  |none=>rw[hp] at h;exact h.elim
  |some d' =>
   rw[hp] at h;have Mq:=gI hx;obtain⟨p,m,hv,hF,hH,inv⟩:=Ay re Mq hp;refine⟨P,env,F,re,u,hu,fun wv H1 Gv s1 rpv rtv=>⟨P,env,F,none,.ref p,p,re.same s1,by unfold kq;rfl,hv,.top p,fun H2 s2=>⟨P,env,F,re.same (s1.trans s2),q,hq,fun wi H3 Gi s3 Ri rti=>?_⟩⟩⟩;have e:=(s1.trans s2).trans s3;have W9:H3 p=some m.o:=e _ _ hH;obtain⟨m',i1,i2⟩:=inv H3 wi Gi wv Gv e Ri (rpv.same (s2.trans s3));refine⟨p,upd H3 p m'.o,rfl,i1,?_⟩;have W6:p∈F i:=by rw[hF];simp
   have MP:=re.same e;have SV:=MP.M9 (vs:=m') (R:=[]) (N:=[]) (G:=[p]) (d':=d') Mq hv W6 i2 (by simp) (fun a ha=>.inl (by rw[hF];exact ha)) (fun a ha=>nomatch ha);have S6:¬ P p:=re.wr i _ Mq p W6;refine h σ _ _ ⟨SV,fun j a ha=>?_,(lH.of_same re.pl e).trans ⟨fun a z=>aO (fun q=>S6 (q ▸ z)),fun b xs r=>?_,l9 W9⟩,fun j dj ej=>?_⟩
   .unfold pd at ha;split at ha
    .exact hz i a (by rw[hF];exact ha)
    .split at ha
     .exact hz j a ha
     .cases ha
   .refine (aO (fun q=>?_)).trans r;subst q;rw[W9] at r;cases m<;>cases r
   .by_cases hj:j=i
    .subst hj;rw[List.getElem?_set_self (by rw[dI];exact (List.getElem?_eq_some_iff.mp Mq).1)] at ej;cases ej
    .rw[List.getElem?_set_ne (eh hj)] at ej;refine⟨(cX ej).1,?_⟩;unfold pd;rw[if_neg hj,ej]
theorem qo {K:Frag}{H:Hp}:∀ks:List (Int×MV),aJ K H (ks.map fun q=>D.int q.1) (ks.map fun q=>V.int q.1) []
 |[]=>.nil
 |k::ks=>.cons (G:=[]) (G':=[]) (.int k.1) (qo ks)
theorem pJ:∀{ks:List (Int×MV)}{xs:List (Key×V)}{vs:List (Key×Value)}{us:List Value},k9 K H ks xs->KV xs vs->us.length=vs.length->(∀(j:Nat) u,us[j]? = some u->∃k x,vs[j]? = some (k,x)/\(cB P w).is k u=true)->aS (ks.map fun q=>V.int q.1) us
 | [],[],_,us,_,r,hl,_=>by
  cases r;rw[List.length_eq_zero_iff.mp hl];exact .nil
 |[],_::_,_,_,h,_,_,_=>h.elim
 |_::_,[],_,_,h,_,_,_=>h.elim
 | (k,m)::ks,x::xs,_,us,⟨Qx,_,kr⟩,r,hl,h=>by
  have r:Paired _ (x::xs) _:=r;cases r with
  |@cons _ q _ qs h1 t =>
   cases us with
   |nil=>cases hl
   |cons u us =>
    obtain⟨k',y,e,hk⟩:=h 0 u rfl;have e:some q=some (k',y):=e;cases e;have h1:x.1=k':=h1.1;rw[Qx] at h1;have h1:(Sum.inl k:Key)=k':=h1;subst h1;obtain⟨i,t',e1,e2⟩ | ⟨x',t',e1,_⟩:=bX (show oJ (.inl k) u=true from hk)
    .cases e1;exact .cons ⟨t',e2⟩ (pJ kr t (jk hl) fun j u hu=>h (j+1) u hu)
    .cases e1
theorem ve (hc:X.calm=true):eJ X (.type "list") (oW X.K .list):=by
 intro pins s σ H xs us Q I r h;obtain⟨ds,d,G,rs,hd,k⟩:=h;by_cases hm:∃ks,ds=[.LI ks]
 .obtain⟨ks,rfl⟩:=hm;have hd:(if ks.length<=lim then some (D.lst (ks.map fun q=>D.int q.1)) else none)=some d:=hd;by_cases hl:ks.length<=lim
  .rw[if_pos hl] at hd;cases hd;obtain⟨x,rfl,rp⟩:=rs.Mv;obtain⟨u,rfl,rx⟩:=r.one;cases rp with
   |@LI p _ xs hr kr =>
    obtain rfl:u=.ref p:=rx;obtain⟨z,lo,vs,rel,dd⟩:=zr I.LB (.inl hr);obtain⟨ep,MQ⟩:=dd.dictAt;have hlen:vs.length=ks.length:=by rw[<-rel.length,kr.len]
    refine PySem.W.kdl_call (PySem.W.kdl_dict (knd:=cB X.prog X.w) (kvs:=vs) (ep:=ep) lo) (I.ok.hd hc) MQ (by rw[hlen,sizeLine_eq];unfold lim at hl;omega) fun h' tk acc c hk hD Nq=>?_
    have hv:aS (ks.map fun q=>V.int q.1) acc.toList:=pJ kr rel (by rw[jc];exact Nq.1) fun j u hu=>Nq.2 j u (by rw[<-Array.getElem?_toList];exact hu)
    refine⟨.ref s.heap.objs.size,upd H s.heap.objs.size (.lst (ks.map fun q=>V.int q.1)),I.laid hk (au _) ⟨by rw[ak,sizeLine_eq];unfold lim at hl;omega,acc.toList,c,hv,by rw[hD,Array.toArray_toList]⟩,rfl,?_⟩;obtain⟨n1,n2⟩:=lQ (G0:=[p]) (qo (K:=X.K) (H:=H) ks) (fun a ha=>nomatch ha) I.fresh;exact k _ _ _ n1 n2
  .rw[if_neg hl] at hd;cases hd
 .exact sD I r rs hd k fun ks e=>hm ⟨ks,e⟩
end
theorem cW.Ou {o:HO}(x:cW P w H h a o):∃ob,h.get? a=some ob:=by
 cases o with
 |lst xs=>obtain⟨_,_,_,_,e⟩:=x;exact⟨_,e⟩
 |tup xs=>obtain⟨_,_,_,ob,e,_⟩:=x;exact⟨_,e⟩
 |dK kvs=>obtain⟨_,_,_,_,o,_,_,e,_⟩:=x;exact⟨_,e⟩
 |dT kvs=>obtain⟨_,_,_,_,o,_,_,e,_⟩:=x;exact⟨_,e⟩
 |set S n=>obtain⟨o,_,_,_,e,_⟩:=x;exact⟨_,e⟩
 |ins C dx fs=>obtain⟨_,_,_,e,_⟩:=x;exact⟨_,e⟩
 |own y=>obtain⟨_,e⟩:=x;exact⟨_,e⟩
 |xd fs=>obtain⟨_,⟨_,_,_,e,_⟩,_⟩:=x;exact⟨_,e⟩
 |Rj lo hi=>obtain⟨_,_,_,e⟩:=x;exact⟨_,e⟩
 |MA ob u=>obtain⟨e,_⟩:=x;exact⟨_,e⟩
 |Oj ps=>exact⟨_,(show h.get? a=some _ from x)⟩
 |met f y=>exact⟨_,(show h.get? a=some _ from x)⟩
 |ext φ=>obtain⟨_,⟨_,e⟩,_⟩:=x;exact⟨_,e⟩
section
variable {prog:Program}{w:World}{A:Around}
def We (h:Heap)(v:Value)(k:List Int):Prop:=∃a o its n,v=.ref a/\h.get? a=some o/\o.cls=.type "tuple"/\o.data=.seq its n/\IntsAre its.toList k
end
theorem pR:∀k:List Int,D.LF (k.map D.int)=true
 |[]=>rfl
 |_::k=>pR k
section
variable {X:Cx}{pins:List (Addr×Obj)}{σ:L2.St}{H:Hp}{s:Shared}
theorem pZ (I:Inv X pins σ H s):∀{ys:List D}{ks:List (List Int)}{vs:List V}{G:List Addr}{us:List Value},mH ys=some ks->aJ X.K H ys vs G->aS vs us->ks.length=us.length/\(∀i k,ks[i]? = some k->We s.heap (us.getD i .none) k)/\(∀k∈ks,k≠[])/\G=[]
 | [],ks,_,_,_,h,.nil,.nil=>by
  cases h;exact⟨rfl,fun i k h=>(by simp at h),fun k h=>(nomatch h),rfl⟩
 | .tup xs::r,ks,_,_,_,h,.cons r1 r2,.cons (b:=u) v1 v2=>by
  have h:((iL xs).bind fun k=>if k.isEmpty then none else (mH r).map (k :: ·))=some ks:=h;rw[ag] at h;obtain⟨k,h1,h2⟩:=h;by_cases he:k.isEmpty=true
  .rw[if_pos he] at h2;cases h2
  .rw[if_neg he,ae] at h2;obtain⟨Pq,h3,rfl⟩:=h2;obtain⟨l,t,ne,g⟩:=pZ I h3 r2 v2;have:=jT h1;subst this;have gf:=r1.flat (pR k);obtain⟨p,N1,rfl,a1,a2⟩:=r1.LG;obtain rfl:u=.ref p:=v1;obtain⟨its,rv,⟨o,e1,e2,n,e3⟩,_⟩:=I.tuple a1;refine⟨by simp[l],fun i k' hk=>?_,fun k' hk=>?_,by rw[gf,g];rfl⟩
   .cases i with
    |zero =>
     have hk:some k=some k':=hk;cases hk;exact⟨p,o,_,n,rfl,e1,e2,e3,qZ a2 rv⟩
    |succ i=>exact t i k' hk
   .rcases je.mp hk with rfl | hk
    .intro z;subst z;exact he rfl
    .exact ne k' hk
end
section
variable {X:Cx}
end
section
variable {X:Cx}{T:Tb}
end
structure XW (ty:String):Prop where
 item:∀{prog:Program}{w:World}{A:Around}{E:Value->Shared->Prop}{s:Shared}{it:Addr}{x:Str}{t:Tok}{i c:Nat}{Q:Value->Shared->Prop},s.heap.IsStrIter it ty x t i->x.cps[i]? = some c ->
  (∀h',h'.IsStrIter it ty x t (i+1)->Heap.SameBut it s.heap h'->Q (.str ⟨#[c]⟩ s.toks) { s with heap:=h',toks:=s.toks+1 })->wpAny (model prog w) A (Builtin.SmallTypes.nextOf (.ref it)) Q E s
 done:∀{prog:Program}{w:World}{A:Around}{E:Value->Shared->Prop}{s:Shared}{it:Addr}{x:Str}{t:Tok}{i:Nat}{Q:Value->Shared->Prop},A.handled=none->s.heap.IsStrIter it ty x t i->x.cps[i]? = none ->
  (∀h' e,Heap.ExtBut it s.heap h'->(∃o,h'.get? e=some o/\o.cls=.type "StopIteration")->E (.ref e) { s with heap:=h' })->wpAny (model prog w) A (Builtin.SmallTypes.nextOf (.ref it)) Q E s
 n1:ty≠"list"
section
variable {prog:Program}{w:World}{A:Around}{E:Value->Shared->Prop}{s:Shared}{z TI TO i1 i2 l1:Addr}{k1 k2:Nat}{xs:Array Value}{x a b:Value}{y:Str}{t:Tok}{c:Nat}{ty:String}
end
section
variable {prog:Program}{w:World}{A:Around}{E:Value->Shared->Prop}{s:Shared}
end
theorem xF {l:List D}(h:wa d=some l):d=.lst l\/∃y,d=.str y/\l=y.cps.toList.map fun c=>D.str ⟨#[c]⟩:=by
 cases d<;>simp[wa] at h
 .exact .inr ⟨_,rfl,h.symm⟩
 .rw[h];exact .inl rfl
section
variable {X:Cx}{T:Tb}
end
noncomputable def JJ (y:Str):It:=⟨fun i H=>∃c,y.cps[i]? = some c,fun i H v H'=>∃T c,v=.ref T/\H T=none/\y.cps[i]? = some c/\H'=upd H T (.tup [.int i,.str ⟨#[c]⟩]),fun i H=>i=y.cps.size⟩
def Ei (ty:String)(y:Str)(t:Tok):Prop:=∀{prog:Program}{w:World}{A:Around},A.handled=none->∀(it:Addr),Draws prog w A it [it] y.cps.size (fun i v=>∃c u,y.cps[i]? = some c/\v=Value.str { cps:=#[c] } u) fun i h=>h.IsStrIter it ty y t i
variable {y:Str}
theorem vm {ty:String}{t:Tok}(S:Ei ty y t)(e it:Addr)(NJ:e≠it):Turn P w K (.Tuple elts x1 pos) (JJ y) [e,it] e (fun i h=>(∃old,IsEnum h e it (i:Nat) old)/\h.IsStrIter it ty y t i) where
 mem:=by simp
 obj:=fun i h st b hb=>by
  obtain⟨⟨old,he⟩,hit⟩:=st;have hb:b=e\/b=it:=by simpa using hb
  rcases hb with rfl | rfl
  .exact⟨_,he,fun v z=>by cases z⟩
  .obtain⟨o,e,c,d⟩:=hit;exact⟨o,e,fun v z=>by rw[d] at z;cases z⟩
 keep:=fun i h h' st k=>by
  obtain⟨⟨old,he⟩,⟨o,e1,r⟩⟩:=st;exact⟨⟨old,k e (by simp) _ he⟩,⟨o,k it (by simp) o e1,r⟩⟩
 item:=by
  intro X hP hw hK hc i pins s σ H E I hf st hg;subst hP hw hK;obtain⟨c,Ut⟩:=hg;obtain⟨⟨old,he⟩,hit⟩:=st;have Qb:∀b∈[e,it],b<s.heap.objs.size:=fun b hb=>by
   have hb:b=e\/b=it:=by simpa using hb
   rcases hb with rfl | rfl
   .exact Heap.lt_size he
   .obtain⟨o,e,_⟩:=hit;exact Heap.lt_size e
  have hi:i<y.cps.size:=(Array.getElem?_eq_some_iff.mp Ut).1;refine wpAny_pyNext_enum_itemD (S (A:=X.A.in1) (I.ok.hd hc) it) he hit hi NJ (by simpa using NJ) fun x h' tk hx ho O2 hT hsz hk=>?_
  obtain⟨c',u,Mz,rfl⟩:=hx;rw[Ut] at Mz;cases Mz;have I2:Inv X pins σ (upd H s.heap.objs.size (.tup [.int i,.str ⟨#[c]⟩])) { s with heap:=h',toks:=tk+1 } :=
   paired (ch:=[e,it]) I ⟨tk,rfl⟩ ⟨u,rfl⟩ hT (fun b o hb q=>hk b o (fun z=>hb (by simp[z])) (fun z=>hb (by simp[z])) q) hf Qb
  have f2:∀b∈[e,it],j7 X pins (upd H s.heap.objs.size (.tup [.int i,.str ⟨#[c]⟩])) b:=fun b hb=>by
   obtain⟨f0,f⟩:=hf b hb;exact⟨by rw[aO (bw (Qb b hb))];exact f0,f⟩
  refine⟨_,rfl,wpAny_letOwnedTupleGo_enum (s:={ s with heap:=h',toks:=tk+1 }) ho fun h2 Ul Ov=>?_⟩;refine⟨.ref s.heap.objs.size,_,kJ (ch:=[e]) I2 (fun b o hb q=>Ov.extBut b o (fun z=>hb (by simp[z])) q) (fun b hb=>f2 b (by simp at hb;simp[hb])),rfl,⟨_,c,rfl,I.fresh,Ut,rfl⟩,⟨⟨_,by simpa using Ul⟩,O2.extBut Ov.extBut (Ne.symm NJ)⟩,fun b hb=>(f2 b hb).1⟩
 done:=by
  intro X hP hw hK hc i pins s σ H E I hf st hg;subst hP hw hK;obtain⟨⟨old,he⟩,hit⟩:=st;have hg:i=y.cps.size:=hg;subst hg;exact wpAny_pyNext_enum_endD (S (A:=X.A.in1) (I.ok.hd hc) it) he hit fun h' eb=>⟨rfl,kJ (t':=s.toks) (ch:=[it]) I (fun b o hb q=>eb b o (fun z=>hb (by simp[z])) q) fun b hb=>hf b (by simp at hb;simp[hb])⟩
 self:=fun A i s Q E st h=>by
  obtain⟨⟨old,he⟩,_⟩:=st;exact wpAny_pyIter_enum he h
theorem uh {P:Addr->Prop}:lN K P H0 (JJ y) ((y.cps.toList.map fun c=>D.str ⟨#[c]⟩).zipIdx.map fun q=>.tup [.int q.2,q.1]) []:=fun H e=>by
 refine⟨fun i d hd=>?_,show _=_ by rw[ak,List.length_zipIdx,ak,jc]⟩;obtain⟨c,hc,rfl⟩:∃c,y.cps[i]? = some c/\d=.tup [.int i,.str ⟨#[c]⟩]:=by
  rw[List.getElem?_map,List.getElem?_zipIdx,List.getElem?_map,Array.getElem?_toList] at hd;cases q:y.cps[i]? with
  |none=>rw[q] at hd;cases hd
  |some c=>rw[q] at hd;simp at hd;exact⟨c,rfl,hd.symm⟩
 refine⟨⟨c,hc⟩,fun x H' ⟨T,c',e1,e2,e3,e4⟩=>?_⟩;subst e1 e4;rw[hc] at e3;cases e3;exact⟨aH.new e2,[]++([] ++ []),.tup (.inl aM) (.cons (.int _) (.cons (.str _) .nil)),fun z hz=>by simpa using hz⟩
section
variable {X:Cx}{T:Tb}
theorem B6 {p tp:Pos}(hg:Gl X "enumerate") (hm:X.mg "enumerate" = none) (ha:PA X [e] (xG X.K T (.cons c .nil))) (hs:starEach [e] X.env=(false,eval e X.env)::starEach [] X.env):PI X (.Tuple elts x1 tp) (.Call (.Name "enumerate" p) [e] [] pos) (tI X.K T (.enum c)):=by
 intro pins s σ H R I hq;obtain⟨P,env,F,re,q,LA,k⟩:=hq;unfold fU at LA;obtain⟨r,h1,LA⟩:=Rs.Lz LA;obtain⟨l,h2,LA⟩:=Rs.Lz LA;cases LA;have hl:aY T (.cons c .nil) env=.ok [r]:=by unfold aY;rw[h1];unfold aY;rfl
 refine Call_ (m7 I hg hm boot_enumerate (jd (cO (ha pos pins s σ H (fun vs H'=>∃G,Args X.K env F H H' [r] vs G) I ⟨P,env,F,re,[r],hl,fun vs H' G ar=>⟨G,ar⟩⟩) fun us s1 ⟨vs,H1,I1,r1,G,ar⟩=>?_) hs rfl));have rs:aJ X.K H1 [r.1] vs G:=ar.LQ;obtain⟨x,rfl,rp⟩:=rs.Mv;obtain⟨u,rfl,ru⟩:=r1.one;have fp:∀b∈[s1.heap.objs.size+1,s1.heap.objs.size],j7 X pins H1 b:=fun b hb=>by
  simp only[List.mem_cons,List.not_mem_nil,or_false] at hb;have hb:s1.heap.objs.size<=b:=Fu _ _ hb;exact I1.MO hb (I1.LB.fresh hb)
 rcases xF (dH h2) with e2 | ⟨y,e2,rfl⟩
 .rw[e2] at rp;obtain⟨a,vs,g,rfl,rfl,a1,a2⟩:=rp.lst_inv;cases ru;obtain⟨its,rv,pl,hz⟩:=I1.list (.inl a1);exact call_enumerate_list pl.isList fun h' he hit hsz hk=>wpAny_pyIter_enum he ⟨_,[s1.heap.objs.size+1,s1.heap.objs.size],_,_,H1,rfl,I1.kept (t':=s1.toks) hk,xj a _ _ (Nat.succ_ne_self _),⟨⟨_,he⟩,hit⟩,fp,k _ H1 (a::g) ar.same (qc ar fun q hq=>by simpa[aZ] using hq) (fun b hb=>rp.nn hb) fun P' hP=>xp a1 a2 hP⟩
 .rw[e2] at rp;obtain⟨rfl,rfl⟩:=rp.str_inv;obtain⟨tk,rfl⟩:=ru;have dr:Ei (strIterType y) y tk:=by
   intro prog w A hA it;unfold strIterType;split
   .exact Draws.strAscii hA it y tk
   .exact Draws.strWide hA it y tk
  exact call_enumerate_str fun h' he hit hsz hk=>wpAny_pyIter_enum he ⟨_,[s1.heap.objs.size+1,s1.heap.objs.size],_,_,H1,rfl,I1.kept (t':=s1.toks) hk,vm dr _ _ (Nat.succ_ne_self _),⟨⟨_,he⟩,hit⟩,fp,k _ H1 [] ar.same (qc ar fun q hq=>by simpa[aZ] using hq) (fun b hb=>(nomatch hb)) fun P' hP=>uh⟩
end
section
variable {prog:Program}{w:World}{A:Around}{E:Value->Shared->Prop}{s:Shared}
end
section
variable {X:Cx}{T:Tb}
end
section
variable {X:Cx}{T:Tb}
end
section
variable {prog:Program}{w:World}{A:Around}{R:Result->Shared->Prop}{it:Addr}{fp wr:List Addr}{n:Nat}{P:Nat->Value->Prop}{Oh:Nat->Heap->Prop}{dv:Value}{bx:Addr}
end
section
variable {X:Cx}{T:Tb}
end
theorem wc:∀{vs:List Value}{ns:List Int},IntsAre vs ns->vs.length=ns.length/\∀(i:Nat) v,vs[i]? = some v->∃n t,ns[i]? = some n/\v=.int n t
 |_,_,.nil=>⟨rfl,fun i v h=>by simp at h⟩
 | _,_,.cons n t r=>by
  obtain⟨l,g⟩:=wc r;refine⟨by simp[l],fun i v h=>?_⟩;cases i with
  |zero =>
   rw[List.getElem?_cons_zero] at h;cases h;exact⟨n,t,rfl,rfl⟩
  |succ i =>
   rw[List.getElem?_cons_succ] at h;obtain⟨m,u,h1,h2⟩:=g i v h;exact⟨m,u,by rw[List.getElem?_cons_succ];exact h1,h2⟩
theorem iJ {lt:Nat->Nat->Bool}:∀(k j m:Nat),j+k=n->m<n->dM lt k j m<n
 |0,_,m,_,h=>h
 | k+1,j,m,e,h=>by
  unfold dM;refine iJ k (j+1) _ (by omega) ?_;split
  .omega
  .exact h
theorem vV:(toString "min" ++ toString ".loop" : String) = "min.loop":=by decide
section
variable {prog:Program}{w:World}{A:Around}{R:Result->Shared->Prop}{it:Addr}{fp wr:List Addr}{n:Nat}{P:Nat->Value->Prop}{Oh:Nat->Heap->Prop}{bx:Addr}{val:Nat->Value}{lt:Nat->Nat->Bool}{h0:Heap}
def Kp (wr:List Addr)(bx:Addr)(h0 h:Heap):Prop:=∀b o,b∉wr->b≠bx->h0.get? b=some o->h.get? b=some o
theorem C5 (W:Walks prog w A.in1 it fp wr n P Oh)(Nl:∀i v,P i v->v=val i)(hb:bx∉fp)
  (M2:∀(i j:Nat) (s':Shared) (Q E:Value->Shared->Prop),i<n->j<n->Kp wr bx h0 s'.heap->Q (.bool (lt i j)) s'->wpAny (model prog w) A.in1 (richCompare .Lt (val i) (val j)) Q E s') :
  ∀(k j:Nat) (s:Shared) (m:Nat) (c:Nat),n-j=k->j<=n->m<n->Oh j s.heap->Kp wr bx h0 s.heap->s.heap.get? bx=some { cls:=.type "list",dict:=none,data:=.seq #[val m,val m] c,slots:=#[] } ->
  (∀hp tk,Kp wr bx h0 hp->R (.ok (.ret (val (dM lt k j m)))) { s with heap:=hp,toks:=tk }) ->
  codeAny (model prog w) A (.builtin "min.loop" ⟨[.ref it,.none,.ref bx],[]⟩) R s:=by
 have hw:bx∉wr:=fun h=>hb (W.sub _ h)
 intro k
 induction k with
 |zero =>
  intro j s m c hk hj hm st kp hB q;have e:j=n:=by omega
  subst e;refine codeAny_builtin F.entry_min_loop (by
   rw[Around.under_plainId F.plain_min_loop _];show wpAny _ A.in1 (seqItems? (.ref bx) >>= _) _ _ s;refine wpAny_bind (wpAny_seqItems hB rfl (wpAny_bind (wpAny_tryCatch (W.done s _ _ st fun hp tk Nv=>?_))));have Oz:=Nv bx _ hw hB;show wpAny _ A.in1 (updateSeq bx (fun _=>#[]) >>= _) _ _ _;exact wpAny_bind (wpAny_updateSeq Oz rfl (wpAny_bind (wpAny_letGo (wpAny_pure (q _ tk fun b o h1 h2 e=>(Heap.get?_update_other _ _ (eh h2)).trans (Nv b o h1 (kp b o h1 h2 e))))))))
 |succ k ih =>
  intro j s m c hk hj hm st kp hB q;have LO:j<n:=by omega
  refine codeAny_builtin F.entry_min_loop (by
   rw[Around.under_plainId F.plain_min_loop _];show wpAny _ A.in1 (seqItems? (.ref bx) >>= _) _ _ s;refine wpAny_bind (wpAny_seqItems hB rfl (wpAny_bind (wpAny_tryCatch (W.item j s _ _ LO st fun v hp tk hv MF Nv=>?_))));have Oz:=Nv bx _ hw hB;have TF:=Nl j v hv;subst TF;have Qg:Kp wr bx h0 hp:=fun b o h1 h2 e=>Nv b o h1 (kp b o h1 h2 e)
   show wpAny _ A.in1 (tryCatch (holding [val j,val j] (richCompare .Lt (val j) (val m) >>= _)) _ >>= _) _ _ _;refine wpAny_bind (wpAny_tryCatch (wpAny_holding (wpAny_bind (M2 j m _ _ _ LO hm Qg (wpAny_bind (wpAny_holding (wpAny_truthy_bool (wpAny_bind (wpAny_letGo (wpAny_pure ?_))))))))));cases hg:lt j m with
   |true =>
    simp only[if_true];refine wpAny_bind (wpAny_updateSeq Oz rfl (wpAny_bind (wpAny_letGo ?_)));rw[vV];refine wpAny_pure ⟨plainId_quiet F.plain_min_loop _,ih (j+1) _ j _ (by omega) LO LO (W.frame _ _ _ MF fun b Uw o e=>(Heap.get?_update_other _ _ (fun h:bx=b=>hb (h ▸ Uw))).trans e) (fun b o h1 h2 e=>(Heap.get?_update_other _ _ (eh h2)).trans (Qg b o h1 h2 e)) (Heap.get?_update_self _ Oz rfl) fun Qo PK Oa=>?_⟩;have:=q Qo PK Oa;unfold dM at this
    rwa [hg,if_pos rfl] at this
   |false =>
    simp only[Bool.false_eq_true,if_false];refine wpAny_bind (wpAny_letGo ?_);rw[vV];refine wpAny_pure ⟨plainId_quiet F.plain_min_loop _,ih (j+1) _ m c (by omega) LO hm MF Qg Oz fun Qo PK Oa=>?_⟩;have:=q Qo PK Oa;unfold dM at this
    rwa [hg,if_neg (by decide)] at this)
theorem yq (W:Walks prog w A.in1 it fp wr n P Oh)(Nl:∀i v,P i v->v=val i)(hb:bx∉fp)(hn:0<n)
  (M2:∀(i j:Nat) (s':Shared) (Q E:Value->Shared->Prop),i<n->j<n->Kp wr bx h0 s'.heap->Q (.bool (lt i j)) s'->wpAny (model prog w) A.in1 (richCompare .Lt (val i) (val j)) Q E s')
  {c:Nat}(st:Oh 0 s.heap) (kp:Kp wr bx h0 s.heap) (hB:s.heap.get? bx=some { cls:=.type "list",dict:=none,data:=.seq #[] c,slots:=#[] })
  (q:∀hp tk,Kp wr bx h0 hp->R (.ok (.ret (val (dM lt (n-1) 1 0)))) { s with heap:=hp,toks:=tk }) :
  codeAny (model prog w) A (.builtin "min.loop" ⟨[.ref it,.none,.ref bx],[]⟩) R s:=by
 have hw:bx∉wr:=fun h=>hb (W.sub _ h)
 refine codeAny_builtin F.entry_min_loop (by
  rw[Around.under_plainId F.plain_min_loop _];show wpAny _ A.in1 (seqItems? (.ref bx) >>= _) _ _ s;refine wpAny_bind (wpAny_seqItems hB rfl (wpAny_bind (wpAny_tryCatch (W.item 0 s _ _ hn st fun v hp tk hv MF Nv=>?_))));have Oz:=Nv bx _ hw hB;have TF:=Nl 0 v hv;subst TF;have Qg:Kp wr bx h0 hp:=fun b o h1 h2 e=>Nv b o h1 (kp b o h1 h2 e)
  show wpAny _ A.in1 (updateSeq bx (fun _=>#[val 0,val 0]) >>= _) _ _ _;refine wpAny_bind (wpAny_updateSeq Oz rfl ?_);rw[vV];refine wpAny_pure ⟨plainId_quiet F.plain_min_loop _,C5 W Nl hb M2 (n-1) 1 _ 0 _ rfl hn hn (W.frame _ _ _ MF fun b Uw o e=>(Heap.get?_update_other _ _ (fun h:bx=b=>hb (h ▸ Uw))).trans e) (fun b o h1 h2 e=>(Heap.get?_update_other _ _ (eh h2)).trans (Qg b o h1 h2 e)) (Heap.get?_update_self _ Oz rfl) fun Qo PK Oa=>?_⟩;exact q _ PK Oa)
end
theorem yh {prog:Program}{E:Value->Shared->Prop}{x:Value}{Q:Value->Shared->Prop}
  (h:wpAny (model prog w) A.in1 (pyIter x) (fun iv s₂=>∃it fp wr n P Oh,∃(val:Nat->Value) (lt:Nat->Nat->Bool),iv=.ref it/\Walks prog w A.in1 it fp wr n P Oh/\Oh 0 s₂.heap/\(∀b∈fp,b<s₂.heap.objs.size)/\0<n/\(∀i v,P i v->v=val i) /\
   (∀(i j:Nat) (s':Shared) (Q E:Value->Shared->Prop),i<n->j<n->(∀b o,b∉wr->s₂.heap.get? b=some o->s'.heap.get? b=some o)->Q (.bool (lt i j)) s'->wpAny (model prog w) A.in1 (richCompare .Lt (val i) (val j)) Q E s') /\
   ∀hp tk,(∀b o,b∉wr->s₂.heap.get? b=some o->hp.get? b=some o)->Q (val (dM lt (n-1) 1 0)) { s₂ with heap:=hp,toks:=tk }) E s) :
  wpAny (model prog w) A (call (.builtin "min") [x]) Q E s:=by
 refine wpAny_call (codeAny_call_builtin F.plain_min F.entry_min ?_);have hc:wpAny (model prog w) A.in1 (Builtin.«min» ⟨[x],[]⟩) (fun fin s'=>match fin with
   |.done f=>(match (Except.ok f:Result) with | .ok (.ret v)=>Q v s' | .ok _=>False | .error e=>E e s')
   |.again c=>c.quiet=true/\codeAny (model prog w) A c (fun r s2=>match r with | .ok (.ret v)=>Q v s2 | .ok _=>False | .error e=>E e s2) s') E s:=by
  show wpAny _ A.in1 (Builtin.Builtins.bindParams "min" ["key","default"] 0 ⟨[],[]⟩ >>= _) _ _ s;refine wpAny_bind (wpAny_of_eq (show Builtin.Builtins.bindParams "min" ["key","default"] 0 ⟨[],[]⟩=pure [none,none] from rfl) (wpAny_bind (wpAny_pure (wpAny_bind (wpAny_mono h (fun iv s₂ h₂=>?_) fun _ _ e=>e)))));obtain⟨it,fp,wr,n,P,Oh,val,lt,rfl,W,st,hfp,hn,Nl,M2,q⟩:=h₂;refine wpAny_bind (wpAny_newObj_type ?_);rw[vV];have fresh:∀b o,s₂.heap.get? b=some o->b≠s₂.heap.objs.size:=fun b o e=>bw (Heap.lt_size e)
  refine wpAny_pure ⟨plainId_quiet F.plain_min_loop _,yq (h0:=s₂.heap) (lt:=lt) W Nl (fun hm=>fw _ (hfp _ hm)) hn (fun i j s' Q E hi hj kp hQ=>M2 i j s' Q E hi hj (fun b o Uu e=>kp b o Uu (fresh b o e) e) hQ) (W.frame _ _ _ st fun b _ o e=>Heap.get?_push_of_some _ e) (fun b o _ _ e=>Heap.get?_push_of_some _ e) (Heap.get?_push_size _ rfl) fun hp tk hk=>?_⟩;exact q hp tk fun b o Uu e=>hk b o Uu (fresh b o e) e
 have ha:=PySem.F.args_min1 x;simp only[checkBuiltinCall,F.kind_min];cases TM:Manifest.signature? "min" with
 |none=>exact wpAny_pure hc
 |some sig =>
  simp only[argsOk,TM] at ha;have h2:Bind.checkArgs "min" sig ⟨[x],[]⟩=pure ():=ha;show wpAny _ A.in1 (Bind.checkArgs "min" sig ⟨[x],[]⟩) _ _ s;rw[h2];exact wpAny_pure hc
variable {its:List Value}{ns:List Int}
section
variable {X:Cx}{pins:List (Addr×Obj)}{σ:L2.St}{H:Hp}{s:Shared}
theorem z0 (hc:X.calm=true)(I:Inv X pins σ H s)(rv:aS vs its)(pl:s.heap.IsList p its.toArray)(hn:0<its.length)(lt:Nat->Nat->Bool)
  (M2:∀(i j:Nat) (u v:Value),its[i]? = some u->its[j]? = some v->∀(s':Shared) (Q E:Value->Shared->Prop),(∀b o,s.heap.get? b=some o->s'.heap.get? b=some o)->Q (.bool (lt i j)) s'->wpAny (model X.prog X.w) X.A.in1 (richCompare .Lt u v) Q E s')
  (k:∀v,vs[dM lt (its.length-1) 1 0]? = some v->Q v H):wpAny (model X.prog X.w) X.A (call (.builtin "min") [.ref p]) (EP X pins σ Q) X.xe s:=by
 have LO:p<s.heap.objs.size:=by
  obtain⟨o,ho,_⟩:=pl;exact Heap.lt_size ho
 have V8:∀i,i<its.length->its[i]? = some (its.getD i .none):=fun i hi=>by
  simp[List.getD,List.getElem?_eq_getElem hi]
 refine yh (wpAny_pyIter_list pl ⟨s.heap.objs.size,[s.heap.objs.size,p],[s.heap.objs.size],its.toArray.size,_,_,fun i=>its.getD i .none,lt,rfl,Walks.list (A:=X.A.in1) (show X.A.in1.handled=none from I.ok.hd hc) s.heap.objs.size p (bw LO) its.toArray,⟨⟨_,Heap.get?_push_size _ rfl,rfl,rfl⟩,pl.at fun o e=>Heap.get?_push_of_some _ e⟩,fun c hb=>?_,by rw[aq];exact hn,fun i v hP=>?_,fun i j s' Q' E' hi hj kp hQ=>?_,fun hp tk hk=>?_⟩)
 .simp only[List.mem_cons,List.not_mem_nil,or_false] at hb;rw[Heap.size_push];rcases hb with rfl | rfl
  .exact gn _
  .exact iy LO
 .have hP:its.toArray[i]? = some v:=hP;rw[List.getElem?_toArray] at hP;simp[List.getD,hP]
 .rw[aq] at hi hj;exact M2 i j _ _ (V8 i hi) (V8 j hj) s' Q' E' (fun b o e=>kp b o (by
   intro z;rw[iq] at z;subst z;exact fw _ (Heap.lt_size e)) (Heap.get?_push_of_some _ e)) hQ
 .have J1:Inv X pins σ H { s with heap:=s.heap.push { cls:=.type "list_iterator",data:=.fields #[.ref p,.int 0 0] } }:=I.kept (t':=s.toks) fun b o e=>Heap.get?_push_of_some _ e
  obtain⟨f0,f1,f2,f3,f4,f5⟩:=I.MO (b:=s.heap.objs.size) (au _) (I.LB.fresh (au _));have J2:=J1.turned (t':=tk) (fun b o hb e=>hk b o (by simpa using hb) e) f0 f1 f3 f4 f5;rw[aq];have hb:dM lt (its.length-1) 1 0<its.length:=iJ _ _ _ (by omega) hn;have W1:dM lt (its.length-1) 1 0<vs.length:=by rw[rv.length];exact hb
  obtain⟨u,e1,e2⟩:=rv.get (List.getElem?_eq_getElem W1);have:its.getD (dM lt (its.length-1) 1 0) .none=u:=by
   have:=V8 _ hb;rw[e1] at this;cases this;rfl
  show EP X pins σ Q (its.getD (dM lt (its.length-1) 1 0) .none) _;rw[this];exact⟨_,H,J2,e2,k _ (List.getElem?_eq_getElem W1)⟩
theorem uR (hi:IntsAre its ns)(i j:Nat)(u v:Value)(hu:its[i]? = some u)(hv:its[j]? = some v)(s':Shared)(Q E:Value->Shared->Prop)(h:Q (.bool (decide (ns.getD i 0<ns.getD j 0))) s'):wpAny (model X.prog X.w) X.A.in1 (richCompare .Lt u v) Q E s':=by
 obtain⟨_,MQ⟩:=wc hi;obtain⟨a,t,h1,rfl⟩:=MQ i u hu;obtain⟨b,t',h2,rfl⟩:=MQ j v hv;have e1:ns.getD i 0=a:=by simp[List.getD,h1]
 have e2:ns.getD j 0=b:=by simp[List.getD,h2]
 rw[e1,e2] at h;exact HT.sF _ _ _ _ _ _ _ _ _ _ h
theorem uy (hu:X.A.units+1<cLine){b:Addr}{xs ys:List Value}{ms:List Int}(h1:IsTup s.heap a xs.toArray)(h2:IsTup s.heap b ys.toArray)(i1:IntsAre xs ns)(i2:IntsAre ys ms)(s':Shared)(Q E:Value->Shared->Prop)(kp:∀b o,s.heap.get? b=some o->s'.heap.get? b=some o)(h:Q (.bool (HT.lexLt ns ms)) s') :
  wpAny (model X.prog X.w) X.A.in1 (richCompare .Lt (.ref a) (.ref b)) Q E s':=by
 obtain⟨o,ho,r⟩:=h1;obtain⟨o',MZ,r'⟩:=h2;exact (HT.u7 (A:=X.A.in1) ⟨o,kp _ _ ho,r⟩ ⟨o',kp _ _ MZ,r'⟩ (by simpa using i1) (by simpa using i2) hu h:wpAny (model X.prog X.w) X.A.in1 (compareOp .Lt (.ref a) (.ref b)) Q E s')
end
theorem vZ:∀a b:List Int,jY a b=HT.lexLt a b
 |[],[]=>rfl
 |[],_::_=>rfl
 |_::_,[]=>rfl
 | x::a,y::b=>by
  show (if x==y then jY a b else decide (x<y))=_;rw[HT.nM,vZ a b];by_cases e:x=y
  .rw[if_pos e,if_pos (by rw[e];exact eo y)]
  .rw[if_neg e,if_neg (by rw[ik];exact e)]
section
variable {X:Cx}
theorem uE (hc:X.calm=true)(hu:X.A.units+40<cLine):eJ X (.builtin "min") (oW X.K .min2):=by
 intro pins s σ H xs us Q I r h;obtain⟨ds,d,G,rs,hd,k⟩:=h
 match ds,hd with
 |[.int i,.int j],hd =>
  cases hd;obtain⟨x,y,G1,G2,rfl,rp,NB⟩:=rs.of2;obtain⟨rfl,rfl⟩:=rp.int_inv;obtain⟨rfl,rfl⟩:=NB.int_inv;exact xu hc pins s σ H _ us Q I r ⟨i,j,rfl,k _ H [] (.int _) gX.nil⟩
 |[.lst ys],hd =>
  have hd:minD ys=some d:=hd;obtain⟨x,rfl,rp⟩:=rs.Mv;obtain⟨l,vs,g,rfl,rfl,a1,a2⟩:=rp.lst_inv;obtain⟨u,rfl,rx⟩:=r.one;obtain rfl:u=.ref l:=rx;obtain⟨its,rv,pl,_⟩:=I.list (.inl a1);have hlen:its.length=ys.length:=by rw[<-rv.length,<-a2.len]
  unfold minD at hd;by_cases he:ys.isEmpty=true
  .rw[if_pos he] at hd;cases hd
  rw[if_neg he] at hd;have hn:0<its.length:=by
   rw[hlen];cases ys with
   |nil=>exact absurd rfl he
   |cons _ _=>exact Nat.succ_pos _
  have fin:∀lt:Nat->Nat->Bool,ys[dM lt (ys.length-1) 1 0]? = some d->(d.flat=true\/g=[])->∀v,vs[dM lt (its.length-1) 1 0]? = some v->Q v H:=fun lt hy hf v hv=>by
   rw[hlen] at hv;obtain⟨v',G',e1,e2,e3⟩:=a2.get hy;rw[hv] at e1;cases e1;have:G'=[]:=by
    rcases hf with hf | rfl
    .exact e2.flat hf
    .exact List.sublist_nil.mp e3
   subst this;exact k _ H [] e2 gX.nil
  cases hk:iL ys with
  |some ns =>
   rw[hk] at hd;have hy:=jT hk;have ia:IntsAre its ns:=by
    rw[hy] at a2;exact qZ a2 rv
   refine z0 hc I rv pl.isList hn _ (fun i j u v hi hj s' Q' E' _ h=>uR ia i j u v hi hj s' Q' E' h) (fin _ hd (.inl ?_));rw[hy] at hd;obtain⟨n,_,rfl⟩:=List.mem_map.mp (List.mem_of_getElem? hd);rfl
  |none =>
   rw[hk] at hd;dsimp only at hd;rw[ag] at hd;obtain⟨ks,hks,hd⟩:=hd;obtain⟨kl,kt,kn,kg⟩:=pZ I hks a2 rv;refine z0 hc I rv pl.isList hn _ (fun i j u v hi hj s' Q' E' kp h=>?_) (fin _ hd (.inr kg));have Mo:∀(i:Nat) (u:Value),its[i]? = some u->∃a xs,u=.ref a/\IsTup s.heap a xs.toArray/\IntsAre xs (ks.getD i []):=fun i u hi=>by
    have LO:i<ks.length:=by rw[kl];exact (List.getElem?_eq_some_iff.mp hi).1
    obtain⟨a,o,xs,n,e1,e2,e3,e4,e5⟩:=kt i _ (List.getElem?_eq_getElem LO);have hgu:its.getD i .none=u:=by rw[List.getD_eq_getElem?_getD,hi];rfl
    rw[hgu] at e1;refine⟨a,xs.toList,e1,⟨o,e2,e3,n,by rw[e4]⟩,?_⟩;rw[List.getD_eq_getElem?_getD,List.getElem?_eq_getElem LO];exact e5
   obtain⟨a,xs,rfl,t1,i1⟩:=Mo i u hi;obtain⟨b,zs,rfl,t2,i2⟩:=Mo j v hj;rw[vZ] at h;exact uy (by omega) t1 t2 i1 i2 s' Q' E' kp h
end
variable {ce co:Ex}
section
variable {X:Cx}
theorem xg:eJ X (.type "str") (oW X.K .str):=by
 intro pins s σ H xs us Q I r h;obtain⟨ds,d,G,rs,hd,k⟩:=h
 match ds,hd with
 |[.int i],hd =>
  have hd:(if i.natAbs<1000000 then some (D.str (Str.ofString (toString i))) else none)=some d:=hd;by_cases hz:i.natAbs<1000000
  .rw[if_pos hz] at hd;cases hd;obtain⟨x,rfl,rp⟩:=rs.Mv;obtain⟨rfl,rfl⟩:=rp.int_inv;obtain⟨u,rfl,⟨t,rfl⟩⟩:=r.one;refine PySem.P.str_of_int ?_ ⟨.str _,H,I.tok _,⟨_,rfl⟩,k _ H [] (.str _) gX.nil⟩;refine ip ?_ (show 20<1920 by decide);by_cases h0:i.natAbs=0
   .rw[h0];decide
   .exact jm ((Nat.log2_lt h0).mpr (Nat.lt_trans hz (by decide)))
  .rw[if_neg hz] at hd;cases hd
theorem xx:eJ X (.type "int") (oW X.K .int):=by
 intro pins s σ H xs us Q I r h;obtain⟨ds,d,G,rs,hd,k⟩:=h
 match ds,hd with
 |[.str z],hd =>
  obtain⟨x,rfl,rp⟩:=rs.Mv;obtain⟨rfl,rfl⟩:=rp.str_inv;obtain⟨u,rfl,⟨t,rfl⟩⟩:=r.one;have hd:(if z.length<=640 then (PySem.intText? z).map D.int else none)=some d:=hd;by_cases hz:z.length<=640
  .rw[if_pos hz,ae] at hd;obtain⟨n,hn,rfl⟩:=hd;exact PySem.W.KIN.call_text hn hz ⟨.int n,H,I.tok _,⟨_,rfl⟩,k _ H [] (.int n) gX.nil⟩
  .rw[if_neg hz] at hd;cases hd
 |[.int i],hd =>
  cases hd;obtain⟨x,rfl,rp⟩:=rs.Mv;obtain⟨rfl,rfl⟩:=rp.int_inv;obtain⟨u,rfl,⟨t,rfl⟩⟩:=r.one;exact call_int_int ⟨.int i,H,I,⟨_,rfl⟩,k _ H [] (.int i) gX.nil⟩
 |[.bl b],hd =>
  cases hd;obtain⟨x,rfl,rp⟩:=rs.Mv;obtain⟨rfl,rfl⟩:=rp.LM;obtain⟨u,rfl,ru⟩:=r.one;cases ru;exact call_int_bool ⟨.int _,H,I.tok _,⟨_,rfl⟩,k _ H [] (.int _) gX.nil⟩
theorem yI {m:Im}{a:D}{bs:List D}(hm:m=.L5\/m=.LL)(h:tK m a bs=some d):∃z y n,a=.str z/\bs=[.str y]/\d=.int n:=by
 rcases hm with rfl | rfl
 .cases a with
  |str z=>cases bs with
   |nil=>cases h
   |cons b r=>cases b with
    |str y=>cases r with
     |nil=>cases h;exact⟨z,y,_,rfl,rfl,rfl⟩
     |cons _ _=>cases h
    |_=>cases h
  |_=>cases h
 .cases a with
  |str z=>cases bs with
   |nil=>cases h
   |cons b r=>cases b with
    |str y=>cases r with
     |nil =>
      have h:(match Builtin.Str.occurrences z y 0 z.length 1 with
       |i::_=>some (D.int (i:Int))
       |[]=>none)=some d:=h
      split at h
      .cases h;exact⟨z,y,_,rfl,rfl,rfl⟩
      .cases h
     |cons _ _=>cases h
    |_=>cases h
  |_=>cases h
def Cj (m:Im):V->List V->Hp->VK->Prop:=fun x xs H Q=>∃z y n,x=.str z/\xs=[.str y]/\tK m (.str z) [.str y]=some (.int n)/\Q (.int n) H
theorem C4:BC X "str.find" (Cj .L5):=by
 intro pins s σ H x xs v us Q I rx r h;obtain⟨z,y,n,rfl,rfl,hd,q⟩:=h;obtain⟨t,rfl⟩:=rx;obtain⟨u,rfl,⟨t',rfl⟩⟩:=r.one;cases hd;exact call_gives PySem.F.slot_str_find (typeIs_str s z t) PySem.F.entry_str_find (PySem.F.args_str_find_2 _ _) (gives_str_find z y t t') ⟨.int _,H,I.tok _,⟨_,rfl⟩,q⟩
theorem zo:BC X "str.index" (Cj .LL):=by
 intro pins s σ H x xs v us Q I rx r h;obtain⟨z,y,n,rfl,rfl,hd,q⟩:=h;obtain⟨t,rfl⟩:=rx;obtain⟨u,rfl,⟨t',rfl⟩⟩:=r.one;have hd:(match Builtin.Str.occurrences z y 0 z.length 1 with
  |i::_=>some (D.int (i:Int))
  |[]=>none)=some (.int n):=hd
 split at hd
 .rename_i i rest ho;cases hd;exact call_gives PySem.F.slot_str_index (typeIs_str s z t) PySem.F.entry_str_index (PySem.F.args_str_index_2 _ _) (gives_str_index z y t t' i rest ho) ⟨.int _,H,I.tok _,⟨_,rfl⟩,q⟩
 .cases hd
theorem zc {m:Im}{σ:L2.St}(hm:m=.L5\/m=.LL)(h:tE X.K T (.NF m co (.cons ce .nil)) σ H Q):Q3 X.K "str" (Cj m) (tE X.K T co) (xG X.K T (.cons ce .nil)) σ H Q:=by
 obtain⟨P,env,F,re,p,LA,k⟩:=h;unfold ev at LA;obtain⟨q,h1,LA⟩:=Rs.Lz LA;obtain⟨l,h2,LA⟩:=Rs.Lz LA;obtain⟨d,h3,LA⟩:=Rs.Lz LA;have h3:=dH h3;cases LA;obtain⟨z,y,n,e1,e2,rfl⟩:=yI hm h3
 .refine⟨P,env,F,re,q,h1,fun v H1 G s rp rt=>?_⟩;rw[e1] at rp h3;obtain⟨rfl,rfl⟩:=rp.str_inv;refine⟨rfl,P,env,F,re.same s,l,h2,fun vs H2 G' ar=>?_⟩;have rs:=ar.LQ;rw[e2] at rs h3;obtain⟨x,rfl,NX⟩:=rs.Mv;obtain⟨rfl,_⟩:=NX.str_inv;exact⟨z,y,n,rfl,rfl,h3,k _ H2 [] (s.trans ar.same) (.int n) cD.nil⟩
end
section
variable {X:Cx}
theorem qx:∀{xs:List D}{k:List Str},sJ xs=some k->xs=k.map D.str
 |[],k,h=>by cases h;rfl
 | .str i::r,k,h=>by
  have h:(sJ r).map (i :: ·)=some k:=h;rw[ae] at h;obtain⟨k',h1,rfl⟩:=h;rw[qx h1];rfl
theorem oA:∀{ns:List Str}{vs:List V}{G:List Addr}{us:List Value},aJ K H (ns.map D.str) vs G->aS vs us->StrsAre us ns
 |[],_,_,_,.nil,.nil=>.nil
 | n::ns,_,_,_,.cons h r,.cons x y=>by
  obtain⟨rfl,_⟩:=h.str_inv;obtain⟨t,rfl⟩:=x;exact .cons _ _ (oA r y)
def rJoin (K:Frag):V->List V->Hp->VK->Prop:=fun x xs H Q=>∃(z:Str) (p:Addr) (ys:List Str) (G:List Addr),x=.str z/\xs=[.ref p]/\Rep K H (.lst (ys.map .str)) (.ref p) G/\(ys.map (·.length)).sum+ys.length*z.length<=lim/\Q (.str (Str.join z ys)) H
theorem Dv:BC X "str.join" (rJoin X.K):=by
 intro pins s σ H x xs v us Q I rx r h;obtain⟨z,p,ys,G,rfl,rfl,rp,hl,q⟩:=h;obtain⟨t,rfl⟩:=rx;obtain⟨u,rfl,ru⟩:=r.one;cases ru;obtain⟨p',vs,g,e,rfl,a1,a2⟩:=rp.lst_inv;cases e;obtain⟨its,rv,pl,_⟩:=I.list (.inl a1);refine join_list pl.isList (by simpa using oA a2 rv) (Nat.le_trans hl (by decide)) fun t' k=>⟨.str _,H,I.kept (t':=k) fun b o e=>e,?_,q⟩
 show RelV (.str _) (.str (Builtin.Str.glued z ys) t');rw[StrLaws.glued_eq_join];exact⟨t',rfl⟩
theorem w4 {σ:L2.St}(h:tE X.K T (.NF .MG co (.cons ce .nil)) σ H Q):Q3 X.K "str" (rJoin X.K) (tE X.K T co) (xG X.K T (.cons ce .nil)) σ H Q:=by
 obtain⟨P,env,F,re,p,LA,k⟩:=h;unfold ev at LA;obtain⟨q,h1,LA⟩:=Rs.Lz LA;obtain⟨l,h2,LA⟩:=Rs.Lz LA;obtain⟨d,h3,LA⟩:=Rs.Lz LA;have h3:=dH h3;cases LA;have inv:∃(z:Str) (ys:List Str),q.1=.str z/\l.map (·.1)=[.lst (ys.map .str)]/\(ys.map (·.length)).sum+ys.length*z.length<=lim/\d=.str (Str.join z ys):=by
  generalize q.1=a at h3;generalize l.map (·.1)=bs at h3
  match a,bs,h3 with
  |.str z,[.lst xs],h3 =>
   have h3:((sJ xs).bind fun ys=>if (ys.map (·.length)).sum+ys.length*z.length<=lim then some (D.str (Str.join z ys)) else none)=some d:=h3;rw[ag] at h3;obtain⟨ys,hy,h3⟩:=h3;by_cases hc:(ys.map (·.length)).sum+ys.length*z.length<=lim
   .rw[if_pos hc] at h3;cases h3;exact⟨z,ys,rfl,by rw[qx hy],hc,rfl⟩
   .rw[if_neg hc] at h3;cases h3
 obtain⟨z,ys,e1,e2,hc,rfl⟩:=inv;refine⟨P,env,F,re,q,h1,fun v H1 G s rp rt=>?_⟩;rw[e1] at rp;obtain⟨rfl,rfl⟩:=rp.str_inv;refine⟨rfl,P,env,F,re.same s,l,h2,fun ws H2 G' ar=>?_⟩;have rs:=ar.LQ;rw[e2] at rs;obtain⟨x,rfl,NX⟩:=rs.Mv;obtain⟨p',vs,g,rfl,rfl,a1,a2⟩:=id NX.lst_inv;exact⟨z,p',ys,_,rfl,rfl,NX,hc,k _ H2 [] (s.trans ar.same) (.str _) cD.nil⟩
end
structure Sc where
 N:List Str
 sc:Scope
 fns:List Str
 uz:List Str
 hV:List Str
noncomputable def idxOf:List Str->Str->Option Nat
 |[],_=>none
 |y::r,x=>if y=x then some 0 else (idxOf r x).map (· + 1)
theorem cR:∀{l:List Str}{x:Str}{i:Nat},idxOf l x=some i->l[i]? = some x
 | y::r,x,i,h=>by
  simp only[idxOf] at h;by_cases e:y=x
  .rw[if_pos e] at h;cases h;rw[e];rfl
  .rw[if_neg e,ae] at h;obtain⟨j,hj,rfl⟩:=h;simpa using cR hj
noncomputable def dX (sc:Scope)(x:Str):Option NameKind:=sc.names.lookup x
noncomputable def sX (sc:Scope)(x:Str):Bool:=match dX sc x with
 |some .local=>true
 |some .cell=>true
 |some .free=>true
 |_=>false
noncomputable def lU (sc:Scope)(x:Str):Bool:=match dX sc x with
 |some .local=>true
 |some .cell=>true
 |_=>false
noncomputable def ue (sc:Scope)(x:Str):Bool:=match dX sc x with
 |some .globalImplicit=>true
 |_=>false
noncomputable def dW (x:Str):Bool:=!(x==("__debug__" : Str)) && !(x==("__classdict__" : Str)) && !(x==("__name__" : Str))
noncomputable def notStar:Expr->Bool
 |.Starred _ _=>false
 |_=>true
noncomputable def iS:Expr->Bool
 |.Set _ _ _=>false
 |_=>true
noncomputable def jB:Expr->Bool
 |.Slice _ _ _ _=>false
 |_=>true
noncomputable def gZ:Expr->Bool
 |.ListComp _ _ _ _=>true
 |.SetComp _ _ _ _=>true
 |.DictComp _ _ _ _ _=>true
 |_=>false
noncomputable def dY (f:Expr->Option Ex):List Expr->Option pA
 |[]=>some .nil
 |e::es=>if notStar e then (f e).bind fun c=>(dY f es).map fun cs=>.cons c cs else none
noncomputable def KD (f:Expr->Option Ex)(op:BoolOp):List Expr->Option Ex
 |[]=>none
 |[a]=>f a
 |a::r=>(f a).bind fun c=>(KD f op r).map fun d=>match op with
  |.And=>.and c d
  |.Or=>.or c d
noncomputable def nU (S:Sc):List Expr->Option (List Nat)
 |[]=>some []
 |.Name x _::r=>if lU S.sc x then (idxOf S.N x).bind fun i=>(nU S r).map fun is=>i::is else none
 |_::_=>none
noncomputable def xX (S:Sc):Expr->Option oU
 |.Name x _=>if lU S.sc x then (idxOf S.N x).map .nm else none
 |.Tuple es _ _=>(nU S es).map .tp
 |_=>none
noncomputable def Ad (f:Expr->Option Ex):Option Expr->Option m6
 |none=>some .none
 |some e=>(f e).map .some
noncomputable def xM (S:Sc)(x:Str):Bool:=ue S.sc x&&S.hV.contains x
noncomputable def isTup:Expr->Bool
 |.Tuple _ _ _=>true
 |_=>false
noncomputable def Ic (S:Sc)(f:Expr->Option Ex)(tp:Bool):Expr->Option ym
 | .Call (.Name x p) es [] pos=>if x = "range" then (if xM S "range" then (match dY f es with
   | some (.cons a .nil)=>some (.L7 a)
   | some (.cons a (.cons b .nil))=>some (.Nh a b)
   | some (.cons a (.cons b (.cons c .nil)))=>some (.L6 a b c)
   |_=>none) else none) else if x = "enumerate" then (if xM S "enumerate" && tp then (match es with
   |[e]=>if notStar e then (f e).map .enum else none
   |_=>none) else none) else if x = "reversed" then none else if x = "zip" then none else (f (.Call (.Name x p) es [] pos)).map .seq
 |e=>if iS e then (f e).map .seq else none
noncomputable def bT (sc:Scope):List Str:=(sc.names.filter fun p=>(p.2 == .local || p.2 == .cell)&&p.1 != (".0" : Str)).map (·.1)
noncomputable def bU (sc:Scope):List Str:=(sc.names.filter fun p=>p.2 == .free).map (·.1)
noncomputable def lD:List (Option Nat)->Option (List Nat)
 |[]=>some []
 |some i::r=>(lD r).map (i :: ·)
 |none::_=>none
noncomputable def lO (S:Sc)(sc:Scope):Bool :=
 sc.kind == .function&&sc.names.all (fun p=>p.2 != .cell || dX sc p.1==some .cell)&&sc.names.all (fun p=>p.2 != .local || dX sc p.1==some .local)&&sc.names.all (fun p=>p.2 != .free || (dX sc p.1==some .free&&(dX S.sc p.1==some .cell || dX S.sc p.1==some .free))) &&
 decide (bT sc++bU sc).Nodup
noncomputable def yb (own:Nat):oU->Bool
 |.nm i=>decide (i<own)
 |.tp is=>is.all fun i=>decide (i<own)
noncomputable def Kc (x:Str):Option EF:=if x = "len" then some .len else if x = "all" then some .all else if x = "list" then some .list else if x = "min" then some .min2 else if x = "int" then some .int else if x = "sum" then some .sum else if x = "str" then some .str else none
noncomputable def He (t:Str):Option String:=if t = "str" then some "str" else none
noncomputable def Jp (S:Sc)(f:Expr->Option Ex):List Expr->Option Ex
 |[a,.Name t _]=>if ue S.sc t&&S.hV.contains t&&dW t&&notStar a then (He t).bind fun u=>(f a).map fun ca=>.blt (.N6 u) (.cons ca .nil) else none
 |_=>none
noncomputable def pF:List Expr->Bool
 | [.Call (.Name r _) [_] [] _]=>r==("reversed" : Str)
 |_=>false
noncomputable def JQ (S:Sc)(f:Expr->Option Ex):List Expr->Option Ex
 |_=>none
noncomputable def qh:List Expr->Bool
 | [.Call (.Name r _) _ [] _]=>r==("range" : Str)
 |_=>false
noncomputable def JU (S:Sc)(f:Expr->Option Ex):List Expr->Option Ex
 |_=>none
noncomputable def wt (S:Sc)(f:Expr->Option Ex)(x:Str)(es:List Expr):Option Ex :=
 if dW x&&ue S.sc x then (match idxOf S.fns x with
  |some i=>(dY f es).map fun cs=>.call i cs
  |none=>if S.hV.contains x then (if x = "isinstance" then Jp S f es else if x = "list"/\pF es=true then JQ S f es else if x = "list"/\qh es=true then JU S f es else match es with
    |[]=>none
    |e::r=>(Kc x).bind fun b=>(dY f (e::r)).map fun cs=>.blt b cs) else none) else none
noncomputable def zS (S:Sc)(f:Expr->Option Ex)(x:Str)(a d:Expr)(k:Str):Option Ex :=
 none
noncomputable def D1 (x:Str):Option Im:=if x = "find" then some .L5 else if x = "index" then some .LL else none
noncomputable def AV:Expr->Bool
 |.Name _ _=>true
 |.Subscript _ _ _=>true
 |.Constant _ _ _=>true
 | .Call _ (_::_) _ _=>true
 |_=>false
noncomputable def Dg (f:Expr->Option Ex)(o:Expr)(name:Str)(es:List Expr)(apos cpos:Pos):Option Ex:=match es with
 |[e]=>if apos.endLine==cpos.line&&AV o then if name = "join" then (f o).bind fun co=>(dY f [e]).bind fun cs=>(match cs with
  |.cons ce .nil=>some (.NF .MG co (.cons ce .nil))
  |_=>none)
  else (D1 name).bind fun m=>(f o).bind fun co=>(dY f [e]).bind fun cs=>match cs with
  |.cons ce .nil=>some (.NF m co (.cons ce .nil))
  |_=>none
  else none
 |_=>none
noncomputable def JS (f:Expr->Option Ex):List Expr->Option m6
 |[]=>some .none
 |[c]=>(f c).map .some
 |_=>none
noncomputable def tZ (S:Sc)(f:Sc->Expr->Option Ex)(elt tg iter:Expr)(ifs:List Expr)(sc:Scope):Option Ex :=
 if lO S sc&&iS iter then
  (Ic S (f S) (isTup tg) iter).bind fun it=>(lD ((bU sc).map (idxOf S.N))).bind fun pick =>
   (xX { S with N:=bT sc++bU sc,sc:=sc } tg).bind fun t=>if yb (bT sc).length t then
    (JS (f { S with N:=bT sc++bU sc,sc:=sc }) ifs).bind fun c=>(f { S with N:=bT sc++bU sc,sc:=sc } elt).map fun ce=>.comp (bT sc).length pick t it c ce
   else none
 else none
noncomputable def AQ (S:Sc)(x:Str):Option Ex:=if dW x then (if sX S.sc x then (idxOf S.N x).map .var else if ue S.sc x then (idxOf S.uz x).map .LX else none) else none
noncomputable def Jg:Const->Option Ex
 |.int i=>some (.cst (.int i))
 |.bool b=>some (.cst (.bl b))
 |.none=>some (.cst .LC)
 |.str s=>some (.cst (.str s))
 |_=>none
noncomputable def XF (op:UnaryOp)(o:Option Ex):Option Ex:=match op with
 |.USub=>o.map .neg
 |.Not=>o.map .not
 |_=>none
noncomputable def A9 (f:Expr->Option Ex)(a:Expr)(op:CmpOp)(b:Expr):Option Ex:=if behindInMarks op b then none else (f a).bind fun ca=>(f b).map fun cb=>.cmp op ca cb
noncomputable def Ej (f:Expr->Option Ex)(a:Expr)(op Rk:CmpOp)(b c:Expr):Option Ex:=none
noncomputable def Jf (f:Expr->Option Ex)(a:Expr):List CmpOp->List Expr->Option Ex
 |[],_=>none
 |[op],bs=>(match bs with
  |[]=>none
  |[b]=>A9 f a op b
  |_::_::_=>none)
 |op::Rk::ops,bs=>(match ops with
  |[]=>(match bs with
   |[]=>none
   |[_]=>none
   |b::c::r=>(match r with
    |[]=>Ej f a op Rk b c
    |_::_=>none))
  |_::_=>none)
noncomputable def DZ (f:Expr->Option Ex)(a b:Expr):Option Ex:=match b with
 |.Slice lo hi st _=>(match st with
  |none=>(f a).bind fun ca=>(Ad f lo).bind fun l=>(Ad f hi).map fun h=>.sl ca l h
  |some _=>none)
 |b=>if jB b then (f a).bind fun ca=>(f b).map fun cb=>.ix ca cb else none
noncomputable def yD (S:Sc)(f:Expr->Option Ex)(x:Str)(es:List Expr):List Keyword->Option Ex
 |[]=>wt S f x es
 |[⟨k,d,_⟩]=>(match k with
  |none=>none
  |some k=>(match es with
   |[]=>none
   |[a]=>zS S f x a d k
   |_::_::_=>none))
 |_::_::_=>none
noncomputable def As (S:Sc)(f:Expr->Option Ex)(g:Expr)(es:List Expr)(ks:List Keyword)(cpos:Pos):Option Ex:=match g with
 |.Name x _=>yD S f x es ks
 |.Attribute o name apos=>(match ks with
  |[]=>Dg f o name es apos cpos
  |_::_=>none)
 |_=>none
noncomputable def XI (S:Sc)(f:Sc->Expr->Option Ex)(elt:Expr)(sc:Scope):List Comprehension->Option Ex
 |[]=>none
 |[⟨tg,iter,ifs,as⟩]=>if as=0 then tZ S f elt tg iter ifs sc else none
 |_::_::_=>none
noncomputable def HF:Expr->Bool
 |.List [] _=>true
 |_=>false
noncomputable def wZ:Expr->Option Expr
 |.List [e] _=>(match e with
  |.Tuple es k p=>if es.any HF then some (.Tuple es k p) else none
  |_=>none)
 |_=>none
noncomputable def isAdd:Operator->Bool
 |.Add=>true
 |_=>false
noncomputable def Fg (f:Expr->Option Ex)(a:Expr)(op:Operator)(b:Expr):Option Ex:=match wZ b with
 |some e=>if isAdd op then (f a).bind fun ca=>(f e).map fun ce=>.snoc ca ce else none
 |none=>(f a).bind fun ca=>(f b).map fun cb=>.bin op ca cb
noncomputable def Bg:Option Expr->Option Str
 | some (.Name x _)=>some x
 |_=>none
noncomputable def Gu:Expr->Option Int
 | .Constant (.int v) _ _=>some v
 |_=>none
noncomputable def zM (S:Sc):List (Option Expr)->List Expr->Option (List (Nat×Int))
 |[],[]=>some []
 |k::ks,e::vs=>(Bg k).bind fun x=>(Gu e).bind fun v=>if dW x&&ue S.sc x then (idxOf S.uz x).bind fun i=>(zM S ks vs).map fun l=>(i,v)::l else none
 |_,_=>none
noncomputable def G6 (S:Sc):List (Option Expr)->List Expr->Option Ex
 |[],[]=>none
 |k::ks,vs=>if (k::ks).length<=15 then (zM S (k::ks) vs).map .Nt else none
 |_,_=>none
noncomputable def cE:Nat->Sc->Expr->Option Ex
 |0,_,_=>none
 |n+1,S,e=>match e with
  |.Name x _=>AQ S x
  |.Constant c _ _=>Jg c
  |.BinOp a op b _=>Fg (cE n S) a op b
  |.UnaryOp op a _=>XF op (cE n S a)
  |.BoolOp op es _=>KD (cE n S) op es
  |.Compare a ops bs _=>Jf (cE n S) a ops bs
  |.IfExp c a b _=>(cE n S c).bind fun cc=>(cE n S a).bind fun ca=>(cE n S b).map fun cb=>.ite cc ca cb
  |.List es _=>(dY (cE n S) es).map .lst
  |.Tuple es _ _=>(dY (cE n S) es).map .tup
  |.Subscript a b _=>DZ (cE n S) a b
  |.Call g es ks pos=>As S (cE n S) g es ks pos
  |.ListComp elt gens sc _=>XI S (cE n) elt sc gens
  |.Dict ks vs _=>G6 S ks vs
  |_=>none
structure Ctx (X:Cx)(S:Sc)(T:Tb):Prop where
 N:X.N=S.N
 nd:S.N.Nodup
 QV:∀x,sX S.sc x=true->D4 X.env.scope x
 loc:∀x,lU S.sc x=true->Loc X.env.scope x/\(X.fn x=true\/X.env.scope.names.lookup x=some .local)
 gl:∀x,ue S.sc x=true->Gl X x
 cel:∀x,(dX S.sc x=some .cell\/dX S.sc x=some .free)->(X.env.kindOf x=some .cell\/X.env.kindOf x=some .free)
 units:X.A.units+40<cLine/\Bp X.w X.K
 calm:X.calm=true
 fns:∀i x,idxOf S.fns x=some i->∃f fd ps k,lr X.prog X.w X.K X.mg X.base xW k f fd ps (zy X.K ps.length (T.cl i))/\gM k X.A/\X.mg x=some (.ref f)/\PySem.W.keepIn X.K (.ref f)=true/\Binds X.K fd ps []/\∀ds r,T.cl i ds=.ok r->ds.length=ps.length
 uz:∀i x,idxOf S.uz x=some i->∃v u,X.mg x=some u/\RelV v u/\∀H,Rep X.K H (T.gl i) v []
 hV:∀x,S.hV.contains x=true->X.mg x=none
theorem bV (h:notStar e=true):starEach (e::es) env=(false,eval e env)::starEach es env:=by
 cases e<;>first | rfl | (cases h)
theorem vc (h:iS e=true)(x:Value):foldedSetIterable e env x=pure x:=by
 cases e<;>first | rfl | (cases h)
theorem yV (h:jB e=true):qK e:=by
 intro o i;cases e<;>first | rfl | (cases h)
variable {f:Expr->Option Ex}
theorem cA (h:dY f (e::es)=some cs):notStar e=true/\∃c d,f e=some c/\dY f es=some d/\cs=.cons c d:=by
 unfold dY at h;by_cases hs:notStar e=true
 .rw[if_pos hs] at h;rw[ag] at h;obtain⟨c,h1,h2⟩:=h;rw[ae] at h2;obtain⟨d,h2,rfl⟩:=h2;exact⟨hs,c,d,h1,h2,rfl⟩
 .rw[if_neg hs] at h;cases h
theorem eY:∀{es:List Expr}{cs:pA},dY f es=some cs->(backTo pos (starEach es env)).any (·.1)=false
 |[],cs,_=>rfl
 | e::es,cs,h=>by
  obtain⟨hs,c,d,_,h2,_⟩:=cA h;rw[bV hs];show (false || (backTo pos (starEach es env)).any (·.1))=false;rw[eY h2];rfl
theorem dU (h:dW x=true):(x==("__debug__" : Str))=false/\(x==("__classdict__" : Str))=false/\x≠"__name__":=by
 unfold dW at h;rw[ao,ao] at h;obtain⟨⟨h1,h2⟩,h3⟩:=h;refine⟨by simpa using h1,by simpa using h2,fun e=>?_⟩;subst e;simp at h3
variable {ca:Ex}
theorem GB {c a b:Expr}{cc cb:Ex}(hc:PT X c (m5 X.K T cc))(ha:PT X a (m5 X.K T ca))(hb:PT X b (m5 X.K T cb)):PT X (.IfExp c a b pos) (m5 X.K T (.ite cc ca cb)):=by
 intro pins s σ H Q I h;obtain⟨P,env,F,re,p,bb,LA,ht,k⟩:=h;unfold ev at LA;obtain⟨q,h1,LA⟩:=Rs.Lz LA;obtain⟨kb,h2,LA⟩:=Rs.Lz LA;refine isTrue_IfExp (cO (hc pins s σ H (fun d H'=>d=kb/\aH H H') I ⟨P,env,F,re,q,kb,h1,dH h2,fun H' s=>⟨rfl,s⟩⟩) fun d s1 ⟨H1,I1,e,s⟩=>?_);subst e;cases d with
 |true=>exact ha pins s1 σ H1 Q I1 ⟨P,env,F,re.same s,p,bb,LA,ht,fun H' s'=>k H' (s.trans s')⟩
 |false=>exact hb pins s1 σ H1 Q I1 ⟨P,env,F,re.same s,p,bb,LA,ht,fun H' s'=>k H' (s.trans s')⟩
theorem Bn {a:Ex}{env:En}{p}(LA:fU T (.L7 a) env=.ok p):p.2=[]/\∃l,aY T (.cons a .nil) env=.ok l/\((∃j,l.map (·.1)=[.int j]/\fT j=true/\p.1=aW 0 1 j.toNat)\/(∃i j,l.map (·.1)=[.int i,.int j]/\fT i=true/\fT j=true/\p.1=aW i 1 (j-i).toNat) \/
   ∃i j k,l.map (·.1)=[.int i,.int j,.int k]/\fT i=true/\fT j=true/\k≠0/\k.natAbs<1073741824/\p.1=aW i k (Builtin.Range.rangeSize i j k).toNat):=by
 unfold fU at LA;obtain⟨q,h1,LA⟩:=Rs.Lz LA;split at LA
 .rename_i j hj;split at LA
  .rename_i ho;cases LA;exact⟨rfl,[q],by unfold aY;rw[h1];unfold aY;rfl,.inl ⟨j,by simp[hj],ho,rfl⟩⟩
  .cases LA
 .cases LA
theorem A2 {a b:Ex}{env:En}{p}(LA:fU T (.Nh a b) env=.ok p):p.2=[]/\∃l,aY T (.cons a (.cons b .nil)) env=.ok l/\((∃j,l.map (·.1)=[.int j]/\fT j=true/\p.1=aW 0 1 j.toNat)\/(∃i j,l.map (·.1)=[.int i,.int j]/\fT i=true/\fT j=true/\p.1=aW i 1 (j-i).toNat) \/
   ∃i j k,l.map (·.1)=[.int i,.int j,.int k]/\fT i=true/\fT j=true/\k≠0/\k.natAbs<1073741824/\p.1=aW i k (Builtin.Range.rangeSize i j k).toNat):=by
 unfold fU at LA;obtain⟨q,h1,LA⟩:=Rs.Lz LA;obtain⟨r,h2,LA⟩:=Rs.Lz LA;split at LA
 .rename_i i j hi hj;split at LA
  .rename_i ho;cases LA;rw[ao] at ho;exact⟨rfl,[q,r],by unfold aY;rw[h1];unfold aY;rw[h2];unfold aY;rfl,.inr (.inl ⟨i,j,by simp[hi,hj],ho.1,ho.2,rfl⟩)⟩
  .cases LA
 .cases LA
theorem zb {a b:Ex}{env:En}{p}(LA:fU T (.L6 a b c) env=.ok p):p.2=[]/\∃l,aY T (.cons a (.cons b (.cons c .nil))) env=.ok l/\((∃j,l.map (·.1)=[.int j]/\fT j=true/\p.1=aW 0 1 j.toNat)\/(∃i j,l.map (·.1)=[.int i,.int j]/\fT i=true/\fT j=true/\p.1=aW i 1 (j-i).toNat) \/
   ∃i j k,l.map (·.1)=[.int i,.int j,.int k]/\fT i=true/\fT j=true/\k≠0/\k.natAbs<1073741824/\p.1=aW i k (Builtin.Range.rangeSize i j k).toNat):=by
 unfold fU at LA;obtain⟨q,h1,LA⟩:=Rs.Lz LA;obtain⟨r,h2,LA⟩:=Rs.Lz LA;obtain⟨t,h3,LA⟩:=Rs.Lz LA;split at LA
 .rename_i i j k hi hj hk;split at LA
  .rename_i ho;cases LA;simp only[Bool.and_eq_true,bne_iff_ne,decide_eq_true_eq] at ho;exact⟨rfl,[q,r,t],by unfold aY;rw[h1];unfold aY;rw[h2];unfold aY;rw[h3];unfold aY;rfl,.inr (.inr ⟨i,j,k,by simp[hi,hj,hk],ho.1.1.1,ho.1.1.2,ho.1.2,ho.2,rfl⟩)⟩
  .cases LA
 .cases LA
def SE (X:Cx)(T:Tb)(e:Expr)(c:Ex):Prop:=PE X e (tE X.K T c)/\PT X e (m5 X.K T c)
section
variable {X:Cx}{S:Sc}{T:Tb}
theorem eM (hf:∀e c,f e=some c->SE X T e c):∀{es:List Expr}{cs:pA},dY f es=some cs->PA X es (xG X.K T cs)
 |[],cs,h=>by cases h;exact zu
 | e::es,cs,h=>by
  obtain⟨hs,c,d,h1,h2,rfl⟩:=cA h;exact wH (hf e c h1).1 (eM hf h2) (bV hs)
theorem wQ {op:BoolOp}{pos:Pos}(hf:∀e c,f e=some c->SE X T e c):∀{es:List Expr}{c:Ex},KD f op es=some c->PE X (.BoolOp op es pos) (tE X.K T c)/\PW X (.BoolOp op es pos) (m5 X.K T c)
 |[],c,h=>by cases h
 | [a],c,h=>by
  have h:f a=some c:=h;have ⟨h1,h2⟩:=hf a c h;refine⟨Hf h1,?_⟩;cases op with
  |And=>exact Dn h2
  |Or=>exact HP h2
 | a::b::r,c,h=>by
  unfold KD at h;rw[ag] at h;obtain⟨ca,h1,h2⟩:=h;rw[ae] at h2;obtain⟨cb,h2,h3⟩:=h2;subst h3;have ⟨ia,ta⟩:=hf a ca h1;have ⟨ib,tb⟩:=wQ (pos:=pos) hf h2;cases op with
  |And=>exact⟨Fs ia ib,Fk ta tb⟩
  |Or=>exact⟨Ks ia ib,ID ta tb⟩
theorem sf (C:Ctx X S T):∀{es:List Expr}{is:List Nat},nU S es=some is->IL X es (iQ is)/\(assignEach es X.env).length=is.length/\(assignEach es X.env).findIdx? (·.1)=none:=by
 intro es
 induction es with
 |nil=>intro is h;cases h;exact⟨Dp,rfl,rfl⟩
 |cons e es ih =>
  intro is h;cases e with
  |Name x p =>
   unfold nU at h;by_cases hl:lU S.sc x=true
   .rw[if_pos hl,ag] at h;obtain⟨i,h1,h2⟩:=h;rw[ae] at h2;obtain⟨js,h2,rfl⟩:=h2;obtain⟨a,b,c⟩:=ih h2;have hN:=C.nd;rw[<-C.N] at hN;have hi:=cR h1;rw[<-C.N] at hi;refine⟨zL (wK hN hi (C.loc x hl).1 (C.loc x hl).2) a,?_,?_⟩
    .show (assignEach es X.env).length+1=js.length+1;rw[b]
    .show List.findIdx? (·.1) ((false,_)::assignEach es X.env)=none;rw[List.findIdx?_cons];simp[c]
   .rw[if_neg hl] at h;cases h
  |_=>cases h
theorem yz (C:Ctx X S T)(h:xX S e=some t):PG X e (uo X.K t):=by
 cases e with
 |Name x p =>
  unfold xX at h;dsimp only at h;by_cases hl:lU S.sc x=true
  .rw[if_pos hl,ae] at h;obtain⟨i,h1,rfl⟩:=h;have hN:=C.nd;rw[<-C.N] at hN;have hi:=cR h1;rw[<-C.N] at hi;exact wK hN hi (C.loc x hl).1 (C.loc x hl).2
  .rw[if_neg hl] at h;cases h
 |Tuple es a b =>
  unfold xX at h;rw[ae] at h;obtain⟨is,h1,rfl⟩:=h;obtain⟨a,b,c⟩:=sf C h1;exact zE C.calm a b c
 |_=>cases h
theorem D9 (C:Ctx X S T)(hf:∀e c,f e=some c->SE X T e c)(h:Ic S f (isTup tg) e=some it):PI X tg e (tI X.K T it):=by
 unfold Ic at h;split at h
 .rename_i x p es pos;by_cases hx:x = "range"
  .subst hx;rw[if_pos rfl] at h;by_cases hg:xM S "range" = true
   .rw[if_pos hg] at h;have NZ:ue S.sc "range" = true/\S.hV.contains "range" = true:=by
     unfold xM at hg
     rwa [ao] at hg
    cases hc:dY f es with
    |none=>rw[hc] at h;cases h
    |some cs =>
     rw[hc] at h;cases es with
     |nil=>cases hc;cases h
     |cons e0 rest =>
      obtain⟨hs,c0,d0,_,hd,rfl⟩:=cA hc;refine Gq rfl (C.gl _ NZ.1) (C.hV _ NZ.2) (eM hf hc) (bV hs) (eY hd) ?_;intro env p LA;cases d0 with
      |nil =>
       cases h;exact Bn LA
      |cons c1 d1 =>
       cases d1 with
       |nil =>
        cases h;exact A2 LA
       |cons c2 d2 =>
        cases d2 with
        |nil =>
         cases h;exact zb LA
        |cons c3 d3=>cases h
   .rw[if_neg hg] at h;cases h
  rw[if_neg hx] at h;by_cases hx:x = "enumerate"
  .subst hx;rw[if_pos rfl] at h;by_cases hg:(xM S "enumerate" && isTup tg)=true
   .rw[if_pos hg] at h;rw[ao] at hg;have NZ:ue S.sc "enumerate" = true/\S.hV.contains "enumerate" = true:=by
     have:=hg.1;unfold xM at this
     rwa [ao] at this
    cases tg with
    |Tuple elts x1 tp =>
     split at h
     .rename_i e0;by_cases hs:notStar e0=true
      .rw[if_pos hs,ae] at h;obtain⟨c,h1,rfl⟩:=h;exact B6 (C.gl _ NZ.1) (C.hV _ NZ.2) (wH (hf _ _ h1).1 zu (bV hs)) (bV hs)
      .rw[if_neg hs] at h;cases h
     .cases h
    |_=>cases hg.2
   .rw[if_neg hg] at h;cases h
  rw[if_neg hx] at h;by_cases hx:x = "reversed"
  .subst hx;rw[if_pos rfl] at h;cases h
  rw[if_neg hx] at h;by_cases hx:x = "zip"
  .subst hx;rw[if_pos rfl] at h;cases h
  .rw[if_neg hx,ae] at h;obtain⟨c,h1,rfl⟩:=h;exact Aj (hf _ _ h1).1
 .by_cases hn:iS e=true
  .rw[if_pos hn,ae] at h;obtain⟨c,h1,rfl⟩:=h;exact Aj (hf _ _ h1).1
  .rw[if_neg hn] at h;cases h
end
theorem jv:∀{names:List (Str×NameKind)}{x:Str}{k:NameKind},names.lookup x=some k->k≠.free ->
  (names.map fun (n,k)=>if (k==NameKind.free&&env.scope.kind == .function&&env.kindOf n==some .cell) then (n,NameKind.cell) else (n,k)).lookup x=some k
 |[],_,_,h,_=>by simp at h
 | (n,k0)::r,x,k,h,hk=>by
  rw[aw];by_cases hc:(k0==NameKind.free&&env.scope.kind == .function&&env.kindOf n==some .cell)=true
  .simp only[hc,if_true,List.lookup_cons] at h ⊢;cases hx:x==n with
   |true =>
    rw[hx] at h;cases h;rw[ao,ao] at hc;exact absurd (by simpa using hc.1.1) hk
   |false=>rw[hx] at h;exact jv h hk
  .have hc:(k0==NameKind.free&&env.scope.kind == .function&&env.kindOf n==some .cell)=false:=by simpa using hc
   simp only[hc,Bool.false_eq_true,if_false,List.lookup_cons] at h ⊢;cases hx:x==n with
   |true=>rw[hx] at h;exact h
   |false=>rw[hx] at h;exact jv h hk
theorem mE:∀{l:List (Option Nat)}{p:List Nat},lD l=some p->l=p.map some
 |[],p,h=>by cases h;rfl
 | some i::r,p,h=>by
  simp only[lD,Option.map_eq_some_iff] at h;obtain⟨q,h1,rfl⟩:=h;rw[mE h1];rfl
 |none::r,p,h=>by cases h
theorem nX {S:Sc}{sc:Scope}(h:lO S sc=true):sc.kind=.function/\(∀y∈sc.names,y.2=.cell->sc.names.lookup y.1=some .cell)/\(∀y∈sc.names,y.2=.local->sc.names.lookup y.1=some .local) /\
  (∀y∈sc.names,y.2=.free->sc.names.lookup y.1=some .free/\(dX S.sc y.1=some .cell\/dX S.sc y.1=some .free))/\(bT sc++bU sc).Nodup:=by
 unfold lO at h;simp only[Bool.and_eq_true,List.all_eq_true,Bool.or_eq_true,beq_iff_eq,bne_iff_ne,decide_eq_true_eq,dX] at h;obtain⟨⟨⟨⟨h1,h2⟩,h3⟩,h4⟩,h5⟩:=h;refine⟨h1,fun y hy e=>?_,fun y hy e=>?_,fun y hy e=>?_,h5⟩
 .rcases h2 y hy with h | h
  .exact absurd e h
  .exact h
 .rcases h3 y hy with h | h
  .exact absurd e h
  .exact h
 .rcases h4 y hy with h | h
  .exact absurd e h
  .exact h
section
variable {X:Cx}{S:Sc}{T:Tb}{sc:Scope}{pick:List Nat}
theorem uM (C:Ctx X S T)(h:lO S sc=true)(hp:lD ((bU sc).map (idxOf S.N))=some pick):eX X sc (bT sc++bU sc) (fD (bT sc).length pick):=by
 obtain⟨h1,h2,h3,h4,h5⟩:=nX h;have hp:=mE hp;have hlen:(bU sc).length=pick.length:=by simpa using congrArg List.length hp
 refine⟨h1,h2,h3,by simp[fD,hlen],fun x hx=>C.cel x (h4 _ (PySem.mem_of_lookup hx) rfl).2,fun x hx=>(h4 _ hx rfl).1,fun i j x hi hx=>?_⟩;unfold fD at hi;by_cases LO:i<(bT sc).length
 .rw[List.getElem?_append_left (by simpa using LO),List.getElem?_replicate] at hi;split at hi<;>cases hi
 .have hle:=i6 LO;rw[List.getElem?_append_right (by simpa using hle),List.length_replicate,<-hp,List.getElem?_map] at hi;rw[List.getElem?_append_right hle] at hx;rw[hx] at hi;simp only[Option.map_some,Option.some.injEq] at hi;have hm:=List.mem_of_getElem? hx;unfold bU at hm;rw[List.mem_map] at hm;obtain⟨p,Pu,rfl⟩:=hm;rw[List.mem_filter] at Pu;have hf:p.2=.free:=by simpa using Pu.2
  refine⟨(h4 p Pu.1 hf).1,?_⟩;rw[C.N];exact cR hi
theorem xt (C:Ctx X S T)(h:lO S sc=true)(Ca:Addr)(s0:Shared)(H0:Hp)(ex:List Addr):Ctx (inner X sc (bT sc++bU sc) Ca s0 H0 ex) { S with N:=bT sc++bU sc,sc:=sc } T:=by
 obtain⟨h1,h2,h3,h4,h5⟩:=nX h;have keep:∀x k,sc.names.lookup x=some k->k≠.free->(relabel sc X.env).names.lookup x=some k:=fun x k e hk=>jv e hk
 refine⟨rfl,h5,fun x hx=>?_,fun x hx=>?_,fun x hx=>?_,fun x hx=>?_,C.units,C.calm,C.fns,C.uz,C.hV⟩
 .unfold sX dX at hx;dsimp only at hx;split at hx
  .rename_i e;exact .inl (keep _ _ e (by simp))
  .rename_i e;exact .inr (.inl (keep _ _ e (by simp)))
  .rename_i e;exact .inr (gA e)
  .cases hx
 .unfold lU dX at hx;dsimp only at hx;split at hx
  .rename_i e;exact⟨.inl (keep _ _ e (by simp)),.inr (keep _ _ e (by simp))⟩
  .rename_i e;exact⟨.inr (keep _ _ e (by simp)),.inl (by show (sc.names.lookup x==some NameKind.cell)=true;rw[e];rfl)⟩
  .cases hx
 .unfold ue dX at hx;dsimp only at hx;split at hx
  .rename_i e;exact keep _ _ e (by simp)
  .cases hx
 .unfold dX at hx;rcases hx with hx | hx
  .exact .inl (keep _ _ hx (by simp))
  .exact gA hx
end
theorem AJ (n d:Nat)(o:Option Int):eF n d o=HT.eF n d o:=by cases o<;>rfl
theorem Cs (n d:Nat)(hd:d<=n)(o:Option Int):eF n d o<=n\/∃i,o=some i/\i<0/\(n:Int)<i+n:=by
 cases o with
 |none=>exact .inl hd
 |some i =>
  left;simp only[eF];split<;>omega
theorem Af {n d:Nat}(hd:d<=n)(o:Option Int):eF n d o<=n:=by
 rcases Cs n d hd o with h | ⟨i,_,h1,h2⟩
 .exact h
 .omega
theorem HZ (lo hi:Option Int)(n:Nat):Builtin.Str.strSliceIndices lo hi 1 n=(List.range (eF n n hi-eF n 0 lo)).map (eF n 0 lo + ·):=by
 unfold Builtin.Str.strSliceIndices;have h1:∀(o:Option Int) (d:Nat),d<=n->(match o with | none=>(d:Int) | some i=>if (1:Int) > 0 then max 0 (min (if i<0 then i+(n:Int) else i) n) else max (-1) (min (if i<0 then i+(n:Int) else i) (n-1)))=((eF n d o:Nat):Int):=by
  intro o d hd;cases o with
  |none=>rfl
  |some i =>
   simp only[eF];rw[if_pos (by decide)];by_cases hi:i<0
   .rw[if_pos hi,if_pos hi];omega
   .rw[if_neg hi,if_neg hi];omega
 have e1:=h1 lo 0 (dh _);have e2:=h1 hi n (au _);dsimp only;rw[if_pos (by decide),if_pos (by decide)];refine Eq.trans ?_ (sliceRange_one (eF n 0 lo) (eF n n hi));have gen:∀a b a' b':Int,a=a'->b=b'->sliceRange a b 1=sliceRange a' b' 1:=fun a b a' b' h h'=>by rw[h,h']
 exact gen _ _ _ _ e1 e2
theorem Gz:HS X (fun x lo hi H Q=>∃z,x=.str z/\z.length<=lim/\Q (.str ⟨(cut z.cps.toList lo hi).toArray⟩) H):=by
 intro pins s σ H x v vl vu lo hi sl Q I rx hs pl pu h;obtain⟨z,rfl,hzl,q⟩:=h;obtain⟨t,rfl⟩:=rx;have part:∀{v:Value}{o:Option Int},IsPart v o->∃l:Option (Int×Tok),partValue l=v/\l.map (·.1)=o:=fun h=>by
  cases h with
  |none=>exact⟨none,rfl,rfl⟩
  |int i t=>exact⟨some (i,t),rfl,rfl⟩
 obtain⟨l,rfl,rfl⟩:=part pl;obtain⟨u,rfl,rfl⟩:=part pu;refine⟨"str",_,PySem.F.slot_str_getitem.lookup,typeIs_str s z t,wpAny_getItem_str_slice (l:=l) (u:=u) (st:=none) hs rfl ?_⟩;have hp:slicePicked z l u none=(List.range (eF z.length z.length (u.map (·.1))-eF z.length 0 (l.map (·.1)))).map (eF z.length 0 (l.map (·.1)) + ·):=HZ _ _ _;have hc:(slicePicked z l u none).filterMap (z.cps[·]?)=cut z.cps.toList (l.map (·.1)) (u.map (·.1)):=by
  rw[hp,pick_run];rfl
 unfold sliceMade;split
 .rename_i hw;have hl:(slicePicked z l u none).length=z.length:=by
   have:=(ao _ _ ▸ hw).2;simpa using this
  rw[hp,ak,cw] at hl;have hz:(⟨(cut z.cps.toList (l.map (·.1)) (u.map (·.1))).toArray⟩:Str)=z:=by
   have a1:=Af (n:=z.length) (dh _) (l.map (·.1));have a2:=Af (n:=z.length) (au _) (u.map (·.1));have:cut z.cps.toList (l.map (·.1)) (u.map (·.1))=z.cps.toList:=by
    have hlen:z.cps.toList.length=z.length:=rfl;unfold cut;rw[hlen];dsimp only;by_cases h0:z.length=0
    .have:z.cps.toList=[]:=List.eq_nil_of_length_eq_zero (hlen.trans h0);rw[this];simp
    .rw[show eF z.length 0 (l.map (·.1))=0 by omega,show eF z.length z.length (u.map (·.1))=z.length by omega,iz,Nat.sub_zero];exact dm (Nat.le_of_eq hlen)
   rw[this]
  rw[hz] at q;exact⟨.str z,H,I,⟨t,rfl⟩,q⟩
 .rw[hc];refine⟨?_,.str _,H,I.tok _,⟨_,rfl⟩,q⟩;show (cut z.cps.toList (l.map (·.1)) (u.map (·.1))).toArray.size<=sizeLine;rw[aq];refine bq ?_ (hJ hzl);unfold cut;rw[bh,bu];exact bq (Nat.min_le_right _ _) (Nat.sub_le _ _)
section
variable {X:Cx}{T:Tb}{a:Expr}{ca:Ex}{lo hi:Option Expr}{cl ch:m6}{pos p2:Pos}
noncomputable def tO (K:Frag)(T:Tb)(c:m6):TO:=fun σ H Q=>∃P env F,RE K P env σ H F/\∃o,kq T c env=.ok o/\∀H',aH H H'->Q o H'
theorem yZ {X:Cx}{e:Option Expr}{t t':TO}(h:PO X e t)(k:∀σ H Q,t' σ H Q->t σ H Q):PO X e t':=fun pins s σ H Q I q=>h pins s σ H Q I (k σ H Q q)
theorem Cv:PO X none (tO X.K T .none):=yZ BR fun σ H Q ⟨P,env,F,re,o,h,k⟩=>by
 unfold kq at h;cases h;exact k H (aH.refl _)
theorem BO (h:PE X a (tE X.K T ca)):PO X (some a) (tO X.K T (.some ca)):=yZ (rF h) fun σ H Q ⟨P,env,F,re,o,h,k⟩=>by
 unfold kq at h;obtain⟨p,h1,h2⟩:=Rs.Lz h;refine⟨P,env,F,re,p,h1,fun v H' G s rp rt=>?_⟩;split at h2
 .rename_i i hi;cases h2;rw[hi] at rp;obtain⟨rfl,rfl⟩:=rp.int_inv;exact⟨i,rfl,k H' s⟩
 .cases h2
theorem IJ (ha:PE X a (tE X.K T ca))(hl:PO X lo (tO X.K T cl))(hh:PO X hi (tO X.K T ch)):PE X (.Subscript a (.Slice lo hi none p2) pos) (tE X.K T (.sl ca cl ch)):=by
 refine bW (sk (wU.or Gz) ha hl hh) fun σ H Q ⟨P,env,F,re,p,LA,k⟩=>?_
 unfold ev at LA;obtain⟨q,h1,LA⟩:=Rs.Lz LA;obtain⟨ol,h2,LA⟩:=Rs.Lz LA;obtain⟨oh,h3,LA⟩:=Rs.Lz LA;obtain⟨d,h4,LA⟩:=Rs.Lz LA;have h4:=dH h4;cases LA;refine⟨P,env,F,re,q,h1,fun v H1 G s rp rt=>⟨P,env,F,re.same s,ol,h2,fun H2 s2=>⟨P,env,F,re.same (s.trans s2),oh,h3,fun H3 s3=>?_⟩⟩⟩;have Rg:=s2.trans s3;cases hq:q.1 with
 |lst xs =>
  rw[hq] at rp h4;cases h4;obtain⟨pa,vs,G',rfl,rfl,hr,rs⟩:=Rep.lst_inv (rp.same Rg);refine .inl ⟨pa,vs,rfl,.inl hr,fun pn hn=>?_⟩;obtain⟨G1,r1,u1⟩:=rs.drop (eF xs.length 0 ol);obtain⟨G2,r2,u2⟩:=r1.take (eF xs.length xs.length oh-eF xs.length 0 ol);have hc:r9 vs ol oh=(vs.drop (eF xs.length 0 ol)).take (eF xs.length xs.length oh-eF xs.length 0 ol):=by
   unfold r9;rw[rs.len,AJ,AJ]
  rw[hc];have sub:∀a∈G2,a∈pa::G':=fun a ha=>ai _ (u1.mem (u2.mem ha))
  obtain⟨NB,nv⟩:=lQ (G0:=pa::G') r2 sub hn;have ar:Args X.K env F H H3 [q] [.ref pa] ((pa::G') ++ []):=.cons s (by rw[hq];exact rp) rt (.nil Rg);rw[ay] at ar;exact k _ _ _ ((s.trans Rg).trans nv.same) NB (cD.new ar nv (by simp[aZ]))
 |str z =>
  rw[hq] at rp h4;obtain⟨rfl,rfl⟩:=rp.str_inv;have h4:(if z.length<=lim then some (D.str ⟨(cut z.cps.toList ol oh).toArray⟩) else none)=some d:=h4;by_cases hz:z.length<=lim
  .rw[if_pos hz] at h4;cases h4;exact .inr ⟨z,rfl,hz,k _ H3 [] (s.trans Rg) (.str _) cD.nil⟩
  .rw[if_neg hz] at h4;cases h4
 |_=>rw[hq] at h4;cases h4
end
variable {id:String}{l:List (Nat×Int)}{name:Str}{r:List Expr}
section
variable {X:Cx}{S:Sc}{T:Tb}
theorem zl (hf:∀e c,f e=some c->SE X T e c){o:Option Expr}{c:m6}(h:Ad f o=some c):PO X o (tO X.K T c):=by
 cases o with
 |none=>cases h;exact Cv
 |some e =>
  have h:(f e).map m6.some=some c:=h;rw[ae] at h;obtain⟨d,h1,rfl⟩:=h;exact BO (hf e d h1).1
theorem Bq {x:String}{b:EF}(hf:∀e c,f e=some c->SE X T e c){p:Pos}(hr:eJ X (.builtin id) (oW X.K b))(hv:bootBuiltins x=some (.builtin id))(hg:Gl X x)(hm:X.mg x=none)(hn:dW x=true)(ha:dY f (e::r)=some cs) :
  PE X (.Call (.Name x p) (e::r) [] pos) (tE X.K T (.blt b cs)):=by
 obtain⟨hs,_,_,_,h2,_⟩:=cA ha;obtain⟨n1,n2,n3⟩:=dU hn;exact bW (iE hr hg hm hv (eM hf ha) n3 n1 (bV hs) (eY h2)) fun σ H Q h=>sx h
theorem GZ {x:String}{b:EF}(hf:∀e c,f e=some c->SE X T e c){p:Pos}(hr:eJ X (.type id) (oW X.K b))(hv:bootBuiltins x=some (.type id))(hg:Gl X x)(hm:X.mg x=none)(hn:dW x=true)(ha:dY f (e::r)=some cs) :
  PE X (.Call (.Name x p) (e::r) [] pos) (tE X.K T (.blt b cs)):=by
 obtain⟨hs,_,_,_,h2,_⟩:=cA ha;obtain⟨n1,n2,n3⟩:=dU hn;exact bW (pM hr hg hm hv (eM hf ha) n3 n1 (bV hs) (eY h2)) fun σ H Q h=>sx h
theorem zG {t:Str}{u:String}(h:He t=some u):u∈mQ/\bootBuiltins t=some (.type u):=by
 unfold He at h;split at h
 .rename_i e;cases h;subst e;exact⟨by decide,boot_str⟩
 cases h
theorem DC (C:Ctx X S T)(hf:∀e c,f e=some c->SE X T e c){p pos:Pos}(h:wt S f x es=some c):PE X (.Call (.Name x p) es [] pos) (tE X.K T c):=by
 unfold wt at h;by_cases hk:(dW x&&ue S.sc x)=true
 .rw[if_pos hk] at h;rw[ao] at hk;obtain⟨hn,hg⟩:=hk;have hg:=C.gl x hg;obtain⟨n1,n2,n3⟩:=dU hn;cases hi:idxOf S.fns x with
  |some i =>
   rw[hi] at h;dsimp only at h;rw[ae] at h;obtain⟨cs,h1,rfl⟩:=h;obtain⟨fa,fd,ps,k,FO,hr,hm,Xe,hb,hl⟩:=C.fns i x hi;cases es with
   |nil =>
    cases h1;refine bW (za FO hr hg hm Xe hb .nil Ag n1) fun σ H Q h=>?_
    have:=qb hl h;obtain⟨P,env,F,re,l,LA,k⟩:=this;unfold aY at LA;cases LA;exact k [] H [] (.nil (aH.refl _))
   |cons e r =>
    obtain⟨hs,_,_,_,h2,_⟩:=cA h1;exact bW (C7 FO hr hg hm Xe hb .nil Ag (eM hf h1) n1 (bV hs) (eY h2)) fun σ H Q h=>qb hl h
  |none =>
   rw[hi] at h;dsimp only at h;by_cases hb:S.hV.contains x=true
   .rw[if_pos hb] at h;have hm:=C.hV x hb;by_cases hx:x = "isinstance"
    .rw[if_pos hx] at h;subst hx;unfold Jp at h;split at h
     .rename_i a t pt;by_cases hc:(ue S.sc t&&S.hV.contains t&&dW t&&notStar a)=true
      .rw[if_pos hc] at h;simp only[Bool.and_eq_true] at hc;obtain⟨⟨⟨c1,c2⟩,c3⟩,c4⟩:=hc;rw[ag] at h;obtain⟨u,h1,h2⟩:=h;rw[ae] at h2;obtain⟨ca,h2,rfl⟩:=h2;obtain⟨hu,hbt⟩:=zG h1;obtain⟨m1,m2,m3⟩:=dU c3;refine bW (iE x9 hg hm boot_isinstance (aL (hf a ca h2).1 (aL (vU (v:=.ty u) (C.gl t c1) (C.hV t c2) hbt rfl m3 m1) bB rfl) (bV c4)) n3 n1 (bV c4) rfl) fun σ H Q h=>A8 hu h
      .rw[if_neg hc] at h;cases h
     .cases h
    .rw[if_neg hx] at h;by_cases T6:x = "list"/\pF es=true
     .rw[if_pos T6] at h;obtain⟨rfl,_⟩:=T6;cases h
     rw[if_neg T6] at h;by_cases T7:x = "list"/\qh es=true
     .rw[if_pos T7] at h;obtain⟨rfl,_⟩:=T7;cases h
     rw[if_neg T7] at h;cases es with
     |nil=>cases h
     |cons e r =>
      dsimp only at h;rw[ag] at h;obtain⟨b,h1,h2⟩:=h;rw[ae] at h2;obtain⟨cs,h2,rfl⟩:=h2;unfold Kc at h1;split at h1
      .rename_i e;cases h1;subst e;exact Bq hf xK boot_len hg hm hn h2
      split at h1
      .rename_i e;cases h1;subst e;exact Bq hf (xy C.calm) boot_all hg hm hn h2
      split at h1
      .rename_i e;cases h1;subst e;exact GZ hf (ve C.calm) boot_list hg hm hn h2
      split at h1
      .rename_i e;cases h1;subst e;exact Bq hf (uE C.calm C.units.1) boot_min hg hm hn h2
      split at h1
      .rename_i e;cases h1;subst e;exact GZ hf xx boot_int hg hm hn h2
      split at h1
      .rename_i e;cases h1;subst e;exact Bq hf (xR C.calm) boot_sum hg hm hn h2
      split at h1
      .rename_i e;cases h1;subst e;exact GZ hf xg boot_str hg hm hn h2
      cases h1
   .rw[if_neg hb] at h;cases h
 .rw[if_neg hk] at h;cases h
theorem EH (hf:∀e c,f e=some c->SE X T e c){apos cpos:Pos}(h:Dg f o name es apos cpos=some c):PE X (.Call (.Attribute o name apos) es [] cpos) (tE X.K T c):=by
 unfold Dg at h;split at h
 .rename_i e;by_cases hk:(apos.endLine==cpos.line&&AV o)=true
  .rw[if_pos hk] at h;rw[ao] at hk;have hb:attributeBase o name X.env (eval o X.env)=eval o X.env:=by
    obtain⟨_,hk⟩:=hk;cases o<;>first | rfl | (cases hk;done) | skip
    rename_i g as ks cp;cases as with
    |nil=>cases hk
    |cons a r=>cases g<;>rfl
   by_cases Ub:name = "join"
   .rw[if_pos Ub,ag] at h;subst Ub;obtain⟨co,ho,h⟩:=h;rw[ag] at h;obtain⟨cs,hc,h⟩:=h;obtain⟨ns,ce,d,he,hd,rfl⟩:=cA hc;cases hd;cases h;refine bW (qA jj PySem.F.slot_str_join PySem.F.type_str_join Dv (hf o co ho).1 (eM hf hc) hb ?_ hk.1 (bV ns) rfl) fun σ H Q h=>w4 h
    rw[bV ns];rfl
   rw[if_neg Ub,ag] at h;obtain⟨m,hm,h⟩:=h;rw[ag] at h;obtain⟨co,ho,h⟩:=h;rw[ag] at h;obtain⟨cs,hc,h⟩:=h;obtain⟨ns,ce,d,he,hd,rfl⟩:=cA hc;cases hd;cases h;have slot:∃id,PySem.Slot "str" name id/\typeOf (.builtin id)=pure (.type "method_descriptor")/\BC X id (Cj m)/\(m=.L5\/m=.LL):=by
    unfold D1 at hm;split at hm
    .rename_i e;cases hm;subst e;exact⟨_,PySem.F.slot_str_find,PySem.F.type_str_find,C4,.inl rfl⟩
    split at hm
    .rename_i e;cases hm;subst e;exact⟨_,PySem.F.slot_str_index,PySem.F.type_str_index,zo,.inr rfl⟩
    cases hm
   obtain⟨id,s1,s2,s3,s4⟩:=slot;intro pins s σ H Q I hh;refine qA jj s1 s2 s3 (hf o co ho).1 (eM hf hc) hb ?_ hk.1 (bV ns) rfl pins s σ H Q I (zc s4 hh);rw[bV ns];rfl
  .rw[if_neg hk] at h;cases h
 .cases h
theorem wy (h:yb own t=true)(i:Nat)(hi:t=.nm i\/∃is,t=.tp is/\i∈is):(fD own pick)[i]? = some none:=by
 have:i<own:=by
  rcases hi with rfl | ⟨is,rfl,hm⟩
  .simpa[yb] using h
  .simp only[yb,List.all_eq_true,decide_eq_true_eq] at h;exact h i hm
 unfold fD;rw[List.getElem?_append_left (by simpa using this),List.getElem?_replicate,if_pos this]
structure qF (X:Cx)(S:Sc)(T:Tb)(elt tg iter:Expr)(ifs:List Expr)(sc:Scope)(c:Ex):Prop where
 ex:∃pick t it ci ce,c=.comp (bT sc).length pick t it ci ce/\eX X sc (bT sc++bU sc) (fD (bT sc).length pick)/\PI X tg iter (tI X.K T it) /\
  (∀C s0 H0 ex,PG (inner X sc (bT sc++bU sc) C s0 H0 ex) tg (uo X.K t)/\Ig (inner X sc (bT sc++bU sc) C s0 H0 ex) ifs (E5 X.K T ci)/\PE (inner X sc (bT sc++bU sc) C s0 H0 ex) elt (tE X.K T ce)) /\
  yb (bT sc).length t=true/\iS iter=true
variable {sc:Scope}
theorem ou (C:Ctx X S T){f:Sc->Expr->Option Ex}(hf:∀{X:Cx}{S:Sc},Ctx X S T->∀e c,f S e=some c->SE X T e c)(h:tZ S f elt tg iter ifs sc=some c):qF X S T elt tg iter ifs sc c:=by
 unfold tZ at h;by_cases hk:(lO S sc&&iS iter)=true
 .rw[if_pos hk] at h;rw[ao] at hk;rw[ag] at h;obtain⟨it,h1,h⟩:=h;rw[ag] at h;obtain⟨pick,h2,h⟩:=h;rw[ag] at h;obtain⟨t,h3,h⟩:=h;by_cases ho:yb (bT sc).length t=true
  .rw[if_pos ho] at h;rw[ag] at h;obtain⟨ci,h4,h⟩:=h;rw[ae] at h;obtain⟨ce,h5,rfl⟩:=h;refine⟨pick,t,it,ci,ce,rfl,uM C hk.1 h2,D9 C (hf C) h1,fun Ca s0 H0 ex=>?_,ho,hk.2⟩;have C':=xt C hk.1 Ca s0 H0 ex;refine⟨yz C' h3,?_,(hf C' elt ce h5).1⟩;unfold JS at h4;split at h4
   .cases h4;exact BL
   .rw[ae] at h4;obtain⟨cc,h4,rfl⟩:=h4;exact CC (hf C' _ cc h4).2
   .cases h4
  .rw[if_neg ho] at h;cases h
 .rw[if_neg hk] at h;cases h
theorem Ce (C:Ctx X S T){pos:Pos}(h:qF X S T elt tg iter ifs sc c):PE X (.ListComp elt [⟨tg,iter,ifs,0⟩] sc pos) (tE X.K T c):=by
 obtain⟨pick,t,it,ci,ce,rfl,h1,h2,h3,h4,h5⟩:=h;exact bW (Dk h1 C.calm h2 h3 (qy (wy h4)) (vc h5)) fun σ H Q h=>qH h
theorem Cu (C:Ctx X S T)(hf:∀e c,f e=some c->SE X T e c){kn:Str}{a d:Expr}{p kp pos:Pos}(h:zS S f x a d kn=some c):PE X (.Call (.Name x p) [a] [⟨some kn,d,kp⟩] pos) (tE X.K T c):=by
 cases h
theorem yi {k:Option Expr}(h:Bg k=some x):∃p,k=some (.Name x p):=by
 cases k with
 |none=>cases h
 |some e=>cases e<;>first | (cases h;exact⟨_,rfl⟩) | (cases h)
theorem Ak {v:Int}(h:Gu e=some v):∃a b,e = .Constant (.int v) a b:=by
 cases e with
 |Constant c a b=>cases c<;>first | (cases h;exact⟨_,_,rfl⟩) | (cases h)
 |_=>cases h
theorem vw (C:Ctx X S T){pos:Pos}:∀{ks:List (Option Expr)}{vs:List Expr}{l:List (Nat×Int)},zM S ks vs=some l->∃us:List (V×Int),Iw X pos ks vs (us.map fun q=>(tC q.1,tC (.int q.2)))/\Paired (fun (q:Nat×Int) (u:V×Int)=>q.2=u.2/\∀H,Rep X.K H (T.gl q.1) u.1 []) l us/\ks.all (·.isSome)=true/\ks.length=vs.length/\ks.length=l.length
 |[],[],l,h=>by cases h;exact⟨[],Cz,.nil,rfl,rfl,rfl⟩
 | k::ks,e::vs,l,h=>by
  have hA:((Bg k).bind fun x=>(Gu e).bind fun v=>if dW x&&ue S.sc x then (idxOf S.uz x).bind fun i=>(zM S ks vs).map fun l=>(i,v)::l else none)=some l:=h;clear h;obtain⟨x,hx,hB⟩:=ag.mp hA;clear hA;obtain⟨v,hv,hD⟩:=ag.mp hB;clear hB;obtain⟨p,e1⟩:=yi hx;obtain⟨a,b,e2⟩:=Ak hv;rw[e1,e2];by_cases hc:(dW x&&ue S.sc x)=true
  .rw[if_pos hc] at hD;rw[ao] at hc;obtain⟨i,h1,hE⟩:=ag.mp hD;obtain⟨l',h2,rfl⟩:=ae.mp hE;obtain⟨us,g1,g2,g3,g4,g5⟩:=vw C (pos:=pos) h2;obtain⟨u,w,e1,e2,e3⟩:=C.uz i x h1;obtain⟨n1,n2,n3⟩:=dU hc.1;exact⟨(u,v)::us,z9 (eI (C.gl x hc.2) e1 e2 n1) lZ g1,.cons ⟨rfl,e3⟩ g2,by rw[List.all_cons,g3];rfl,by rw[ah,ah,g4],by rw[ah,ah,g5]⟩
  .rw[if_neg hc] at hD;cases hD
 |[],_::_,l,h=>by cases h
 |_::_,[],l,h=>by cases h
theorem sA {Q:List (V×V)->Hp->Prop}{σ:L2.St}:∀{us:List (V×Int)},Q (us.map fun q=>(q.1,.int q.2)) H->nL (us.map fun q=>(tC q.1,tC (.int q.2))) σ H Q
 |[],h=>h
 | (u,i)::us,h=>by
  show nL (us.map fun q=>(tC q.1,tC (.int q.2))) σ H (fun ps H3=>Q ((u,.int i)::ps) H3);exact sA (us:=us) (Q:=fun ps H3=>Q ((u,.int i)::ps) H3) h
theorem Cg {gl:Nat->D}{us:List (V×Int)}(r:Paired (fun (q:Nat×Int) (u:V×Int)=>q.2=u.2/\∀H,Rep K H (gl q.1) u.1 []) l us) :
  ∀{ks Pq:List (Int×MV)}{xs:List (Key×V)},qJ gl l ks=some Pq->(∀H,k9 K H ks xs)->∃kvs:List (Key×V),(us.map fun q=>(q.1,(.int q.2:V)))=kvs.map (fun kv=>(kV kv.1,kv.2))/\kvs.length=l.length/\∀H,k9 K H Pq (iT xs kvs):=by
 induction r with
 |nil=>intro ks Pq xs h k;cases h;exact⟨[],rfl,rfl,k⟩
 |@cons q u l us h0 t ih =>
  intro ks Pq xs h k;unfold qJ at h;split at h
  .rename_i i hi;have r1:=h0.2 fun _=>none
   rw[hi] at r1;obtain⟨e,_⟩:=r1.int_inv;obtain⟨kvs,e1,e2,e3⟩:=ih (xs:=putK xs (.inl i) (.int q.2)) h (fun H=>(k H).put i (m:=.int q.2) rfl);refine⟨(.inl i,.int q.2)::kvs,?_,by rw[ah,ah,e2],e3⟩;rw[aw,aw,e1,<-h0.1,e];rfl
  .cases h
theorem Hx (C:Ctx X S T){pos:Pos}{ks:List (Option Expr)}{vs:List Expr}(h:zM S ks vs=some l)(h0:ks≠[])(UB:ks.length<=15):PE X (.Dict ks vs pos) (tE X.K T (.Nt l)):=by
 obtain⟨us,g1,g2,g3,g4,g5⟩:=vw C (pos:=pos) h;refine bW (Cw g1 g3 g4 h0 UB) fun σ H Q ⟨P,env,F,re,p,LA,k⟩=>?_
 unfold ev at LA;obtain⟨Pq,h1,LA⟩:=Rs.Lz LA;cases LA;intro a ha;obtain⟨kvs,e1,e2,e3⟩:=Cg g2 (dH h1) (xs:=[]) fun _=>trivial
 refine sA ⟨aM,kvs,e1,by omega,?_⟩;have eu:upd (upd H a (.dK [])) a (.dK (iT [] kvs))=upd H a (.dK (iT [] kvs)):=by
  funext b;by_cases e:b=a
  .rw[e,aM,aM]
  .rw[aO e,aO e,aO e]
 rw[eu];refine k _ _ [a] (aH.new ha) (.LI (xs:=iT [] kvs) aM (e3 _)) ⟨fun b hb=>?_,fun R hR=>⟨by simp,fun b hb=>?_,fun b hb=>?_⟩⟩
 .obtain rfl:=iq.mp hb;exact .inl ha
 .obtain rfl:=iq.mp hb;exact⟨.k _,aM⟩
 .obtain rfl:=iq.mp hb;exact .inl ha
theorem w9 {b:Expr}(h:wZ b=some e):∃q,b = .List [e] q/\∀env,starEach [e] env=(false,eval e env)::starEach [] env:=by
 unfold wZ at h;split at h
 .split at h
  .split at h
   .cases h;exact⟨_,rfl,fun _=>rfl⟩
   .cases h
  .cases h
 .cases h
theorem BH {a:Expr}{pos q:Pos}(ha:PE X a (tE X.K T ca))(he:PE X e (tE X.K T ce))(hs:∀env,starEach [e] env=(false,eval e env)::starEach [] env):PE X (.BinOp a .Add (.List [e] q) pos) (tE X.K T (.snoc ca ce)):=by
 refine bW (ua wX ha (vh (aL he bB (hs _)))) fun σ H Q ⟨P,env,F,re,p,LA,k⟩=>?_
 unfold ev at LA;obtain⟨x,h1,LA⟩:=Rs.Lz LA;obtain⟨y,h2,LA⟩:=Rs.Lz LA;obtain⟨d,h3,LA⟩:=Rs.Lz LA;cases LA;have h3:=dH h3;obtain⟨x1,xr⟩:=x;obtain⟨y1,yr⟩:=y;unfold D0 at h3;dsimp only at h3;split at h3
 .rename_i xs;split at h3
  .rename_i hc;cases h3;rw[ao,decide_eq_true_iff] at hc;refine⟨P,env,F,re,_,h1,fun v H1 G1 s1 r1 t1=>?_⟩;obtain⟨pa,vs,G1',rfl,rfl,a1,a2⟩:=r1.lst_inv;have eG:G1'=[]:=a2.flat hc.1;subst eG;refine⟨P,env,F,re.same s1,_,h2,fun u H2 G2 s2 r2 t2=>⟨(show (1:Nat)<=sizeLine by decide),fun p' hp'=>?_⟩⟩;obtain⟨nd,ml,nw⟩:=t2.mv [] rfl;have s3:=aH.new (o:=.lst [u]) hp';have a1':Rd (upd H2 p' (.lst [u])) pa (.lst vs):=by
    rcases a1 with q | ⟨o,q⟩
    .exact .inl ((s2.trans s3) _ _ q)
    .exact .inr ⟨o,(s2.trans s3) _ _ q⟩
   refine⟨pa,p',vs,[u],rfl,rfl,a1',.inl aM,?_,fun q0 Rx=>?_⟩
   .have hl:=a2.len;rw[<-hl];exact hJ hc.2
   .have s4:=aH.new (o:=.lst (vs ++ [u])) Rx;have SK:=s1.trans (s2.trans (s3.trans s4));have P8:∀z∈G2,H z=none:=fun z hz=>by
     rcases nw z hz with w | ⟨i,_,_,hi,_⟩
     .exact aH.no s1 w
     .cases hi
    have nn2:∀z∈G2,H2 z≠none:=fun z hz=>by
     obtain⟨m,e⟩:=ml z hz;rw[e];simp
    refine k (.ref q0) _ (q0::G2) SK (.lst (.inl aM) ?_) ⟨fun z hz=>?_,fun R hR=>⟨?_,fun z hz=>?_,fun z hz=>?_⟩⟩
    .have ra:=a2.same (s2.trans (s3.trans s4));have rb:=r2.same (s3.trans s4);have:=ra.append (.cons rb .nil)
     rwa [dq,ay] at this
    .rcases je.mp hz with rfl | hz
     .exact .inl (aH.no (s1.trans (s2.trans s3)) Rx)
     .exact .inl (P8 z hz)
    .refine List.nodup_cons.mpr ⟨fun hz=>?_,nd⟩;have:=aH.no s3 Rx;exact nn2 q0 hz this
    .rcases je.mp hz with rfl | hz
     .exact⟨.l _,aM⟩
     .obtain⟨m,e⟩:=ml z hz;exact⟨m,(s3.trans s4) z _ e⟩
    .rcases je.mp hz with rfl | hz
     .exact .inl (aH.no (s1.trans (s2.trans s3)) Rx)
     .exact .inl (P8 z hz)
  .cases h3
 .cases h3
theorem bY:∀(n:Nat) {X:Cx}{S:Sc}{T:Tb}(C:Ctx X S T) (e:Expr) (c:Ex),cE n S e=some c->SE X T e c:=by
 intro n
 induction n with
 |zero=>intro X S T C e c h;cases h
 |succ n ih =>
  intro X S T C e c h;have Ma:=ih C;cases e with
  |Name x p =>
   have h:AQ S x=some c:=h;unfold AQ at h;by_cases hn:dW x=true
   .rw[if_pos hn] at h;obtain⟨n1,n2,n3⟩:=dU hn;by_cases hv:sX S.sc x=true
    .rw[if_pos hv,ae] at h;obtain⟨i,h1,rfl⟩:=h;have hi:=cR h1;rw[<-C.N] at hi;have:=FW (T:=T) (pos:=p) hi (C.QV x hv) n1 n2;exact⟨this,dA this fun _=>rfl⟩
    .rw[if_neg hv] at h;by_cases hg:ue S.sc x=true
     .rw[if_pos hg,ae] at h;obtain⟨i,h1,rfl⟩:=h;obtain⟨v,u,g1,g2,g3⟩:=C.uz i x h1;have:=EJ (eI (pos:=p) (C.gl x hg) g1 g2 n1) g3;exact⟨this,dA this fun _=>rfl⟩
     .rw[if_neg hg] at h;cases h
   .rw[if_neg hn] at h;cases h
  |Constant k x1 p =>
   have h:Jg k=some c:=h;cases k with
   |int i=>cases h;exact⟨jG (T:=T) lZ fun H=>Rep.int _,dA (jG (T:=T) lZ fun H=>Rep.int _) fun _=>rfl⟩
   |bool b=>cases h;exact⟨jG (T:=T) DX fun H=>Rep.bl _,dA (jG (T:=T) DX fun H=>Rep.bl _) fun _=>rfl⟩
   |none=>cases h;exact⟨jG (T:=T) uG fun H=>Rep.LC,dA (jG (T:=T) uG fun H=>Rep.LC) fun _=>rfl⟩
   |str s=>cases h;exact⟨jG (T:=T) jA fun H=>Rep.str _,dA (jG (T:=T) jA fun H=>Rep.str _) fun _=>rfl⟩
   |_=>cases h
  |BinOp a op b p =>
   have h:Fg (cE n S) a op b=some c:=h;unfold Fg at h;cases LO:wZ b with
   |none =>
    rw[LO] at h;dsimp only at h;rw[ag] at h;obtain⟨ca,h1,h⟩:=h;rw[ae] at h;obtain⟨cb,h2,rfl⟩:=h;have:=Gp (pos:=p) (Bt op) (Ma a ca h1).1 (Ma b cb h2).1;exact⟨this,dA this fun _=>rfl⟩
   |some e =>
    rw[LO] at h;dsimp only at h;by_cases ho:isAdd op=true
    .rw[if_pos ho] at h;rw[ag] at h;obtain⟨ca,h1,h⟩:=h;rw[ae] at h;obtain⟨ce,h2,rfl⟩:=h;obtain⟨q,hq,hse⟩:=w9 LO;have ho:op = .Add:=by cases op<;>first | rfl | (cases ho)
     subst ho;rw[hq];have:=BH (pos:=p) (q:=q) (Ma a ca h1).1 (Ma e ce h2).1 hse;exact⟨this,dA this fun _=>rfl⟩
    .rw[if_neg ho] at h;cases h
  |UnaryOp op a p =>
   have h:XF op (cE n S a)=some c:=h;cases op with
   |USub =>
    have h:(cE n S a).map .neg=some c:=h;rw[ae] at h;obtain⟨ca,h1,rfl⟩:=h;have:=GN (pos:=p) (Ma a ca h1).1;exact⟨this,dA this fun _=>rfl⟩
   |Not =>
    have h:(cE n S a).map .not=some c:=h;rw[ae] at h;obtain⟨ca,h1,rfl⟩:=h;exact⟨Hz (Ma a ca h1).1,FH (Ma a ca h1).2⟩
   |_=>cases h
  |BoolOp op es p =>
   have h:KD (cE n S) op es=some c:=h;have ⟨h1,h2⟩:=wQ (pos:=p) Ma h;exact⟨h1,h2.pt⟩
  |Compare a ops bs p =>
   have h:Jf (cE n S) a ops bs=some c:=h;cases ops with
   |nil=>cases h
   |cons op r=>cases r with
    |nil=>cases bs with
     |nil=>cases h
     |cons b r2=>cases r2 with
      |cons _ _=>cases h
      |nil =>
       have h:A9 (cE n S) a op b=some c:=h;unfold A9 at h;by_cases hb:behindInMarks op b=true
       .rw[if_pos hb] at h;cases h
       .rw[if_neg hb] at h;have hb:behindInMarks op b=false:=by simpa using hb
        rw[ag] at h;obtain⟨ca,h1,h⟩:=h;rw[ae] at h;obtain⟨cb,h2,rfl⟩:=h;exact⟨HG (vW op C.units) (Ma a ca h1).1 (Ma b cb h2).1 hb,HK C.units (Ma a ca h1).1 (Ma b cb h2).1 hb⟩
    |cons Rk r2=>cases r2 with
     |cons _ _=>cases bs<;>cases h
     |nil=>cases bs with
      |nil=>cases h
      |cons b r3=>cases r3 with
       |nil=>cases h
       |cons d r4=>cases r4 with
        |cons _ _=>cases h
        |nil =>
         have h:Ej (cE n S) a op Rk b d=some c:=h;cases h
  |IfExp t a b p =>
   have h:((cE n S t).bind fun cc=>(cE n S a).bind fun ca=>(cE n S b).map fun cb=>.ite cc ca cb)=some c:=h;rw[ag] at h;obtain⟨cc,h1,h⟩:=h;rw[ag] at h;obtain⟨ca,h2,h⟩:=h;rw[ae] at h;obtain⟨cb,h3,rfl⟩:=h;exact⟨HA (Ma t cc h1).2 (Ma a ca h2).1 (Ma b cb h3).1,GB (Ma t cc h1).2 (Ma a ca h2).2 (Ma b cb h3).2⟩
  |List es p =>
   have h:(dY (cE n S) es).map .lst=some c:=h;rw[ae] at h;obtain⟨cs,h1,rfl⟩:=h;have:=EU (pos:=p) (eM Ma h1);exact⟨this,dA this fun _=>rfl⟩
  |Dict ks vs p =>
   have h:G6 S ks vs=some c:=h;unfold G6 at h;split at h
   .cases h
   .split at h
    .rename_i hl;obtain⟨l,h1,rfl⟩:=ae.mp h;have:=Hx (pos:=p) C h1 (by simp) hl;exact⟨this,dA this fun _=>rfl⟩
    .cases h
   .cases h
  |Tuple es x1 p =>
   have h:(dY (cE n S) es).map .tup=some c:=h;rw[ae] at h;obtain⟨cs,h1,rfl⟩:=h;have:=HR (pos:=p) (x1:=x1) (eM Ma h1);exact⟨this,dA this fun _=>rfl⟩
  |Subscript a b p =>
   have h:DZ (cE n S) a b=some c:=h;by_cases hb:jB b=true
   .have h:(if jB b then (cE n S a).bind fun ca=>(cE n S b).map fun cb=>.ix ca cb else none)=some c:=by
     cases b<;>first | exact h | cases hb
    rw[if_pos hb] at h;rw[ag] at h;obtain⟨ca,h1,h⟩:=h;rw[ae] at h;obtain⟨cb,h2,rfl⟩:=h;have:=Ky (pos:=p) (CU C.units.2) (Ma a ca h1).1 (Ma b cb h2).1 (yV hb);exact⟨this,dA this fun _=>rfl⟩
   .cases b with
    |Slice lo hi st p2 =>
     cases st with
     |none =>
      have h:((cE n S a).bind fun ca=>(Ad (cE n S) lo).bind fun l=>(Ad (cE n S) hi).map fun h=>.sl ca l h)=some c:=h;rw[ag] at h;obtain⟨ca,h1,h⟩:=h;rw[ag] at h;obtain⟨cl,h2,h⟩:=h;rw[ae] at h;obtain⟨ch,h3,rfl⟩:=h;have:=IJ (pos:=p) (p2:=p2) (Ma a ca h1).1 (zl Ma h2) (zl Ma h3);exact⟨this,dA this fun _=>rfl⟩
     |some _=>cases h
    |_=>exact absurd rfl hb
  |Call g es ks pos =>
   have h:As S (cE n S) g es ks pos=some c:=h;cases g with
   |Name x p =>
    have h:yD S (cE n S) x es ks=some c:=h;cases ks with
    |nil =>
     have h:wt S (cE n S) x es=some c:=h;have:=DC (p:=p) (pos:=pos) C Ma h;exact⟨this,dA this fun _=>rfl⟩
    |cons k r=>cases r with
     |cons _ _=>obtain⟨_,_,_⟩:=k;cases h
     |nil =>
      obtain⟨k,d,kp⟩:=k;cases k with
      |none=>cases h
      |some kn=>cases es with
       |nil=>cases h
       |cons a r2=>cases r2 with
        |cons _ _=>cases h
        |nil =>
         have h:zS S (cE n S) x a d kn=some c:=h;have:=Cu (p:=p) (kp:=kp) (pos:=pos) C Ma h;exact⟨this,dA this fun _=>rfl⟩
   |Attribute o name apos =>
    cases ks with
    |nil =>
     have h:Dg (cE n S) o name es apos pos=some c:=h;have:=EH (apos:=apos) (cpos:=pos) Ma h;exact⟨this,dA this fun _=>rfl⟩
    |cons _ _=>cases h
   |_=>cases h
  |ListComp elt gens sc pos =>
   have h:XI S (cE n) elt sc gens=some c:=h;cases gens with
   |nil=>cases h
   |cons g r=>cases r with
    |cons _ _=>obtain⟨_,_,_,_⟩:=g;cases h
    |nil =>
     obtain⟨tg,iter,ifs,as⟩:=g;have h:(if as=0 then tZ S (cE n) elt tg iter ifs sc else none)=some c:=h;by_cases ha:as=0
     .rw[if_pos ha] at h;subst ha;have:=Ce (pos:=pos) C (ou C (fun C'=>ih C') h);exact⟨this,dA this fun _=>rfl⟩
     .rw[if_neg ha] at h;cases h
  |_=>cases h
end
section
variable {X:Cx}{T:Tb}
end
structure nz (X:Cx)(S:Sc)(T:Tb):Prop where
 c:Ctx X S T
 sc:X.env.scope=S.sc
 fn:S.sc.kind=.function
 own:PassesOwn (model X.prog X.w) X.A X.env X.xe
noncomputable def Eh (m:Str):Option tJ:=if m = "append" then some .append else if m = "extend" then some .extend else none
noncomputable def AB (m:Str):Option tJ:=none
noncomputable def mi (n:Nat)(S:Sc):Expr->Option (Nat×m6)
 |.Name x _=>if dW x&&sX S.sc x then (idxOf S.N x).map fun i=>(i,.none) else none
 |_=>none
noncomputable def zK:Expr->Bool
 | .Constant (.bool true) _ _=>true
 |.Tuple _ _ _=>true
 |.IfExp _ _ _ _=>true
 |_=>false
noncomputable def mvB (x:Str):Expr->Bool
 |.Name y _=>x==("_law_best" : Str)&&y==("_law_way" : Str)
 | .List (.Name y _::_) _=>x==("_law_rows" : Str)&&y==("_law_turned" : Str)
 |_=>false
noncomputable def BF (n:Nat)(S:Sc)(tg e:Expr):Option St:=match tg with
 |.Name x px=>match e with
  |.ListComp elt [⟨Q2,iter,ifs,0⟩] sc p=>if lU S.sc x then (idxOf S.N x).bind fun i=>(cE n S (.ListComp elt [⟨Q2,iter,ifs,0⟩] sc p)).map fun c=>.asg (.nm i) c false else none
  |e=>if gZ e then none else if lU S.sc x then (idxOf S.N x).bind fun i=>(cE n S e).map fun c=>.asg (.nm i) c (mvB x e) else none
 |.Tuple es k p=>if gZ e || isTup e then none else (nU S es).bind fun is=>(cE n S e).map fun c=>.asg (.tp is) c false
 |.Subscript o ix p=>if zK e then (if jB ix then (match mi n S o with
   | some (i,.none)=>(cE n S ix).bind fun ci=>(cE n S e).map fun ce=>.Ni i ci ce
   |_=>none) else none) else if gZ e || !jB ix then none else (mi n S o).bind fun q=>(cE n S ix).bind fun ci=>(cE n S e).map fun c=>.MH q.1 q.2 ci c
 |_=>none
noncomputable def Cy (n:Nat)(S:Sc)(o:Expr)(name:Str)(es:List Expr)(apos cpos:Pos):Option St :=
 if apos.endLine==cpos.line then (if es.isEmpty then (AB name).bind fun m=>(mi n S o).map fun q=>.mut q.1 q.2 m .nil else (Eh name).bind fun m=>(mi n S o).bind fun q=>match es with
  |[a]=>(dY (cE n S) [a]).map fun cs=>.mut q.1 q.2 m cs
  |[a,b]=>(dY (cE n S) [a,b]).map fun cs=>.mut q.1 q.2 m cs
  |_=>none)
 else none
noncomputable def vA (n:Nat)(S:Sc)(o:Expr)(name:Str)(es:List Expr)(apos cpos:Pos):Option St:=match es with
 |_=>none
noncomputable def VL (n:Nat)(S:Sc)(tg:Expr)(op:Operator)(e:Expr):Option St:=none
noncomputable def C8 (n:Nat)(S:Sc)(tg e:Expr):Option St:=none
noncomputable def Iq (n:Nat)(S:Sc)(e:Expr):Option St:=if gZ e then none else (cE n S e).map .expr
noncomputable def Jz (n:Nat)(S:Sc):Expr->Option St
 |.Constant k x1 p=>(match k with
  |.str _=>some .pass
  |k=>Iq n S (.Constant k x1 p))
 |.Call g es ks cpos=>(match g with
  |.Attribute o name apos=>(match ks with
   |[]=>(match vA n S o name es apos cpos with
    |some c=>some c
    |none=>Cy n S o name es apos cpos)
   |k::ks=>Iq n S (.Call (.Attribute o name apos) es (k::ks) cpos))
  |g=>Iq n S (.Call g es ks cpos))
 |e=>Iq n S e
noncomputable def XN (n:Nat)(S:Sc)(e:Expr):List Expr->Option St
 |[]=>none
 |[tg]=>(match C8 n S tg e with
  |some c=>some c
  |none=>BF n S tg e)
 |_::_::_=>none
noncomputable def VB (n:Nat)(S:Sc):Option Expr->Option St
 |none=>some .N3
 |some e=>(cE n S e).map .ret
noncomputable def vD:oU->bL->Option Nat
 |_,_=>none
theorem zd {x:Nat}(h:vD t cb=some x):t=.nm x:=by
 cases h
noncomputable def KN (n:Nat)(S:Sc)(tg iter:Expr)(ob:Option bL):List Stmt->Option St
 |[]=>if iS iter then (xX S tg).bind fun t=>ob.bind fun cb=>(match vD t cb with
  |some x=>(cE n S iter).map fun c=>.Oe x c cb
  |none=>(Ic S (cE n S) (isTup tg) iter).map fun it=>.LP t it cb) else none
 |_::_=>none
noncomputable def JF (S:Sc):Expr->Option St->Option St
 |_,o=>o
theorem y4 {S:Sc}{e:Expr}{o:Option St}{c:St}(h:JF S e o=some c):o=some c:=h
noncomputable def Vw (n:Nat)(S:Sc)(e:Expr)(ob:Option bL):List Stmt->Option St
 |[]=>(cE n S e).bind fun c=>ob.map fun cb=>.Mu c cb
 |_::_=>none
mutual
noncomputable def cS:Nat->Sc->Stmt->Option St
 |0,_,_=>none
 |n+1,S,st=>match st with
  |.Assign QZ e _=>XN n S e QZ
  |.AugAssign tg op e _=>VL n S tg op e
  |.Expr e _=>Jz n S e
  |.Return o _=>VB n S o
  |.If e a b _=>(cE n S e).bind fun c=>(vR n S a).bind fun ca=>(vR n S b).map fun cb=>.ite c ca cb
  |.For tg iter b oe _=>JF S iter (KN n S tg iter (vR n S b) oe)
  |.While e b oe _=>Vw n S e (vR n S b) oe
  |.Pass _=>some .pass
  |.Raise _ _ _=>some (.expr (.neg (.cst .LC)))
  |_=>none
noncomputable def vR:Nat->Sc->List Stmt->Option bL
 |0,_,_=>none
 |_+1,_,[]=>some .nil
 |n+1,S,s::r=>(cS n S s).bind fun c=>(vR n S r).map fun d=>.cons c d
end
theorem rG {t:Option Expr}{l:Nat}(h:gZ e=false):swapsWith e t l env=pure false:=by
 cases e<;>first | rfl | (cases h)
theorem qr {t:Expr}{l:Nat}(h:gZ e=false):swapsWithSole [t] e l env=pure false:=rG h
variable {apos cpos:Pos}{q:Nat×m6}
section
variable {X:Cx}{S:Sc}{T:Tb}
theorem B5:PS X st (tS X.K T (.expr (.neg (.cst .LC)))):=by
 intro pins s σ H D I h;obtain⟨P,Z,env,F,re,hz,zp,h⟩:=h;exact h.elim
theorem kZ (C:Ctx X S T)(h:mi n S o=some q):PE X o (oS X.K T q.1 q.2):=by
 unfold mi at h;split at h
 .rename_i x p;by_cases hk:(dW x&&sX S.sc x)=true
  .rw[if_pos hk,ae] at h;rw[ao] at hk;obtain⟨i,h1,rfl⟩:=h;obtain⟨n1,n2,n3⟩:=dU hk.1;have hi:=cR h1;rw[<-C.N] at hi;exact FE hi (C.QV x hk.2) n1 n2
  .rw[if_neg hk] at h;cases h
 .cases h
theorem lR (h:mi n S o=some q):attributeBase o name env (eval o env)=eval o env:=by
 unfold mi at h;split at h
 .rfl
 .cases h
theorem EE (C:nz X S T){c:St}(h:BF n S tg e=some c):PS X (.Assign [tg] e pos) (tS X.K T c):=by
 have hN:=C.c.nd;rw[<-C.c.N] at hN;unfold BF at h;split at h
 .rename_i x px;split at h
  .rename_i elt Q2 iter ifs sc p;by_cases hl:lU S.sc x=true
   .rw[if_pos hl,ag] at h;obtain⟨i,h1,h⟩:=h;rw[ae] at h;obtain⟨ce,h2,rfl⟩:=h;have hi:=cR h1;rw[<-C.c.N] at hi;have Pr:swapsWith (.ListComp elt [⟨Q2,iter,ifs,0⟩] sc p) (some (.Name x px)) pos.line X.env=pure (X.env.blockKind == .function&&X.env.kindOf x==some .local&&px.line==p.line && !(sc.names.any fun (n,k)=>n==x&&(k == .local || k == .cell))):=rfl;cases hb:(X.env.blockKind == .function&&X.env.kindOf x==some .local&&px.line==p.line && !(sc.names.any fun (n,k)=>n==x&&(k == .local || k == .cell))) with
    |false =>
     rw[hb] at Pr;exact zQ hN hi (C.c.loc x hl).1 (bY n C.c _ _ h2).1 Pr (C.c.loc x hl).2
    |true =>
     rw[hb] at Pr;cases n with
     |zero=>cases h2
     |succ n =>
      have h2:tZ S (cE n) elt Q2 iter ifs sc=some ce:=h2;obtain⟨pick,t,it,ci,ce',rfl,g1,g2,g3,g4,g5⟩:=ou C.c (fun C'=>bY n C') h2;refine dO (uB g1 C.c.calm g2 g3 (qy (wy g4)) (vc g5) hN hi (C.c.loc x hl).1 (C.c.loc x hl).2 Pr) fun D σ H h=>?_
      obtain⟨P,Z,env,F,re,hz,zp,h⟩:=h;unfold aV at h;obtain⟨p,hp,h⟩:=cQ h;exact qH ⟨P,env,F,re,p,hp,fun v H' G s rp rt=>Be re hz zp s rp rt h⟩
   .rw[if_neg hl] at h;cases h
  .by_cases hc:gZ e=true
   .rw[if_pos hc] at h;cases h
   .rw[if_neg hc] at h;by_cases hl:lU S.sc x=true
    .rw[if_pos hl,ag] at h;obtain⟨i,h1,h⟩:=h;rw[ae] at h;obtain⟨ce,h2,rfl⟩:=h;have hi:=cR h1;rw[<-C.c.N] at hi;exact zQ hN hi (C.c.loc x hl).1 (bY n C.c _ _ h2).1 (rG (by simpa using hc)) (C.c.loc x hl).2
    .rw[if_neg hl] at h;cases h
 .rename_i es k p;by_cases hc:(gZ e || isTup e)=true
  .rw[if_pos hc] at h;cases h
  .rw[if_neg hc,ag] at h;simp only[Bool.or_eq_true,not_or,Bool.not_eq_true] at hc;obtain⟨is,h1,h⟩:=h;rw[ae] at h;obtain⟨ce,h2,rfl⟩:=h;obtain⟨a1,a2,a3⟩:=sf C.c h1;refine BN (zE C.c.calm a1 a2 a3) (bY n C.c _ _ h2).1 (qr hc.1) ?_ rfl;obtain⟨_,hc⟩:=hc;cases e<;>first | rfl | (cases hc)
 .rename_i o ix p;by_cases ht:zK e=true
  .rw[if_pos ht] at h;by_cases hp:jB ix=true
   .rw[if_pos hp] at h;split at h
    .rename_i i hq;rw[ag] at h;obtain⟨ci,h2,h⟩:=h;rw[ae] at h;obtain⟨ce,h3,rfl⟩:=h;have TU:PE X o (oS X.K T i .none):=kZ C.c hq;refine dO (zY ?_ TU (bY n C.c _ _ h2).1 (bY n C.c _ _ h3).1 ?_) fun D σ H h=>xA h
     .have:=C.c.units;omega
     .cases e<;>first | rfl | (cases ht)
    .cases h
   .rw[if_neg hp] at h;cases h
  rw[if_neg ht] at h;by_cases hc:(gZ e || !jB ix)=true
  .rw[if_pos hc] at h;cases h
  .rw[if_neg hc,ag] at h;simp only[Bool.or_eq_true,not_or,Bool.not_eq_true,Bool.not_eq_false'] at hc;obtain⟨q,h1,h⟩:=h;rw[ag] at h;obtain⟨ci,h2,h⟩:=h;rw[ae] at h;obtain⟨ce,h3,rfl⟩:=h;refine dO (AX (bY n C.c _ _ h3).1 (Ft (kZ C.c h1) (bY n C.c _ _ h2).1 set_list ?_) (qr hc.1) ?_ rfl) fun D σ H h=>zT h
   .intro v;obtain⟨_,hc⟩:=hc;cases ix<;>first | rfl | (cases hc)
   .cases e<;>rfl
 .cases h
theorem F8 (C:nz X S T){c:St}(h:Cy n S o name es apos cpos=some c):PS X (.Expr (.Call (.Attribute o name apos) es [] cpos) pos) (tS X.K T c):=by
 unfold Cy at h;by_cases hl:(apos.endLine==cpos.line)=true
 .rw[if_pos hl] at h;by_cases he:es.isEmpty=true
  .rw[if_pos he,ag] at h;have he:es=[]:=by simpa using he
   subst he;obtain⟨m,hm,h⟩:=h;rw[ae] at h;obtain⟨q,hq,rfl⟩:=h;have slot:∃id,PySem.Slot "list" name id/\typeOf (.builtin id)=pure (.type "method_descriptor")/\BC X id (xo X.K m):=by
    unfold AB at hm;cases hm
   obtain⟨id,s1,s2,s3⟩:=slot;exact dO (kN (HU iw s1 s2 s3 (kZ C.c hq) (lR hq) hl) rfl) fun D σ H h=>xN h
  rw[if_neg he,ag] at h;obtain⟨m,hm,h⟩:=h;rw[ag] at h;obtain⟨q,hq,h⟩:=h;have slot:∃id,PySem.Slot "list" name id/\typeOf (.builtin id)=pure (.type "method_descriptor")/\BC X id (xo X.K m):=by
   unfold Eh at hm;split at hm
   .rename_i e;cases hm;subst e;exact⟨_,PySem.F.slot_list_append,by rfl,vk⟩
   split at hm
   .rename_i e;cases hm;subst e;exact⟨_,PySem.F.slot_list_extend,by rfl,uw⟩
   cases hm
  obtain⟨id,s1,s2,s3⟩:=slot;split at h
  .rename_i a;rw[ae] at h;obtain⟨cs,ha,rfl⟩:=h;obtain⟨n1,c1,d1,_,hd,_⟩:=cA ha;refine dO (kN (qA iw s1 s2 s3 (kZ C.c hq) (eM (bY n C.c) ha) (lR hq) ?_ hl (bV n1) (eY hd)) rfl) fun D σ H h=>nN h
   rw[bV n1];rfl
  .rename_i a b;rw[ae] at h;obtain⟨cs,ha,rfl⟩:=h;obtain⟨n1,c1,d1,_,hd,_⟩:=cA ha;obtain⟨n2,_,_,_,_,_⟩:=cA hd;refine dO (kN (qA iw s1 s2 s3 (kZ C.c hq) (eM (bY n C.c) ha) (lR hq) ?_ hl (bV n1) (eY hd)) rfl) fun D σ H h=>nN h
   rw[bV n1,bV n2];rfl
  .cases h
 .rw[if_neg hl] at h;cases h
theorem C0 (C:nz X S T){c:St}(h:vA n S o name es apos cpos=some c):PS X (.Expr (.Call (.Attribute o name apos) es [] cpos) pos) (tS X.K T c):=by
 cases h
theorem GI (C:nz X S T){c:St}(h:C8 n S tg e=some c):PS X (.Assign [tg] e pos) (tS X.K T c):=by
 cases h
theorem IQ (C:nz X S T):∀(n:Nat),(∀(st:Stmt) (c:St),cS n S st=some c->PS X st (tS X.K T c))/\∀(l:List Stmt) (c:bL),vR n S l=some c->lP X l (Ee X.K T c):=by
 intro n
 induction n with
 |zero=>exact⟨fun st c h=>(by cases h),fun l c h=>(by cases h)⟩
 |succ n ih =>
  obtain⟨i1,i2⟩:=ih;refine⟨fun st c h=>?_,fun l c h=>?_⟩
  .cases st with
   |Assign QZ e p =>
    have h:XN n S e QZ=some c:=h;cases QZ with
    |nil=>cases h
    |cons tg r=>cases r with
     |cons _ _=>cases h
     |nil =>
      have h:(match C8 n S tg e with
       |some c=>some c
       |none=>BF n S tg e)=some c:=h
      cases hp:C8 n S tg e with
      |some c'=>rw[hp] at h;cases h;exact GI C hp
      |none=>rw[hp] at h;exact EE C h
   |AugAssign tg op e p=>cases h
   |Expr e p =>
    have h:Jz n S e=some c:=h;have plain:Iq n S e=some c->PS X (.Expr e p) (tS X.K T c):=fun h=>by
     unfold Iq at h;by_cases hc:gZ e=true
     .rw[if_pos hc] at h;cases h
     .rw[if_neg hc,ae] at h;obtain⟨ce,h1,rfl⟩:=h;exact CW (bY n C.c _ _ h1).1 (rG (by simpa using hc))
    cases e with
    |Constant k x1 q=>cases k with
     |str s=>cases h;exact GU
     |_=>exact plain h
    |Call g es ks q=>cases g with
     |Attribute o name apos=>cases ks with
      |nil =>
       have h:(match vA n S o name es apos q with
        |some c=>some c
        |none=>Cy n S o name es apos q)=some c:=h
       cases ha:vA n S o name es apos q with
       |some c'=>rw[ha] at h;cases h;exact C0 C ha
       |none=>rw[ha] at h;exact F8 C h
      |cons k ks=>exact plain h
     |_=>exact plain h
    |_=>exact plain h
   |Return o p=>cases o with
    |none=>cases h;exact Cm
    |some e =>
     have h:(cE n S e).map .ret=some c:=h;rw[ae] at h;obtain⟨ce,h1,rfl⟩:=h;exact FQ (bY n C.c _ _ h1).1
   |If e a b p =>
    have h:((cE n S e).bind fun c=>(vR n S a).bind fun ca=>(vR n S b).map fun cb=>St.ite c ca cb)=some c:=h;rw[ag] at h;obtain⟨cc,h1,h⟩:=h;rw[ag] at h;obtain⟨ca,h2,h⟩:=h;rw[ae] at h;obtain⟨cb,h3,rfl⟩:=h;exact EO (bY n C.c _ _ h1).2 (i2 _ _ h2) (i2 _ _ h3)
   |For tg iter b oe p =>
    have key:∀c,KN n S tg iter (vR n S b) oe=some c->PS X (.For tg iter b oe p) (tS X.K T c):=by
     intro c h;cases oe with
      |cons _ _=>cases h
      |nil =>
       have h:(if iS iter then (xX S tg).bind fun t=>(vR n S b).bind fun cb=>(match vD t cb with
        |some x=>(cE n S iter).map fun c=>St.Oe x c cb
        |none=>(Ic S (cE n S) (isTup tg) iter).map fun it=>St.LP t it cb) else none)=some c:=h
       by_cases hs:iS iter=true
       .rw[if_pos hs,ag] at h;obtain⟨t,h1,h⟩:=h;rw[ag] at h;obtain⟨cb,h3,h⟩:=h;cases hx:vD t cb with
        |some x =>
         rw[hx] at h;have h:(cE n S iter).map (fun c=>St.Oe x c cb)=some c:=h;rw[ae] at h;obtain⟨ci,h2,rfl⟩:=h;have ht:=zd hx;subst ht;cases hx
        |none =>
         rw[hx] at h;have h:(Ic S (cE n S) (isTup tg) iter).map (fun it=>St.LP t it cb)=some c:=h;rw[ae] at h;obtain⟨it,h2,rfl⟩:=h;exact HN C.own C.c.calm (D9 C.c (bY n C.c) h2) (yz C.c h1) (i2 _ _ h3) (vc hs)
       .rw[if_neg hs] at h;cases h
    exact key c (y4 (S:=S) (e:=iter) h)
   |While e b oe p=>cases oe with
    |cons _ _=>cases h
    |nil =>
     have h:((cE n S e).bind fun c=>(vR n S b).map fun cb=>St.Mu c cb)=some c:=h;rw[ag] at h;obtain⟨cc,h1,h⟩:=h;rw[ae] at h;obtain⟨cb,h3,rfl⟩:=h;exact G7 C.own (bY n C.c _ _ h1).2 (i2 _ _ h3)
   |Pass p=>cases h;exact Bx
   |Raise a b p=>cases h;exact B5
   |_=>cases h
  .cases l with
   |nil=>cases h;exact B3
   |cons st r =>
    unfold vR at h;rw[ag] at h;obtain⟨cc,h1,h⟩:=h;rw[ae] at h;obtain⟨cb,h3,rfl⟩:=h;exact Ar (i1 _ _ h1) (i2 _ _ h3)
end
structure Df where
 nm:Str
 st:Stmt
 ps:List Str
 N:List Str
 body:bL
structure Pg where
 Nb:List Df
 uz:List Str
 hV:List Str
 gl:Nat->D
 fuel:Nat
noncomputable def Pg.fns (p:Pg):List Fn:=p.Nb.map fun d=>⟨d.ps.length,d.N.length,d.body⟩
noncomputable def Pg.run (p:Pg):Nat->Nat->List D->Rs (D×Bool):=Pc.run p.fns p.gl p.fuel
noncomputable def Pg.sc (p:Pg)(d:Df):Sc:=⟨d.N,aG d.st,p.Nb.map (·.nm),p.uz,p.hV⟩
noncomputable def Df.Ir (p:Pg)(n:Nat)(d:Df):Bool :=
 decide ((aG d.st).kind=.function) && !(aG d.st).isCoroutine && !(aG d.st).isGenerator&&decide d.N.Nodup&&decide (d.N.take d.ps.length=d.ps)&&d.ps.all (fun x=>lU (aG d.st) x)&&(aG d.st).names.all (fun y=>decide (y.2≠.free))
structure Df.Ok (p:Pg)(d:Df):Prop where
 b:∃n,vR n (p.sc d) (bD d.st)=some d.body
 S:cL d.N d.ps (aG d.st)
 bd:∀(kV doc pm:Value) (an:Option Addr) (LD ct:Value) (us:List Value),us.length=d.ps.length->bindArgs (PySem.W.fnOf d.nm d.nm (cH d.st) (bD d.st) (aG d.st) .none kV doc pm an LD ct) ⟨us,[]⟩=pure (d.ps.zip us)
theorem lB {sc:Scope}(h:lU sc x=true):Loc sc x:=by
 unfold lU dX at h;split at h
 .rename_i e;exact .inl e
 .rename_i e;exact .inr e
 .cases h
theorem sR {sc:Scope}(h:sX sc x=true):D4 sc x:=by
 unfold sX dX at h;split at h
 .rename_i e;exact .inl e
 .rename_i e;exact .inr (.inl e)
 .rename_i e;exact .inr (.inr e)
 .cases h
theorem wI {sc:Scope}(h:ue sc x=true):sc.names.lookup x=some .globalImplicit:=by
 unfold ue dX at h;split at h
 .rename_i e;exact e
 .cases h
theorem len0 {P:List Value->Prop}(h:us.length=0)(f:P []):P us:=by
 cases us with
 |nil=>exact f
 |cons a r=>cases h
theorem uD {P:List Value->Prop}{us:List Value}(h:us.length=1)(f:∀a,P [a]):P us:=by
 cases us with
 |nil=>cases h
 |cons a r=>exact len0 (P:=fun r=>P (a::r)) (jk h) (f a)
theorem zw {P:List Value->Prop}{us:List Value}(h:us.length=2)(f:∀a b,P [a,b]):P us:=by
 cases us with
 |nil=>cases h
 |cons a r=>exact uD (P:=fun r=>P (a::r)) (jk h) (f a)
theorem HL {P:List Value->Prop}{us:List Value}(h:us.length=3)(f:∀a b c,P [a,b,c]):P us:=by
 cases us with
 |nil=>cases h
 |cons a r=>exact zw (P:=fun r=>P (a::r)) (jk h) (f a)
theorem To {P:List Value->Prop}{us:List Value}(h:us.length=4)(f:∀a b c d,P [a,b,c,d]):P us:=by
 cases us with
 |nil=>cases h
 |cons a r=>exact HL (P:=fun r=>P (a::r)) (jk h) (f a)
theorem Df.MI {p:Pg}{d:Df}{n:Nat}(h:d.Ir p n=true)(hb:vR n (p.sc d) (bD d.st)=some d.body)
  (bd:∀(kV doc pm:Value) (an:Option Addr) (LD ct:Value) (us:List Value),us.length=d.ps.length->bindArgs (PySem.W.fnOf d.nm d.nm (cH d.st) (bD d.st) (aG d.st) .none kV doc pm an LD ct) ⟨us,[]⟩=pure (d.ps.zip us)):d.Ok p:=by
 unfold Df.Ir at h;simp only[Bool.and_eq_true,decide_eq_true_eq,Bool.not_eq_true',List.all_eq_true] at h;obtain⟨⟨⟨⟨⟨⟨h1,h2⟩,h3⟩,h4⟩,h5⟩,h6⟩,h7⟩:=h;exact⟨⟨n,hb⟩,⟨h1,h2,h3,h4,h5,fun x hx=>lB (h6 x hx),h7⟩,bd⟩
structure Pg.In (p:Pg)(K:Frag)(mg:Str->Option Value):Prop where
 fn:∀(i:Nat) (d:Df),p.Nb[i]? = some d->∃f fd,L2.lI K d.nm d.nm d.st f fd/\mg d.nm=some (.ref f)
 gl:∀i x,idxOf p.uz x=some i->∃v u,mg x=some u/\RelV v u/\∀H,Rep K H (p.gl i) v []
 blt:∀x,p.hV.contains x=true->mg x=none
theorem mB {t:Tg}(h:(aI ds n)[i]? = some (some (d,t))):ds[i]? = some d/\t=bE d []:=by
 unfold aI at h;by_cases hi:i<ds.length
 .rw[List.getElem?_append_left (by simpa using hi),List.getElem?_map] at h;rw[List.getElem?_eq_getElem hi] at h ⊢;simp only[Option.map_some,Option.some.injEq,Prod.mk.injEq] at h;obtain⟨h1,h2⟩:=h;subst h1;exact⟨rfl,h2.symm⟩
 .rw[List.getElem?_append_right (by simpa using Nat.le_of_not_lt hi),List.getElem?_replicate] at h;split at h<;>cases h
theorem aJ.parts:∀{ds:List D}{vs:List V}{G:List Addr},aJ K H ds vs G->∃F:Nat->List Addr,(∀i d,ds[i]? = some d->∃v,vs[i]? = some v/\Rep K H d v (F i))/\(∀i,ds[i]? = none->F i=[])/\∀i,∀a∈F i,a∈G
 |_,_,_,.nil=>⟨fun _=>[],fun i d h=>(by simp at h),fun _ _=>rfl,fun _ _ h=>(nomatch h)⟩
 | _,_,_,.cons (d:=d) (v:=v) (ds:=ds) (vs:=vs) (G:=G1) (G':=G2) r s=>by
  obtain⟨F,h1,h2,h3⟩:=aJ.parts s;refine⟨fun i=>match i with | 0=>G1 | j+1=>F j,fun i e h=>?_,fun i h=>?_,fun i a h=>?_⟩
  .cases i with
   |zero=>cases h;exact⟨v,rfl,r⟩
   |succ j=>exact h1 j e (by simpa using h)
  .cases i with
   |zero=>cases h
   |succ j=>exact h2 j (by simpa using h)
  .cases i with
   |zero=>exact bo _ h
   |succ j=>exact ax _ (h3 j a h)
theorem entry {N:List Str}(hr:aJ K H ds vs G)(hl:ds.length<=N.length):∃F,RE K (fun a=>H a≠none) (aI ds N.length) (L2.start N vs) H F/\∀i,∀a∈F i,a∈G:=by
 obtain⟨F,h1,h2,h3⟩:=hr.parts;have flat:∀i d t,(aI ds N.length)[i]? = some (some (d,t))->bR t=true->F i=[]:=fun i d t h o=>by
  obtain⟨e1,e2⟩:=mB h;obtain⟨v,_,rp⟩:=h1 i d e1;unfold bE at e2;by_cases hf:d.flat=true
  .exact rp.flat hf
  .rw[if_neg hf] at e2;subst e2;cases o
 refine⟨F,⟨?_,fun i d t h=>?_,fun i h=>?_,fun i d t h o=>?_,fun i d h a ha=>?_,fun a h=>h⟩,h3⟩
 .simp only[aI,L2.start,List.length_append,List.length_map,List.length_replicate,hr.len]
 .obtain⟨e1,e2⟩:=mB h;obtain⟨v,e3,rp⟩:=h1 i d e1;refine⟨v,?_,rp⟩;unfold L2.start;have hi:i<vs.length:=(List.getElem?_eq_some_iff.mp e3).1;rw[List.getElem?_append_left (by simpa using hi),List.getElem?_map,e3];rfl
 .cases e:ds[i]? with
  |none=>exact h2 i e
  |some d =>
   refine absurd ?_ (h d (bE d []));unfold aI;have hi:i<ds.length:=(List.getElem?_eq_some_iff.mp e).1;rw[List.getElem?_append_left (by simpa using hi),List.getElem?_map,e];rfl
 .rw[flat i d t h o];exact⟨cu,fun _ h=>(nomatch h),fun _ h=>(nomatch h)⟩
 .rw[flat i d _ h rfl] at ha;cases ha
theorem qu {α:Type}{g:α->Str}:∀{l:List α}{x:Str}{i:Nat},idxOf (l.map g) x=some i->∃a,l[i]? = some a/\g a=x:=by
 intro l x i h;have:=cR h;rw[List.getElem?_map,ae] at this;exact this
theorem tH (e:lH (fun a=>H a≠none) H H'):aH H H':=fun b u h=>(e.keep b (by rw[h];exact fun z=>(by cases z))).trans h
section
variable {p:Pg}{P:Program}{w:World}{K:Frag}{mg:Str->Option Value}{base:Heap}
end
noncomputable def Rm (K:Frag):Bool:=K.all fun p=>match p.2.cls with
 |.type n=>!(n == "list")
 |_=>true
theorem lookup_mem:∀{K:Frag}{a:Addr}{o:Obj},K.lookup a=some o->(a,o)∈K
 |[],_,_,h=>by cases h
 | (b,x)::r,a,o,h=>by
  rw[du] at h;cases e:a==b with
  |true =>
   rw[e] at h;cases h;rw[ik] at e;rw[e];exact aj
  |false=>rw[e] at h;exact ai _ (lookup_mem h)
theorem Hc {o:Obj}(h:Rm K=true)(l:K.lookup a=some o)(c:o.cls=.type "list"):False:=by
 unfold Rm at h;rw[cv] at h;have:=h _ (lookup_mem l);rw[c] at this;simp at this
theorem qa:∀ns:List Int,aJ K H (ns.map D.int) (ns.map V.int) []
 |[]=>.nil
 |n::r=>.cons (.int n) (qa r)
theorem Fw {f:List D->Rs (D×Bool)}{fr:Bool}(hL:Rm K=true)(hS:o9 K H a (ns.map V.int))(hf:f [.lst (ns.map D.int)]=.ok (.bl true,fr)):zy K 1 f [.ref a] H (fun v _=>v=.bl true) E:=by
 rcases hS with h | ⟨o,its,n,h1,h2,_⟩
 .refine⟨[.lst (ns.map D.int)],[a] ++ [],rfl,.cons (.lst h (qa ns)) .nil,(.bl true,fr),hf,fun v H' G' _ rp _ _=>?_⟩;exact rp.LM.1
 .exact (Hc hL h1 h2).elim
noncomputable def Cp (es:List DictEntry):Bool:=es.all (fun e=>match e.val with
  |.int _ _=>true
  |.none=>true
  |_=>false)&&es.any (fun e=>match e.key with
  |.str _ _=>true
  |_=>false)
noncomputable def noS (as:List Addr)(K:Frag):Bool:=K.all fun p=>as.contains p.1 || match p.2.data with
 |.dict es _=>!Cp es.toList
 |_=>true
noncomputable def hashes (w:World):List DictEntry->Prop
 |[]=>True
 |e::r=>(match e.key with
  |.str s _=>e.hash=hashStr w s
  |_=>True)/\hashes w r
theorem Eg (h:noS [] K=true):Bp w K:=trivial
def XZ (K:Frag)(d:Df):Prop:=∃(f:Addr) (oc:Value) (od:Option Addr) (kV dc pm:Value) (an:Option Addr) (cd ct:Value) (sl:Array (Option Value)),
 PySem.W.nsIn K mainGlobals d.nm=some (some (.ref f))/\K.lookup f=some ⟨oc,od,.func (PySem.W.fnOf d.nm d.nm (cH d.st) (bD d.st) (aG d.st) .none kV dc pm an cd ct),sl⟩/\PySem.W.codeIn K cd d.nm=true/\PySem.W.keepIn K (.ref f)=true
def qI (K:Frag)(x:Str)(d:D):Prop:=∃v u,PySem.W.nsIn K mainGlobals x=some (some u)/\RelV v u/\∀H,Rep K H d v []
noncomputable def tP {α:Type}(P:α->Prop):List α->Prop
 |[]=>True
 |a::r=>P a/\tP P r
theorem dE {α:Type}{P:α->Prop}:∀{l:List α},tP P l->∀a∈l,P a
 |[],_,a,h=>by cases h
 | b::r,⟨h1,h2⟩,a,h=>by
  rcases je.mp h with rfl | h
  .exact h1
  .exact dE h2 a h
structure uP (p:Pg)(K:Frag):Prop where
 fn:tP (XZ K) p.Nb
 gl:∀i x,idxOf p.uz x=some i->qI K x (p.gl i)
 blt:tP (fun x=>PySem.W.nsIn K mainGlobals x=some none) p.hV
theorem uP.isin {p:Pg}{mg:Str->Option Value}(s:uP p K)(X:K.In h)(G:h.Ns mainGlobals mg):p.In K mg where
 fn:=fun i d hd=>by
  obtain⟨f,oc,od,kV,dc,pm,an,cd,ct,sl,a,l,c,k⟩:=dE s.fn d (List.mem_of_getElem? hd);exact⟨f,_,Ge (st:=d.st) l c k,cz X G a⟩
 gl:=fun i x hx=>by
  obtain⟨v,u,a,b,c⟩:=s.gl i x hx;exact⟨v,u,cz X G a,b,c⟩
 blt:=fun x hx=>PySem.W.mg_none_of X G (dE s.blt x (by simpa using hx))
end Pc
end
section
namespace Pc
open PySem
theorem aA {α β:Type}(a:α)(f:α->Rs β):(Rs.ok a).bind f=f a:=rfl
theorem bA {α:Type}(env:En)(a:α)(k:α->Fl):j8 env (.ok a) k=k a:=rfl
theorem aD (e:En)(k:En->Fl):(Fl.nx e).andThen k=k e:=rfl
theorem BV (d:D)(b:Bool)(k:En->Fl):(Fl.rt d b).andThen k=.rt d b:=rfl
theorem bZ {α:Type}(a:α):eW (some a)=.ok a:=rfl
theorem gH (op:Operator)(i j:Int):ph op (.int i) (.int j)=(Pc.binI op i j).map .int:=by cases op<;>rfl
theorem fW (i:Int)(R:List Nat):eT (.int i) R=.mv []:=rfl
theorem fC:∀l:List Int,D.LF (l.map D.int)=true
 |[]=>rfl
 |_::r=>fC r
theorem iO (l:List Int)(R:List Nat):eT (.lst (l.map D.int)) R=.mv []:=by
 unfold eT;rw[if_pos];exact fC l
theorem tM (n:Nat):∀a b:List Int,a.length=b.length->ub (D.L4 (n+1)) (a.map D.int) (b.map D.int)=some (a==b)
 |[],[],_=>rfl
 | x::a,y::b,h=>by
  show (some (x==y)).bind (fun c=>(ub (D.L4 (n+1)) (a.map D.int) (b.map D.int)).map fun d=>c&&d)=_;rw[tM n a b (by simpa using h)];rfl
 |[],_::_,h=>by simp at h
 |_::_,[],h=>by simp at h
theorem wg (n:Nat)(a b:List Int):D.L4 (n+2) (.lst (a.map D.int)) (.lst (b.map D.int))=some (a==b):=by
 show (if (a.map D.int).length=(b.map D.int).length then ub (D.L4 (n+1)) (a.map D.int) (b.map D.int) else some false)=_;by_cases h:a.length=b.length
 .rw[if_pos (by simpa using h),tM n a b h]
 .rw[if_neg (by simpa using h)];have:(a==b)=false:=by
   rw[gd];rintro rfl;exact h rfl
  rw[this]
theorem nu {f:D->Rs (Option (D×Rt))}{g:Int->D}:∀{l:List Int},(∀i∈l,f (.int i)=.ok (some (g i,.mv [])))->gJ f (l.map D.int)=.ok (l.map fun i=>(g i,.mv []))
 |[],_=>rfl
 | i::l,h=>by
  simp only[List.map_cons,gJ];rw[h i aj,nu fun j hj=>h j (ai _ hj)];rfl
noncomputable def jy:Int->Int->Nat->List Int
 |_,_,0=>[]
 |a,s,n+1=>a::jy (a+s) s n
theorem qf:∀(a s:Int) (n:Nat),aW a s n=(jy a s n).map D.int
 |_,_,0=>rfl
 |a,s,n+1=>by rw[aW,jy,aw,qf]
theorem xJ (n:Nat):(Builtin.Range.rangeSize ((n:Int)-1) (-1) (-1)).toNat=n:=by
 unfold Builtin.Range.rangeSize;rw[if_neg (by decide)];by_cases h:(n:Int)-1 > -1
 .rw[if_pos h];simp
 .rw[if_neg h];omega
theorem uV {x:Int}(h:0<=x):Builtin.bitAnd x 1=x%2:=by
 unfold Builtin.bitAnd;rw[bp h];show ((x.toNat &&& 1:Nat):Int)=_;rw[Nat.and_one_is_mod];omega
end Pc
end
section
namespace Pc
open PySem PySem.Spec PyProof.Rows L2
variable {K:Frag}{oc:Value}{od:Option Addr}{sl:Array (Option Value)}
theorem GV {d:Df}{f:Addr}{kV dc pm:Value}{an:Option Addr}{cd ct:Value}
 (a:PySem.W.nsIn K mainGlobals d.nm=some (some (.ref f))) (l:K.lookup f=some ⟨oc,od,.func (PySem.W.fnOf d.nm d.nm (cH d.st) (bD d.st) (aG d.st) .none kV dc pm an cd ct),sl⟩) (c:PySem.W.codeIn K cd d.nm=true) (k:PySem.W.keepIn K (.ref f)=true):XZ K d :=
 ⟨f,oc,od,kV,dc,pm,an,cd,ct,sl,a,l,c,k⟩
variable {x:Str}
theorem gl_int {i:Int}{t:Tok}(h:PySem.W.nsIn K mainGlobals x=some (some (.int i t))):qI K x (.int i):=⟨.int i,_,h,⟨t,rfl⟩,fun _=>.int i⟩
theorem nh {a:Addr}{its:Array Value}{n:Nat}{ds:List D}{vs:List V}(h:PySem.W.nsIn K mainGlobals x=some (some (.ref a)))
  (l:K.lookup a=some ⟨oc,od,.seq its n,sl⟩) (c:oc=.type "tuple") (hz:its.size<=sizeLine) (hv:aS vs its.toList) (hr:∀H,aJ K H ds vs []) (hp:zD vs=false:=by rfl):qI K x (.tup ds) :=
 ⟨.ref a,_,h,rfl,fun H=>.tup (.inr ⟨hp,_,its,n,l,c,rfl,hz,hv⟩) (hr H)⟩
noncomputable def rh (K:Frag)(g:Nat->D):Nat->List Str->Prop
 |_,[]=>True
 |i,x::r=>qI K x (g i)/\rh K g (i+1) r
variable {g:Nat->D}
theorem tW:∀{l:List Str}{k i:Nat}{x:Str},rh K g k l->idxOf l x=some i->qI K x (g (k+i))
 | y::r,k,i,x,⟨h1,h2⟩,e=>by
  unfold idxOf at e;by_cases hx:y=x
  .rw[if_pos hx] at e;cases e;subst hx;exact h1
  .rw[if_neg hx,ae] at e;obtain⟨j,hj,rfl⟩:=e;have:=tW h2 hj;rw[show k+1+j=k+(j+1) by omega] at this;exact this
theorem Cn {l:List Str}(h:rh K g 0 l):∀i x,idxOf l x=some i->qI K x (g i):=fun i x e=>by
 have:=tW h e
 rwa [fv] at this
end Pc
end
section
namespace Pc
open PySem PySem.Spec PyProof.Rows L2
variable {C:Addr}{K:PySem.W.Frag}{MD:List Value}{h:Heap}{newId:String}
theorem mU (LS:K.In h)(q:PySem.W.excIn K C MD newId=true) :
  ∃bm N nm qn bs hdct sn sub ab col dd k0 k1 k2 k3 k5 mN,h.get? C=some (excClassObj nm qn C N bs bm hdct sn sub ab col dd k0 k1 k2 k3 k5 newId)/\h.Ns N mN/\mN "__init__" = none/\OwnTail h MD bm:=by
 unfold PySem.W.excIn at q;split at q
 .rename_i dd cd sl ho;split at q
  .rename_i C' bm k0 k1 k2 k3 n k5 hm hs;simp only[Bool.and_eq_true,beq_iff_eq,Bool.not_eq_true'] at q;obtain⟨⟨⟨⟨⟨rfl,rfl⟩,NO⟩,ht⟩,LB⟩,OZ⟩:=q;obtain⟨nm,bs,mro,ns,qn,hd,sn,sub,ab,col,del⟩:=cd;dsimp only at hm NO LB OZ;subst hm NO;have TL:sl = #[k0,k1,k2,k3,some (.builtin n),k5]:=by
    obtain⟨l⟩:=sl;simp only at hs;rw[hs]
   subst TL;exact⟨bm,ns,nm,qn,bs,hd,sn,sub,ab,col,dd,k0,k1,k2,k3,k5,_,LS _ _ ho,.of_isNs (PySem.W.isNs_of_in LS LB),PySem.W.nsMap_none_of_in LS LB OZ,PySem.W.tail_of_in LS ht⟩
  .cases q
 .cases q
variable {e:Expr}{es:List Expr}{np pos:Pos}{t:TA}{x:Str}
section
variable {X:Cx}
theorem lA {C:Addr}{B OS:String}{cpos:Pos}{W:Hp->Prop}(hc:X.calm=true)(hg:Gl X x)(hm:X.mg x=some (.ref C))(q:PySem.W.excIn X.K C MD newId=true)(FB:ExcBaseFacts B newId OS MD)(ha:PA X (e::es) t)
  (hw:∀(pins:List (Addr×Obj)) (σ:L2.St) (H:Hp) (s:Shared) (h':Heap) (a:Addr) (us:List Value),W H->Inv X pins σ H s->Heap.MadeExcOf s.heap h' a (.ref C) us->X.xe (.ref a) { s with heap:=h' })
  (hl:∀σ H Q,t σ H Q->t σ H fun vs H'=>vs.length<=sizeLine/\Q vs H')
  (he:starEach (e::es) X.env=(false,eval e X.env)::starEach es X.env:=by rfl) (Md:(backTo cpos (starEach es X.env)).any (·.1)=false:=by rfl) (hd:(x==("__debug__" : Str))=false:=by decide) :
  PS X (.Raise (some (.Call (.Name x np) (e::es) [] cpos)) none pos) (fun D σ H=>t σ H fun vs H'=>W H'):=by
 intro pins s σ H D I h;obtain⟨bm,N,nm,qn,bs,hdct,sn,sub,ab,col,dd,k0,k1,k2,k3,k5,mN,hC,hN,OZ,T⟩:=mU I.ok.mod.LS q;refine wpAny_Raise_call_subT (C:=C) (nm:=nm) (q:=qn) (N:=N) (bs:=bs) (bm:=bm) (hdct:=hdct) (sn:=sn) (sub:=sub) (ab:=ab) (col:=col) (dd:=dd) (k0:=k0) (k1:=k1) (k2:=k2) (k3:=k3) (k5:=k5)
  FB (mN:=mN) (T.hasType FB.hasBase) (I.ok.hd hc) (by rw[he];show (false || (backTo cpos (starEach es X.env)).any (·.1))=false;rw[Md];rfl) OZ (gT I hg hm ⟨rfl,?_⟩ hd)
 have QE:=ha cpos pins s σ H _ I (hl σ H _ h);rw[he] at QE ⊢;refine Calls.evalArgs_plain (wpAny_mono QE (fun us s₂ h₂=>?_) fun _ _ y=>y);obtain⟨vs,H2,I2,r2,l2,w2⟩:=h₂;exact⟨rfl,by rw[<-r2.length];exact l2,I2.bk _ _ hC,hN.keeps I2.bk,T.keeps I2.bk,fun h' a hx=>hw pins σ H2 s₂ h' a us w2 I2 hx⟩
end
def Bf (B:Heap)(fr:List Addr)(H':Hp)(h h':Heap):Prop:=∀b o,h'.get? b=some o->b∈fr\/B.get? b=some o\/(h.get? b=none/\H' b=none)
noncomputable def l7 (P:Program)(w:World):rR:=fun outer H s E e s'=>∃a C a0 H' B,e=.ref a/\s'.os=s.os/\AllBare s'.gens/\Un (iI outer) [] H H' s.heap s'.heap/\jH P w H' s'.heap /\
 Heap.FlyingW B outer a C a0 s'.heap/\Bf B (iI outer) H' s.heap s'.heap/\E C none H'
variable {H:Hp}{P:Program}{w:World}
theorem sM {h':Heap}(x:jH P w H h)(k:∀b o,H b≠none->h.get? b=some o->h'.get? b=some o):jH P w H h':=fun a o e =>
 (x a o e).LN (fun b u hb q=>k b u (by rcases hb with rfl | hb<;>(intro z;simp_all)) q) (fun _ q=>q) fun _ _ q=>q
variable {A:Around}{E:XK}{N:List Str}{a f:Addr}{outer:List Env}{qual:Str}{s:Shared}{us:List Value}
theorem gP {mg:Str->Option Value}{base:Heap}{scope:Scope}{cd:Value}
  {pins:List (Addr×Obj)}{σ:L2.St}{H1:Hp}{s1:Shared}{h2:Heap}{C:Value}(I:Inv (fH (l7 P w) P w K mg base N qual scope f cd A outer s H E) pins σ H1 s1)
  (hx:Heap.MadeExcOf s1.heap h2 a C us) (hE:E C none H1):(fH (l7 P w) P w K mg base N qual scope f cd A outer s H E).xe (.ref a) { s1 with heap:=h2 }:=by
 have LJ:=I.stack;have NN:∀env∈(envOfC qual scope s.heap.objs.size f cd::outer),∀b,env.frame=some b->b∈iI (envOfC qual scope s.heap.objs.size f cd::outer):=fun env he b hb=>List.mem_filterMap.mpr ⟨env,he,hb⟩
 show wpAny (model P w) (A.deeper (envOfC qual scope s.heap.objs.size f cd)) (leaving (envOfC qual scope s.heap.objs.size f cd) (.ref a)) _ _ _;refine wpAny_leaves_madeW (base:=PySem.W.hideAll s1.heap (iI (envOfC qual scope s.heap.objs.size f cd::outer))) (h:=s1.heap) (outer:=outer) I.ok.frames rfl (fun b o q=>PySem.W.of_hideAll _ q) (PySem.W.funFrames_hide LJ NN) hx fun h' t fl tup hbn Sa=>?_
 have L0:∀b o,s.heap.get? b=some o->b≠s.heap.objs.size:=fun b o e=>bw (Heap.lt_size e)
 have fr:iI (envOfC qual scope s.heap.objs.size f cd::outer)=s.heap.objs.size::iI outer:=rfl;have LN:∀b o,s1.heap.get? b=some o->b≠s.heap.objs.size->b∉iI outer->h'.get? b=some o:=fun b o e h1 h2=>fl.1 b o (PySem.W.hideAll_get _ e (by
  rw[fr];intro z;rcases je.mp z with z | z
  .exact h1 z
  .exact h2 z))
 have OA:∀b o,s1.heap.get? b=some o->b∈iI outer->∃sl,h'.get? b=some { o with slots:=sl }:=fun b o e hb=>by
  obtain⟨_,o',e',hd⟩:=LJ.mem (b:=b) (show b∈s.heap.objs.size::iI outer from ai _ hb);rw[e] at e';cases e';exact Sa b o (hx.keeps b o e) hd
 have bs:=I.base;have Me:∀b,H1 b≠none->b≠s.heap.objs.size/\b∉iI outer:=fun b hb=>by
  have:=I.Mg;refine⟨fun z=>hb (this b (show b∈s.heap.objs.size::iI outer by rw[z];exact aj)),fun z=>hb (this b (show b∈s.heap.objs.size::iI outer from ai _ z))⟩
 refine⟨a,C,.ref t,H1,_,rfl,I.os,I.bare,⟨fun b o e n hf _=>?_,fun b o e n hf _=>?_,fun b o e n _=>bs.free b o e n (by simp[fH]),fun b o e _=>?_,bs.Mi,bs.Mf,bs.Mj⟩,sM I.LB fun b o hb e=>LN b o e (Me b hb).1 (Me b hb).2,fl,fun b o e=>?_,hE⟩
 .exact LN b o (bs.keep b o e n hf (by simp[fH])) (L0 b o e) hf
 .obtain⟨sl,e1⟩:=bs.slot b o e n hf (by simp[fH]);obtain⟨OI,e2⟩:=OA b _ e1 hf;exact⟨OI,e2⟩
 .obtain⟨o1,e1⟩:=bs.there b o e (by simp[fH]);by_cases hf:b∈iI outer
  .obtain⟨OI,e2⟩:=OA b _ e1 hf;exact⟨_,e2⟩
  .exact⟨o1,LN b o1 e1 (L0 b o e) hf⟩
 .by_cases hf:b∈iI outer
  .exact .inl hf
  .cases e1:s1.heap.get? b with
   |none =>
    refine .inr (.inr ⟨?_,?_⟩)
    .cases e0:s.heap.get? b with
     |none=>rfl
     |some o0 =>
      obtain⟨o1,e2⟩:=bs.there b o0 e0 (by simp[fH]);rw[e1] at e2;cases e2
    .cases e0:H1 b with
     |none=>rfl
     |some u =>
      obtain⟨ob,e2⟩:=cW.Ou (I.LB b u e0);rw[e1] at e2;cases e2
   |some o1 =>
    by_cases hL:b=s.heap.objs.size
    .refine .inr (.inr ⟨?_,?_⟩)
     .rw[hL];cases e0:s.heap.get? s.heap.objs.size with
      |none=>rfl
      |some o0=>exact absurd rfl (L0 _ _ e0)
     .cases e0:H1 b with
      |none=>rfl
      |some u=>exact absurd hL (Me b (by rw[e0];simp)).1
    .have:=LN b o1 e1 hL hf;rw[e] at this;cases this;refine .inr (.inl (PySem.W.hideAll_get _ e1 ?_));rw[fr];intro z;rcases je.mp z with z | z
     .exact hL z
     .exact hf z
structure Cc (X:Cx)(H H':Hp)(s:Shared)(B h:Heap):Prop where
 un:Un (iI X.stack) [] H H' s.heap h
 LB:jH X.prog X.w H' h
 bf:Bf B (iI X.stack) H' s.heap h
variable {a0:Value}
section
variable {X:Cx}{pins:List (Addr×Obj)}{σ:L2.St}{H H':Hp}{s:Shared}{B h h':Heap}
theorem Cc.NS (F:Cc X H H' s B h)(I:Inv X pins σ H s):∀b∈iI X.stack,H' b=none:=fun b hb=>by
 obtain⟨_,o,e,_⟩:=I.stack.mem hb;exact F.un.free b o e (I.Mg b hb) (by simp)
theorem Cc.next (F:Cc X H H' s B h)(I:Inv X pins σ H s)(st:B.StaysIn h')(fr:∀b∈iI X.stack,∃o,h.get? b=some o/\∀vs,o.data≠.fields vs)(ut:h.UpToSlots h'):Cc X H H' s B h':=by
 have keep:∀b o,h.get? b=some o->b∉iI X.stack->(s.heap.get? b≠none\/H' b≠none)->h'.get? b=some o:=fun b o e hf hn=>by
  rcases F.bf b o e with z | z | ⟨z1,z2⟩
  .exact absurd z hf
  .exact st b o z
  .rcases hn with hn | hn
   .exact absurd z1 hn
   .exact absurd z2 hn
 have slot:∀b o,h.get? b=some o->b∈iI X.stack->∃sl,h'.get? b=some { o with slots:=sl }:=fun b o e hf=>by
  obtain⟨o',e',hd⟩:=fr b hf;rw[e] at e';cases e';exact ut b o e hd
 refine⟨⟨fun b o e n hf _=>?_,fun b o e n hf _=>?_,fun b o e n hx=>F.un.free b o e n hx,fun b o e hx=>?_,F.un.Mi,F.un.Mf,F.un.Mj⟩,sM F.LB fun b o hb e=>?_,fun b o e=>?_⟩
 .exact keep b o (F.un.keep b o e n hf (by simp)) hf (.inl (by rw[e];simp))
 .obtain⟨sl,e1⟩:=F.un.slot b o e n hf (by simp);obtain⟨OI,e2⟩:=slot b _ e1 hf;exact⟨OI,e2⟩
 .obtain⟨o1,e1⟩:=F.un.there b o e (by simp);by_cases hf:b∈iI X.stack
  .obtain⟨OI,e2⟩:=slot b _ e1 hf;exact⟨_,e2⟩
  .exact⟨o1,keep b o1 e1 hf (.inl (by rw[e];simp))⟩
 .exact keep b o e (fun z=>hb (F.NS I b z)) (.inr hb)
 .by_cases hf:b∈iI X.stack
  .exact .inl hf
  .cases e1:h.get? b with
   |none =>
    refine .inr (.inr ⟨?_,?_⟩)
    .cases e0:s.heap.get? b with
     |none=>rfl
     |some o0 =>
      obtain⟨o1,e2⟩:=F.un.there b o0 e0 (by simp);rw[e1] at e2;cases e2
    .cases e0:H' b with
     |none=>rfl
     |some u =>
      obtain⟨ob,e2⟩:=cW.Ou (F.LB b u e0);rw[e1] at e2;cases e2
   |some o1 =>
    rcases F.bf b o1 e1 with z | z | z
    .exact absurd z hf
    .have:=st b o1 z;rw[e] at this;cases this;exact .inr (.inl z)
    .exact .inr (.inr z)
theorem Cc.inv {g':Array GenState}{d':Drawn}{t':Nat}(F:Cc X H H' s B h)(I:Inv X pins σ H s)(hg:AllBare g'):Inv X pins σ H' { s with heap:=h,gens:=g',drawn:=d',toks:=t' } :=
 I.call (ch:=[]) F.un F.LB hg fun b z=>nomatch z
theorem Ac {e:Value}{s':Shared}(c:l7 X.prog X.w X.stack H s E e s'):∃a C a0 H' B,e=.ref a/\s'.os=s.os/\AllBare s'.gens/\Cc X H H' s B s'.heap/\Heap.FlyingW B X.stack a C a0 s'.heap/\E C none H':=by
 obtain⟨a,C,a0,H',B,e1,e2,e3,e4,e5,e6,e7,e8⟩:=c;exact⟨a,C,a0,H',B,e1,e2,e3,⟨e4,e5,e7⟩,e6,e8⟩
theorem jx {C:Value}(f:Heap.FlyingW B X.stack a C a0 h):∀b∈iI X.stack,∃o,h.get? b=some o/\∀vs,o.data≠.fields vs:=fun b hb=>(f.2.2.1.mem hb).2
theorem r8 {L:Addr}{C:Value}(f:Heap.HeldW B X.stack a C a0 L h):∀b∈iI X.stack,∃o,h.get? b=some o/\∀vs,o.data≠.fields vs:=fun b hb=>(f.2.2.1.mem hb).2
noncomputable abbrev markX (X:Cx)(a:Addr):Cx:={ X with A:=X.A.mark (some (.ref a)),calm:=false,xe:=fun _ _=>False }
theorem zg (I:Inv X pins σ H s)(a:Addr)(hf:(X.A.mark (some (.ref a))).frames=some X.stack):Inv (markX X a) pins σ H s :=
 ⟨⟨I.ok.mod,I.ok.kind,I.ok.glob,I.ok.blt,I.ok.above,I.ok.inj,I.ok.has,I.ok.Of,fun z=>(by cases z),hf,I.ok.Pk,I.ok.QM,I.ok.bs,I.ok.NV,I.ok.MW,I.ok.M4,I.ok.L9,I.ok.Od⟩,I.os,I.bare,I.base,I.loc,I.cell,I.free,I.LR,I.pin,I.LB,I.len⟩
end
variable {nm:Str}
section
variable {M:Model}{A:Around}{E:Value->Shared->Prop}{prog:Program}{w:World}
theorem tF {q:Str}{N:Addr}{bs bm:List Value}{hdct:Bool}{sn:List Str}{sub:List Value}{ab:Bool}{col:Option Bool}{dd:Option Addr}{k0 k1 k2 k3 k5:Option Value}
  {Po q':Str}{C' N':Addr}{PC OG:List Value}{Mt:Bool}{Pm:List Str}{Ng:List Value}{PD:Bool}{Nu:Option Bool}{Nc:Option Addr}{j0 j1 j2 j3 j5:Option Value}{MX:String}
  {g:Array GenState}{d:Drawn}{t:Nat}{os:OsState}{e:Addr}{oe:Obj}{Q:Bool->Shared->Prop}
  (hC:h.get? C=some (excClassObj nm q C N bs bm hdct sn sub ab col dd k0 k1 k2 k3 k5 newId)) (Xr:h.get? C'=some (excClassObj Po q' C' N' PC OG Mt Pm Ng PD Nu Nc j0 j1 j2 j3 j5 MX)) (he:h.get? e=some oe) (NQ:oe.cls=.ref C)
  (MN:OG.contains (.type "BaseException")=true) (hq:Q ((Value.ref C::bm).contains (.ref C')) ⟨h,g,d,t,os⟩):wpAny M A (excMatches (.ref e) (.ref C')) Q E ⟨h,g,d,t,os⟩:=by
 have QB:(Value.ref C'::OG).contains (.type "BaseException")=true:=by rw[iu,MN,jo]
 have f:=tc_notTuple;unfold excMatches
 repeat (first | (with_reducible refine wpAny_loadPart_at he ?_;rw[NQ]) | with_reducible refine wpAny_loadPart_at Xr ?_ | (with_reducible refine wpAny_isSubtype_exc Xr ?_;rw[QB]) | (with_reducible refine wpAny_isSubtype_exc hC ?_) | wp_step)
 cases hb:(Value.ref C::bm).contains (.ref C')<;>(rw[hb] at hq;first | exact hq | (wp_walk;exact hq))
end
section
variable {X:Cx}{pins:List (Addr×Obj)}{σ:L2.St}{H:Hp}{s:Shared}{D:Ends}
noncomputable def ni (X:Cx)(pins:List (Addr×Obj))(σ:L2.St)(W:Value->Hp->Prop)(e:Value)(s1:Shared):Prop :=
 ∃H0 s0 a C a0 H' B,Inv X pins σ H0 s0/\e=.ref a/\s1.os=s0.os/\AllBare s1.gens/\Cc X H0 H' s0 B s1.heap/\Heap.FlyingW B X.stack a C a0 s1.heap/\W C H'
def Ao (K:PySem.W.Frag)(C Cd:Addr):Prop:=∃(MD:List Value) (newId:String) (cd:ClassData) (c0:Value) (dd:Option Addr) (sl:Array (Option Value)),PySem.W.excIn K C MD newId=true/\K.lookup C=some ⟨c0,dd,.cls cd,sl⟩/\cd.mro.contains (.ref Cd)=true
end
variable {M:Model}{i:Nat}{n:Str}{o:Obj}
section
variable {X:Cx}{pins:List (Addr×Obj)}{σ:L2.St}{H:Hp}{s:Shared}{D:Ends}
theorem rW {E:Value->Shared->Prop}{v:V}{Q:Unit->Shared->Prop}(I:Inv X pins σ H s)(hN:X.N.Nodup)(hi:X.N[i]? = some x)(hk:X.env.scope.names.lookup x=some .local)(hv:σ[i]? = some (some v))
  (h:∀s',Inv X pins (σ.set i none) H s'->Q () s'):wpAny M A (unbindName X.env x) Q E s:=by
 obtain⟨m,hn,hl⟩:=id I.loc;have NQ:(X.env.scope.kind == .class || (X.env.scope.kind == .module&&X.env.locals != X.env.globals))=false:=by rw[I.ok.kind];rfl
 have RC:i<σ.length:=by rw[I.len];exact (List.getElem?_eq_some_iff.mp hi).1
 have NU:=I.NU;have tracked:∀{a:Addr}{h':Heap},(∃o,s.heap.get? a=some o/\H a=none)->Heap.SameBut a s.heap h'->jH X.prog X.w H h':=fun {a h'} ha hs b ob e=>by
  obtain⟨_,_,LV⟩:=ha;refine (I.LB b ob e).LN (fun c w' hc q=>(hs.2 c ?_).trans q) (fun _ q=>q) fun _ _ q=>q
  rintro rfl;rcases hc with rfl | hc
  .rw[LV] at e;cases e
  .rw[LV] at hc;cases hc
 have hm:∃u,m x=some u:=by
  obtain⟨u,_,q⟩:=hl i x v hi hv (.inl hk);rcases q with ⟨_,e⟩ | ⟨k,_⟩
  .exact⟨u,e⟩
  .have:X.env.kindOf x=some .local:=hk;rcases k with k | k<;>(rw[this] at k;cases k)
 obtain⟨u,hu⟩:=hm;refine wpAny_unbindName_local hk hn hu NQ fun h' u' T2 hs=>?_
 obtain⟨oL,_,_,TZ,_⟩:=id hn;refine h _ ⟨I.ok,I.os,I.bare,⟨fun b o e n hb hx=>?_,fun b o e n hb hx=>?_,I.base.free,fun b o e hx=>?_,I.base.Mi,I.base.Mf,I.base.Mj⟩,⟨_,T2,fun j y v' e1 e2 e3=>?_⟩,fun y c e=>?_,I.free,I.LR,fun p hp=>?_,tracked ⟨oL,TZ,I.free⟩ hs,by simpa using I.len⟩
 .exact (hs.2 b (bw (bg (Heap.lt_size e) I.ok.above))).trans (I.base.keep b o e n hb hx)
 .obtain⟨sl,e1⟩:=I.base.slot b o e n hb hx;exact⟨sl,(hs.2 b (bw (bg (Heap.lt_size e) I.ok.above))).trans e1⟩
 .obtain⟨o',e1⟩:=I.base.there b o e hx;exact⟨o',(hs.2 b (bw (bg (Heap.lt_size e) I.ok.above))).trans e1⟩
 .by_cases hj:j=i
  .subst hj;rw[List.getElem?_set_self RC] at e2;cases e2
  .rw[List.getElem?_set_ne (eh hj)] at e2;obtain⟨u',r',q⟩:=hl j y v' e1 e2 e3;refine⟨u',r',?_⟩;rcases q with ⟨k,e⟩ | ⟨k,c,e,z⟩
   .refine .inl ⟨k,?_⟩;have:y≠x:=fun e=>hj (oK hN e1 (e ▸ hi))
    simp[this,e]
   .exact .inr ⟨k,c,e,z.sameBut hs (NU y c e)⟩
 .obtain⟨w',z⟩:=I.cell y c e;exact⟨w',z.sameBut hs (NU y c e)⟩
 .obtain⟨e,n,ne,nf,d⟩:=I.pin p hp;exact⟨(hs.2 p.1 ne).trans e,n,ne,nf,d⟩
theorem jN {E:Value->Shared->Prop}{Q:Unit->Shared->Prop}(I:Inv X pins σ H s)(hN:X.N.Nodup)(hi:X.N[i]? = some x)(hk:X.env.scope.names.lookup x=some .local)
  (h:∀s',Inv X pins (σ.set i none) H s'->Q () s'):wpAny M A (do bindName X.env x .none;unbindBehindTheSuite X.env x pos) Q E s:=by
 refine wpAny_bind (wpAny_bindName (iF I hN hi (.inl hk) (show RelV .LC .none from rfl) (fun s1 I1=>?_) (.inr hk)));unfold unbindBehindTheSuite;refine wpAny_onRaise (rW I1 hN hi hk (List.getElem?_set_self (by rw[I.len];exact (List.getElem?_eq_some_iff.mp hi).1)) fun s2 I2=>h s2 ?_);rw[List.set_set] at I2;exact I2
noncomputable abbrev oo (X:Cx)(a:Addr)(o:Obj):Cx:={ X with A:=X.A.mark (some (.ref a)),calm:=false,xe:=fun _ _=>False,pn:=(a,o)::X.pn }
theorem xw (I:Inv X pins σ H s)(a:Addr)(o:Obj)(hf:(X.A.mark (some (.ref a))).frames=some X.stack)(ha:s.heap.get? a=some o/\H a=none/\a≠X.env.locals/\a∉X.fs/\∀v,o.data≠.cell v):Inv (oo X a o) pins σ H s :=
 ⟨⟨I.ok.mod,I.ok.kind,I.ok.glob,I.ok.blt,I.ok.above,I.ok.inj,I.ok.has,I.ok.Of,fun z=>(by cases z),hf,I.ok.Pk,I.ok.QM,I.ok.bs,I.ok.NV,I.ok.MW,I.ok.M4,I.ok.L9,I.ok.Od⟩,I.os,I.bare,I.base,I.loc,I.cell,I.free,I.LR,fun p hp=>by
  rcases je.mp hp with rfl | hp
  .exact ha
  .exact I.pin p hp,I.LB,I.len⟩
theorem gS (I:Inv (oo X a o) pins σ H s)(ok:X.Ok):Inv X pins σ H s:=⟨ok,I.os,I.bare,I.base,I.loc,I.cell,I.free,I.LR,fun p hp=>I.pin p (ai _ hp),I.LB,I.len⟩
noncomputable def Au (D:Ends)(i:Nat):Ends:={ nx:=fun σ H=>D.nx (σ.set i none) H,rt:=D.rt,bk:=fun σ H=>D.bk (σ.set i none) H,ct:=fun σ H=>D.ct (σ.set i none) H }
theorem FD (hs:X.stack=X.env::X.outer)(hf:X.env.frame=some X.env.locals)(ok:X.Ok){body:List Stmt}{i:Nat}{Cd:Addr}{XO:List Value}{newD:String}{hp:Pos}{b₀:Stmt}{Ol:List Stmt}{ts:Addr->TS}{W:Value->Hp->Prop}(hN:X.N.Nodup)(hi:X.N[i]? = some n)(hk:X.env.scope.names.lookup n=some .local)
  (hg:Gl X x) (hm:X.mg x=some (.ref Cd)) (qD:PySem.W.excIn X.K Cd XO newD=true) (hB:XO.contains (.type "BaseException")=true)
  (hsu:∀a o C H',W C H'->o.cls=C->(∃vs,o.data=.fields vs)->lP (oo X a o) (b₀::Ol) (ts a))
  (hw:∀C H',W C H'->(∃c,C=.ref c/\Ao X.K c Cd)/\∀a,ts a (Au D i) (σ.set i (some (.ref a))) H') (hd:(x==("__debug__" : Str))=false:=by decide)
  (hb:wpAny (model X.prog X.w) X.A (execs body X.env) (SP X pins D) (ni X pins σ W) s) :
  wpAny (model X.prog X.w) X.A (exec (.Try body [.ExceptHandler (some (.Name x np)) (some n) (b₀::Ol) hp] [] [] pos) X.env) (SP X pins D) X.xe s:=by
 refine wpAny_Try_except (wpAny_mono hb (fun f s1 h1=>?_) fun e s1 h1=>?_)
 .cases f with
  |next=>exact wpAny_pure h1
  |brk=>exact h1
  |cont=>exact h1
  |ret u=>exact h1
 obtain⟨H0,s0,a,C,a0,H',B,I0,rfl,ho,Xm,F1,f1,w1⟩:=h1;obtain⟨⟨c,rfl,MD,newId,cd,c0,dd0,sl0,qC,lC,mC⟩,OU⟩:=hw C H' w1;have Xu:=f1;rw[hs] at Xu;refine wpAny_looks_onW (by rw[ok.frames,hs]) hf Xu fun h2 g2 u2=>?_
 rw[<-hs] at g2;have F2:=F1.next I0 g2.1 (jx f1) u2;refine wpAny_landsW g2 fun h3 f3 u3=>?_
 have F3:=F2.next I0 f3.1 (r8 g2) u3;have e3:({ s1 with heap:=h3 }:Shared)={ s0 with heap:=h3,gens:=s1.gens,drawn:=s1.drawn,toks:=s1.toks }:=by
  cases s1;cases s0;cases ho;rfl
 have I3:Inv X pins σ H' { s1 with heap:=h3 }:=by
  rw[e3];exact F3.inv I0 Xm
 have M3:=zg I3 a ok.frames;refine wpAny_handleBy_cons (codeAny_handlers_test (gT (X:=markX X a) M3 hg hm ?_ hd)) (by intro q;cases q);obtain⟨OG,N',Po,qn',PC,Mt,Pm,Ng,PD,Nu,Nc,j0,j1,j2,j3,j5,mN',hD,hND,hniD,TD⟩:=mU I3.Mp qD;obtain⟨bm,N,nm,qn,bs,hdct,sn,sub,ab,col,dd,k0,k1,k2,k3,k5,mN,hC,hNC,hniC,TC⟩:=mU I3.Mp qC;obtain⟨oe,he,Uq⟩:=f3.there;have T3:(Value.ref c::bm).contains (.ref Cd)=true:=by
  have:=I3.Mp _ _ lC;rw[hC] at this;cases this;exact mC
 refine tF hC hD he Uq (TD.hasType hB) ?_;rw[T3];refine codeAny_handlers_suite_as ?_;refine lands_againW f3 fun h4 f4 u4=>?_
 have F4:=F3.next I0 f4.1 (jx f3) u4;have e4:({ s1 with heap:=h4 }:Shared)={ s0 with heap:=h4,gens:=s1.gens,drawn:=s1.drawn,toks:=s1.toks }:=by
  cases s1;cases s0;cases ho;rfl
 have I4:Inv X pins σ H' { s1 with heap:=h4 }:=by
  rw[e4];exact F4.inv I0 Xm
 obtain⟨o4,Wr,e5,c5,d5,_⟩:=f4.first;have Me:a∉iI X.stack:=fun z=>by
  obtain⟨o',e',NP⟩:=jx f4 a z;rw[e5] at e';cases e';exact NP Wr d5
 have Qp:H' a=none:=by
  rcases F4.bf a o4 e5 with z | z | z
  .exact absurd z Me
  .rw[f4.2.1] at z;cases z
  .exact z.2
 have TK:iI X.stack=X.env.locals::X.fs:=by
  rw[hs];unfold iI;rw[ja,hf];rfl
 rw[TK] at Me;have P4:Inv (oo X a o4) pins σ H' { s1 with heap:=h4 }:=xw I4 a o4 ok.frames ⟨e5,Qp,fun z=>Me (by rw[z];exact aj),fun z=>Me (ai _ z),fun v z=>by rw[d5] at z;cases z⟩;refine iF (X:=oo X a o4) P4 hN hi (.inl hk) (show RelV (.ref a) (.ref a) from rfl) (fun s5 I5=>?_) (.inr hk);refine wpAny_mono (hsu a o4 _ H' w1 c5 ⟨Wr,d5⟩ pins s5 _ H' (Au D i) I5 (OU a)) (fun f s6 h6=>?_) fun _ _ z=>z.elim
 cases f with
 |next =>
  obtain⟨σ',H6,I6,q⟩:=h6;exact jN (gS I6 ok) hN hi hk fun s7 I7=>⟨_,H6,I7,q⟩
 |brk =>
  obtain⟨σ',H6,I6,q⟩:=h6;exact jN (gS I6 ok) hN hi hk fun s7 I7=>⟨_,H6,I7,q⟩
 |cont =>
  obtain⟨σ',H6,I6,q⟩:=h6;exact jN (gS I6 ok) hN hi hk fun s7 I7=>⟨_,H6,I7,q⟩
 |ret u =>
  obtain⟨v,σ',H6,I6,r,q⟩:=h6;exact jN (gS I6 ok) hN hi hk fun s7 I7=>⟨v,_,H6,I7,r,q⟩
end
inductive lM (h:Heap) (MD:List Value) (ns:List Str):List Value->Prop
 | base:lM h MD ns MD
 | own {A:Addr}{c0:Value}{dd:Option Addr}{cd:ClassData}{sl:Array (Option Value)}{mA:Str->Option Value}{tl:List Value} :
   h.get? A=some { cls:=c0,dict:=dd,data:=.cls cd,slots:=sl }->h.Ns cd.ns mA->(∀n∈ns,mA n=none)->lM h MD ns tl->lM h MD ns (.ref A::tl)
noncomputable def rT:List Str:=["__getattribute__","__getattr__","__class__"]
variable {ns:List Str}{y:Option Value}
section
variable {M:Model}{A:Around}{E:Value->Shared->Prop}{h:Heap}{g:Array GenState}{d:Drawn}{t:Nat}{os:OsState}
theorem xf {tl:List Value}{Q:Option Value->Shared->Prop}(hn:n∈ns)(T:lM h MD ns tl)(L3:lookupAlong MD n=pure y)(hq:Q y ⟨h,g,d,t,os⟩) :
  wpAny M A (lookupAlong tl n) Q E ⟨h,g,d,t,os⟩:=by
 induction T with
 |base=>rw[L3];exact wpAny_pure hq
 |own hA hN OZ _ ih =>
  rw[lookupAlong_cons];refine wpAny_bind (wpAny_classOwn_cls hA hN ?_);rw[OZ n hn];exact ih
variable {nm q:Str}{C N:Addr}{bs bm MD:List Value}{hdct:Bool}{sn:List Str}{sub:List Value}{ab:Bool}{col:Option Bool}{dd:Option Addr}{k0 k1 k2 k3 k5:Option Value}{B newId:String}
theorem oO {mN:Str->Option Value}{Q:Option Value->Shared->Prop}(hn:n∈ns)
  (hC:h.get? C=some (excClassObj nm q C N bs bm hdct sn sub ab col dd k0 k1 k2 k3 k5 newId)) (hN:h.Ns N mN) (My:∀n∈ns,mN n=none) (T:lM h MD ns bm) (hbm:mroOf (.type B)=pure MD)
  (hB:typeLookup (.type B) n=pure y) (hq:Q y ⟨h,g,d,t,os⟩):wpAny M A (typeLookup (.ref C) n) Q E ⟨h,g,d,t,os⟩:=by
 have L3:lookupAlong MD n=pure y:=by rw[typeLookup_eq,hbm] at hB;exact hB
 rw[typeLookup_eq];refine wpAny_bind (wpAny_mroOf_exc hC ?_);rw[lookupAlong_cons];refine wpAny_bind (wpAny_classOwn_exc hC hN ?_);rw[My n hn];exact xf hn T L3 hq
end
theorem Ai:typeLookup (.type "ValueError") "__class__" = pure (some (.builtin "object.__class__")):=by rw[typeLookup_type,builtinLookup_eq_fast];kernel_rfl
noncomputable abbrev kY:List Value:=[.type "ValueError",.type "Exception",.type "BaseException",.type "object"]
variable {tk:Tok}
section
variable {prog:Program}{w:World}{A:Around}{E:Value->Shared->Prop}{h:Heap}{g:Array GenState}{d:Drawn}{t:Nat}{os:OsState}{a:Addr}{o:Obj}
 {nm q:Str}{C N:Addr}{bs bm:List Value}{hdct:Bool}{sn:List Str}{sub:List Value}{ab:Bool}{col:Option Bool}{dd:Option Addr}{k0 k1 k2 k3 k5:Option Value}{newId:String}{mN:Str->Option Value}
theorem BE {R:Result->Shared->Prop}(hC:h.get? C=some (excClassObj nm q C N bs bm hdct sn sub ab col dd k0 k1 k2 k3 k5 newId))(T:OwnTail h kY bm)(hx:h.get? a=some o)(hc:o.cls=.ref C)(hq:R (.ok (.ret (.ref C))) ⟨h,g,d,t,os⟩) :
  codeAny (model prog w) A (.call (.builtin "getset_descriptor.__get__") ⟨[.builtin "object.__class__",.ref a,.ref C],[]⟩) R ⟨h,g,d,t,os⟩:=by
 have Xn:(⟨h,g,d,t,os⟩:Shared).TypeIs (.builtin "object.__class__") "getset_descriptor":=F.typeOf_object_class;have QB:(Value.ref C::bm).contains (.type (".".intercalate ("object.__class__".cutAt '.').dropLast))=true:=by
  rw[F.owner_object_class,iu,T.hasType (show kY.contains (.type "object")=true by decide)];rfl
 refine codeAny_call_builtin F.slot_gs_get.plain F.entry_gs_get (F.slot_gs_get.check _ _ _ _ _ _ _ _ Xn (F.args_gs_get _ _ _) ?_)
 repeat (any_goals (first | assumption | (with_reducible refine wpAny_loadPart_at hx ?_;rw[hc]) | (with_reducible refine wpAny_isSubtype_exc hC ?_;rw[QB]) | wp_step))
 refine⟨Code.quiet_builtin _ (by decide +kernel),codeAny_builtin F.entry_object_class ?_⟩
 repeat (any_goals (first | assumption | (with_reducible refine wpAny_loadPart_at hx ?_;rw[hc]) | wp_step))
theorem yQ {Ot:Value}{Q:Unit->Shared->Prop}(hC:h.get? C=some (excClassObj nm q C N bs bm hdct sn sub ab col dd k0 k1 k2 k3 k5 newId))(T:OwnTail h kY bm)
  (hx:h.get? a=some o) (hc:o.cls=.ref C) (hq:Q () ⟨h,g,d,t,os⟩):wpAny M A (checkBuiltinCall "BaseException.__getattribute__" ⟨[.ref a,Ot],[]⟩) Q E ⟨h,g,d,t,os⟩:=by
 have hk:builtinKind "BaseException.__getattribute__" = some .slot:=by decide +kernel
 have OV:splitId "BaseException.__getattribute__" = some ("BaseException","__getattribute__"):=by decide +kernel
 have QB:(Value.ref C::bm).contains (.type "BaseException")=true:=by rw[iu,T.hasType (show kY.contains (.type "BaseException")=true by decide)];rfl
 have ha:=F.args_bexc_ga (.ref a) Ot;simp only[checkBuiltinCall,hk,OV];refine wpAny_bind ?_
 .unfold isInstance
  repeat (first | (with_reducible refine wpAny_loadPart_at hx ?_;rw[hc]) | (with_reducible refine wpAny_isSubtype_exc hC ?_;rw[QB]) | wp_step)
  exact hq
theorem yj {Q:Fin->Shared->Prop}(hC:h.get? C=some (excClassObj nm q C N bs bm hdct sn sub ab col dd k0 k1 k2 k3 k5 newId))(hN:h.Ns N mN)(My:∀n∈rT,mN n=none)(T:OwnTail h kY bm)(TN:lM h kY rT bm)
  (hx:h.get? a=some o) (hc:o.cls=.ref C) (hq:Q (.done (.ret (.ref C))) ⟨h,g,d,t,os⟩) :
  wpAny (model prog w) A (Builtin.«object.__getattribute__» ⟨[.ref a,.str "__class__" tk],[]⟩) Q E ⟨h,g,d,t,os⟩:=by
 have Xn:(⟨h,g,d,t,os⟩:Shared).TypeIs (.builtin "object.__class__") "getset_descriptor":=F.typeOf_object_class;have f5:=F.typeOf_object_class;have f6:=F.slot_gs_get.lookup;have f7:=F.slot_gs_set.lookup;have hmA:("__class__" : Str)∈rT:=.tail _ (.tail _ (.head _))
 repeat (any_goals (first | assumption | (with_reducible refine wpAny_loadPart_at hx ?_;rw[hc]) | with_reducible refine oO hmA hC hN My TN F.attrBase_ValueError.mro Ai ?_ | wp_step))
 refine BE hC T hx hc ?_
 repeat (any_goals (first | assumption | wp_step))
theorem zz {R:Result->Shared->Prop}(hC:h.get? C=some (excClassObj nm q C N bs bm hdct sn sub ab col dd k0 k1 k2 k3 k5 newId))(hN:h.Ns N mN)(My:∀n∈rT,mN n=none)(T:OwnTail h kY bm)(TN:lM h kY rT bm)
  (hx:h.get? a=some o) (hc:o.cls=.ref C) (hq:R (.ok (.ret (.ref C))) ⟨h,g,d,t,os⟩) :
  codeAny (model prog w) A (.call (.builtin "BaseException.__getattribute__") ⟨[.ref a,.str "__class__" tk],[]⟩) R ⟨h,g,d,t,os⟩ :=
 codeAny_call_builtin F.attrBase_ValueError.ga.plain F.entry_bexc_ga (yQ hC T hx hc (yj hC hN My T TN hx hc hq))
theorem GO {fill expr:Bool}{Q:Value->Shared->Prop}(hC:h.get? C=some (excClassObj nm q C N bs bm hdct sn sub ab col dd k0 k1 k2 k3 k5 newId))(hN:h.Ns N mN)(My:∀n∈rT,mN n=none)(T:OwnTail h kY bm)(TN:lM h kY rT bm)
  (hx:h.get? a=some o) (hc:o.cls=.ref C) (hq:Q (.ref C) ⟨h,g,d,t,os⟩) :
  wpAny (model prog w) A (getAttrBy (.ref a) (.str "__class__" tk) fill expr) Q E ⟨h,g,d,t,os⟩:=by
 have f3:=F.attrBase_ValueError.ga.bind (.ref a);have hx0:(expr&&onTheHeap (Value.builtin "BaseException.__getattribute__"))=false:=by cases expr<;>rfl
 have hx2:(Value.builtin "BaseException.__getattribute__" == Value.builtin "object.__getattribute__")=false:=by decide +kernel
 have W0:(onTheHeap (Value.ref C)&&Value.builtin "BaseException.__getattribute__" == Value.builtin "object.__getattribute__")=false:=by rw[hx2];rfl
 have hm1:("__getattribute__" : Str)∈rT:=.head _;have hm2:("__getattr__" : Str)∈rT:=.tail _ (.head _)
 repeat (any_goals (first | assumption | (with_reducible refine wpAny_loadPart_at hx ?_;rw[hc]) | with_reducible refine oO hm1 hC hN My TN F.attrBase_ValueError.mro F.attrBase_ValueError.ga.lookup ?_ | with_reducible refine oO hm2 hC hN My TN F.attrBase_ValueError.mro F.attrBase_ValueError.noGetattr ?_ | wp_step))
 refine zz hC hN My T TN hx hc ?_
 repeat (any_goals (first | assumption | wp_step))
theorem zB {Q:Option Value->Shared->Prop}(hC:h.get? C=some (excClassObj nm q C N bs bm hdct sn sub ab col dd k0 k1 k2 k3 k5 newId))(hN:h.Ns N mN)(My:∀n∈rT,mN n=none)(T:OwnTail h kY bm)(TN:lM h kY rT bm)
  (hx:h.get? a=some o) (hc:o.cls=.ref C) (hq:Q (some (.ref C)) ⟨h,g,d,t+1,os⟩):wpAny (model prog w) A (getAttr? (.ref a) "__class__") Q E ⟨h,g,d,t,os⟩:=by
 unfold getAttr? getAttrBy?
 repeat (any_goals (first | assumption | with_reducible apply GO hC hN My T TN hx hc | wp_step))
end
variable {dep:Int}
section
variable {prog:Program}{w:World}{A:Around}{E:Value->Shared->Prop}{h:Heap}{g:Array GenState}{d:Drawn}{t:Nat}{os:OsState}{a:Addr}{o:Obj}
 {nm q:Str}{C N:Addr}{bs bm:List Value}{hdct:Bool}{sn:List Str}{sub:List Value}{ab:Bool}{col:Option Bool}{dd:Option Addr}{k0 k1 k2 k3 k5:Option Value}{newId:String}{mN:Str->Option Value}
 {Po q':Str}{C' N':Addr}{PC OG:List Value}{Mt:Bool}{Pm:List Str}{Ng:List Value}{PD:Bool}{Nu:Option Bool}{Nc:Option Addr}{j0 j1 j2 j3 j5:Option Value}{MX:String}
theorem xk:isSubtype (.type "type") (.type "type")=pure true:=by rw[isSubtype_type];kernel_rfl
theorem tf {Q:Fin->Shared->Prop}(hC:h.get? C=some (excClassObj nm q C N bs bm hdct sn sub ab col dd k0 k1 k2 k3 k5 newId))(hN:h.Ns N mN)(My:∀n∈rT,mN n=none)(T:OwnTail h kY bm)(TN:lM h kY rT bm)
  (hD:h.get? C'=some (excClassObj Po q' C' N' PC OG Mt Pm Ng PD Nu Nc j0 j1 j2 j3 j5 MX)) (hx:h.get? a=some o) (hc:o.cls=.ref C)
  (hq:∀t',Q (.done (.ret (.bool ((Value.ref C::bm).contains (.ref C'))))) ⟨h,g,d,t',os⟩) :
  wpAny (model prog w) A (Builtin.«isinstance.nested» ⟨[.ref a,.ref C',.int dep tk],[]⟩) Q E ⟨h,g,d,t,os⟩:=by
 have f:=xk;by_cases e:(Value.ref C==Value.ref C')=true
 .have Qm:=hq t;have:(Value.ref C::bm).contains (.ref C')=true:=by
   rw[iu,ik.mp e];simp
  rw[this] at Qm
  repeat (any_goals (first | assumption | (with_reducible refine wpAny_loadPart_at hx ?_;rw[hc]) | wp_step))
 .have e':(Value.ref C==Value.ref C')=false:=by simpa using e
  cases hb:(Value.ref C::bm).contains (.ref C') with
  |true =>
   have Qm:=hq t;rw[hb] at Qm
   repeat (any_goals (first | assumption | (with_reducible refine wpAny_loadPart_at hx ?_;rw[hc]) | with_reducible refine wpAny_loadPart_at hD ?_ | (with_reducible refine wpAny_isSubtype_exc hC ?_;rw[hb]) | wp_step))
  |false =>
   have Qm:=hq (t+1);rw[hb] at Qm
   repeat (any_goals (first | assumption | (with_reducible refine wpAny_loadPart_at hx ?_;rw[hc]) | with_reducible refine wpAny_loadPart_at hD ?_ | with_reducible refine wpAny_loadPart_at hC ?_ | (with_reducible refine wpAny_isSubtype_exc hC ?_;rw[hb]) | with_reducible apply zB hC hN My T TN hx hc | wp_step))
theorem zj {Q:Fin->Shared->Prop}(hC:h.get? C=some (excClassObj nm q C N bs bm hdct sn sub ab col dd k0 k1 k2 k3 k5 newId))(T:OwnTail h kY bm)
  (hx:h.get? a=some o) (hc:o.cls=.ref C) (hq:Q (.done (.ret (.bool true))) ⟨h,g,d,t,os⟩) :
  wpAny (model prog w) A (Builtin.«isinstance.nested» ⟨[.ref a,.type "ValueError",.int dep tk],[]⟩) Q E ⟨h,g,d,t,os⟩:=by
 have hb:(Value.ref C::bm).contains (.type "ValueError")=true:=by rw[iu,T.hasType (show kY.contains (.type "ValueError")=true by decide)];rfl
 have NG:typeOf (.type "ValueError")=pure (.type "type"):=by kernel_rfl
 have e':(Value.ref C==Value.type "ValueError")=false:=rfl
 repeat (any_goals (first | assumption | (with_reducible refine wpAny_loadPart_at hx ?_;rw[hc]) | (with_reducible refine wpAny_isSubtype_exc hC ?_;rw[hb]) | wp_step))
end
noncomputable def vQ (K:PySem.W.Frag):List Value->Bool
 |[]=>kY == []
 |v::r=>(v::r)==kY || match v with
  |.ref A=>(match K.lookup A with
   |some ⟨_,_,.cls cd,_⟩=>PySem.W.nsOkIn K cd.ns&&rT.all (fun n=>PySem.W.nsIn K cd.ns n==some none)&&vQ K r
   |_=>false)
  |_=>false
noncomputable def nr (K:PySem.W.Frag)(C:Addr):Bool:=PySem.W.excIn K C kY "ValueError.__new__" && (match K.lookup C with
 |some ⟨_,_,.cls cd,_⟩=>PySem.W.nsOkIn K cd.ns&&rT.all (fun n=>PySem.W.nsIn K cd.ns n==some none)&&vQ K cd.mro.tail
 |_=>false)
noncomputable def fO (K:PySem.W.Frag)(C D:Addr):Bool:=match K.lookup C with
 |some ⟨_,_,.cls cd,_⟩=>cd.mro.contains (.ref D)
 |_=>false
theorem sV (LS:K.In h):∀{l:List Value},vQ K l=true->lM h kY rT l
 | [],e=>by
  have e:(kY==([]:List Value))=true:=e;rw[<-ik.mp e];exact .base
 | v::r,e=>by
  unfold vQ at e;rcases Bool.or_eq_true_iff.mp e with q | q
  .rw[ik.mp q];exact .base
  .split at q
   .split at q
    .rename_i ho;simp only[Bool.and_eq_true,List.all_eq_true,beq_iff_eq] at q;exact .own (LS _ _ ho) (.of_isNs (PySem.W.isNs_of_in LS q.1.1)) (fun n hn=>PySem.W.nsMap_none_of_in LS q.1.1 (q.1.2 n hn)) (sV LS q.2)
    .cases q
   .cases q
structure Ka (K:PySem.W.Frag)(h:Heap)(C:Addr)(bm:List Value):Prop where
 ex:∃nm q N bs hdct sn sub ab col dd k0 k1 k2 k3 k5 mN,h.get? C=some (excClassObj nm q C N bs bm hdct sn sub ab col dd k0 k1 k2 k3 k5 "ValueError.__new__")/\h.Ns N mN/\∀n∈rT,mN n=none
 tail:OwnTail h kY bm
 tn:lM h kY rT bm
 over:∀D,fO K C D=(Value.ref C::bm).contains (.ref D)
theorem Dm (LS:K.In h)(q:nr K C=true):∃bm,Ka K h C bm:=by
 unfold nr at q;rw[ao] at q;obtain⟨bm,N,nm,qn,bs,hdct,sn,sub,ab,col,dd,k0,k1,k2,k3,k5,mN,hC,hN,OZ,T⟩:=mU LS q.1;have q2:=q.2;split at q2
 .rename_i c0 d0 cd sl ho;simp only[Bool.and_eq_true,List.all_eq_true,beq_iff_eq] at q2;obtain⟨⟨e1,e2⟩,e3⟩:=q2;have hk:=LS _ _ ho;rw[hC] at hk;have Mr:cd.mro=.ref C::bm/\cd.ns=N:=by
   injection hk with hk
   injection hk with _ _ O3 _
   injection O3 with O3
   subst O3;exact⟨rfl,rfl⟩
  refine⟨bm,⟨nm,qn,N,bs,hdct,sn,sub,ab,col,dd,k0,k1,k2,k3,k5,mN,hC,hN,fun n hn=>PySem.W.ns_none_of LS hN (by rw[<-Mr.2];exact e2 n hn)⟩,T,?_,fun D=>?_⟩
  .rw[Mr.1] at e3;exact sV LS e3
  .unfold fO;rw[ho];show cd.mro.contains (.ref D)=_;rw[Mr.1]
 .cases q2
noncomputable def pe (K:PySem.W.Frag)(D:Addr):Bool:=match K.lookup D with
 |some ⟨.type "type",_,.cls cd,sl⟩=>(match cd.mro,sl.toList with
  | .ref C'::_,[_,_,_,_,some (.builtin _),_]=>C'==D && !cd.hasDel
  |_,_=>false)
 |_=>false
theorem tU {D:Addr}(LS:K.In h)(q:pe K D=true) :
  ∃bm N nm qn bs hdct sn sub ab col dd k0 k1 k2 k3 k5 newId,h.get? D=some (excClassObj nm qn D N bs bm hdct sn sub ab col dd k0 k1 k2 k3 k5 newId):=by
 unfold pe at q;split at q
 .rename_i dd cd sl ho;split at q
  .rename_i C' bm k0 k1 k2 k3 n k5 hm hs;simp only[Bool.and_eq_true,beq_iff_eq,Bool.not_eq_true'] at q;obtain⟨rfl,NO⟩:=q;obtain⟨nm,bs,mro,ns,qn,hd,sn,sub,ab,col,del⟩:=cd;dsimp only at hm NO;subst hm NO;have TL:sl = #[k0,k1,k2,k3,some (.builtin n),k5]:=by
    obtain⟨l⟩:=sl;simp only at hs;rw[hs]
   subst TL;exact⟨bm,ns,nm,qn,bs,hd,sn,sub,ab,col,dd,k0,k1,k2,k3,k5,n,LS _ _ ho⟩
  .cases q
 .cases q
def EI (K:PySem.W.Frag)(C:Addr):Prop:=∀{h:Heap},K.In h->∃bm,Ka K h C bm
theorem FK (q:nr K C=true):EI K C:=fun LS=>Dm LS q
section
variable {prog:Program}{w:World}{A:Around}{E:Value->Shared->Prop}{K:PySem.W.Frag}
theorem CA {D:Addr}{Q:Value->Shared->Prop}(LS:K.In s.heap)(qC:EI K C)(qD:pe K D=true)(hx:s.heap.get? a=some o)(hc:o.cls=.ref C)(hq:∀t',Q (.bool (fO K C D)) { s with toks:=t' }) :
  wpAny (model prog w) A (call (.builtin "isinstance") [.ref a,.ref D]) Q E s:=by
 obtain⟨bm,FC⟩:=qC LS;obtain⟨nm,q,N,bs,hdct,sn,sub,ab,col,dd,k0,k1,k2,k3,k5,mN,hC,hN,My⟩:=FC.ex;obtain⟨OG,N',Po,q',PC,Mt,Pm,Ng,PD,Nu,Nc,j0,j1,j2,j3,j5,nI,hD⟩:=tU LS qD;obtain⟨h,g,d,t,os⟩:=s;refine call_isinstance_of (tf hC hN My FC.tail FC.tn hD hx hc fun t'=>?_) (by intro e;cases e);rw[<-FC.over D];exact hq t'
theorem BA {Q:Value->Shared->Prop}(LS:K.In s.heap)(qC:EI K C)(hx:s.heap.get? a=some o)(hc:o.cls=.ref C)(hq:Q (.bool true) s) :
  wpAny (model prog w) A (call (.builtin "isinstance") [.ref a,.type "ValueError"]) Q E s:=by
 obtain⟨bm,FC⟩:=qC LS;obtain⟨nm,q,N,bs,hdct,sn,sub,ab,col,dd,k0,k1,k2,k3,k5,mN,hC,hN,My⟩:=FC.ex;obtain⟨h,g,d,t,os⟩:=s;exact call_isinstance_of (zj hC FC.tail hx hc hq) (by intro e;cases e)
theorem CP {D:Addr}(qC:EI K C)(qD:pe K D=true)(hc:o.cls=.ref C):Answers (fun s=>K.In s.heap/\s.heap.get? a=some o) (.ref a) (.ref D) (fO K C D):=by
 intro dep tk prog w A R s hs;obtain⟨⟨LS,hx⟩,hq⟩:=hs;obtain⟨bm,FC⟩:=qC LS;obtain⟨nm,q,N,bs,hdct,sn,sub,ab,col,dd,k0,k1,k2,k3,k5,mN,hC,hN,My⟩:=FC.ex;obtain⟨OG,N',Po,q',PC,Mt,Pm,Ng,PD,Nu,Nc,j0,j1,j2,j3,j5,nI,hD⟩:=tU LS qD;obtain⟨h,g,d,t,os⟩:=s;refine tf hC hN My FC.tail FC.tn hD hx hc fun t'=>?_
 rw[<-FC.over D];exact hq t'
theorem wY (qC:EI K C)(hc:o.cls=.ref C):∀{Ds:List Addr},(∀D∈Ds,pe K D=true)->AnswersAll (fun s=>K.In s.heap/\s.heap.get? a=some o) (.ref a) (Ds.map Value.ref) (Ds.map (fO K C))
 |[],_=>trivial
 |D::Ds,h=>⟨CP qC (h D aj) hc,wY qC hc fun x hx=>h x (ai _ hx)⟩
theorem Bs {tp:Addr}{ot:Obj}{n:Nat}{Ds:List Addr}{Q:Value->Shared->Prop}(LS:K.In s.heap)(qC:EI K C)(qD:∀D∈Ds,pe K D=true)(hx:s.heap.get? a=some o)(hc:o.cls=.ref C)
  (ht:s.heap.get? tp=some ot) (htc:ot.cls=.type "tuple") (W3:ot.data=.seq (Ds.map Value.ref).toArray n) (hq:∀t',Q (.bool ((Ds.map (fO K C)).any id)) { s with toks:=t' }) :
  wpAny (model prog w) A (call (.builtin "isinstance") [.ref a,.ref tp]) Q E s:=by
 refine call_isinstance_of ?_ (by intro e;cases e);obtain⟨h,g,d,t,os⟩:=s;have hT2:(⟨h,g,d,t,os⟩:Shared).TypeIs (.ref tp) "tuple":=⟨_,ht,htc⟩;have f1:=F.isi_sub_tuple;have ne:(Value.ref C==Value.ref tp)=false:=by
  rw[gd];intro e;cases e;obtain⟨bm,FC⟩:=qC LS;obtain⟨nm,q,N,bs,hdct,sn,sub,ab,col,dd,k0,k1,k2,k3,k5,mN,hC,hN,My⟩:=FC.ex;rw[ht] at hC;cases hC;cases W3
 repeat (any_goals (first | assumption | (with_reducible refine wpAny_loadPart_at hx ?_;rw[hc]) | with_reducible refine wpAny_seqItems ht W3 ?_ | wp_step))
 refine wpAny_arrayLoop ?_;simp only[Option.getD_some,List.toList_toArray];refine isinstance_items (dep:=0) (P:=fun s=>K.In s.heap/\s.heap.get? a=some o) (fun s tk h=>h) (Ds.map Value.ref) (Ds.map (fO K C)) _ _ (wY qC hc qD) ⟨LS,hx⟩ fun Wt=>?_
 cases hv:(Ds.map (fO K C)).any id with
 |true =>
  simp only[if_true]
  repeat (any_goals (first | assumption | wp_step))
  exact hv ▸ hq Wt
 |false =>
  simp only[Bool.false_eq_true,if_false]
  repeat (any_goals (first | assumption | wp_step))
  exact hv ▸ hq Wt
end
section
variable {X:Cx}{pins:List (Addr×Obj)}{σ:L2.St}{H:Hp}{s:Shared}{D:Ends}{k:Nat}{f:Addr}{fd:FuncData}{ps:List Str}{sp:Sp}{MC:List V}{ds:List Value}{W:Value->Hp->Prop}
end
section
variable {X:Cx}{a C:Addr}{o:Obj}
def AE (K:PySem.W.Frag)(a C:Addr):List V->Hp->VK->Prop:=fun xs H Q =>
 (∃D,xs=[.ref a,.ref D]/\pe K D=true/\Q (.bl (fO K C D)) H)\/(xs=[.ref a,.ty "ValueError"]/\Q (.bl true) H) \/
  ∃(p:Addr) (Ds:List Addr),xs=[.ref a,.ref p]/\H p=some (.tup (Ds.map V.ref))/\(∀D∈Ds,pe K D=true)/\Q (.bl ((Ds.map (fO K C)).any id)) H
theorem qz:∀{Ds:List Addr}{us:List Value},aS (Ds.map V.ref) us->us=Ds.map Value.ref
 |[],_,.nil=>rfl
 | D::Ds,_,.cons r v=>by
  rw[qz v];have r:_=Value.ref D:=r;rw[r];rfl
theorem vo (qC:EI X.K C)(hc:o.cls=.ref C):eJ (oo X a o) (.builtin "isinstance") (AE X.K a C):=by
 intro pins s σ H xs us Q I r h;have hx:s.heap.get? a=some o:=(I.pin (a,o) (bo _ aj)).1;have LS:X.K.In s.heap:=I.Mp;rcases h with ⟨D,rfl,qD,q⟩ | ⟨rfl,q⟩ | ⟨p,Ds,rfl,hp,qD,q⟩
 .obtain⟨u,w',rfl,r1,r2⟩:=r.two;cases r1;cases r2;exact CA LS qC qD hx hc fun t'=>⟨.bl _,H,I.kept (t':=t') fun b o e=>e,rfl,q⟩
 .obtain⟨u,w',rfl,r1,r2⟩:=r.two;cases r1;cases r2;exact BA LS qC hx hc ⟨.bl true,H,I,rfl,q⟩
 .obtain⟨u,w',rfl,r1,r2⟩:=r.two;cases r1;cases r2;obtain⟨_,its,rv,ot,e1,e2,n,e3⟩:=I.LB p _ hp;have:=qz rv;subst this;exact Bs LS qC qD hx hc e1 e2 e3 fun t'=>⟨.bl _,H,I.kept (t':=t') fun b o e=>e,rfl,q⟩
theorem lK (qC:nr X.K C=true)(hc:o.cls=.ref C):eJ (oo X a o) (.builtin "isinstance") (AE X.K a C):=vo (FK qC) hc
end
def Df.Bd (d:Df):Prop:=∀(kV doc pm:Value) (an:Option Addr) (LD ct:Value) (us:List Value),us.length=d.ps.length->bindArgs (PySem.W.fnOf d.nm d.nm (cH d.st) (bD d.st) (aG d.st) .none kV doc pm an LD ct) ⟨us,[]⟩=pure (d.ps.zip us)
def Df.Ph (p:Pg)(fo:List Str)(d:Df):Prop:=d.Ok p\/(d.Bd/\d.nm∈fo)
variable {fo:List Str}
theorem Df.Ph.bd {p:Pg}{d:Df}(h:d.Ph p fo):d.Bd:=by
 rcases h with h | h
 .exact h.bd
 .exact h.1
theorem fY {p:Pg}{d:Df}{n:Nat}(h:d.Ir p n=true):cL d.N d.ps (aG d.st):=by
 unfold Df.Ir at h;simp only[Bool.and_eq_true,decide_eq_true_eq,Bool.not_eq_true',List.all_eq_true] at h;obtain⟨⟨⟨⟨⟨⟨h1,h2⟩,h3⟩,h4⟩,h5⟩,h6⟩,h7⟩:=h;exact⟨h1,h2,h3,h4,h5,fun x hx=>lB (h6 x hx),h7⟩
section
variable {p:Pg}{P:Program}{w:World}{K:Frag}{mg:Str->Option Value}{base:Heap}
def wM (p:Pg)(P:Program)(w:World)(K:Frag)(mg:Str->Option Value)(base:Heap)(n:Nat):Prop:=∀(i:Nat) (d:Df),p.Nb[i]? = some d->∀f fd,L2.lI K d.nm d.nm d.st f fd->lr P w K mg base xW n f fd d.ps (zy K d.ps.length (p.run n i))
def qV (p:Pg)(fo:List Str)(P:Program)(w:World)(K:Frag)(mg:Str->Option Value)(base:Heap):Prop:=∀(n i:Nat) (d:Df),p.Nb[i]? = some d->d.nm∈fo->wM p P w K mg base n->∀f fd,L2.lI K d.nm d.nm d.st f fd->lr P w K mg base xW (n+1) f fd d.ps (zy K d.ps.length (p.run (n+1) i))
theorem wm {fo:List Str}(hp:∀d∈p.Nb,d.Ph p fo)(hi:p.In K mg)(hh:Bp w K)(hf:qV p fo P w K mg base):∀n,wM p P w K mg base n:=by
 intro n
 induction n with
 |zero =>
  intro i d hd f fd F;refine⟨fun vs H Q E h=>lq h,fun A outer s H args us vs Q E hr he hb hv hs=>?_⟩;obtain⟨ds,G,_,_,r,h,_⟩:=hs;cases h
 |succ n ih =>
  intro i d hd f fd F;rcases hp d (List.mem_of_getElem? hd) with ⟨⟨m,hb⟩,S,_⟩ | ⟨_,hn⟩
  rotate_left
  .exact hf n i d hd hn ih f fd F
  refine F.ok S (fun vs H Q E h=>lq h) fun LD A outer s H vs Q E hr hs=>?_
  have C:nz (fH xW P w K mg base d.N d.nm (aG d.st) f LD A outer s H E).L1 (p.sc d) ⟨p.run n,p.gl,p.fuel⟩:=by
   refine⟨⟨rfl,S.nd,fun x h=>sR h,fun x h=>⟨lB h,.inl rfl⟩,fun x h=>wI h,fun x h=>h,?_,rfl,fun j x hj=>?_,fun j x hj=>hi.gl j x hj,fun x h=>hi.blt x h⟩,rfl,S.kind,PassesOwn.never⟩
   .exact⟨ip (Nat.add_le_add_left (by decide:40<=64) _) hr.units,hh⟩
   .obtain⟨e,he,hx⟩:=qu hj;obtain⟨f',OE,F',M'⟩:=hi.fn j e he;have B':=F'.binds (hp e (List.mem_of_getElem? he)).bd;subst hx;refine⟨f',OE,e.ps,n,ih j e he f' OE F',hr,M',F'.kp,B',fun ds r h=>?_⟩;have h:p.run n j ds=.ok r:=h;cases n with
    |zero=>cases h
    |succ n =>
     unfold Pg.run Pc.run at h;have:p.fns[j]? = some ⟨e.ps.length,e.N.length,e.body⟩:=by unfold Pg.fns;rw[List.getElem?_map,he];rfl
     rw[this] at h;dsimp only at h;by_cases hl:ds.length=e.ps.length
     .exact hl
     .rw[if_neg hl] at h;cases h
  refine⟨_,(IQ C m).2 _ _ hb,?_⟩;obtain⟨ds,G,hl,rs,r,LH,k⟩:=hs;unfold Pg.run Pc.run at LH;have:p.fns[i]? = some ⟨d.ps.length,d.N.length,d.body⟩:=by unfold Pg.fns;rw[List.getElem?_map,hd];rfl
  rw[this] at LH;dsimp only at LH;rw[if_pos hl] at LH;have hN:ds.length<=d.N.length:=by
   rw[hl,<-S.pre,bh];exact Nat.min_le_right _ _
  obtain⟨F0,re,hF⟩:=entry rs hN;refine⟨fun a=>H a≠none,fun a=>H a=none\/a∈G,aI ds d.N.length,F0,re,fun j a ha=>.inr (hF j a ha),fun a h=>.inl (Classical.not_not.mp h),?_⟩;show post K _ _ _ _ H _ (aE ⟨p.run n,p.gl,p.fuel⟩ d.body (aI ds d.N.length));have LH:(match aE ⟨p.run n,p.gl,p.fuel⟩ d.body (aI ds d.N.length) with
   |.rt d fr=>Rs.ok (d,fr)
   |.nx _=>.ok (.LC,true)
   |.xc e _=>.exc e
   |_=>.bad)=.ok r:=LH
  cases hq:aE ⟨p.run n,p.gl,p.fuel⟩ d.body (aI ds d.N.length) with
  |rt dd fr =>
   rw[hq] at LH;cases LH;intro v H' G' rp ev z fz;exact k v H' G' (tH ev) rp z fun hf=>let ⟨a,b⟩:=fz hf;⟨a,fun x hx=>⟨Classical.not_not.mp (b x hx).1,(b x hx).2⟩⟩
  |nx e =>
   rw[hq] at LH;cases LH;intro σ' H' F' af;exact k .LC H' [] (tH af.ev) .LC (fun _ h=>(nomatch h)) fun _=>⟨cu,fun _ h=>(nomatch h)⟩
  |bk e=>rw[hq] at LH;cases LH
  |ct e=>rw[hq] at LH;cases LH
  |xc e e'=>rw[hq] at LH;cases LH
  |bad=>rw[hq] at LH;cases LH
end
theorem Kd {l:PySem.W.OpenLaw}{q:Program}{loose:List Str}{XP:(Str->Option Value)->Heap->Prop}{YP:World->Heap->Prop}{d:DefRec}{K:Params->PySem.W.Frag}(p:Pg)(fo:List Str)(n i:Nat)(x:Str)(e:Df)(hn:l.most=some 63)(Qz:d.params.defaults=[])
  (hY:∀(w:World) (h:Heap),YP w h->(K w.params).In h) (hd:p.Nb[i]? = some e) (TV:e.ps=[x]) (Xd:d.name=e.nm) (hr:gM n callerA) (ok:tP (Df.Ph p fo) p.Nb) (st:∀w:World,uP p (K w.params)) (hL:∀w:World,Rm (K w.params)=true) (hH:∀w:World,Bp w (K w.params))
  (hf:∀(w:World) (mg:Str->Option Value) (h base:Heap),(K w.params).In h->h.Ns mainGlobals mg->p.In (K w.params) mg->qV p fo l.prog w (K w.params) mg base)
  (Tq:∀ns:List Int,ns.length<=63->∃fr,p.run n i [.lst (ns.map D.int)]=.ok (.bl true,fr)) :
  PySem.W.WalkO q loose XP YP l.row.toRowW d [] (fun f vs=>PySem.call f vs):=by
 refine L2.CK (n:=63) (k:=n) (x:=x) (CX:=fun _=>xW) (sp:=fun w=>zy (K w.params) 1 (p.run n i)) hn (by decide) Qz hr hY (fun w mg fa h KX G hm=>?_) (fun w H a ns hl _ hS=>?_) fun _ _ _ _ _ z=>z
 .have I:=(st w).isin KX G;obtain⟨f,fd,F,m⟩:=I.fn i e hd;rw[Xd,m] at hm;obtain rfl:f=fa:=by cases hm;rfl
  refine⟨fd,fun s u=>?_,fun base kb nb=>?_⟩
  .obtain⟨oc,od,kV,doc,pm,an,LD,ct,NY,rfl,lk,Mr⟩:=F.ex;have:=(dE ok e (List.mem_of_getElem? hd)).bd kV doc pm an LD ct [u] (by rw[TV];rfl);rw[TV] at this;exact .of_eq this
  .have:=wm (P:=l.prog) (w:=w) (base:=base) (dE ok) I (hH w) (hf w mg h base KX G I) n i e hd f fd F;rw[TV] at this;exact this
 .obtain⟨fr,h⟩:=Tq ns hl;exact Fw (hL w) hS h
def Ab (K:Frag)(x:Str)(C:Addr):Prop:=PySem.W.nsIn K mainGlobals x=some (some (.ref C))/\nr K C=true
theorem jW {K:Frag}(h:nr K C=true):PySem.W.excIn K C kY "ValueError.__new__" = true:=by
 unfold nr at h;rw[ao] at h;exact h.1
theorem Ap {K:Frag}{D:Addr}(h:nr K C=true)(o:fO K C D=true):Ao K C D:=by
 unfold fO at o;split at o
 .rename_i c0 dd cd sl hl;exact⟨_,_,cd,c0,dd,sl,jW h,hl,o⟩
 .cases o
structure XX (k:Nat)(A:Around):Prop where
 hd:A.handled=none
 dp:A.depth+3*k+6<recursionLimit
 un:A.units+16*k+203<cLine
structure cV (P:Program)(w:World)(K:PySem.W.Frag)(mg:Str->Option Value)(base:Heap)(CX:rR)(RP:Around->Prop)(f:Addr)(fd:FuncData)(ps:List Str)(sp:Sp):Prop where
 len:∀vs H Q E,sp vs H Q E->vs.length=ps.length
 run:∀(A:Around) (outer:List Env) (s:Shared) (H:Hp) (args:PySem.Args) (us:List Value) (vs:List V) (Q:VK) (E:XK),RP A->sj P w K mg base A outer s H->BindsTo s fd args (ps.zip us)->aS vs us->sp vs H Q E ->
  codeAny (model P w) A (.call (.ref f) args) (CR CX outer P w H s Q E) s
variable {CX:rR}
section
variable {P:Program}{w:World}{K:PySem.W.Frag}{mg:Str->Option Value}{base:Heap}{f:Addr}{fd:FuncData}{ps N:List Str}{sp:Sp}
theorem cV.plain {k:Nat}(F:cV P w K mg base CX (gM k) f fd ps sp):lr P w K mg base CX k f fd ps sp:=⟨F.len,F.run⟩
theorem kj {RP:Around->Prop}{st:Stmt}(F:L2.lI K x qual st f fd)(S:cL N ps (aG st))(Px:∀A,RP A->A.handled=none/\A.depth<recursionLimit)(len:∀vs H Q E,sp vs H Q E->vs.length=ps.length)
  (MM:∀(LD:Value) (A:Around) (outer:List Env) (s:Shared) (H:Hp) (vs:List V) (Q:VK) (E:XK),RP A->sp vs H Q E ->
   ∃t,lP (fH CX P w K mg base N qual (aG st) f LD A outer s H E) (bD st) t/\t { nx:=fun _ H'=>Q .LC H',rt:=Q } (L2.start N vs) H):cV P w K mg base CX RP f fd ps sp:=by
 obtain⟨oc,od,kV,doc,pm,an,LD,ct,NY,rfl,lk,Mr⟩:=F.ex;refine⟨len,fun A outer s H args us vs Q E hr e0 hb r Mw=>?_⟩;have hl:=len _ _ _ _ Mw;have KX:K.In s.heap:=e0.mod.LS.keeps fun b o e=>(e0.bs b o e).1
 have lim:s.heap.NoLimit:=e0.mod.nolimit.keeps fun b o e=>(e0.bs b o e).1
 have NM:∀y∈ps.zip us,(aG st).names.lookup y.1=some .local\/((aG st).names.lookup y.1=some .cell/\((cellsFrom (s.heap.objs.size+1) (aG st).names []).lookup y.1).isSome=true):=fun ⟨n,v⟩ hy=>by
  rcases S.par n (jq hy).1 with q | q
  .exact .inl q
  .exact .inr ⟨q,ji _ _ _ (.inl q)⟩
 refine codeAny_call_function (Px A hr).2 (KX _ _ lk) rfl S.co S.gen rfl (PySem.W.codeRec_of KX Mr) (hb _ _ _ _ ?_);refine wpAny_newFunctionEnv_cells S.kind NM fun env he s1 x=>?_
 subst he;refine⟨lim.keeps x.toInCall.keep,codeAny_func ?_⟩;obtain⟨t,ht,hq⟩:=MM LD A outer s H vs Q E hr Mw;have I:Inv (fH CX P w K mg base N qual (aG st) f LD A outer s H E) [] (L2.start N vs) H s1:=qq S (Px A hr).1 e0 hl r x;refine wpAny_mono (ht [] s1 (L2.start N vs) H _ I hq) (fun fl s' hs=>?_) fun e s' hs=>hs
 have fin:∀{σ':L2.St}{H':Hp}{v:V}{u:Value},Inv (fH CX P w K mg base N qual (aG st) f LD A outer s H E) [] σ' H' s'->RelV v u->Q v H'->CE outer P w H s Q u s' :=
  fun {σ' H' v u} J rv q=>⟨v,H',J.os,J.bare,J.base,J.LB,rv,q⟩
 cases fl with
 |ret u =>
  obtain⟨v,σ',H',J,rv,q⟩:=hs;exact fin J rv q
 |next =>
  obtain⟨σ',H',J,q⟩:=hs;exact fin (v:=V.LC) (u:=Value.none) J rfl q
 |brk =>
  obtain⟨_,_,_,q⟩:=hs;exact False.elim q
 |cont =>
  obtain⟨_,_,_,q⟩:=hs;exact False.elim q
end
variable {Q:VK}
section
variable {X:Cx}{pins:List (Addr×Obj)}{σ:L2.St}{H:Hp}{s:Shared}{D:Ends}{RP:Around->Prop}{f:Addr}{fd:FuncData}{ps:List Str}{sp:Sp}{MC:List V}{ds:List Value}{W:Value->Hp->Prop}
theorem CV {vs:List V}(F:cV X.prog X.w X.K X.mg X.base (l7 X.prog X.w) RP f fd ps sp)(hr:RP X.A)(hb:Binds X.K fd ps ds)(hd:aS MC ds)
  (I:Inv X pins σ H s) (r:aS vs us) (h:sp (vs++MC) H Q (fun C _ H'=>W C H')):wpAny (model X.prog X.w) X.A (call (.ref f) us) (EP X pins σ Q) (ni X pins σ W) s:=by
 have r2:aS (vs++MC) (us++ds):=r.append hd;have hl:(us++ds).length=ps.length:=by rw[<-r2.length];exact F.len _ _ _ _ h
 refine wpAny_call (codeAny_mono (F.run X.A X.stack s H ⟨us,[]⟩ (us++ds) (vs++MC) Q _ hr I.env0 (hb s us I.Mp hl) r2 h) fun r s' hq=>?_);cases r with
 |error e =>
  have hq:l7 X.prog X.w X.stack H s (fun C _ H'=>W C H') e s':=hq;obtain⟨a,C,a0,H',B,e1,e2,e3,e4,e5,e6⟩:=Ac (X:=X) hq;exact⟨H,s,a,C,a0,H',B,I,e1,e2,e3,e4,e5,e6⟩
 |ok fl =>
  cases fl with
  |ret u=>exact I.after hq
  |next=>exact False.elim hq
  |brk=>exact False.elim hq
  |cont=>exact False.elim hq
theorem xZ {p:Pos}(F:cV X.prog X.w X.K X.mg X.base (l7 X.prog X.w) RP f fd ps sp)(hr:RP X.A)(hg:Gl X x)(hm:X.mg x=some (.ref f))(hk:PySem.W.keepIn X.K (.ref f)=true)(hb:Binds X.K fd ps ds)(hd:aS MC ds)
  (I:Inv X pins σ H s) (ha:PA X.L1 (e::es) t) (h:t σ H fun vs H1=>sp (vs++MC) H1 Q (fun C _ H'=>W C H')) (Nn:(x==("__debug__" : Str))=false:=by decide)
  (he:starEach (e::es) X.env=(false,eval e X.env)::starEach es X.env:=by rfl) (Md:(backTo pos (starEach es X.env)).any (·.1)=false:=by rfl) :
  wpAny (model X.prog X.w) X.A (eval (.Call (.Name x p) (e::es) [] pos) X.env) (EP X pins σ Q) (ni X pins σ W) s:=by
 refine wpAny_Call_Name_kw (gT I hg hm ?_ Nn);refine il (h₀:=X.base) I.ok.mod.LS hk (wpAny_mono (ha pos pins s σ H _ (I.Mb _) h) (fun us s1 ⟨vs,H1,I1,r,q⟩=>⟨I1.LK.Mp,?_⟩) fun _ _ z=>False.elim z) he Md;exact CV F hr hb hd I1.LK r q
end
section
variable {X:Cx}{S:Sc}{T:Tb}
end
section
variable {p:Pg}{P:Program}{w:World}{K:Frag}{mg:Str->Option Value}{base:Heap}
theorem rq {n:Nat}{sc:Scope}{ps:List Str}{LD:Value}(hp:∀d∈p.Nb,d.Ph p fo)(hi:p.In K mg)(hh:Bp w K)(ih:wM p P w K mg base n)(S:cL N ps sc)
  (hr:gM n (A.deeper (envOfC nm sc s.heap.objs.size f LD))):nz (fH CX P w K mg base N nm sc f LD A outer s H E).L1 ⟨N,sc,p.Nb.map (·.nm),p.uz,p.hV⟩ ⟨p.run n,p.gl,p.fuel⟩:=by
 refine⟨⟨rfl,S.nd,fun x h=>sR h,fun x h=>⟨lB h,.inl rfl⟩,fun x h=>wI h,fun x h=>h,?_,rfl,fun j x hj=>?_,fun j x hj=>hi.gl j x hj,fun x h=>hi.blt x h⟩,rfl,S.kind,PassesOwn.never⟩
 .exact⟨ip (Nat.add_le_add_left (by decide:40<=64) _) hr.units,hh⟩
 .obtain⟨e,he,hx⟩:=qu hj;obtain⟨f',OE,F',M'⟩:=hi.fn j e he;have B':=F'.binds (hp e (List.mem_of_getElem? he)).bd;subst hx;refine⟨f',OE,e.ps,n,ih j e he f' OE F',hr,M',F'.kp,B',fun ds r h=>?_⟩;have h:p.run n j ds=.ok r:=h;cases n with
  |zero=>cases h
  |succ n =>
   unfold Pg.run Pc.run at h;have:p.fns[j]? = some ⟨e.ps.length,e.N.length,e.body⟩:=by unfold Pg.fns;rw[List.getElem?_map,he];rfl
   rw[this] at h;dsimp only at h;by_cases hl:ds.length=e.ps.length
   .exact hl
   .rw[if_neg hl] at h;cases h
def Sy (K:Frag)(n:Nat)(C:Addr)(f:List D->Fl):Sp:=fun vs H Q E=>∃ds G,ds.length=n/\aJ K H ds vs G/\(match f ds with
 |.rt d fr=>∀v H' G',aH H H'->Rep K H' d v G'->(∀a∈G',H a=none\/a∈G)->(fr=true->G'.Nodup/\∀a∈G',H a=none/\∃vs:ML,H' a=some vs.o)->Q v H'
 |.nx _=>∀H',aH H H'->E (.ref C) none H'
 |_=>False)
end
section
variable {X:Cx}{pins:List (Addr×Obj)}{σ:L2.St}{H:Hp}{s:Shared}{D:Ends}{W:Value->Hp->Prop}
theorem BI {i:Nat}{pos':Pos}{Q:VK}(hN:X.N.Nodup)(hi:X.N[i]? = some x)(hx:Loc X.env.scope x)(I:Inv X pins σ H s)(h:wpAny (model X.prog X.w) X.A (eval e X.env) (EP X pins σ Q) (ni X pins σ W) s)(hq:∀v H',Q v H'->D.nx (σ.set i (some v)) H')
  (hs:swapsWith e (some (.Name x pos')) pos.line X.env=pure false:=by rfl) (hf:X.fn x=true\/X.env.scope.names.lookup x=some .local:=by first | exact .inl rfl | exact .inr rfl | assumption) :
  wpAny (model X.prog X.w) X.A (execs [.Assign [.Name x pos'] e pos] X.env) (SP X pins D) (ni X pins σ W) s:=by
 refine wpAny_execs_cons (wpAny_mono (Q:=SP X pins D) (wpAny_Assign_Name (cO h fun v s1 ⟨y,H1,I1,r1,q1⟩=>iF I1 hN hi hx r1 (fun s2 I2=>⟨_,H1,I2,hq _ _ q1⟩) hf) hs) (fun f s1 q=>?_) fun _ _ z=>z);cases f with
 |next=>exact wpAny_execs_nil q
 |ret v=>exact q
 |brk=>exact q
 |cont=>exact q
end
def mw (h:Heap)(e:Addr)(od:Option Addr):Prop:=∃o,h.get? e=some o/\o.dict=od
theorem m9 (o:Obj)(f):(o.mapFields f).dict=o.dict:=by
 unfold Obj.mapFields;split<;>rfl
section
variable {M:Model}{A:Around}{E:Value->Shared->Prop}{s:Shared}{base:Heap}{env:Env}{outer l:List Env}{L e:Addr}{oe:Obj}{vs:Array Value}{head a0 cls fl:Value}{Ob:Bool}{od:Option Addr}
theorem FY {Q:Unit->Shared->Prop}(fr:A.frames=some (env::outer))(ff:s.heap.FunFrames base (env::outer))(ef:env.frame=some L)(at_:s.heap.get? e=some oe)(st:base.StaysIn s.heap)(nw:base.get? e=none)(da:oe.data=.fields vs)(sz:1<vs.size)
  (v0:vs[0]? = some a0) (k:∀h',Heap.NotedW base (env::outer) e oe.cls a0 (rawInt L) s.heap h'->mw h' e oe.dict->Q () { s with heap:=h' }) :
  wpAny M A (do let a <- frameOf env;let pl <- entryPlaceOf L Ob;let b <- EntryCells.newEntry head a .none (rawInt L) .none pl;setField (.ref e) 1 b) Q E s:=by
 have Me:e∉(env::outer).filterMap (·.frame):=fun z=>by
  obtain⟨_,o,ho,nf⟩:=ff.mem z;rw[at_] at ho;cases ho;exact nf vs da
 refine wpAny_bind (wpAny_frameOf_fun fr ff ef fun g so=>wpAny_bind (wpAny_entryPlaceOf fun pl hp=>?_));unfold EntryCells.newEntry newFields;refine wpAny_bind (wpAny_newObj_type ?_ (hp.sizeOk5 _ _ _ _ _));have Mo:g.get? e=some oe:=(so.2.1 e Me).trans at_;have Ww:base.StaysIn g:=fun b o q=>(so.2.1 b fun z=>by rw[(ff.mem z).1] at q;cases q).trans (st b o q)
 generalize hT:({ cls:=.type "traceback",dict:=none,data:=.fields ([head,.ref L,.none,rawInt L,.none]++(if pl.isEmpty then List.replicate 6 Value.none else pl)).toArray }:Obj)=oT;have frT:oT.isFreed=false:=by subst hT;rfl
 have daT:oT.data=.fields ([head,.ref L,.none,rawInt L,.none]++(if pl.isEmpty then List.replicate 6 Value.none else pl)).toArray:=by subst hT;rfl
 have at2:=Heap.get?_push_of_some oT Mo;refine wpAny_setField at2 da sz (k _ ?_ ?_)
 .have ne:g.objs.size≠e:=Nat.ne_of_gt (Heap.lt_size Mo);have XC:=Obj.data_mapFields da (·.setIfInBounds 1 (Value.ref g.objs.size));have Pb:=Heap.get?_update_self (Obj.mapFields (·.setIfInBounds 1 (Value.ref g.objs.size))) at2 (Obj.isFreed_of_fields XC);have tb3:=(Heap.get?_update_other (g.push oT) (Obj.mapFields (·.setIfInBounds 1 (Value.ref g.objs.size))) (eh ne)).trans (Heap.get?_push_size g frT);have kp:∀b o,b≠e->g.get? b=some o->((g.push oT).update e (Obj.mapFields (·.setIfInBounds 1 (Value.ref g.objs.size)))).get? b=some o:=fun b o hb q =>
   (Heap.get?_update_other _ _ (eh hb)).trans (Heap.get?_push_of_some _ q)
  have MJ:∀b o,s.heap.get? b=some o->(∀ws,o.data≠.fields ws)->b≠e:=fun b o q nf z=>by
   subst z;rw[at_] at q;cases q;exact nf vs da
  refine⟨fun b o q=>kp b o (fun z=>by rw[z,nw] at q;cases q) (Ww b o q),ff.of_keeps fun b o q nf=>?_,⟨_,_,g.objs.size,_,_,Pb,⟨Obj.cls_mapFields _ _,by rw[Array.getElem?_setIfInBounds_ne (by decide)];exact v0⟩,XC,by simp[sz],Ww.fresh,ne,tb3,daT,?_⟩,fun b o q nf=>?_⟩
  .obtain⟨sl,q1⟩:=so.2.2 b o q;exact⟨_,kp b _ (MJ b o q nf) q1,rfl⟩
  .rcases hp with rfl | ⟨_,_,_,_,_,_,_,rfl⟩<;>simp
  .obtain⟨sl,q1⟩:=so.2.2 b o q;exact⟨sl,kp b _ (MJ b o q nf) q1⟩
 .exact⟨_,Heap.get?_update_self _ at2 (Obj.isFreed_of_fields (Obj.data_mapFields da _)),m9 _ _⟩
theorem CL {Q:Unit->Shared->Prop}(st:base.StaysIn s.heap)(ff:s.heap.FunFrames base l)(tr:s.heap.TracedAtW base e cls a0 fl)(dc:mw s.heap e od)
  (k:∀h',base.StaysIn h'->h'.FunFrames base l->h'.TracedW base e cls a0->(∀b o,s.heap.get? b=some o->(∀ws,o.data≠.fields ws)->h'.get? b=some o)->mw h' e od->Q () { s with heap:=h' }) :
  wpAny M A (setFlight (.ref e) none) Q E s:=by
 obtain⟨ob,ws,T,oT,ts,e1,e2,e3,e4,e5,e6,e7,e8,e9⟩:=tr;have z3:3<ts.size:=(Array.getElem?_eq_some_iff.mp e9).1;have ot:∀b,b≠T->(s.heap.update T (Obj.mapFields (·.setIfInBounds 3 ((none:Option Addr).elim Value.none fun f=>rawInt f)))).get? b=s.heap.get? b:=fun b hb=>Heap.get?_update_other _ _ (eh hb)
 have MJ:∀b o,s.heap.get? b=some o->(∀us,o.data≠.fields us)->b≠T:=fun b o q nf z=>by
  subst z;rw[e7] at q;cases q;exact nf ts e8
 unfold setFlight;refine wpAny_bind (wpAny_field e1 e3 e4 ?_);rw[if_pos (show (Value.ref T != Value.none)=true from by simp)];refine wpAny_setField e7 e8 z3 (k _ (fun b o q=>(ot b fun z=>by rw[z,e5] at q;cases q).trans (st b o q)) (ff.of_keeps fun b o q nf=>⟨o,(ot b (MJ b o q nf)).trans q,rfl⟩) ?_ (fun b o q nf=>(ot b (MJ b o q nf)).trans q) ?_)
 .exact⟨ob,ws,T,_,_,(ot e (Ne.symm e6)).trans e1,e2,e3,e4,e5,e6,Heap.get?_update_self _ e7 (Obj.isFreed_of_fields (Obj.data_mapFields e8 _)),Obj.data_mapFields e8 _,by simp[z3]⟩
 .obtain⟨o,q1,q2⟩:=dc;exact⟨o,(ot e (eh e6)).trans q1,q2⟩
theorem Kr {Q:Unit->Shared->Prop}(fr:A.frames=some (env::outer))(ef:env.frame=some L)(f:Heap.FlyingW base (env::outer) e cls a0 s.heap)(dc:mw s.heap e od)
  (k:∀h',Heap.HeldW base (env::outer) e cls a0 L h'->s.heap.UpToSlots h'->mw h' e od->Q () { s with heap:=h' }):wpAny M A (noteFrame (.ref e) env) Q E s:=by
 obtain⟨f1,f2,f3,ob,ws,T,oT,ts,e1,⟨rfl,e2⟩,e3,e4,e5,e6,e7,e8,e9⟩:=f;have Up:ob.dict=od:=by
  obtain⟨o,q1,q2⟩:=dc;rw[e1] at q1;cases q1;exact q2
 unfold noteFrame;simp only[ef];refine wpAny_bind (wpAny_field e1 e3 e4 ?_);rw[if_pos (show (Value.ref T != Value.none)=true from by simp)];refine wpAny_bind (wpAny_field e7 e8 e9 ?_);rw[if_neg (show ¬ ((Value.none==rawInt L)=true) from by simp[rawInt])];refine wpAny_bind (wpAny_setField e7 e8 (Array.getElem?_eq_some_iff.mp e9).1 ?_);have ot:∀b,b≠T->(s.heap.update T (Obj.mapFields (·.setIfInBounds 3 Value.none))).get? b=s.heap.get? b:=fun b hb=>Heap.get?_update_other _ _ (eh hb)
 have MJ:∀b o,s.heap.get? b=some o->(∀us,o.data≠.fields us)->b≠T:=fun b o q nf z=>by
  subst z;rw[e7] at q;cases q;exact nf ts e8
 refine FY fr (f3.of_keeps fun b o q nf=>⟨o,(ot b (MJ b o q nf)).trans q,rfl⟩) ef ((ot e (eh e6)).trans e1) (fun b o q=>(ot b fun z=>by rw[z,e5] at q;cases q).trans (f1 b o q)) f2 e3 (Array.getElem?_eq_some_iff.mp e4).1 e2 fun h' ⟨n1,n2,n3,n4⟩ d'=>?_
 exact k h' ⟨n1,f2,n2,n3⟩ (fun b o q nf=>n4 b o ((ot b (MJ b o q nf)).trans q) nf) (Up ▸ d')
theorem onD {Q:Unit->Shared->Prop}(fr:A.frames=some (env::outer))(ef:env.frame=some L)(f:Heap.FlyingW base (env::outer) e cls a0 s.heap)(dc:mw s.heap e od)
  (k:∀h',Heap.FlyingW base outer e cls a0 h'->s.heap.UpToSlots h'->mw h' e od->Q () { s with heap:=h' }):wpAny M A (leaving env (.ref e)) Q E s:=by
 unfold leaving;refine wpAny_bind (Kr fr ef f dc fun g ⟨n1,n2,n3,n4⟩ u d1=>?_);refine CL (s:={ s with heap:=g }) n1 n3 n4 d1 fun h' k1 k2 k3 k4 k5=>k h' ⟨k1,n2,?_,k3⟩ (u.trans fun b o q nf=>⟨o.slots,k4 b o q nf⟩) k5
 obtain⟨_,_,z⟩:=k2;exact z
end
def Att (x:Str)(h:Heap)(e:Addr)(n:Int):Prop:=∃dx m u,mw h e (some dx)/\h.Ns dx m/\m x=some (.int n u)
noncomputable def DM (K:PySem.W.Frag)(ns:List Str):List Value->Bool
 |[]=>kY == []
 |v::r=>(v::r)==kY || match v with
  |.ref A=>(match K.lookup A with
   |some ⟨_,_,.cls cd,_⟩=>PySem.W.nsOkIn K cd.ns&&ns.all (fun n=>PySem.W.nsIn K cd.ns n==some none)&&DM K ns r
   |_=>false)
  |_=>false
noncomputable def Tu (K:PySem.W.Frag)(C:Addr)(ns:List Str)(fI:Addr):Bool:=match K.lookup C with
 |some ⟨.type "type",_,.cls cd,sl⟩=>(match cd.mro,sl.toList with
  | .ref C'::bm,[_,_,_,_,some (.builtin n),_]=>C'==C&&n == "ValueError.__new__" && !cd.hasDel&&cd.hasDict&&PySem.W.tailIn K kY bm&&DM K ns bm&&PySem.W.nsOkIn K cd.ns&&ns.all (fun n=>PySem.W.nsIn K cd.ns n==some none)&&PySem.W.nsIn K cd.ns "__init__" == some (some (.ref fI))
  |_,_=>false)
 |_=>false
structure IniF (K:PySem.W.Frag)(h:Heap)(C:Addr)(ns:List Str)(fI:Addr)(bm:List Value):Prop where
 ex:∃nm q N bs sn sub ab col dd k0 k1 k2 k3 k5 mN,h.get? C=some (excClassObj nm q C N bs bm true sn sub ab col dd k0 k1 k2 k3 k5 "ValueError.__new__")/\h.Ns N mN/\(∀n∈ns,mN n=none)/\mN "__init__" = some (.ref fI)
 tail:OwnTail h kY bm
 tn:lM h kY ns bm
section
variable {prog:Program}{w:World}{A:Around}{E:Value->Shared->Prop}{h:Heap}{g:Array GenState}{d:Drawn}{t:Nat}{os:OsState}{e:Addr}{oe:Obj}{vs:Array Value}{ns:List Str}
 {nm q:Str}{C N:Addr}{bs bm:List Value}{sn:List Str}{sub:List Value}{ab:Bool}{col:Option Bool}{dd:Option Addr}{k0 k1 k2 k3 k5:Option Value}{newId:String}{mN:Str->Option Value}{x:Str}{v:Value}
end
section
variable {prog:Program}{w:World}{A:Around}{E:Value->Shared->Prop}{h:Heap}{g:Array GenState}{d:Drawn}{t:Nat}{os:OsState}{e t0:Addr}{us:List Value}
 {nm q:Str}{C N fI:Addr}{bs bm:List Value}{hdct:Bool}{sn:List Str}{sub:List Value}{ab:Bool}{col:Option Bool}{dd:Option Addr}{k0 k1 k2 k3 k5:Option Value}{mN:Str->Option Value}
end
noncomputable abbrev ins (x:Str):List Str:=["__getattribute__","__getattr__","__class__","__setattr__",x]
structure JM (st:Stmt)(S x:Str):Prop where
 ex:∃(c1 c2:Str) (p1 p2 p3 p4 p5 p6 p7 p8 p9 p10 p11 p12 p13 p14:Pos),bD st=[.Expr (.Call (.Attribute (.Name S p1) "__init__" p2) [.Name "self" p3,.JoinedStr [.Constant (.str c1) 0 p4,.FormattedValue (.Name x p5) (-1) none p6,.Constant (.str c2) 0 p7] p8] [] p9) p10,
   .Assign [.Attribute (.Name "self" p11) x p12] (.Name x p13) p14] /\
  (p2.endLine==p9.line)=true/\c1.length<=1000/\c2.length<=1000
 sc:cL ["self",x] ["self",x] (aG st)
 gl:(aG st).names.lookup S=some .globalImplicit
 l1:(aG st).names.lookup ("self" : Str)=some .local
 l2:(aG st).names.lookup x=some .local
 ne:x≠"self"
 db:(S==("__debug__" : Str))=false/\(x==("__debug__" : Str))=false
structure IniK (K:PySem.W.Frag)(mg:Str->Option Value)(S x qual:Str)(C cS fI:Addr)(fd:FuncData)(st:Stmt):Prop where
 hS:mg S=some (.ref cS)
 cls:Tu K C (ins x) fI=true
 keep:PySem.W.keepIn K (.ref C)=true
 ga:PySem.W.specialIn K (.ref cS) "__getattribute__" = some (some (.builtin "type.__getattribute__"))
 rd:PySem.W.readsIn K cS (.type "type")=true
 fc:PySem.W.findCls K (.ref cS) (.type "type") "__init__" = some (.val (.builtin "ValueError.__init__"))
 F:L2.lI K "__init__" qual st fI fd
 ft:(K.lookup fI).any (fun o=>o.cls == .type "function")=true
 bd:Binds K fd ["self",x] []
 s:JM st S x
 nx:typeLookup (.type "ValueError") x=pure none
theorem log2_small {n:Int}(h:n.natAbs<2 ^ 64):n.natAbs.log2<1920:=by
 by_cases z:n.natAbs=0
 .rw[z];decide
 .have:=(Nat.log2_lt z).mpr h;omega
section
variable {P:Program}{w:World}{K:PySem.W.Frag}{mg:Str->Option Value}{base:Heap}{A:Around}{E:Value->Shared->Prop}{s:Shared}{e t0 C cS fI:Addr}{fd:FuncData}{st:Stmt}{S x qual:Str}{n:Int}{u:Tok}
end
section
variable {M:Model}{A:Around}{E:Value->Shared->Prop}{s:Shared}{env:Env}{nm q:Str}{C N:Addr}{bs bm:List Value}{hdct:Bool}{sn:List Str}{sub:List Value}{ab:Bool}{col:Option Bool}{dd:Option Addr}{k0 k1 k2 k3 k5:Option Value}{newId:String}
end
section
variable {X:Cx}
end
inductive Rb where
 | fin (cs:bL)
 | seq (cs:bL) (c:Ex) (n:Nat) (r:Rb)
section
variable {X:Cx}{S:Sc}{T:Tb}{W:Nat->Hp->Prop}
end
section
variable {p:Pg}{P:Program}{w:World}{K:Frag}{mg:Str->Option Value}{base:Heap}
def Wx (K:Frag)(n:Nat)(C:Addr)(f:List D->Option ((D×Bool) ⊕ Nat)):Sp:=fun vs H Q E=>∃ds G,ds.length=n/\aJ K H ds vs G/\(match f ds with
 | some (.inl (d,fr))=>∀v H' G',aH H H'->Rep K H' d v G'->(∀a∈G',H a=none\/a∈G)->(fr=true->G'.Nodup/\∀a∈G',H a=none/\∃vs:ML,H' a=some vs.o)->Q v H'
 | some (.inr k)=>∀H',aH H H'->E (.ref C) (some k) H'
 |none=>False)
end
section
variable {X:Cx}{pins:List (Addr×Obj)}{σ:L2.St}{H:Hp}{s:Shared}{D:Ends}{x:Str}{W:Value->Nat->Hp->Prop}
end
end Pc
end
section
namespace Fl64
noncomputable def dbl (a:Nat):Nat:=if 64<=2*a then (2*a)^^^67 else 2*a
noncomputable def Ji:Nat->Nat->Nat->Nat->Nat
 |0,p,_,_=>p
 |n+1,p,d,l=>if l=0 then p else Ji n (if l%2=1 then p^^^d else p) (dbl d) (l / 2)
noncomputable def tm (a b:Nat):Nat:=Ji 6 0 a b
noncomputable def allB (n:Nat)(f:Nat->Bool):Bool:=match n with
 |0=>true
 |k+1=>f k&&allB k f
end Fl64
end
section
namespace Pc
open PySem
noncomputable abbrev sI (i:Int):Slot:=some (.int i,.own)
noncomputable abbrev sN (i:Nat):Slot:=some (.int (i:Int),.own)
noncomputable def ret (f:Fl):Rs (D×Bool):=match f with
 |.rt d fr=>.ok (d,fr)
 |.nx _=>.ok (.LC,true)
 |.xc e _=>.exc e
 |_=>.bad
variable {n:Nat}
theorem bH {fns:List Fn}{gl:Nat->D}{fuel i:Nat}{F:Fn}{ds:List D}(h:fns[i]? = some F)(hl:ds.length=F.ps):Pc.run fns gl fuel (n+1) i ds=ret (aE ⟨Pc.run fns gl fuel n,gl,fuel⟩ F.body (aI ds F.slots)):=by
 unfold Pc.run;rw[h];dsimp only;rw[if_pos hl];rfl
theorem cM {a m:Int}(h0:0<=a)(h1:a<m):∃n:Nat,a=(n:Int)/\(n:Int)<m:=⟨a.toNat,by omega,by omega⟩
theorem m8 {x:Int}(h0:0<=x)(h1:x<2147483648):small x=true:=bp ⟨by omega,by omega⟩
theorem nk {k:Nat}(h:k<n):j9 n (k:Int)=some k:=by
 unfold j9;rw[if_pos (by omega),if_pos (by omega),cj]
theorem yG (env:En):lock [] env=env:=by
 unfold lock;have:∀(l:En) (k:Nat),(l.mapIdx fun i (s:Slot)=>match s with
  | some (d,.own)=>if ([]:List Nat).contains i then some (d,.lk) else some (d,.own)
  |s=>s)=l:=fun l k=>by
  rw[List.mapIdx_eq_iff];intro i;cases h:l[i]? with
  |none=>rfl
  |some s =>
   cases s with
   |none=>rfl
   |some p=>obtain⟨d,t⟩:=p;cases t<;>rfl
 exact this env 0
theorem uu (e0 env:En):unlock [] e0 env=env:=by
 unfold unlock;rw[List.mapIdx_eq_iff];intro i;cases h:env[i]? with
 |none=>rfl
 |some s =>
  cases s with
  |none=>rfl
  |some p =>
   obtain⟨d,t⟩:=p;cases t with
   |lk =>
    simp only[Option.map_some];split<;>rfl
   |own=>rfl
   |sh R=>rfl
theorem dQ {T:Tb}{t:oU}{it:ym}{b:bL}{env e:En}{l:List D}(hit:fU T it env=.ok (l,[]))(h:cZ t [] (aE T b) l env=.nx e):aV T (.LP t it b) env=.nx e:=by
 rw[aV,hit,bA];dsimp only;rw[yG,h];dsimp only;rw[uu]
end Pc
end
section
namespace Pc
open PySem PySem.Spec PyProof.Rows L2
noncomputable def bL.app:bL->bL->bL
 |.nil,b=>b
 |.cons s r,b=>.cons s (r.app b)
noncomputable def Rb.ask:Rb->bL
 |.fin cs=>cs
 |.seq cs c n r=>cs.app (.cons (.ite c (.cons .N3 .nil) .nil) r.ask)
structure X4 (st:Stmt)(a b c t g y:Str):Prop where
 ex:∃(j1 j2:Nat) (q1 q2 q3 p1 p2 p3 p4 p5 p6 p7 p8 h1 h2 h3 h4 h5 r1 r2:Pos),bD st=[.Assign [.Name t q1] (.Constant .none j1 q2) q3,
   .Try [.Assign [.Name t p1] (.Call (.Name g p2) [.Name a p3,.Name b p4,.Name c p5] [] p6) p7] [.ExceptHandler (some (.Name y h1)) none [.Assign [.Name t h2] (.Constant .none j2 h3) h4] h5] [] [] p8,
   .Return (some (.Name t r1)) r2]
 sc:cL [a,b,c,t] [a,b,c] (aG st)
 la:(aG st).names.lookup a=some .local
 lb:(aG st).names.lookup b=some .local
 lc:(aG st).names.lookup c=some .local
 lt:(aG st).names.lookup t=some .local
 lg:(aG st).names.lookup g=some .globalImplicit
 ly:(aG st).names.lookup y=some .globalImplicit
 db:((a==("__debug__" : Str))=false/\(a==("__classdict__" : Str))=false)/\((b==("__debug__" : Str))=false/\(b==("__classdict__" : Str))=false)/\((c==("__debug__" : Str))=false/\(c==("__classdict__" : Str))=false)/\((t==("__debug__" : Str))=false/\(t==("__classdict__" : Str))=false)/\(g==("__debug__" : Str))=false/\(y==("__debug__" : Str))=false
section
variable {P:Program}{w:World}{K:Frag}{mg:Str->Option Value}{base:Heap}
end
section
variable {p:Pg}{P:Program}{w:World}{K:Frag}{mg:Str->Option Value}{base:Heap}
end
section
variable {prog:Program}{w:World}{A:Around}{E:Value->Shared->Prop}{h:Heap}{g:Array GenState}{d:Drawn}{t:Nat}{os:OsState}{a dx:Addr}{o:Obj}{vs:Array Value}{m:Str->Option Value}{x:Str}{v:Value}
 {nm q:Str}{C N:Addr}{bs bm:List Value}{sn:List Str}{sub:List Value}{ab:Bool}{col:Option Bool}{dd:Option Addr}{k0 k1 k2 k3 k5:Option Value}{newId:String}{mN:Str->Option Value}
end
section
variable {X:Cx}{a dx C fI:Addr}{o od:Obj}{x:Str}{k:Nat}
end
section
variable {P:Program}{w:World}{K:PySem.W.Frag}{mg:Str->Option Value}{base:Heap}{f:Addr}{fd:FuncData}{ps N:List Str}{sp:Sp}
end
section
variable {X:Cx}
end
noncomputable def bL.QT:bL->Bool
 |.nil=>true
 | .cons (.asg (.nm _) _ _) r=>r.QT
 |_=>false
noncomputable def Rb.plain:Rb->Bool
 | .fin (.cons (.ret _) .nil)=>true
 |.fin _=>false
 |.seq cs _ n r=>cs.QT&&n==0&&r.plain
inductive Rw where
 | nil
 | st (c:St) (r:Rw)
 | ifr (c e:Ex) (r:Rw)
 | lop (t:oU) (it:ym) (b r:Rw)
inductive Rf where
 | fl (f:Fl) | rs (n:Nat)
section
variable {X:Cx}{S:Sc}{T:Tb}{W:Nat->Hp->Prop}
end
section
variable {p:Pg}{P:Program}{w:World}{K:Frag}{mg:Str->Option Value}{base:Heap}
end
noncomputable def ckE (e:Ex):Ex:=.ite (.cmp .Lt e (Ld 18446744073709551616)) (.ite (.cmp .Lt e KU) (.neg (.cst .LC)) e) (.neg (.cst .LC))
noncomputable def rsS (h e:Ex):bL:=.cons (.expr (ckE e)) (.cons (.ret h) .nil)
noncomputable def Rw.inl (h:Ex->Ex):Rw->bL
 |.nil=>.nil
 |.st c r=>.cons c (r.inl h)
 |.ifr c e r=>.cons (.ite c (rsS (h e) e) .nil) (r.inl h)
 |.lop _ _ _ _=>.nil
noncomputable def St.pl:St->Bool
 | .asg (.nm _) _ _=>true
 |.mut _ _ _ _=>true
 |_=>false
section
variable {T:Tb}{Rn:Nat->D×Bool->Prop}{h:Ex->Ex}
end
section
variable {x:Str}{P:Program}{w:World}{K:PySem.W.Frag}{mg:Str->Option Value}{base:Heap}{N:List Str}{qual:Str}{scope:Scope}{f:Addr}{cd:Value}{A:Around}{outer:List Env}{s:Shared}{H:Hp}{E:XK}{pins:List (Addr×Obj)}{σ:L2.St}
end
section
variable {x:Str}{P:Program}{w:World}{K:PySem.W.Frag}{mg:Str->Option Value}{base:Heap}{N:List Str}{qual:Str}{scope:Scope}{f:Addr}{cd:Value}{A:Around}{outer:List Env}{s:Shared}{H:Hp}{E:XK}
theorem eO:hU (l7 P w) (fH (l7 P w) P w K mg base N qual scope f cd A outer s H E) (fun C _ H'=>E C none H'):=by
 intro pins σ H1 s1 e s' I hq;obtain⟨a,C,a0,H',B,fe,e2,e3,fy,fl,hE⟩:=Ac (X:=fH (l7 P w) P w K mg base N qual scope f cd A outer s H E) hq;subst fe;obtain⟨ob,hob⟩:∃ob,s'.heap.get? a=some ob:=by
  obtain⟨_,_,_,ob,_,_,_,_,h1,_⟩:=fl;exact⟨ob,h1⟩
 show wpAny (model P w) (A.deeper (envOfC qual scope s.heap.objs.size f cd)) (leaving (envOfC qual scope s.heap.objs.size f cd) (.ref a)) _ _ _;refine onD (base:=B) (outer:=outer) (od:=ob.dict) I.ok.frames rfl fl ⟨ob,hob,rfl⟩ fun h' Xt Sa dc=>?_
 have U4:=fy.next I Xt.1 (jx fl) Sa;have J:=U4.inv (g':=s'.gens) (d':=s'.drawn) (t':=s'.toks) I e3;have bs:Un (iI outer) [] H H' s.heap h':=J.base;refine⟨a,C,a0,H',B,rfl,e2.trans I.os,e3,bs,J.LB,Xt,fun b o e=>?_,hE⟩;rcases U4.bf b o e with z | z | ⟨z1,z2⟩
 .have z:b∈s.heap.objs.size::iI outer:=z;rcases je.mp z with z | z
  .refine .inr (.inr ⟨?_,U4.NS I b (show b∈s.heap.objs.size::iI outer by rw[z];exact aj)⟩);cases q:s.heap.get? b with
   |none=>rfl
   |some o0=>exact absurd z (bw (Heap.lt_size q))
  .exact .inl z
 .exact .inr (.inl z)
 .refine .inr (.inr ⟨?_,z2⟩);cases q:s.heap.get? b with
  |none=>rfl
  |some o0 =>
   obtain⟨o1,q1⟩:=I.base.there b o0 q (by simp[fH]);rw[z1] at q1;cases q1
end
variable {H:Hp}{Q:VK}{pins:List (Addr×Obj)}{s:Shared}
section
variable {X:Cx}{CX:rR}{RP:Around->Prop}{f:Addr}{fd:FuncData}{ps:List Str}{sp:Sp}{E:XK}
theorem wq {σ:L2.St}{us:List Value}{vs:List V}(F:cV X.prog X.w X.K X.mg X.base CX RP f fd ps sp)(hr:RP X.A)(hb:Binds X.K fd ps [])(hx:hU CX X E)(I:Inv X pins σ H s)(r:aS vs us)(h:sp vs H Q E) :
  wpAny (model X.prog X.w) X.A (call (.ref f) us) (EP X pins σ Q) X.xe s:=by
 have hl:us.length=ps.length:=by rw[<-r.length];exact F.len _ _ _ _ h
 have Mn:=hb s us I.Mp (by rw[ay];exact hl);rw[ay] at Mn;refine wpAny_call (codeAny_mono (F.run X.A X.stack s H ⟨us,[]⟩ us vs Q E hr I.env0 Mn r h) fun r s' hq=>?_);cases r with
 |error e=>exact hx pins σ H s e s' I hq
 |ok fl =>
  cases fl with
  |ret u=>exact I.after hq
  |next=>exact False.elim hq
  |brk=>exact False.elim hq
  |cont=>exact False.elim hq
theorem kU {y:Str}{p pos:Pos}{e:Expr}{es:List Expr}{t:TA}(F:cV X.prog X.w X.K X.mg X.base CX RP f fd ps sp)(hr:RP X.A)(hg:Gl X y)(hm:X.mg y=some (.ref f))(hk:PySem.W.keepIn X.K (.ref f)=true)(hb:Binds X.K fd ps [])(hx:hU CX X E)(ha:PA X (e::es) t)
  (Nn:(y==("__debug__" : Str))=false:=by decide) (he:starEach (e::es) X.env=(false,eval e X.env)::starEach es X.env:=by rfl) (Md:(backTo pos (starEach es X.env)).any (·.1)=false:=by rfl) :
  PE X (.Call (.Name y p) (e::es) [] pos) (fun σ H Q=>t σ H fun vs H1=>sp vs H1 Q E):=by
 intro pins s σ H Q I h;refine wpAny_Call_Name_kw (gT I hg hm ?_ Nn);refine il (h₀:=X.base) I.ok.mod.LS hk (cO (ha pos pins s σ H _ I h) fun us s1 ⟨vs,H1,I1,r,q⟩=>⟨I1.Mp,?_⟩) he Md;exact wq F hr hb hx I1 r q
end
section
variable {p:Pg}{P:Program}{w:World}{K:Frag}{mg:Str->Option Value}{base:Heap}
end
section
variable {P:Program}{w:World}{K:Frag}{mg:Str->Option Value}{base:Heap}
end
section
variable {X:Cx}{CX:rR}{RP:Around->Prop}{f C:Addr}{fd:FuncData}{ps:List Str}{sp:Sp}{E:XK}{x m:Str}{p pos apos:Pos}{e o:Expr}{es:List Expr}{ta:TE}{t:TA}
def Hu (C:Addr)(m:Str)(sp:Sp)(E:XK)(ta:TE)(t:TA):TE:=fun σ H Q=>ta σ H fun x H1=>∃a dx fs,x=.ref a/\H1 a=some (.ins C dx fs)/\fs.lookup m=none /\
 t σ H1 fun vs H2=>sp (x::vs) H2 Q E
theorem jL {pl:Sem Bool}(he:PE X o ta)(c:L2.Ab X.K C)(hm:F6 X.K C m f)(F:cV X.prog X.w X.K X.mg X.base CX RP f fd ps sp)(hr:RP X.A)(hb:Binds X.K fd ps [])(hx:hU CX X E)(ha:PA X (e::es) t)
  (LJ:starEach (e::es) X.env=(false,eval e X.env)::starEach es X.env:=by rfl) (Md:(backTo pos (starEach es X.env)).any (·.1)=false:=by rfl)
  (ht:eval (.Call (.Attribute o m apos) (e::es) [] pos) X.env=(do
   let ov <- eval o X.env
   standAt apos.atName
   let (f,first) <- holding [ov] (getMethod ov m pl)
   callWith pos f first (backTo pos (starEach (e::es) X.env)) (backToKw pos (keywordEach [] X.env))):=by rfl) :
  PE X (.Call (.Attribute o m apos) (e::es) [] pos) (Hu C m sp E ta t):=by
 intro pins s σ H Q I h;refine PySem.W.methodCall_KW (pl:=pl) (cO (he pins s σ H _ I h) fun u s1 ⟨x,H1,I1,rx,a,dx,fs,ex,ea,l,q⟩=>?_) ht;subst ex;obtain rfl:u=Value.ref a:=rx;refine uH I1 ea c hm l ?_;refine il (first:=[.ref a]) (h₀:=X.base) I.ok.mod.LS hm.kp (cO (ha pos pins s1 σ H1 _ I1 q) fun us s2 ⟨vs,H2,I2,r,q2⟩=>⟨I2.Mp,?_⟩) LJ Md;exact wq (us:=.ref a::us) (vs:=.ref a::vs) F hr hb hx I2 (.cons rfl r) q2
theorem xl {σ:L2.St}{us:List Value}{vs:List V}(M:Mk X.K C f)(F:cV X.prog X.w X.K X.mg X.base CX RP f fd ps sp)(hr:∀us,RP (X.A.under (.builtin "type.__call__" ⟨.ref C::us,[]⟩))) (hb:Binds X.K fd ps [])
  (hx:hU CX X E) (I:Inv X pins σ H s) (r:aS vs us)
  (h:∀x dx,H x=none->H dx=none->dx≠x->sp (.ref x::vs) (upd (upd H dx (.own x)) x (.ins C dx [])) (fun v H2=>v=.LC/\Q (.ref x) H2) E) :
  wpAny (model X.prog X.w) X.A (call (.ref C) us) (EP X pins σ Q) X.xe s:=by
 have hq:=h (s.heap.objs.size+1) s.heap.objs.size (I.LB.fresh (Nat.le_succ _)) (I.LB.fresh (au _)) (bw (gn _));have I2:=Inv.made (C:=C) I;have r2:aS (V.ref (s.heap.objs.size+1)::vs) (Value.ref (s.heap.objs.size+1)::us):=.cons rfl r;have hl:(Value.ref (s.heap.objs.size+1)::us).length=ps.length:=by
  have e:=r2.length;rw[F.len _ _ _ _ hq] at e;exact e.symm
 have Mn:=hb _ (Value.ref (s.heap.objs.size+1)::us) I2.Mp (by rw[ay];exact hl);rw[ay] at Mn;refine wpAny_call (Bh (f:=f) I.Mp M.makes M.init (ik.mp M.fn) (codeAny_mono (F.run _ X.stack _ _ ⟨Value.ref (s.heap.objs.size+1)::us,[]⟩ (Value.ref (s.heap.objs.size+1)::us) _ _ E (hr us)
  (I2.env0.make C us []) Mn r2 hq) fun r s' Qn=>?_))
 cases r with
 |error e=>exact hx pins σ _ _ e s' I2 Qn
 |ok fl =>
  cases fl with
  |ret u =>
   obtain⟨v,H',I3,rv,ev,q3⟩:=I2.after Qn;subst ev;exact⟨rv,⟨V.ref (s.heap.objs.size+1),H',I3,rfl,q3⟩⟩
  |next=>exact False.elim Qn
  |brk=>exact False.elim Qn
  |cont=>exact False.elim Qn
def F5 (C:Addr)(sp:Sp)(E:XK)(t:TA):TE:=fun σ H Q=>t σ H fun vs H1=>∀x dx,H1 x=none->H1 dx=none->dx≠x ->
 sp (.ref x::vs) (upd (upd H1 dx (.own x)) x (.ins C dx [])) (fun v H2=>v=.LC/\Q (.ref x) H2) E
theorem zx (M:Mk X.K C f)(F:cV X.prog X.w X.K X.mg X.base CX RP f fd ps sp)(hr:∀us,RP (X.A.under (.builtin "type.__call__" ⟨.ref C::us,[]⟩))) (hg:Gl X x) (hm:X.mg x=some (.ref C)) (hb:Binds X.K fd ps []) (hx:hU CX X E)
  (ha:PA X (e::es) t) (Nn:(x==("__debug__" : Str))=false:=by decide) (he:starEach (e::es) X.env=(false,eval e X.env)::starEach es X.env:=by rfl) (Md:(backTo pos (starEach es X.env)).any (·.1)=false:=by rfl) :
  PE X (.Call (.Name x p) (e::es) [] pos) (F5 C sp E t):=by
 intro pins s σ H Q I h;refine wpAny_Call_Name_kw (gT I hg hm ?_ Nn);refine il (h₀:=X.base) I.ok.mod.LS M.kp (cO (ha pos pins s σ H _ I h) fun us s1 ⟨vs,H1,I1,r,q⟩=>⟨I1.Mp,?_⟩) he Md;exact xl M F hr hb hx I1 r q
theorem uN:eJ X (.type "str") (fun xs H Q=>∃i:Int,xs=[.int i]/\i.natAbs<2 ^ 64/\Q (.str (Str.ofString (toString i))) H):=by
 intro pins s σ H xs us Q I r h;obtain⟨i,rfl,hi,q⟩:=h;obtain⟨u,rfl,⟨t,rfl⟩⟩:=r.one;exact PySem.P.str_of_int (log2_small hi) ⟨.str _,H,I.tok _,⟨_,rfl⟩,q⟩
theorem AK:BC X "str.zfill" (fun x xs H Q=>∃z i,x=.str z/\xs=[.int i]/\PadOk i=true/\Q (.str (Txt.zfill z i)) H):=by
 intro pins s σ H x xs v us Q I rx r h;obtain⟨z,i,rfl,rfl,hp,q⟩:=h;obtain⟨t,rfl⟩:=rx;obtain⟨u,rfl,⟨t',rfl⟩⟩:=r.one;exact SC.zfill hp fun t' k=>⟨.str _,H,I.tok _,⟨_,rfl⟩,q⟩
end
end Pc
end
section
namespace Pc
open PySem
noncomputable abbrev sq (M:List (List D)):D:=.lst (M.map D.lst)
noncomputable def okC:D->Bool
 |.int _=>true
 |.LC=>true
 |_=>false
structure Sqr (n:Nat)(M:List (List D)):Prop where
 len:M.length=n
 row:∀r∈M,r.length=n
 cell:∀r∈M,∀d∈r,okC d=true
theorem sO {l:List D}(h:D.LF l=true)(R:List Nat):eT (.lst l) R=.mv []:=by
 unfold eT;rw[if_pos];exact h
variable {d:D}{e:Ex}{env:En}
theorem eR {T:Tb}(h:ev T e env=.ok (d,.mv [])):ret (aE T (.cons (.ret e) .nil) env)=.ok (d,true):=by
 rw[aE,aV,h,bA];rfl
variable {n:Nat}
theorem jI (h:n<=1000):n<=lim:=bq h (by decide)
theorem Di (T:Tb)(env:En)(e:Ex)(j:Int)(r:Rt)(he:ev T e env=.ok (.int j,r))(h1:fT j=true):fU T (.L7 e) env=.ok (aW 0 1 j.toNat,[]):=by
 rw[fU,he,aA];show (if fT j=true then Rs.ok (aW 0 1 j.toNat,[]) else .bad)=_;rw[if_pos h1]
theorem DN (h:n<=1000):fT (n:Int)=true:=by
 unfold fT;exact bp ⟨Int.le_trans (by decide) (Int.natCast_nonneg n),Int.lt_of_le_of_lt (Int.ofNat_le.mpr h) (by decide)⟩
def aR (s:Slot):Prop:=s=none\/(∃d,s=some (d,.own))\/(∃d,s=some (d,.sh []))\/∃d,s=some (d,.lk)
def Tame (env:En):Prop:=∀s∈env,aR s
theorem aN:aR none:=.inl rfl
theorem aB (d:D):aR (some (d,.own)):=.inr (.inl ⟨d,rfl⟩)
theorem dJ (d:D):aR (some (d,.sh [])):=.inr (.inr (.inl ⟨d,rfl⟩))
theorem Tame.nil:Tame []:=fun _ h=>(nomatch h)
theorem Tame.cons {s:Slot}{e:En}(h:aR s)(t:Tame e):Tame (s::e):=fun x hx=>by
 rcases je.mp hx with rfl | hx
 .exact h
 .exact t x hx
theorem Tame.set {e:En}{s:Slot}(t:Tame e)(h:aR s)(i:Nat):Tame (e.set i s):=fun x hx=>by
 rcases List.mem_or_eq_of_mem_set hx with q | q
 .exact t x q
 .rw[q];exact h
theorem jF (h:Tame env)(i:Nat)(d:D)(t:Tg):put env i d t=env.set i (some (d,t)):=by
 unfold put;have:env.map (fun (s:Slot)=>s.map fun (p:D×Tg)=>(p.1,p.2.drop i))=env:=by
  conv=>rhs;rw[<-List.map_id env]
  refine gi fun s hs=>?_
  rcases h s hs with rfl | ⟨d,rfl⟩ | ⟨d,rfl⟩ | ⟨d,rfl⟩<;>rfl
 rw[this]
theorem pW (h:Tame env)(R:List Nat):kill R env=env.mapIdx fun i s=>if R.contains i then none else s:=by
 unfold kill;apply List.ext_getElem?;intro i;rw[List.getElem?_mapIdx,List.getElem?_mapIdx];cases q:env[i]? with
 |none=>rfl
 |some s =>
  rcases h s (List.mem_of_getElem? q) with rfl | ⟨d,rfl⟩ | ⟨d,rfl⟩ | ⟨d,rfl⟩
  .simp
  .simp[jR]
  .simp[jR]
  .simp[jR]
theorem kR (h:Tame env)(x:Nat)(s:Slot):(kill [x] env).set x s=env.set x s:=by
 rw[pW h];apply List.ext_getElem?;intro i;by_cases hi:i=x
 .subst hi;by_cases hl:i<env.length
  .rw[List.getElem?_set_self (by simpa using hl),List.getElem?_set_self hl]
  .rw[List.getElem?_eq_none (by simp;omega),List.getElem?_eq_none (by simp;omega)]
 .rw[List.getElem?_set_ne (eh hi),List.getElem?_set_ne (eh hi),List.getElem?_mapIdx];cases q:env[i]? with
  |none=>rfl
  |some s=>simp[hi]
variable {R R':Rt}{i:Nat}
section
variable {T:Tb}{env:En}
theorem aK {i:Nat}(ht:Tame env)(hi:i<env.length)(h:ev T e env=.ok (d,.mv [])):aV T (.asg (.nm i) e false) env=.nx (env.set i (some (d,.own))):=by
 rw[aV,h,bA];show (if i<env.length then Fl.nx (put env i d .own) else .bad)=_;rw[if_pos hi,jF ht]
theorem dD (ht:Tame env)(hi:i<env.length):bK [] (.nm i) d env=some (env.set i (some (d,bE d []))):=by
 show (if i<env.length then some (put env i d (bE d [])) else none)=_;rw[if_pos hi,jF ht]
theorem aX {i:Nat}{d:D}(h:env[i]? = some (some (d,.own)))(hf:d.flat=false):ev T (.var i) env=.ok (d,.mv [i]):=by
 rw[ev,h];dsimp only;rw[hf];rfl
theorem aC {i:Nat}{d:D}{t:Tg}(h:env[i]? = some (some (d,t)))(hf:d.flat=true):ev T (.var i) env=.ok (d,.mv []):=by
 rw[ev,h];dsimp only;rw[if_pos hf]
theorem jQ {t:Tg}(h:env[i]? = some (some (d,t))):∃R,ev T (.var i) env=.ok (d,R):=by
 rw[ev,h];exact⟨_,rfl⟩
theorem A3 (xs:List D)(d:D):z7 .append xs [d]=some (xs ++ [d]):=rfl
theorem zk (xs ys:List D):z7 .extend xs [.lst ys]=if D.LF ys then some (xs++ys) else none:=rfl
theorem gU {x:Nat}{xs:List D}(ht:Tame env)(hx:env[x]? = some (some (.lst xs,.own)))(h:ev T e env=.ok (d,.mv []))(hl:xs.length+1<=lim):aV T (.mut x .none .append (.cons e .nil)) env=.nx (env.set x (some (.lst (xs ++ [d]),.own))):=by
 have ho:ownAt env x=some (.lst xs):=by unfold ownAt;rw[hx]
 have hs:aY T (.cons e .nil) env=.ok [(d,.mv [])]:=by
  rw[aY,h,aA];rfl
 rw[aV,ho];simp only[kq,bA,D.Mo,hs,List.map_cons,List.map_nil,A3,aZ,Rt.roots,List.flatten_cons,List.flatten_nil,List.append_nil,List.contains_nil,Bool.false_eq_true,if_false,tJ.LZ,kL,eV,Option.map_some];have:(xs ++ [d]).length<=lim:=by rw[aa];exact hl
 simp only[List.nodup_nil,decide_true,fA,List.all_nil,Bool.not_false,Bool.and_self,this,if_true,D.MU,Bool.true_and];rw[kR ht]
theorem B2 {x:Nat}{k:Ex}{xs:List D}{l:Int}{m:Nat}(ht:Tame env)(hx:env[x]? = some (some (.lst xs,.own)))(hk:ev T k env=.ok (.int l,R'))(hm:Pc.j9 xs.length l=some m)(h:ev T e env=.ok (d,.mv []))(hl:xs.length<=lim) :
  aV T (.MH x .none k e) env=.nx (env.set x (some (.lst (xs.set m d),.own))):=by
 have ho:ownAt env x=some (.lst xs):=by unfold ownAt;rw[hx]
 have Qt:(xs.set m d).length<=lim:=by rw[i9];exact hl
 rw[aV,ho];simp only[h,bA,kq,D.Mo,hk,hm,kL,eV,Option.map_some,List.append_nil,List.nodup_nil,decide_true,fA,List.all_nil,List.contains_nil,Bool.not_false,Bool.and_self,Qt,if_true,D.MU,Bool.true_and];rw[kR ht]
theorem ite_ff {c:Ex}{a:bL}(h:ev T c env=.ok (.bl false,R)):aV T (.ite c a .nil) env=.nx env:=by
 rw[aV,h,bA];rfl
theorem sH {a b:Ex}(h:ev T a env=.ok (d,R))(h':ev T b env=.ok (d,R'))(he:D.L4 40 d d=some true):ev T (.cmp .NotEq a b) env=.ok (.bl false,.mv []):=by
 rw[ev,h,aA,h',aA];show (eW ((D.L4 40 d d).map (!·))).bind _=_;rw[he];rfl
theorem xS {j:Nat}{x y:D}{R:List Nat}(ht:Tame env)(hi:i<env.length)(hj:j<env.length)(fx:x.flat=true)(fy:y.flat=true):bK R (.tp [i,j]) (.tup [x,y]) env=some ((env.set i (some (x,.own))).set j (some (y,.own))):=by
 show bindM (fun d=>bE d R) [i,j] [x,y] env=_;have tx:bE x R=.own:=by unfold bE;rw[if_pos fx]
 have ty:bE y R=.own:=by unfold bE;rw[if_pos fy]
 simp only[bindM,hi,if_true,tx,ty];rw[jF ht,if_pos (by rw[i9];exact hj),jF (ht.set (aB x) i)]
end
end Pc
end
section
namespace Pc
end Pc
namespace Pc.Sm
open PySem Pc
noncomputable def b6:bL:=(.cons (.ret (.bin .Mod (.bin .Mult (.bin .Add (.bin .Add Le (.bin .Mult Lf Lf)) KW) Lg) (Ld 2305843009213693951)))
  .nil)
noncomputable def e7:Ex:=.comp 1 [] (.nm 0) (.seq (.sl Le .none (.some KY))) .none (.bin .Mod Le (Ld 1000003))
noncomputable def b7:bL:=(.cons (.ret (.call 6 (Lv (.blt .sum (.cons e7 .nil)) (.bin .Mod (Ly Le) KZ) Lf)))
  .nil)
noncomputable def b8:bL:=(.cons (.ret (.ix (.lst (.cons K0 (.cons K0 (.cons K0 (.cons K1 (.cons K0 (.cons K0 (.cons (Ld 23) (.cons K0 (.cons K1 (.cons K0 (.cons (Ld 27) (.cons K0 (Lx K0 K1 K0 (Ld 31))))))))))))))) (.bin .Mod Le (Ld 16))))
  .nil)
noncomputable def b9c:bL:=(.cons (.asg (.nm 1) (.bin .Mod (.bin .Mult (.bin .Add Lf Lh) (Ld 40692)) (Ld 2147483399)) false)
  (.cons (.mut 4 .none .append (Ls (.ix (.lst (.cons KU (Lx KW KU KW (.cst .LC)))) (.bin .Mod (.bin .FloorDiv Lf K2) K3))))
  .nil))
noncomputable def s9:St:=.mut 2 .none .append (Ls Li)
noncomputable def b9r:bL:=(.cons (.asg (.nm 4) (.lst .nil) false)
  (.cons (.LP (.nm 5) (.L7 Le) b9c)
  (.cons s9
  .nil)))
noncomputable def b9:bL:=(.cons (.asg (.nm 2) (.lst .nil) false)
  (.cons (.LP (.nm 3) (.L7 Le) b9r)
  (.cons (.ret Lg)
  .nil)))
theorem md (p:D×Rt):List.map (fun x:D×Rt=>x.1) [p]=[p.1]:=rfl
theorem Ta (p q:D×Rt):List.map (fun x:D×Rt=>x.1) [p,q]=[p.1,q.1]:=rfl
variable {R1:Rt}{T:Tb}{d1 r:D}{e1:Ex}{env:En}
theorem fL {f:Nat}(h1:ev T e1 env=.ok (d1,R1))(h:T.cl f [d1]=.ok (r,true)):ev T (.call f (.cons e1 .nil)) env=.ok (r,.mv []):=by
 have:aY T (.cons e1 .nil) env=.ok [(d1,R1)]:=by
  rw[aY,h1,aA];rfl
 rw[ev,this,aA,md,h,aA];rfl
theorem fM {f:Nat}{e2:Ex}{d2:D}{R2:Rt}(h1:ev T e1 env=.ok (d1,R1))(h2:ev T e2 env=.ok (d2,R2))(h:T.cl f [d1,d2]=.ok (r,true)):ev T (.call f (.cons e1 (.cons e2 .nil))) env=.ok (r,.mv []):=by
 have:aY T (.cons e1 (.cons e2 .nil)) env=.ok [(d1,R1),(d2,R2)]:=by
  rw[aY,h1,aA,aY,h2,aA];rfl
 rw[ev,this,aA,Ta,h,aA];rfl
noncomputable def e8:Ex:=(.lst (.cons K0 (.cons K0 (.cons K0 (.cons K1 (.cons K0 (.cons K0 (.cons (Ld 23) (.cons K0 (.cons K1 (.cons K0 (.cons (Ld 27) (.cons K0 (Lx K0 K1 K0 (Ld 31)))))))))))))))
theorem sum_ints:∀(l:List Int) (a:Int),vn a (l.map D.int)=some (a+l.sum)
 |[],a=>by simp[vn]
 | x::r,a=>by
  rw[aw,vn,sum_ints r,ig];congr 1;omega
end Pc.Sm
end
section
namespace Fl64
def Gr (l:List Nat):Prop:=∀g∈l,g<64
noncomputable def hor (x w:Nat)(l:List Nat):Nat:=l.foldl (fun w g=>tm w x^^^g) w
noncomputable abbrev Wq (x:Nat)(l:List Nat):Nat:=hor x 0 l
noncomputable def pw (x:Nat):Nat->Nat
 |0=>1
 |n+1=>tm (pw x n) x
noncomputable def mulR (f:Nat)(l:List Nat):List Nat:=l.map fun g=>tm f g
noncomputable def BD (c:Nat):List Nat:=(List.range' 1 c).map (pw 2)
noncomputable def DT (l:List Nat)(p:Nat):List Nat->List Nat
 |[]=>l
 |g::r=>DT (l.set p (l.getD p 0^^^g)) (p+1) r
noncomputable def yH (l:List Nat)(k:Nat):List Nat->List Nat->List Nat
 |[],_=>l
 |g::a,b=>yH (DT l k (mulR g b)) (k+1) a b
noncomputable def JC (a b:List Nat):List Nat:=yH (List.replicate (a.length+b.length-1) 0) 0 a b
noncomputable def Iv (r:List Nat):List Nat->List Nat
 |[]=>r
 |n::ns=>Iv (JC r [1,n]) ns
def WY (l:List Nat)(c:Nat):Prop:=∀x∈BD c,Wq x l=0
noncomputable instance (l:List Nat) (c:Nat):Decidable (WY l c):=by unfold WY;infer_instance
end Fl64
end
section
namespace Pc.Gr
open PySem Pc Pc.Sm
noncomputable abbrev gD (gs:List Nat):List D:=gs.map fun (g:Nat)=>D.int (g:Int)
noncomputable abbrev sG (gs:List Nat):Slot:=some (.lst (gD gs),.sh [])
noncomputable abbrev oG (gs:List Nat):Slot:=some (.lst (gD gs),.own)
noncomputable def xq (rp:Nat):bL:=(.cons (.asg (.nm 1) (.call rp (Lu Lf (.lst (Lu KW Lg)))) false)
  .nil)
noncomputable def RS (rp:Nat):bL:=(.cons (.asg (.nm 1) (.lst (Ls KW)) false)
  (.cons (.LP (.nm 2) (.seq Le) (xq rp))
  (.cons (.ret Lf)
  .nil)))
def zV (T:Tb)(rn:Nat):Prop:=∀ns:List Nat,Fl64.Gr ns->ns.length<=900->T.cl rn [.lst (gD ns)]=.ok (.lst (gD (Fl64.Iv [1] ns)),true)
structure CE (d:List Nat)(c:Nat)(D l:List Nat)(e:En):Prop where
 te:Tame e
 len:e.length=8
 h0:e[0]? = some (sG d)
 h2:e[2]? = some (oG D)
 h3:e[3]? = some (oG l)
end Pc.Gr
end
section
namespace Fl64
end Fl64
namespace Pc.Lw
open PySem Pc Pc.Sm Pc.Gr
def A1 (T:Tb)(mx:Nat):Prop:=∀c k:Int,∃v:Int,0<=v/\T.cl mx [.int c,.int k]=.ok (.int v,true)
def WX (gs:List Nat)(k m:Nat):Prop:=∀x∈(List.range' (k+1) m).map (Fl64.pw 2),Fl64.Wq x gs=0
noncomputable instance (gs:List Nat) (k m:Nat):Decidable (WX gs k m):=by unfold WX;infer_instance
end Pc.Lw
end
section
namespace Fl64
noncomputable def sm:List (Nat×Nat)->Nat->Nat
 |[],_=>0
 |p::r,j=>tm p.1 (pw p.2 j)^^^sm r j
end Fl64
end
section
namespace Pc.Lw
open PySem Pc Pc.Sm Pc.Gr
noncomputable abbrev cp (i:Nat):Ex:=.blt .list (Ls (.var i))
theorem aF {T:Tb}{env:En}(d:D):ev T (.cst d) env=.ok (d,.mv []):=by rw[ev]
variable {R R':Rt}{T:Tb}{a b:Ex}{env:En}{x y:Int}
theorem cP (h:ev T a env=.ok (.int x,R))(h':ev T b env=.ok (.int y,R')):ev T (.bin .Add a b) env=.ok (.int (x+y),.mv []):=by
 rw[ev,h,aA,h',aA];rfl
theorem bQ (hy:0<y)(h:ev T a env=.ok (.int x,R))(h':ev T b env=.ok (.int y,R')):ev T (.bin .Mod a b) env=.ok (.int (x%y),.mv []):=by
 rw[ev,h,aA,h',aA,gH];have:Pc.binI .Mod x y=some (x%y):=by
  show (if 0<y then some (x%y) else none)=_;rw[if_pos hy]
 rw[this];rfl
theorem dB (hy:0<y)(hy':y<1073741824)(h:ev T a env=.ok (.int x,R))(h':ev T b env=.ok (.int y,R')):ev T (.bin .FloorDiv a b) env=.ok (.int (x / y),.mv []):=by
 rw[ev,h,aA,h',aA,gH];have:Pc.binI .FloorDiv x y=some (x / y):=by
  show (if 0<y/\y<1073741824 then some (x / y) else none)=_;rw[if_pos ⟨hy,hy'⟩]
 rw[this];rfl
end Pc.Lw
end
section
namespace Pc.Nw
open PySem Pc Pc.Sm Pc.Lw Pc.Gr
variable {e1:En}
theorem cF {t:oU}{R:List Nat}{b:En->Fl}{x:D}{l:List D}{e e2:En}(h1:bK R t x e=some e1)(h2:b e1=.nx e2):cZ t R b (x::l) e=cZ t R b l e2:=by
 conv=>lhs;unfold cZ
 rw[h1];dsimp only;rw[h2]
variable {R:Rt}{T:Tb}{e:Ex}{env:En}
theorem DE {m:Nat}(h:ev T e env=.ok (.int (m:Int),R))(hm:m<=1000):fU T (.L7 e) env=.ok (aW ((0:Nat):Int) 1 m,[]):=by
 rw[Di _ _ _ _ _ h (DN hm),cj];rfl
theorem nJ (k m:Nat):aW (k:Int) 1 (m+1)=.int (k:Int)::aW ((k+1:Nat):Int) 1 m:=by
 rw[aW,show (k:Int)+1=((k+1:Nat):Int) by omega]
theorem iR (n:Nat):∀a:Nat,aW (a:Int) 1 n=(List.range n).map fun (k:Nat)=>D.int ((a+k:Nat):Int):=by
 induction n with
 |zero=>intro a;rfl
 |succ n ih =>
  intro a;rw[nJ,ih,gj,aw,df];congr 1;refine gi fun k _=>?_
  show D.int ((a+1+k:Nat):Int)=D.int ((a+(k+1):Nat):Int);rw[show a+1+k=a+(k+1) by omega]
theorem eL {T:Tb}{env:En}{e:Ex}{xs:List D}{R:Rt}(h:ev T e env=.ok (.lst xs,R)):ev T (.blt .len (.cons e .nil)) env=.ok (.int (xs.length:Int),.mv []):=by
 rw[ev,aY,aY,h,aA,aA,aA,md];show (eW (some (D.int (xs.length:Int)))).bind _=_;rw[bZ,aA,fW]
theorem mq {f:Nat}{e1 e2 e3:Ex}{d1 d2 d3 r:D}{R1 R2 R3:Rt}(h1:ev T e1 env=.ok (d1,R1))(h2:ev T e2 env=.ok (d2,R2))(h3:ev T e3 env=.ok (d3,R3))(h:T.cl f [d1,d2,d3]=.ok (r,true)):ev T (.call f (.cons e1 (.cons e2 (.cons e3 .nil)))) env=.ok (r,.mv []):=by
 rw[ev,aY,aY,aY,aY,h1,aA,h2,aA,h3,aA,aA,aA,aA,aA];show (T.cl f [d1,d2,d3]).bind _=_;rw[h];rfl
theorem mD {α:Type}{f:D->Rs (Option (D×Rt))}{g r:α->D}{c:α->Bool}:∀{l:List α},(∀a∈l,f (g a)=.ok (if c a then some (r a,.mv []) else none))->gJ f (l.map g)=.ok ((l.filter c).map fun a=>(r a,Rt.mv []))
 |[],_=>rfl
 | a::l,h=>by
  simp only[List.map_cons,gJ];rw[h a aj,mD fun b hb=>h b (ai _ hb)];cases q:c a<;>simp[aA,List.filter_cons,q]
theorem Ci (xs:List D)(s x:Nat)(h:s+x<=xs.length):Ib (.lst xs) (some (s:Int)) (some ((s:Int)+(x:Int)))=some (.lst ((xs.drop s).take x)):=by
 show some (D.lst (cut xs _ _))=_;congr 2;unfold cut;have h1:eF xs.length 0 (some (s:Int))=s:=by
  unfold eF;dsimp only;rw[if_neg (by omega),cj];omega
 have h2:eF xs.length xs.length (some ((s:Int)+(x:Int)))=s+x:=by
  unfold eF;dsimp only;rw[if_neg (by omega),show ((s:Int)+(x:Int)).toNat=s+x by omega];omega
 dsimp only;rw[h1,h2,show s+x-s=x by omega]
variable {R':Rt}{a b:Ex}{c:En->Rs Bool}{n x:Nat}
section
variable {T:Tb}{env:En}
theorem F7 {x y:Nat}(h:ev T a env=.ok (.int (x:Int),R))(h':ev T b env=.ok (.int (y:Int),R')):ev T (.cmp .Eq a b) env=.ok (.bl (decide (x=y)),.mv []):=by
 rw[ev,h,aA,h',aA];have:pj .Eq (.int (x:Int)) (.int (y:Int))=some (decide (x=y)):=by
  show some ((x:Int)==(y:Int))=_;congr 1;rw[Bool.eq_iff_iff,ik,dy];omega
 rw[this];rfl
theorem E4 {y:Nat}(h:ev T a env=.ok (.int (x:Int),R))(h':ev T b env=.ok (.int (y:Int),R')):ev T (.cmp .NotEq a b) env=.ok (.bl (decide (x≠y)),.mv []):=by
 rw[ev,h,aA,h',aA];have:pj .NotEq (.int (x:Int)) (.int (y:Int))=some (decide (x≠y)):=by
  show some (!((x:Int)==(y:Int)))=_;congr 1;rw[Bool.eq_iff_iff,dy,gw,gd];omega
 rw[this];rfl
theorem lX {x y:Nat}(h:ev T a env=.ok (.int (x:Int),R))(h':ev T b env=.ok (.int (y:Int),R')):ev T (.cmp .Lt a b) env=.ok (.bl (decide (x<y)),.mv []):=by
 rw[ev,h,aA,h',aA];have:pj .Lt (.int (x:Int)) (.int (y:Int))=some (decide (x<y)):=by
  show some (decide ((x:Int)<(y:Int)))=_;congr 1;exact decide_eq_decide.mpr (by omega)
 rw[this];rfl
theorem zO {x y:Nat}(h:ev T a env=.ok (.int (x:Int),R))(h':ev T b env=.ok (.int (y:Int),R')):ev T (.cmp .Gt a b) env=.ok (.bl (decide (y<x)),.mv []):=by
 rw[ev,h,aA,h',aA];have:pj .Gt (.int (x:Int)) (.int (y:Int))=some (decide (y<x)):=by
  show some (decide ((y:Int)<(x:Int)))=_;congr 1;exact decide_eq_decide.mpr (by omega)
 rw[this];rfl
theorem be {x y:Nat}(h:ev T a env=.ok (.int (x:Int),R))(h':ev T b env=.ok (.int (y:Int),R')):ev T (.bin .Add a b) env=.ok (.int ((x+y:Nat):Int),.mv []):=by
 rw[cP h h'];rfl
theorem sS {x y:Int}(h:ev T a env=.ok (.int x,R))(h':ev T b env=.ok (.int y,R')):ev T (.bin .Sub a b) env=.ok (.int (x-y),.mv []):=by
 rw[ev,h,aA,h',aA,gH];rfl
theorem lV {x y:Nat}(hy:y<=x)(h:ev T a env=.ok (.int (x:Int),R))(h':ev T b env=.ok (.int (y:Int),R')):ev T (.bin .Sub a b) env=.ok (.int ((x-y:Nat):Int),.mv []):=by
 rw[sS h h',show (x:Int)-(y:Int)=((x-y:Nat):Int) by omega]
theorem oH {c:Ex}{a b:bL}{p:Prop}[Decidable p](h:ev T c env=.ok (.bl (decide p),R)):aV T (.ite c a b) env=if p then aE T a env else aE T b env:=by
 rw[aV,h,bA];by_cases hp:p
 .rw[bp hp,if_pos hp];rfl
 .rw[ba hp,if_neg hp];rfl
theorem jM:aE T .nil env=.nx env:=by rw[aE]
theorem iN {s:St}{e:En}(h:aV T s env=.nx e):aE T (.cons s .nil) env=.nx e:=by
 rw[aE,h,aD,aE]
theorem oC {b:En->Fl}(h:c env=.ok true)(h2:b env=.nx e1):eU c b (n+1) env=eU c b n e1:=by
 rw[eU,h,bA,if_pos rfl,h2]
theorem og {b:En->Fl}(h:c env=.ok false):eU c b (n+1) env=.nx env:=by
 rw[eU,h,bA];rfl
end
section
variable {T:Tb}{env:En}
end
theorem AI {T:Tb}{x:Nat}{v:Ex}{ks:List (Int×MV)}{n:Int}{dv:D}{m:MV}(ht:Tame env)(hx:env[x]? = some (some (.LI ks,.own)))(hl:ks.length<lim)(h:ev T e env=.ok (.int n,R))(hv:ev T v env=.ok (dv,R'))(hm:AD dv=some m):aV T (.Ni x e v) env=.nx (env.set x (some (.LI (qW ks n m),.own))):=by
 rw[aV];have:ownAt env x=some (.LI ks):=by unfold ownAt;rw[hx]
 rw[this];dsimp only;rw[hv,bA,h,bA];have hp:CZ (.LI ks) (.int n) dv=some (.LI (qW ks n m)):=by
  show (if ks.length<lim then (AD dv).map fun m=>D.LI (qW ks n m) else none)=_;rw[if_pos hl,hm];rfl
 rw[hp];dsimp only[Option.map];rw[kR ht]
theorem C9 {ks:List (Int×MV)}(hx:env[x]? = some (some (.LI ks,.own)))(hl:ks.length<=lim):fU T (.seq (.blt .list (Ls (.var x)))) env=.ok ((ks.map (·.1)).map D.int,[]):=by
 have e1:ev T (.var x) env=.ok (.LI ks,.mv [x]):=by
  rw[ev,hx];rfl
 have e2:iH .list [.LI ks]=some (.lst ((ks.map (·.1)).map D.int)):=by
  show (if ks.length<=lim then some (D.lst (ks.map fun q=>D.int q.1)) else none)=_;rw[if_pos hl,df];rfl
 rw[fU,ev,aY,e1,aA,aY,aA,aA,md,e2,bZ,aA,iO,aA];rfl
end Pc.Nw
end
section
namespace Pc.Fr
open PySem Pc Pc.Sm Pc.Lw Pc.Gr Pc.Nw
noncomputable abbrev pD (p:Int×Int):D:=.tup [.int p.1,.int p.2]
noncomputable def Ia:bL:=(.cons (.mut 1 .none .append (Ls (.tup (Lu Lj Lh)))) .nil)
variable {R:Rt}{T:Tb}{e:Ex}{env:En}
theorem fK {d:D}{n:String}{b:Bool}(h:ev T e env=.ok (d,R))(hb:iH (.N6 n) [d]=some (.bl b)):ev T (.blt (.N6 n) (.cons e .nil)) env=.ok (.bl b,.mv []):=by
 rw[ev,aY,aY,h,aA,aA,aA,md,hb];rfl
theorem CO {xs:List D}(h:ev T e env=.ok (.tup xs,R)):ev T (.blt .len (.cons e .nil)) env=.ok (.int (xs.length:Int),.mv []):=by
 rw[ev,aY,aY,h,aA,aA,aA,md];rfl
noncomputable abbrev kP (p:Int×Int):List Int:=[p.1,p.2]
noncomputable abbrev Tr:=Int×Int×Int
noncomputable abbrev tD (t:Tr):D:=.tup [.int t.1,.int t.2.1,.int t.2.2]
noncomputable abbrev pT (t:Tr):Int×Int:=(t.1,t.2.1)
noncomputable abbrev iD (l:List Int):List D:=l.map D.int
noncomputable def wr (M:List (List Int))(t:Tr):List (List Int):=M.set t.1.toNat ((M.getD t.1.toNat []).set t.2.1.toNat t.2.2)
structure Rect (n:Nat)(M:List (List Int)):Prop where
 len:M.length=n
 row:∀r∈M,r.length=n
noncomputable def zero (n:Nat):List (List Int):=List.replicate n (List.replicate n 0)
variable {i:Int}
theorem GD {n:Nat}(h0:0<=i)(h1:i<n):Pc.j9 n i=some i.toNat:=by
 unfold Pc.j9;rw[if_pos h0,if_pos h1]
variable {R':Rt}{a b:Ex}
section
variable {T:Tb}{env:En}
theorem kx {j:Int}(hs:(small i || small j)=true)(ha:ev T a env=.ok (.int i,R))(hb:ev T b env=.ok (.int j,R')):ev T (.bin .Mult a b) env=.ok (.int (i*j),.mv []):=by
 rw[ev,ha,aA,hb,aA,gH];simp only[Pc.binI,hs,if_true,Option.map_some,bZ,aA,fW]
theorem A5 {l:List Int}{i:Int}{v:Int}(h0:0<=i)(hv:l[i.toNat]? = some v)(ha:ev T a env=.ok (.lst (iD l),R))(hb:ev T b env=.ok (.int i,R')):ev T (.ix a b) env=.ok (.int v,.mv []):=by
 have hi:=(List.getElem?_eq_some_iff.mp hv).1;have:yn (.lst (iD l)) (.int i)=some (.int v):=by
  show ((Pc.j9 (iD l).length i).bind fun j=>(iD l)[j]?)=_;rw[GD h0 (by rw[ak];omega),fm,List.getElem?_map,hv];rfl
 rw[ev,ha,aA,hb,aA,this];rfl
end
end Pc.Fr
end
section
namespace Pc.Ct
open PySem Pc Pc.Sm Pc.Lw Pc.Gr Pc.Nw
noncomputable def tx (l:List Nat):Str:=⟨l.toArray⟩
theorem kf (l:List Nat):(tx l).length=l.length:=by simp[tx,Str.length]
theorem ko (a b:List Nat):tx a++tx b=tx (a++b):=by
 show (⟨a.toArray++b.toArray⟩:Str)=⟨(a++b).toArray⟩;rw[List.append_toArray]
variable {cs:List Nat}
theorem z8 (h:cs.length<=1000):(tx cs).length<=lim:=by rw[kf];exact jI h
noncomputable abbrev sT (cs:List Nat):Slot:=some (.str (tx cs),.own)
variable {c:Nat}
theorem Jh (hl:cs.length<=1000){i:Nat}(h:cs[i]? = some c):yn (.str (tx cs)) (.int (i:Int))=some (.str (tx [c])):=by
 have hj:i<cs.length:=(List.getElem?_eq_some_iff.mp h).1;show (if (tx cs).length<=lim then ((Pc.j9 (tx cs).cps.toList.length (i:Int)).bind fun j=>(tx cs).cps.toList[j]?).map fun c=>D.str ⟨#[c]⟩ else none)=_;rw[if_pos (z8 hl)];show ((Pc.j9 cs.length (i:Int)).bind fun j=>cs[j]?).map _=_;rw[nk hj];show (cs[i]?).map _=_;rw[h];rfl
theorem Fi {a b:List Nat}(h:a.length+b.length<=1000):ph .Add (.str (tx a)) (.str (tx b))=some (.str (tx (a++b))):=by
 show ck ((tx a).length+(tx b).length) (.str (tx a++tx b))=_;unfold ck;rw[if_pos (by rw[kf,kf];exact jI h),ko]
variable {R R':Rt}{T:Tb}{a b:Ex}{env:En}
theorem vL {x y:List Nat}(ha:ev T a env=.ok (.str (tx x),R))(hb:ev T b env=.ok (.str (tx y),R'))(h:x.length+y.length<=1000):ev T (.bin .Add a b) env=.ok (.str (tx (x++y)),.mv []):=by
 rw[ev,ha,aA,hb,aA,Fi h];rfl
theorem rC {i:Nat}(hl:cs.length<=1000)(ha:ev T a env=.ok (.str (tx cs),R))(hb:ev T b env=.ok (.int (i:Int),R'))(h:cs[i]? = some c):ev T (.ix a b) env=.ok (.str (tx [c]),.mv []):=by
 rw[ev,ha,aA,hb,aA,Jh hl h];rfl
variable {e:Ex}
theorem gC (hl:cs.length<=1000)(h:ev T e env=.ok (.str (tx cs),R)):ev T (.blt .len (.cons e .nil)) env=.ok (.int (cs.length:Int),.mv []):=by
 rw[ev,aY,aY,h,aA,aA,aA,md];have:iH .len [.str (tx cs)]=some (.int (cs.length:Int)):=by
  show (if (tx cs).length<=lim then some (D.int ((tx cs).length:Int)) else none)=_;rw[if_pos (z8 hl),kf]
 dsimp only;rw[this,bZ,aA,fW]
theorem Ez (cs:List Nat)(n:Nat):cut cs none (some (n:Int))=cs.take n:=by
 unfold cut eF;simp only[List.drop_zero,Nat.sub_zero];rw[if_neg (by omega),cj];by_cases h:n<=cs.length
 .rw[fk h]
 .rw[i5 (by omega),dm (au _),dm (by omega)]
theorem jP (n d v:Nat):eF n d (some (v:Int))=min v n:=by
 unfold eF;dsimp only;rw[if_neg (by omega),cj]
theorem we (cs:List Nat)(s n:Nat)(h:s+n<=cs.length):cut cs (some (s:Int)) (some ((s+n:Nat):Int))=(cs.drop s).take n:=by
 unfold cut;rw[jP,jP];show (cs.drop (min s cs.length)).take (min (s+n) cs.length-min s cs.length)=_;rw[fk (show s<=cs.length by omega),fk h,Nat.add_sub_cancel_left]
variable {r:List Nat}
theorem uL {lo hi:m6}{l h:Option Int}(hl:cs.length<=1000)(ha:ev T a env=.ok (.str (tx cs),R))(e1:kq T lo env=.ok l)(e2:kq T hi env=.ok h)(hr:cut cs l h=r):ev T (.sl a lo hi) env=.ok (.str (tx r),.mv []):=by
 have:Ib (.str (tx cs)) l h=some (.str (tx r)):=by
  show (if (tx cs).length<=lim then some (D.str ⟨(cut cs l h).toArray⟩) else none)=_;rw[if_pos (z8 hl),hr];rfl
 rw[ev,ha,aA,e1,aA,e2,aA,this];rfl
theorem cY {i:Int}(h:ev T e env=.ok (.int i,R)):kq T (.some e) env=.ok (some i):=by
 rw[kq,h];rfl
theorem iK:kq T .none env=.ok none:=by rw[kq]
theorem kX {x:Nat}{xs ys:List D}(ht:Tame env)(hx:env[x]? = some (some (.lst xs,.own)))(h:ev T e env=.ok (.lst ys,.mv []))(hf:D.LF ys=true)(hl:xs.length+ys.length<=lim):aV T (.mut x .none .extend (.cons e .nil)) env=.nx (env.set x (some (.lst (xs++ys),.own))):=by
 have ho:ownAt env x=some (.lst xs):=by unfold ownAt;rw[hx]
 have hs:aY T (.cons e .nil) env=.ok [(.lst ys,.mv [])]:=by
  rw[aY,h,aA];rfl
 rw[aV,ho];simp only[kq,bA,D.Mo,hs,List.map_cons,List.map_nil,zk,hf,aZ,Rt.roots,List.flatten_cons,List.flatten_nil,List.append_nil,List.contains_nil,Bool.false_eq_true,if_false,if_true,tJ.LZ,kL,eV,Option.map_some];have:(xs++ys).length<=lim:=by rw[aa];exact hl
 simp only[List.nodup_nil,decide_true,fA,List.all_nil,Bool.not_false,Bool.and_self,this,if_true,D.MU,Bool.true_and];rw[kR ht]
variable {d:D}
theorem dC {ds:List D}{i:Nat}(ha:ev T a env=.ok (.tup ds,R))(hb:ev T b env=.ok (.int (i:Int),R'))(h:ds[i]? = some d)(hf:d.flat=true):ev T (.ix a b) env=.ok (d,.mv []):=by
 have:yn (.tup ds) (.int (i:Int))=some d:=by
  show (Pc.j9 ds.length (i:Int)).bind (fun j=>ds[j]?)=_;rw[nk (List.getElem?_eq_some_iff.mp h).1];exact h
 rw[ev,ha,aA,hb,aA,this,bZ,aA];unfold nQ;rw[if_pos hf]
theorem jJ {ds:List D}{i:Nat}(ha:ev T a env=.ok (.lst ds,R))(hb:ev T b env=.ok (.int (i:Int),R'))(h:ds[i]? = some d)(hf:d.flat=true):ev T (.ix a b) env=.ok (d,.mv []):=by
 have:yn (.lst ds) (.int (i:Int))=some d:=by
  show (Pc.j9 ds.length (i:Int)).bind (fun j=>ds[j]?)=_;rw[nk (List.getElem?_eq_some_iff.mp h).1];exact h
 rw[ev,ha,aA,hb,aA,this,bZ,aA];unfold nQ;rw[if_pos hf]
variable {x y:D}
theorem vS {c d:Ex}{z u:D}(ha:ev T a env=.ok (x,.mv []))(hb:ev T b env=.ok (y,.mv []))(hc:ev T c env=.ok (z,.mv []))(hd:ev T d env=.ok (u,.mv [])):ev T (.tup (.cons a (.cons b (.cons c (.cons d .nil))))) env=.ok (.tup [x,y,z,u],.mv []):=by
 rw[ev,aY,ha,aA,aY,hb,aA,aY,hc,aA,aY,hd,aA,aY,aA,aA,aA,aA,aA];rfl
theorem oy (ha:ev T a env=.ok (x,.mv []))(hb:ev T b env=.ok (y,.mv [])):ev T (.tup (.cons a (.cons b .nil))) env=.ok (.tup [x,y],.mv []):=by
 rw[ev,aY,ha,aA,aY,hb,aA,aY,aA,aA,aA];rfl
variable {k:Nat}
theorem aU {T:Tb}{env:En}{d:D}(h:T.gl k=d):ev T (.LX k) env=.ok (d,.mv []):=by rw[ev,h]
noncomputable def s1:Str:="0123456789"
noncomputable def s2:Str:=" ABCDEFGHIJKLMNOPQRSTUVWXYZ.,-:/"
noncomputable def s3:Str:=" !\"#$&'()*+,-./0123456789:;<=>?@ABCDEFGHIJKLMNOPQRSTUVWXYZ[\\]^_`abcdefghijklmnopqrstuvwxyz{|}~"
noncomputable def KS:Nat->Str
 |1=>s1
 |2=>s2
 |3=>s3
 |_=>⟨#[]⟩
noncomputable def kn (k:Nat):List Nat:=(KS k).cps.toList
noncomputable def eK (k c:Nat):Bool:=(kn k).contains c
theorem KH (k:Nat):KS k=tx (kn k):=rfl
theorem mR:∀c,c<128->∀k,k<4->Iu (tx [c]) (KS k)=eK k c:=by decide +kernel
theorem uq:(kn 1).length=10/\(kn 2).length=32/\(kn 3).length=94:=by decide +kernel
theorem Hg:∀k,k<4->∀c∈kn k,c<127:=by decide +kernel
theorem GG:∀k,k<4->∀c∈kn k,eK 3 c=true:=by decide +kernel
noncomputable def G:Nat->D
 |0=>.int 1
 |1=>.int 2
 |2=>.int 3
 |3=>.tup [.str ⟨#[]⟩,.str s1,.str s2,.str s3]
 |4=>.tup [.int 0,.int 0,.int 5,.int 7]
 |5=>.int 2
 |6=>.int 6
 |7=>.int 64
 |8=>.tup [.int 0,.int 4,.int 7,.int 10]
 |9=>.int 3
 |_=>.LC
def GL (T:Tb):Prop:=∀i,i<10->T.gl i=G i
noncomputable def VP:bL:=(.cons (.asg (.nm 2) (.bin .Add Lm Ln) false)
  (.cons (.ite (.cmp .Eq Le (.LX 0)) (.cons (.ret (.bin .Add (.bin .Add Lg (.bin .Mult (.ix Lo Lp) (.bin .FloorDiv Lf Lp))) (.ix Lo (.bin .Mod Lf Lp))))
  .nil) .nil)
  (.cons (.ret (.bin .Add Lg (.bin .Mult (.ix Lq Le) Lf)))
  .nil)))
noncomputable def fb (m:Nat):Nat:=if m=0 then 0 else 3*m+1
noncomputable def eQ (k c:Nat):Nat:=if k=1 then 8+10*(c / 3)+fb (c%3) else 8+(if k=2 then 5 else 7)*c
theorem JP (hg:GL T)(h1:1<=k)(h3:k<=3)(hc:c<=1000):ret (aE T VP (aI [.int (k:Int),.int (c:Int)] 3))=.ok (.int ((eQ k c:Nat):Int),true):=by
 have te:∀o,aR o->Tame [sN k,sN c,o]:=fun o h=>.cons (aB _) (.cons (aB _) (.cons h .nil))
 have g1:aV T (.asg (.nm 2) (.bin .Add Lm Ln) false) [sN k,sN c,none]=.nx [sN k,sN c,sI 8] :=
  aK (te _ aN) (show (2:Nat)<3 by decide) (cP (aU (hg 5 (by decide))) (aU (hg 6 (by decide))))
 have LJ:aI [.int (k:Int),.int (c:Int)] 3=[sN k,sN c,none]:=rfl;rw[LJ];unfold VP;rw[aE,g1,aD,aE];have ec:ev T (.cmp .Eq Le (.LX 0)) [sN k,sN c,sI 8]=.ok (.bl (decide (k=1)),.mv []):=F7 (x:=k) (y:=1) (aC rfl rfl) (aU (hg 0 (by decide)));rw[oH ec];by_cases hk:k=1
 .rw[if_pos hk];have e1:ev T (.ix Lo Lp) [sN k,sN c,sI 8]=.ok (.int 10,.mv []):=dC (i:=3) (aU (hg 8 (by decide))) (aU (hg 9 (by decide))) rfl rfl;have e2:ev T (.bin .FloorDiv Lf Lp) [sN k,sN c,sI 8]=.ok (.int ((c:Int) / 3),.mv []):=dB (by decide) (by decide) (aC rfl rfl) (aU (hg 9 (by decide)));have e3:ev T (.bin .Mod Lf Lp) [sN k,sN c,sI 8]=.ok (.int (((c%3:Nat):Int)),.mv []):=by
   rw[Int.natCast_emod];exact bQ (by decide) (aC rfl rfl) (aU (hg 9 (by decide)))
  have e4:ev T (.ix Lo (.bin .Mod Lf Lp)) [sN k,sN c,sI 8]=.ok (.int ((fb (c%3):Nat):Int),.mv []):=by
   refine dC (i:=c%3) (aU (hg 8 (by decide))) e3 ?_ rfl;have:c%3<3:=Nat.mod_lt _ (by decide)
   match c%3,this with
   |0,_=>rfl
   |1,_=>rfl
   |2,_=>rfl
  have e5:=Fr.kx (T:=T) (show (small 10 || small ((c:Int) / 3))=true by rw[show small 10=true by decide];rfl) e1 e2;have e6:=cP (cP (aC (T:=T) (env:=[sN k,sN c,sI 8]) (i:=2) (d:=.int 8) (t:=.own) rfl rfl) e5) e4;rw[aE,aV,e6];have:(8:Int)+10*((c:Int) / 3)+((fb (c%3):Nat):Int)=((eQ k c:Nat):Int):=by
   unfold eQ;rw[if_pos hk];omega
  rw[this];rfl
 .rw[if_neg hk,jM,aD];have e1:ev T (.ix Lq Le) [sN k,sN c,sI 8]=.ok (.int (((if k=2 then 5 else 7:Nat):Int)),.mv []):=by
   refine dC (i:=k) (aU (hg 4 (by decide))) (aC rfl rfl) ?_ rfl;have:k=2\/k=3:=by omega
   rcases this with rfl | rfl<;>rfl
  have e5:=Fr.kx (T:=T) (show (small (((if k=2 then 5 else 7:Nat):Int)) || small (c:Int))=true by rw[show small (((if k=2 then 5 else 7:Nat):Int))=true by split<;>decide];rfl) e1 (aC (i:=1) rfl rfl);have e6:=cP (aC (T:=T) (env:=[sN k,sN c,sI 8]) (i:=2) (d:=.int 8) (t:=.own) rfl rfl) e5;have:(8:Int)+((if k=2 then 5 else 7:Nat):Int)*(c:Int)=((eQ k c:Nat):Int):=by
   unfold eQ;rw[if_neg hk]
   push_cast
   rfl
  rw[this] at e6;exact eR e6
def BJ (T:Tb):Prop:=∀k c:Nat,1<=k->k<=3->c<=1000->T.cl 0 [.int (k:Int),.int (c:Int)]=.ok (.int ((eQ k c:Nat):Int),true)
noncomputable abbrev Q4:=Nat×Nat×Nat×Nat
noncomputable def q4 (q:Q4):D:=.tup [.int (q.1:Int),.int (q.2.1:Int),.int (q.2.2.1:Int),.int (q.2.2.2:Int)]
theorem vv (q:Q4):(q4 q).flat=true:=rfl
theorem nV:∀l:List Q4,D.LF (l.map q4)=true
 |[]=>rfl
 | q::l=>by
  show ((q4 q).flat&&D.LF (l.map q4))=true;rw[nV l];rfl
noncomputable def qs (l:List Q4):D:=.lst (l.map q4)
noncomputable def CH:bL:=(.cons (.asg (.nm 6) (.ix Le (.bin .Add Lf Lh)) false)
  (.cons (.mut 4 .none .append (Ls (.tup (Lx (.bin .Add (.call 0 (Lu Lg Lh)) (.ix Lj KU)) (.bin .Add KW (.ix Lj KW)) Lg Lh))))
  .nil))
noncomputable def VW:bL:=(.cons (.asg (.nm 4) (.lst .nil) false)
  (.cons (.LP (.nm 5) (.Nh KW (.bin .Add (.blt .min2 (Lu Lk (.LX 7))) KW)) CH)
  (.cons (.ret Li)
  .nil)))
noncomputable abbrev EK (B:List Q4)(s k r:Nat)(ch:List Q4)(a5 a6:Slot):En:=[some (qs B,.sh []),sN s,sN k,sN r,some (qs ch,.own),a5,a6]
variable {a5:Slot}
theorem qP {B:List Q4}{s k r:Nat}{ch:List Q4}{a6:Slot}(h5:aR a5)(h6:aR a6):Tame (EK B s k r ch a5 a6):=.cons (dJ _) (.cons (aB _) (.cons (aB _) (.cons (aB _) (.cons (aB _) (.cons h5 (.cons h6 .nil))))))
noncomputable def one (k c:Nat)(q:Q4):Q4:=(eQ k c+q.1,1+q.2.1,k,c)
variable {B:List Q4}{q:Q4}{s:Nat}
theorem Kx (hp:BJ T){r:Nat}{ch:List Q4}{a6:Slot}(h6:aR a6)(h1:1<=k)(h3:k<=3)(hc:c<=64)(Ny:ch.length<=900)(hq:B[s+c]? = some q) :
  aE T CH (EK B s k r ch (sN c) a6)=.nx (EK B s k r (ch ++ [one k c q]) (sN c) (some (q4 q,.own))):=by
 have v0:∃R,ev T Le (EK B s k r ch (sN c) a6)=.ok (qs B,R):=jQ rfl;obtain⟨R,v0⟩:=v0;have e1:ev T (.bin .Add Lf Lh) (EK B s k r ch (sN c) a6)=.ok (.int ((s+c:Nat):Int),.mv []):=be (aC rfl rfl) (aC rfl rfl);have e2:=jJ v0 e1 (by rw[List.getElem?_map,hq];rfl) (vv q);have g1:aV T (.asg (.nm 6) (.ix Le (.bin .Add Lf Lh)) false) (EK B s k r ch (sN c) a6)=.nx (EK B s k r ch (sN c) (some (q4 q,.own))):=aK (qP (aB _) h6) (show (6:Nat)<7 by decide) e2;have v6:ev T Lj (EK B s k r ch (sN c) (some (q4 q,.own)))=.ok (q4 q,.mv []):=aC rfl rfl;have f0:ev T (.ix Lj KU) (EK B s k r ch (sN c) (some (q4 q,.own)))=.ok (.int (q.1:Int),.mv []):=dC (i:=0) v6 (aF _) rfl rfl;have f1:ev T (.ix Lj KW) (EK B s k r ch (sN c) (some (q4 q,.own)))=.ok (.int (q.2.1:Int),.mv []):=dC (i:=1) v6 (aF _) rfl rfl;have f2:ev T (.call 0 (Lu Lg Lh)) (EK B s k r ch (sN c) (some (q4 q,.own)))=.ok (.int ((eQ k c:Nat):Int),.mv []):=fM (aC rfl rfl) (aC rfl rfl) (hp k c h1 h3 (by omega));have f3:ev T (.bin .Add (.call 0 (Lu Lg Lh)) (.ix Lj KU)) (EK B s k r ch (sN c) (some (q4 q,.own)))=.ok (.int ((eQ k c+q.1:Nat):Int),.mv []):=be f2 f0;have f4:ev T (.bin .Add KW (.ix Lj KW)) (EK B s k r ch (sN c) (some (q4 q,.own)))=.ok (.int ((1+q.2.1:Nat):Int),.mv []):=be (x:=1) (aF _) f1;have f5:=vS f3 f4 (aC (T:=T) (env:=EK B s k r ch (sN c) (some (q4 q,.own))) (i:=2) (d:=.int (k:Int)) (t:=.own) rfl rfl) (aC (i:=5) (d:=.int (c:Int)) (t:=.own) rfl rfl);have g2:=gU (x:=4) (xs:=ch.map q4) (qP (B:=B) (s:=s) (k:=k) (r:=r) (ch:=ch) (aB (.int (c:Int))) (aB (q4 q))) rfl f5 (by rw[ak];exact jI (by omega));have g2:aV T (.mut 4 .none .append (Ls (.tup (Lx (.bin .Add (.call 0 (Lu Lg Lh)) (.ix Lj KU)) (.bin .Add KW (.ix Lj KW)) Lg Lh)))) (EK B s k r ch (sN c) (some (q4 q,.own)))=.nx (EK B s k r (ch ++ [one k c q]) (sN c) (some (q4 q,.own))):=by
  rw[g2];show Fl.nx (EK B s k r ch (sN c) (some (q4 q,.own)) |>.set 4 (some (.lst (ch.map q4 ++ [q4 (one k c q)]),.own)))=_;rw[show ch.map q4 ++ [q4 (one k c q)]=(ch ++ [one k c q]).map q4 by rw[dt];rfl];rfl
 unfold CH;rw[aE,g1,aD,aE,g2,aD,aE]
noncomputable def vf (k:Nat)(B:List Q4)(s m:Nat):List Q4:=(List.range m).map fun j=>one k (j+1) (B.getD (s+(j+1)) (0,0,0,0))
theorem m4 (k:Nat)(B:List Q4)(s m:Nat):(vf k B s m).length=m:=by unfold vf;rw[ak,cw]
theorem vY (hp:BJ T){B:List Q4}{s k r:Nat}(h1:1<=k)(h3:k<=3):∀(m c0:Nat) (ch:List Q4) (a5 a6:Slot),aR a5->aR a6->c0+m<=64->ch.length+m<=900->s+(c0+m)<B.length ->
  ∃b5 b6,aR b5/\aR b6/\cZ (.nm 5) [] (aE T CH) (aW ((c0+1:Nat):Int) 1 m) (EK B s k r ch a5 a6)=.nx (EK B s k r (ch++(List.range m).map fun j=>one k (c0+j+1) (B.getD (s+(c0+j+1)) (0,0,0,0))) b5 b6)
 |0,c0,ch,a5,a6,t5,t6,_,_,_=>⟨a5,a6,t5,t6,by rw[List.range_zero,gu,ay];rfl⟩
 | m+1,c0,ch,a5,a6,t5,t6,hc,hl,hB=>by
  have hq:B[s+(c0+1)]? = some (B.getD (s+(c0+1)) (0,0,0,0)):=by
   have hi:s+(c0+1)<B.length:=by omega
   rw[List.getD_eq_getElem?_getD,List.getElem?_eq_getElem hi];rfl
  have st:=Kx hp (a6:=a6) (r:=r) t6 h1 h3 (show c0+1<=64 by omega) (show ch.length<=900 by omega) hq;have hb:bK [] (.nm 5) (.int ((c0+1:Nat):Int)) (EK B s k r ch a5 a6)=some (EK B s k r ch (sN (c0+1)) a6):=dD (qP t5 t6) (show (5:Nat)<7 by decide);obtain⟨b5,b6,u5,u6,q⟩:=vY hp (B:=B) (s:=s) (k:=k) (r:=r) h1 h3 m (c0+1) (ch ++ [one k (c0+1) (B.getD (s+(c0+1)) (0,0,0,0))]) (sN (c0+1)) (some (q4 (B.getD (s+(c0+1)) (0,0,0,0)),.own)) (aB _) (aB _) (by omega) (by rw[aa,az];omega) (by omega);refine⟨b5,b6,u5,u6,?_⟩;have el:((List.range m).map fun j=>one k (c0+1+j+1) (B.getD (s+(c0+1+j+1)) (0,0,0,0)))=(List.range m).map ((fun j=>one k (c0+j+1) (B.getD (s+(c0+j+1)) (0,0,0,0)))∘Nat.succ):=gi fun j _=>by
   show one k (c0+1+j+1) _=one k (c0+(j+1)+1) _;rw[show c0+1+j+1=c0+(j+1)+1 by omega]
  rw[nJ,cF hb st,q,gj,aw,df,av,el];rfl
variable {e2:Ex}{m:Nat}
theorem BM {e1:Ex}(hm:m<=1000)(h1:ev T e1 env=.ok (.int 1,R))(h2:ev T e2 env=.ok (.int ((m+1:Nat):Int),R')):fU T (.Nh e1 e2) env=.ok (aW ((0+1:Nat):Int) 1 m,[]):=by
 rw[fU,h1,aA,h2,aA];dsimp only;rw[show fT 1=true by decide,show fT ((m+1:Nat):Int)=true by unfold fT;exact bp ⟨by omega,by omega⟩,show (((m+1:Nat):Int)-1).toNat=m by omega];rfl
theorem Jq (hg:GL T)(hp:BJ T){r:Nat}(h1:1<=k)(h3:k<=3)(hB:s+min r 64<B.length):ret (aE T VW (aI [qs B,.int (s:Int),.int (k:Int),.int (r:Int)] 7))=.ok (qs (vf k B s (min r 64)),true):=by
 have LJ:aI [qs B,.int (s:Int),.int (k:Int),.int (r:Int)] 7=[some (qs B,.sh []),sN s,sN k,sN r,none,none,none]:=rfl;have t0:Tame [some (qs B,.sh []),sN s,sN k,sN r,none,none,none]:=.cons (dJ _) (.cons (aB _) (.cons (aB _) (.cons (aB _) (.cons aN (.cons aN (.cons aN .nil))))));have g1:aV T (.asg (.nm 4) (.lst .nil) false) [some (qs B,.sh []),sN s,sN k,sN r,none,none,none]=.nx (EK B s k r [] none none):=aK t0 (show (4:Nat)<7 by decide) (by rw[ev,aY];rfl);obtain⟨b5,b6,u5,u6,q⟩:=vY hp (B:=B) (s:=s) (k:=k) (r:=r) h1 h3 (min r 64) 0 [] none none aN aN (by omega) (by rw[bz];omega) (by omega);have em:ev T (.blt .min2 (Lu Lk (.LX 7))) (EK B s k r [] none none)=.ok (.int ((min r 64:Nat):Int),.mv []):=by
  rw[ev,aY,aC (d:=.int (r:Int)) (t:=.own) rfl rfl,aA,aY,aU (hg 7 (by decide)),aA,aY,aA,aA,aA];show (eW (some (D.int (if (64:Int)<(r:Int) then 64 else (r:Int))))).bind _=_;have:(if (64:Int)<(r:Int) then 64 else (r:Int))=((min r 64:Nat):Int):=by split<;>omega
  rw[this,bZ,aA];rfl
 have hit:fU T (.Nh KW (.bin .Add (.blt .min2 (Lu Lk (.LX 7))) KW)) (EK B s k r [] none none)=.ok (aW ((0+1:Nat):Int) 1 (min r 64),[]) :=
  BM (by omega) (aF _) (be (y:=1) em (aF _))
 have g2:=dQ hit q;rw[LJ];unfold VW;rw[aE,g1,aD,aE,g2,aD,aE,aV,aX (d:=.lst ((vf k B s (min r 64)).map q4)) ?_ rfl]
 .rfl
 .show some (some (D.lst _,Tg.own))=_;rw[dq];congr 4;unfold vf;congr 1;refine gi fun j _=>?_
  rw[fv]
def yu (T:Tb):Prop:=∀(B:List Q4) (s k r:Nat),1<=k->k<=3->s+min r 64<B.length->T.cl 4 [qs B,.int (s:Int),.int (k:Int),.int (r:Int)]=.ok (qs (vf k B s (min r 64)),true)
noncomputable abbrev z4:Q4:=(0,0,0,0)
noncomputable def k4 (q:Q4):List Int:=[(q.1:Int),(q.2.1:Int),(q.2.2.1:Int),(q.2.2.2:Int)]
noncomputable def Bo (l:List Q4):Q4:=l.getD (dM (fun i j=>jY ((l.map k4).getD i []) ((l.map k4).getD j [])) (l.length-1) 1 0) z4
theorem iJ (lt:Nat->Nat->Bool):∀(k j m N:Nat),m<N->j+k<=N->dM lt k j m<N
 |0,j,m,N,h,_=>h
 | k+1,j,m,N,h,h2=>by
  unfold dM;refine iJ lt k (j+1) _ N ?_ (by omega);split<;>omega
variable {l:List Q4}
theorem wd (h:l≠[]):Bo l∈l:=by
 have h0:0<l.length:=List.length_pos_iff.mpr h;have hi:=iJ (fun i j=>jY ((l.map k4).getD i []) ((l.map k4).getD j [])) (l.length-1) 1 0 l.length h0 (by omega);unfold Bo;rw[List.getD_eq_getElem?_getD,List.getElem?_eq_getElem hi];exact fh hi
theorem AW:∀l:List Q4,mH (l.map q4)=some (l.map k4)
 |[]=>rfl
 | q::l=>by
  show (iL [.int (q.1:Int),.int (q.2.1:Int),.int (q.2.2.1:Int),.int (q.2.2.2:Int)]).bind (fun k=>if k.isEmpty then none else (mH (l.map q4)).map (k :: ·))=_;rw[AW l];rfl
theorem JA (h:l≠[]):minD (l.map q4)=some (q4 (Bo l)):=by
 have h0:0<l.length:=List.length_pos_iff.mpr h;unfold minD;rw[if_neg (by rw[List.isEmpty_iff];simpa using h)];have hk:iL (l.map q4)=none:=by
  cases l with
  |nil=>exact absurd rfl h
  |cons q l=>rfl
 rw[hk];show (mH (l.map q4)).bind _=_;rw[AW];show (l.map q4)[_]? = _;rw[ak,List.getElem?_map];have hi:=iJ (fun i j=>jY ((l.map k4).getD i []) ((l.map k4).getD j [])) (l.length-1) 1 0 l.length h0 (by omega);unfold Bo;rw[List.getD_eq_getElem?_getD,List.getElem?_eq_getElem hi];rfl
noncomputable def rn (k:Nat):List Nat->Nat
 |[]=>0
 |c::r=>if eK k c then rn k r+1 else 0
theorem mj (k:Nat):∀t:List Nat,rn k t<=t.length
 |[]=>au _
 | c::r=>by
  have:=mj k r;unfold rn;rw[ah];split<;>omega
noncomputable def uc (k:Nat)(C:List Q4)(m:Nat):List Q4:=(List.range m).map fun j=>one k (j+1) (C.getD j z4)
theorem jU (k:Nat)(C:List Q4)(m:Nat):(uc k C m).length=m:=by unfold uc;rw[ak,cw]
noncomputable def qe (t:List Nat)(C:List Q4):List Q4:=uc 1 C (min (rn 1 t) 64)++uc 2 C (min (rn 2 t) 64)++uc 3 C (min (rn 3 t) 64)
noncomputable def bc:List Nat->List Q4
 |[]=>[z4]
 |c::r=>Bo (qe (c::r) (bc r))::bc r
theorem nT:∀t:List Nat,(bc t).length=t.length+1
 |[]=>rfl
 |c::r=>by unfold bc;rw[ah,ah,nT r]
theorem qS (k s m:Nat)(C:List Q4):vf k (List.replicate (s+1) z4++C) s m=uc k C m:=by
 unfold vf uc;refine gi fun j _=>?_
 rw[List.getD_eq_getElem?_getD,List.getD_eq_getElem?_getD,List.getElem?_append_right (by rw[cm];omega),cm,show s+(j+1)-(s+1)=j by omega]
noncomputable def C6:bL:=(.cons (.Ni 2 Lh (.ite (.cmp .In (.ix Le Lk) (.ix Lr Lh)) (.bin .Add (.ix Lg Lh) KW) KU))
  (.cons (.mut 4 .none .extend (Ls (.call 4 (Lx Lf Lk Lh (.ix Lg Lh)))))
  .nil))
noncomputable def BQ:bL:=(.cons (.asg (.nm 4) (.lst .nil) false)
  (.cons (.LP (.nm 5) (.seq (.blt .list (Ls Lg))) C6)
  (.cons (.MH 1 .none Lk (.blt .min2 (Ls Li)))
  .nil)))
noncomputable def VZ:bL:=(.cons (.asg (.nm 1) (.bin .Mult (.lst (Ls (.tup (Lx KU KU KU KU)))) (.bin .Add (Ly Le) KW)) false)
  (.cons (.asg (.nm 2) (.Nt [(0,0),(1,0),(2,0)]) false)
  (.cons (.LP (.nm 3) (.L6 (.bin .Sub (Ly Le) KW) (.neg KW) (.neg KW)) BQ)
  (.cons (.ret Lf)
  .nil))))
noncomputable abbrev mp (rs:List (Int×MV)):Slot:=some (.LI rs,.own)
noncomputable abbrev oQ (l:List Q4):Slot:=some (qs l,.own)
noncomputable abbrev EB (t:List Nat)(B:List Q4)(rs:List (Int×MV))(s:Nat)(ch:List Q4)(a5:Slot):En:=[sT t,oQ B,mp rs,sN s,oQ ch,a5]
theorem iW {t:List Nat}{B:List Q4}{rs:List (Int×MV)}{s:Nat}{ch:List Q4}(h5:aR a5):Tame (EB t B rs s ch a5):=.cons (aB _) (.cons (aB _) (.cons (aB _) (.cons (aB _) (.cons (aB _) (.cons h5 .nil)))))
variable {R2:Rt}{e3:Ex}
theorem Kt {f:Nat}{e1 e4:Ex}{d1 d2 d3 d4 r:D}{R1 R3 R4:Rt}(h1:ev T e1 env=.ok (d1,R1))(h2:ev T e2 env=.ok (d2,R2))(h3:ev T e3 env=.ok (d3,R3))(h4:ev T e4 env=.ok (d4,R4))(h:T.cl f [d1,d2,d3,d4]=.ok (r,true)):ev T (.call f (.cons e1 (.cons e2 (.cons e3 (.cons e4 .nil))))) env=.ok (r,.mv []):=by
 rw[ev,aY,h1,aA,aY,h2,aA,aY,h3,aA,aY,h4,aA,aY,aA,aA,aA,aA,aA];show (T.cl f [d1,d2,d3,d4]).bind _=_;rw[h];rfl
theorem Kb (hg:GL T)(hc:c<128)(hk:k<4)(ha:ev T a env=.ok (.str (tx [c]),R))(hb:ev T b env=.ok (.int (k:Int),R')):ev T (.cmp .In a (.ix Lr b)) env=.ok (.bl (eK k c),.mv []):=by
 have e1:ev T (.ix Lr b) env=.ok (.str (KS k),.mv []):=by
  refine dC (i:=k) (aU (hg 3 (by decide))) hb ?_ rfl
  match k,hk with
  |0,_=>rfl
  |1,_=>rfl
  |2,_=>rfl
  |3,_=>rfl
 rw[ev,ha,aA,e1,aA];show (eW (some (Iu (tx [c]) (KS k)))).bind _=_;rw[mR c hc k hk];rfl
variable {t:List Nat}
theorem zZ (hg:GL T)(Nx:yu T){rs rs':List (Int×MV)}{k r r':Nat}{ch:List Q4}(ht:t.length<=900)(hc:c<128)(OU:t[s]? = some c)(h1:1<=k)(h3:k<=3)
  (hr:r'=if eK k c then r+1 else 0) (hf:yn (.LI rs) (.int (k:Int))=some (.int (r:Int))) (hp:qW rs (k:Int) (.int (r':Int))=rs') (hf':yn (.LI rs') (.int (k:Int))=some (.int (r':Int))) (hl:rs.length<=3) (hB:s+min r' 64<B.length) (Ny:ch.length<=500) :
  aE T C6 (EB t B rs s ch (sN k))=.nx (EB t B rs' s (ch++vf k B s (min r' 64)) (sN k)):=by
 have vt:ev T (.ix Le Lk) (EB t B rs s ch (sN k))=.ok (.str (tx [c]),.mv []):=rC (i:=s) (by omega) (aC (d:=.str (tx t)) (t:=.own) rfl rfl) (aC rfl rfl) OU;have ei:=Kb hg hc (show k<4 by omega) vt (aC (T:=T) (env:=EB t B rs s ch (sN k)) (i:=5) (d:=.int (k:Int)) (t:=.own) rfl rfl);have vr:∀(Rh:List (Int×MV)) (r0:Nat) (XE:List Q4),yn (.LI Rh) (.int (k:Int))=some (.int (r0:Int))->ev T (.ix Lg Lh) (EB t B Rh s XE (sN k))=.ok (.int (r0:Int),.mv []):=fun Rh r0 XE h=>by
  rw[ev,aX (i:=2) (d:=.LI Rh) rfl rfl,aA,aC (i:=5) (d:=.int (k:Int)) (t:=.own) rfl rfl,aA,h];rfl
 have ev1:ev T (.ite (.cmp .In (.ix Le Lk) (.ix Lr Lh)) (.bin .Add (.ix Lg Lh) KW) KU) (EB t B rs s ch (sN k))=.ok (.int (r':Int),.mv []):=by
  rw[ev,ei,aA];show (eW (some (eK k c))).bind _=_;rw[bZ,aA,hr];by_cases hi:eK k c=true
  .rw[if_pos hi,if_pos hi];exact be (y:=1) (vr rs r ch hf) (aF _)
  .rw[if_neg hi,if_neg hi];exact aF _
 have g1:=AI (T:=T) (x:=2) (m:=.int (r':Int)) (iW (t:=t) (B:=B) (rs:=rs) (s:=s) (ch:=ch) (aB (.int (k:Int)))) rfl (ip hl (by decide)) (aC (i:=5) (d:=.int (k:Int)) (t:=.own) rfl rfl) ev1 rfl;rw[hp] at g1;have g1:aV T (.Ni 2 Lh (.ite (.cmp .In (.ix Le Lk) (.ix Lr Lh)) (.bin .Add (.ix Lg Lh) KW) KU)) (EB t B rs s ch (sN k))=.nx (EB t B rs' s ch (sN k)):=g1;have e2:ev T (.call 4 (Lx Lf Lk Lh (.ix Lg Lh))) (EB t B rs' s ch (sN k))=.ok (qs (vf k B s (min r' 64)),.mv []) :=
  Kt (aX (d:=qs B) rfl rfl) (aC rfl rfl) (aC rfl rfl) (vr rs' r' ch hf') (Nx B s k r' h1 h3 hB)
 have g2:=kX (x:=4) (xs:=ch.map q4) (ys:=(vf k B s (min r' 64)).map q4) (iW (t:=t) (B:=B) (rs:=rs') (s:=s) (ch:=ch) (aB (.int (k:Int)))) rfl e2 (nV _) (by rw[ak,ak,m4];exact jI (by omega));have g2:aV T (.mut 4 .none .extend (Ls (.call 4 (Lx Lf Lk Lh (.ix Lg Lh))))) (EB t B rs' s ch (sN k))=.nx (EB t B rs' s (ch++vf k B s (min r' 64)) (sN k)):=by
  rw[g2,<-dt];rfl
 unfold C6;rw[aE,g1,aD,aE,g2,aD,aE]
noncomputable def r3 (a b c:Nat):List (Int×MV):=[(1,.int (a:Int)),(2,.int (b:Int)),(3,.int (c:Int))]
theorem jO (k c:Nat)(r:List Nat):rn k (c::r)=if eK k c then rn k r+1 else 0:=by rw[rn]
theorem BZ (s:Nat)(x z:Q4)(C:List Q4):((List.replicate (s+1) z++C).map q4).set s (q4 x)=(List.replicate s z++x::C).map q4:=by
 induction s with
 |zero=>rfl
 |succ s ih =>
  show q4 z::((List.replicate (s+1) z++C).map q4).set s (q4 x)=_;rw[ih];rfl
variable {a4:Slot}
theorem ES (hg:GL T)(Nx:yu T)(h4:aR a4)(h5:aR a5)(ht:t.length<=900)(hd:t.drop s=c::r)(hc:c<128)(Ux:eK 3 c=true) :
  ∃ch,aE T BQ [sT t,oQ (List.replicate (s+1) z4++bc r),mp (r3 (rn 1 r) (rn 2 r) (rn 3 r)),sN s,a4,a5]=.nx [sT t,oQ (List.replicate s z4++bc (c::r)),mp (r3 (rn 1 (c::r)) (rn 2 (c::r)) (rn 3 (c::r))),sN s,oQ ch,sN 3]:=by
 have OU:t[s]? = some c:=by
  have:=gv (fun l:List Nat=>l[0]?) hd;simpa using this
 have hlen:t.length=s+(r.length+1):=by
  have h1:=gv List.length hd;rw[bu,ah] at h1;omega
 have hB:∀k,s+min (rn k (c::r)) 64<(List.replicate (s+1) z4++bc r).length:=fun k=>by
  rw[aa,cm,nT];have:=mj k (c::r);rw[ah] at this;omega
 have t0:Tame [sT t,oQ (List.replicate (s+1) z4++bc r),mp (r3 (rn 1 r) (rn 2 r) (rn 3 r)),sN s,a4,a5]:=.cons (aB _) (.cons (aB _) (.cons (aB _) (.cons (aB _) (.cons h4 (.cons h5 .nil)))));have g1:aV T (.asg (.nm 4) (.lst .nil) false) [sT t,oQ (List.replicate (s+1) z4++bc r),mp (r3 (rn 1 r) (rn 2 r) (rn 3 r)),sN s,a4,a5]=.nx (EB t (List.replicate (s+1) z4++bc r) (r3 (rn 1 r) (rn 2 r) (rn 3 r)) s [] a5):=aK t0 (show (4:Nat)<6 by decide) (by rw[ev,aY];rfl);have hit:fU T (.seq (.blt .list (Ls Lg))) (EB t (List.replicate (s+1) z4++bc r) (r3 (rn 1 r) (rn 2 r) (rn 3 r)) s [] a5)=.ok ([.int ((1:Nat):Int),.int ((2:Nat):Int),.int ((3:Nat):Int)],[]):=C9 (ks:=r3 (rn 1 r) (rn 2 r) (rn 3 r)) rfl (by show (3:Nat)<=lim;decide);have i1:=zZ hg Nx (k:=1) (r:=rn 1 r) (r':=rn 1 (c::r)) (rs:=r3 (rn 1 r) (rn 2 r) (rn 3 r)) (rs':=r3 (rn 1 (c::r)) (rn 2 r) (rn 3 r)) (ch:=[]) ht hc OU (by decide) (by decide) (jO 1 c r) rfl rfl rfl (by show (3:Nat)<=3;decide) (hB 1) (by show (0:Nat)<=500;decide);have i2:=zZ hg Nx (k:=2) (r:=rn 2 r) (r':=rn 2 (c::r)) (rs:=r3 (rn 1 (c::r)) (rn 2 r) (rn 3 r)) (rs':=r3 (rn 1 (c::r)) (rn 2 (c::r)) (rn 3 r)) (ch:=[]++vf 1 (List.replicate (s+1) z4++bc r) s (min (rn 1 (c::r)) 64)) ht hc OU (by decide) (by decide) (jO 2 c r) rfl rfl rfl (by show (3:Nat)<=3;decide) (hB 2) (by rw[dq,m4];omega);have i3:=zZ hg Nx (k:=3) (r:=rn 3 r) (r':=rn 3 (c::r)) (rs:=r3 (rn 1 (c::r)) (rn 2 (c::r)) (rn 3 r)) (rs':=r3 (rn 1 (c::r)) (rn 2 (c::r)) (rn 3 (c::r))) (ch:=[]++vf 1 (List.replicate (s+1) z4++bc r) s (min (rn 1 (c::r)) 64)++vf 2 (List.replicate (s+1) z4++bc r) s (min (rn 2 (c::r)) 64)) ht hc OU (by decide) (by decide) (jO 3 c r) rfl rfl rfl (by show (3:Nat)<=3;decide) (hB 3) (by rw[dq,aa,m4,m4];omega);have bk:∀(rs:List (Int×MV)) (ch:List Q4) (a5:Slot) (k:Nat),aR a5->bK [] (.nm 5) (.int (k:Int)) (EB t (List.replicate (s+1) z4++bc r) rs s ch a5)=some (EB t (List.replicate (s+1) z4++bc r) rs s ch (sN k)):=fun rs ch a5 k h=>dD (iW h) (show (5:Nat)<6 by decide)
 have g2:=dQ hit (show cZ (.nm 5) [] (aE T C6) [.int ((1:Nat):Int),.int ((2:Nat):Int),.int ((3:Nat):Int)] (EB t (List.replicate (s+1) z4++bc r) (r3 (rn 1 r) (rn 2 r) (rn 3 r)) s [] a5)=.nx _ by
  rw[cF (bk _ _ _ 1 h5) i1,cF (bk _ _ _ 2 (aB _)) i2,cF (bk _ _ _ 3 (aB _)) i3];rfl)
 rw[qS,qS,qS,dq] at g2;have hca:uc 1 (bc r) (min (rn 1 (c::r)) 64)++uc 2 (bc r) (min (rn 2 (c::r)) 64)++uc 3 (bc r) (min (rn 3 (c::r)) 64)=qe (c::r) (bc r):=rfl;rw[hca] at g2;have NJ:qe (c::r) (bc r)≠[]:=by
  intro z;have:=gv List.length z;unfold qe at this;rw[aa,aa,jU,jU,jU,jO 3,if_pos Ux] at this;have h0:([]:List Q4).length=0:=rfl;omega
 have em:ev T (.blt .min2 (Ls Li)) (EB t (List.replicate (s+1) z4++bc r) (r3 (rn 1 (c::r)) (rn 2 (c::r)) (rn 3 (c::r))) s (qe (c::r) (bc r)) (sN 3))=.ok (q4 (Bo (qe (c::r) (bc r))),.mv []):=by
  rw[ev,aY,aX (i:=4) (d:=qs (qe (c::r) (bc r))) rfl rfl,aA,aY,aA,aA,md];show (eW (minD ((qe (c::r) (bc r)).map q4))).bind _=_;rw[JA NJ];rfl
 have g3:=B2 (x:=1) (k:=.var 3) (xs:=(List.replicate (s+1) z4++bc r).map q4) (l:=(s:Int)) (m:=s) (iW (t:=t) (B:=List.replicate (s+1) z4++bc r) (rs:=r3 (rn 1 (c::r)) (rn 2 (c::r)) (rn 3 (c::r))) (s:=s) (ch:=qe (c::r) (bc r)) (aB (.int ((3:Nat):Int)))) rfl (aC (T:=T) rfl rfl) (by
  rw[ak,aa,cm];exact nk (by omega)) em (by rw[ak,aa,cm,nT];exact jI (by omega))
 have OW:((List.replicate (s+1) z4++bc r).map q4).set s (q4 (Bo (qe (c::r) (bc r))))=(List.replicate s z4++bc (c::r)).map q4:=by
  rw[show bc (c::r)=Bo (qe (c::r) (bc r))::bc r by rw[bc]];exact BZ s _ _ _
 rw[OW] at g3;refine⟨qe (c::r) (bc r),?_⟩;unfold BQ;rw[aE,g1,aD,aE,g2,aD,aE,g3,aD,aE];rfl
theorem DH (m:Nat):aW (((m+1:Nat):Int)-1) (-1) (m+1)=.int (m:Int)::aW ((m:Int)-1) (-1) m:=by
 rw[aW,show (((m+1:Nat):Int)-1)=(m:Int) by omega,show (m:Int) + -1=(m:Int)-1 by omega]
theorem EV {e1:Ex}{n:Nat}(hn:n<=1000)(h1:ev T e1 env=.ok (.int ((n:Int)-1),R))(h2:ev T e2 env=.ok (.int (-1),R'))(h3:ev T e3 env=.ok (.int (-1),R2)):fU T (.L6 e1 e2 e3) env=.ok (aW ((n:Int)-1) (-1) n,[]):=by
 have hz:(Builtin.Range.rangeSize ((n:Int)-1) (-1) (-1)).toNat=n:=by
  unfold Builtin.Range.rangeSize;rw[if_neg (by decide),show -(-1:Int)=1 from rfl,Int.ediv_one];by_cases h:(-1:Int)<(n:Int)-1
  .rw[if_pos h];omega
  .rw[if_neg h];omega
 rw[fU,h1,aA,h2,aA,h3,aA];dsimp only;rw[hz,show fT ((n:Int)-1)=true by unfold fT;exact bp ⟨by omega,by omega⟩];rfl
def Good (t:List Nat):Prop:=∀c∈t,c<128/\eK 3 c=true
theorem vB (hg:GL T)(Nx:yu T)(ht:t.length<=900)(hG:Good t):∀(m:Nat) (a3 a4 a5:Slot),aR a3->aR a4->aR a5->m<=t.length->∃b3 b4 b5,aR b3/\aR b4/\aR b5 /\
  cZ (.nm 3) [] (aE T BQ) (aW ((m:Int)-1) (-1) m) [sT t,oQ (List.replicate m z4++bc (t.drop m)),mp (r3 (rn 1 (t.drop m)) (rn 2 (t.drop m)) (rn 3 (t.drop m))),a3,a4,a5]=.nx [sT t,oQ (bc t),mp (r3 (rn 1 t) (rn 2 t) (rn 3 t)),b3,b4,b5]
 |0,a3,a4,a5,h3,h4,h5,_=>⟨a3,a4,a5,h3,h4,h5,rfl⟩
 | m+1,a3,a4,a5,h3,h4,h5,hm=>by
  have LO:m<t.length:=by omega
  have hd:t.drop m=t[m]::t.drop (m+1):=ie LO;obtain⟨g1,g2⟩:=hG t[m] (fh LO);obtain⟨ch,st⟩:=ES hg Nx h4 h5 ht hd g1 g2;rw[<-hd] at st;obtain⟨b3,b4,b5,u3,u4,u5,q⟩:=vB hg Nx ht hG m (sN m) (oQ ch) (sN 3) (aB _) (aB _) (aB _) (by omega);refine⟨b3,b4,b5,u3,u4,u5,?_⟩;have hb:bK [] (.nm 3) (.int (m:Int)) [sT t,oQ (List.replicate (m+1) z4++bc (t.drop (m+1))),mp (r3 (rn 1 (t.drop (m+1))) (rn 2 (t.drop (m+1))) (rn 3 (t.drop (m+1)))),a3,a4,a5]=some [sT t,oQ (List.replicate (m+1) z4++bc (t.drop (m+1))),mp (r3 (rn 1 (t.drop (m+1))) (rn 2 (t.drop (m+1))) (rn 3 (t.drop (m+1)))),sN m,a4,a5] :=
   dD (.cons (aB _) (.cons (aB _) (.cons (aB _) (.cons h3 (.cons h4 (.cons h5 .nil)))))) (show (3:Nat)<6 by decide)
  rw[DH,cF hb st,q]
theorem JY {j:Int}(h0:0<=j)(h1:j<=1000):ph .Mult (.lst [q4 z4]) (.int j)=some (qs (List.replicate j.toNat z4)):=by
 show (if -(2 ^ 63)<=j/\j<2 ^ 63 then (if D.LF [q4 z4] then ck (1*j.toNat) (.lst (List.replicate j.toNat [q4 z4]).flatten) else none) else none)=_;rw[if_pos ⟨by omega,by omega⟩,if_pos (show D.LF [q4 z4]=true from rfl)];unfold ck;rw[if_pos (jI (by omega)),List.flatten_replicate_singleton];unfold qs;rw[List.map_replicate]
theorem Ey (hg:GL T)(Nx:yu T)(ht:t.length<=900)(hG:Good t):ret (aE T VZ (aI [.str (tx t)] 6))=.ok (qs (bc t),true):=by
 have LJ:aI [.str (tx t)] 6=[sT t,none,none,none,none,none]:=rfl;have tn:=aN;have el:ev T (.lst (Ls (.tup (Lx KU KU KU KU)))) [sT t,none,none,none,none,none]=.ok (.lst [q4 z4],.mv []):=by
  rw[ev,aY,vS (aF _) (aF _) (aF _) (aF _),aA,aY,aA,aA];rfl
 have en:ev T (.bin .Add (Ly Le) KW) [sT t,none,none,none,none,none]=.ok (.int ((t.length+1:Nat):Int),.mv []):=be (y:=1) (gC (by omega) (aC rfl rfl)) (aF _);have em:ev T (.bin .Mult (.lst (Ls (.tup (Lx KU KU KU KU)))) (.bin .Add (Ly Le) KW)) [sT t,none,none,none,none,none]=.ok (qs (List.replicate (t.length+1) z4),.mv []):=by
  have hm:ph .Mult (.lst [q4 z4]) (.int ((t.length+1:Nat):Int))=some (qs (List.replicate (t.length+1) z4)):=by
   rw[JY (by omega) (by omega),cj]
  rw[ev,el,aA,en,aA,hm,bZ,aA];unfold qs;rw[sO (nV _)]
 have g1:aV T (.asg (.nm 1) (.bin .Mult (.lst (Ls (.tup (Lx KU KU KU KU)))) (.bin .Add (Ly Le) KW)) false) [sT t,none,none,none,none,none]=.nx [sT t,oQ (List.replicate (t.length+1) z4),none,none,none,none] :=
  aK (.cons (aB _) (.cons tn (.cons tn (.cons tn (.cons tn (.cons tn .nil)))))) (show (1:Nat)<6 by decide) em
 have ed:ev T (.Nt [(0,0),(1,0),(2,0)]) [sT t,oQ (List.replicate (t.length+1) z4),none,none,none,none]=.ok (.LI (r3 0 0 0),.mv []):=by
  rw[ev];have:qJ T.gl [(0,0),(1,0),(2,0)] []=some (r3 0 0 0):=by
   unfold qJ qJ qJ qJ;rw[hg 0 (by decide),hg 1 (by decide),hg 2 (by decide)];rfl
  rw[this];rfl
 have g2:aV T (.asg (.nm 2) (.Nt [(0,0),(1,0),(2,0)]) false) [sT t,oQ (List.replicate (t.length+1) z4),none,none,none,none]=.nx [sT t,oQ (List.replicate (t.length+1) z4),mp (r3 0 0 0),none,none,none] :=
  aK (.cons (aB _) (.cons (aB _) (.cons tn (.cons tn (.cons tn (.cons tn .nil)))))) (show (2:Nat)<6 by decide) ed
 have hit:fU T (.L6 (.bin .Sub (Ly Le) KW) (.neg KW) (.neg KW)) [sT t,oQ (List.replicate (t.length+1) z4),mp (r3 0 0 0),none,none,none]=.ok (aW ((t.length:Int)-1) (-1) t.length,[]) :=
  EV (by omega) (sS (gC (by omega) (aC rfl rfl)) (aF _)) (by rw[ev,aF];rfl) (by rw[ev,aF];rfl)
 obtain⟨b3,b4,b5,u3,u4,u5,q⟩:=vB hg Nx ht hG t.length none none none tn tn tn (au _);rw[jg,show bc []=[z4] by rw[bc],<-List.replicate_succ'] at q;have g3:=dQ hit q;rw[LJ];unfold VZ;rw[aE,g1,aD,aE,g2,aD,aE,g3,aD,aE,aV,aX (i:=1) (d:=qs (bc t)) rfl rfl];rfl
def KR (T:Tb):Prop:=∀t:List Nat,t.length<=900->Good t->T.cl 3 [.str (tx t)]=.ok (qs (bc t),true)
noncomputable abbrev Pe:=Nat×List Nat
noncomputable def pD (p:Pe):D:=.tup [.int (p.1:Int),.str (tx p.2)]
noncomputable def hd (t:List Nat):Q4:=(bc t).getD 0 z4
theorem wF:∀(s:Nat) (t:List Nat),s<=t.length->(bc t).drop s=bc (t.drop s)
 |0,t,_=>rfl
 |s+1,[],h=>absurd h (by simp)
 | s+1,c::r,h=>by
  rw[bc,jb,jb];exact wF s r (by rw[ah] at h;omega)
theorem Em (t:List Nat)(s:Nat)(h:s<=t.length):(bc t)[s]? = some (hd (t.drop s)):=by
 have hl:s<(bc t).length:=by rw[nT];omega
 have h0:0<(bc (t.drop s)).length:=by rw[nT];omega
 unfold hd;rw[List.getD_eq_getElem?_getD,<-wF s t h,List.getElem?_drop,Nat.add_zero,List.getElem?_eq_getElem hl];rfl
theorem yL (k:Nat):∀(t:List Nat) (m:Nat),m<=rn k t->∀c∈t.take m,eK k c=true
 |[],m,_,c,hc=>by rw[List.take_nil] at hc;cases hc
 |a::r,0,_,c,hc=>by cases hc
 | a::r,m+1,h,c,hc=>by
  unfold rn at h;split at h
  .rename_i ha;rw[List.take_succ_cons] at hc;rcases je.mp hc with rfl | hc
   .exact ha
   .exact yL k r m (by omega) c hc
  .omega
variable {C:List Q4}
theorem vx (h:q∈uc k C m):∃j,j<m/\q=one k (j+1) (C.getD j z4):=by
 unfold uc at h;obtain⟨j,hj,rfl⟩:=List.mem_map.mp h;exact⟨j,List.mem_range.mp hj,rfl⟩
structure vO (t:List Nat)(q:Q4):Prop where
 k1:1<=q.2.2.1
 k3:q.2.2.1<=3
 c1:1<=q.2.2.2
 Pa:q.2.2.2<=64
 run:q.2.2.2<=rn q.2.2.1 t
theorem ya (h:q∈qe t C):vO t q:=by
 have key:∀k,1<=k->k<=3->q∈uc k C (min (rn k t) 64)->vO t q:=fun k h1 h3 hm=>by
  obtain⟨j,hj,rfl⟩:=vx hm;exact⟨h1,h3,i0 (dh j),show j+1<=64 by omega,show j+1<=rn k t by omega⟩
 unfold qe at h;rcases List.mem_append.mp h with h | h
 .rcases List.mem_append.mp h with h | h
  .exact key 1 (by decide) (by decide) h
  .exact key 2 (by decide) (by decide) h
 .exact key 3 (by decide) (by decide) h
theorem zh {r:List Nat}{C:List Q4}(h:eK 3 c=true):qe (c::r) C≠[]:=by
 intro z;have:=gv List.length z;unfold qe at this;rw[aa,aa,jU,jU,jU,jO 3,if_pos h] at this;have h0:([]:List Q4).length=0:=rfl;omega
theorem rz (c:Nat)(r:List Nat):hd (c::r)=Bo (qe (c::r) (bc r)):=by
 unfold hd;rw[bc];rfl
theorem kT {r:List Nat}(h:eK 3 c=true):vO (c::r) (hd (c::r)):=by
 rw[rz];exact ya (wd (zh h))
noncomputable def pc:Nat->List Nat->List Pe
 |0,_=>[]
 |n+1,t=>if t.isEmpty then [] else ((hd t).2.2.1,t.take (hd t).2.2.2)::pc n (t.drop (hd t).2.2.2)
theorem kG (n c:Nat)(r:List Nat):pc (n+1) (c::r)=((hd (c::r)).2.2.1,(c::r).take (hd (c::r)).2.2.2)::pc n ((c::r).drop (hd (c::r)).2.2.2):=by
 rw[pc];rfl
theorem nR:∀n,pc n []=[]
 |0=>rfl
 |n+1=>rfl
noncomputable def B1:bL:=(.cons (.asg (.nm 4) (.ix (.ix Lf Lk) K4) false)
  (.cons (.asg (.nm 5) (.bin .Add Lk (.ix (.ix Lf Lk) K5)) false)
  (.cons (.mut 2 .none .append (Ls (.tup (Lu Li (.sl Le (.some Lk) (.some Lh))))))
  (.cons (.asg (.nm 3) Lh false)
  .nil))))
noncomputable def VU:bL:=(.cons (.expr (.call 2 (Ls Le)))
  (.cons (.asg (.nm 1) (.call 3 (Ls Le)) false)
  (.cons (.asg (.nm 2) (.lst .nil) false)
  (.cons (.asg (.nm 3) KU false)
  (.cons (.Mu (.cmp .Lt Lk (Ly Le)) B1)
  (.cons (.ret Lg)
  .nil))))))
noncomputable abbrev oP (l:List Pe):Slot:=some (.lst (l.map pD),.own)
noncomputable abbrev EC (t:List Nat)(B:List Q4)(P:List Pe)(s:Nat)(a4 a5:Slot):En:=[sT t,oQ B,oP P,sN s,a4,a5]
theorem cJ {t:List Nat}{B:List Q4}{P:List Pe}{s:Nat}(h4:aR a4)(h5:aR a5):Tame (EC t B P s a4 a5):=.cons (aB _) (.cons (aB _) (.cons (aB _) (.cons (aB _) (.cons h4 (.cons h5 .nil)))))
variable {P:List Pe}
theorem IT (h4:aR a4)(h5:aR a5)(ht:t.length<=900)(hq:B[s]? = some q)(hs:s+q.2.2.2<=t.length)(hP:P.length<=900) :
  aE T B1 (EC t B P s a4 a5)=.nx (EC t B (P ++ [(q.2.2.1,(t.drop s).take q.2.2.2)]) (s+q.2.2.2) (sN q.2.2.1) (sN (s+q.2.2.2))):=by
 have vq:∀a4 a5,ev T (.ix Lf Lk) (EC t B P s a4 a5)=.ok (q4 q,.mv []):=fun a4 a5=>jJ (ds:=B.map q4) (i:=s) (aX (d:=qs B) rfl rfl) (aC rfl rfl) (by rw[List.getElem?_map,hq];rfl) (vv q)
 have e1:ev T (.ix (.ix Lf Lk) K4) (EC t B P s a4 a5)=.ok (.int (q.2.2.1:Int),.mv []):=dC (i:=2) (vq _ _) (aF _) rfl rfl;have g1:aV T (.asg (.nm 4) (.ix (.ix Lf Lk) K4) false) (EC t B P s a4 a5)=.nx (EC t B P s (sN q.2.2.1) a5):=aK (cJ h4 h5) (show (4:Nat)<6 by decide) e1;have e2:ev T (.ix (.ix Lf Lk) K5) (EC t B P s (sN q.2.2.1) a5)=.ok (.int (q.2.2.2:Int),.mv []):=dC (i:=3) (vq _ _) (aF _) rfl rfl;have e3:ev T (.bin .Add Lk (.ix (.ix Lf Lk) K5)) (EC t B P s (sN q.2.2.1) a5)=.ok (.int ((s+q.2.2.2:Nat):Int),.mv []):=be (aC rfl rfl) e2;have g2:aV T (.asg (.nm 5) (.bin .Add Lk (.ix (.ix Lf Lk) K5)) false) (EC t B P s (sN q.2.2.1) a5)=.nx (EC t B P s (sN q.2.2.1) (sN (s+q.2.2.2))):=aK (cJ (aB _) h5) (show (5:Nat)<6 by decide) e3;have e4:ev T (.sl Le (.some Lk) (.some Lh)) (EC t B P s (sN q.2.2.1) (sN (s+q.2.2.2)))=.ok (.str (tx ((t.drop s).take q.2.2.2)),.mv []):=uL (by omega) (aC rfl rfl) (cY (aC (d:=.int (s:Int)) (t:=.own) rfl rfl)) (cY (aC (d:=.int ((s+q.2.2.2:Nat):Int)) (t:=.own) rfl rfl)) (we t s q.2.2.2 hs);have e5:=oy (aC (T:=T) (env:=EC t B P s (sN q.2.2.1) (sN (s+q.2.2.2))) (i:=4) (d:=.int (q.2.2.1:Int)) (t:=.own) rfl rfl) e4;have g3:=gU (x:=2) (xs:=P.map pD) (cJ (t:=t) (B:=B) (P:=P) (s:=s) (aB (.int (q.2.2.1:Int))) (aB (.int ((s+q.2.2.2:Nat):Int)))) rfl e5 (by rw[ak];exact jI (by omega));have g3:aV T (.mut 2 .none .append (Ls (.tup (Lu Li (.sl Le (.some Lk) (.some Lh)))))) (EC t B P s (sN q.2.2.1) (sN (s+q.2.2.2)))=.nx (EC t B (P ++ [(q.2.2.1,(t.drop s).take q.2.2.2)]) s (sN q.2.2.1) (sN (s+q.2.2.2))):=by
  rw[g3,show (P.map pD ++ [D.tup [.int (q.2.2.1:Int),.str (tx ((t.drop s).take q.2.2.2))]])=(P ++ [(q.2.2.1,(t.drop s).take q.2.2.2)]).map pD by rw[dt];rfl];rfl
 have g4:aV T (.asg (.nm 3) Lh false) (EC t B (P ++ [(q.2.2.1,(t.drop s).take q.2.2.2)]) s (sN q.2.2.1) (sN (s+q.2.2.2)))=.nx (EC t B (P ++ [(q.2.2.1,(t.drop s).take q.2.2.2)]) (s+q.2.2.2) (sN q.2.2.1) (sN (s+q.2.2.2))):=aK (cJ (aB _) (aB _)) (show (3:Nat)<6 by decide) (aC rfl rfl);unfold B1;rw[aE,g1,aD,aE,g2,aD,aE,g3,aD,aE,g4,aD,aE]
theorem wC (ht:t.length<=900):((ev T (.cmp .Lt Lk (Ly Le)) (EC t B P s a4 a5)).bind fun p=>eW (truth p.1))=.ok (decide (s<t.length)):=by
 rw[lX (x:=s) (y:=t.length) (aC rfl rfl) (gC (by omega) (aC rfl rfl)),aA];rfl
theorem Good.drop (h:Good t)(n:Nat):Good (t.drop n):=fun c hc=>h c (f9 hc)
theorem yF {T:Tb}(ht:t.length<=900)(hG:Good t):∀(n f s:Nat) (P:List Pe) (a4 a5:Slot),aR a4->aR a5->s<=t.length->t.length-s<=n->n<f->P.length+n<=900->∃b4 b5,
  eU (fun env=>(ev T (.cmp .Lt Lk (Ly Le)) env).bind fun p=>eW (truth p.1)) (aE T B1) f (EC t (bc t) P s a4 a5)=.nx (EC t (bc t) (P++pc n (t.drop s)) t.length b4 b5)
 |n,0,s,P,a4,a5,_,_,_,_,h,_=>absurd h (gq _)
 | n,f+1,s,P,a4,a5,h4,h5,hs,hn,hf,hP=>by
  by_cases LO:s<t.length
  .have NP:t.drop s=t[s]::t.drop (s+1):=ie LO;obtain⟨g1,g2⟩:=hG t[s] (fh LO);have F:vO (t.drop s) (hd (t.drop s)):=by rw[NP];exact kT g2
   have hr:=mj (hd (t.drop s)).2.2.1 (t.drop s);have LH:=F.run;have Us:=F.c1;rw[bu] at hr;cases n with
   |zero=>omega
   |succ n =>
    obtain⟨b4,b5,q⟩:=yF ht hG n f (s+(hd (t.drop s)).2.2.2) (P ++ [((hd (t.drop s)).2.2.1,(t.drop s).take (hd (t.drop s)).2.2.2)]) (sN (hd (t.drop s)).2.2.1) (sN (s+(hd (t.drop s)).2.2.2)) (aB _) (aB _) (by omega) (by omega) (by omega) (by rw[aa,az];omega);refine⟨b4,b5,?_⟩;have hp:pc (n+1) (t.drop s)=((hd (t.drop s)).2.2.1,(t.drop s).take (hd (t.drop s)).2.2.2)::pc n ((t.drop s).drop (hd (t.drop s)).2.2.2):=by
     rw[NP,kG,<-NP]
    rw[oC (by rw[wC ht,bp LO]) (IT h4 h5 ht (Em t s hs) (by omega) (by omega)),q,hp,List.drop_drop,av];rfl
  .have e:s=t.length:=by omega
   refine⟨a4,a5,?_⟩;rw[og (by rw[wC ht,ba LO]),e,jg,nR,ay]
noncomputable def BP:bL:=(.cons (.ite (.cmp .NotIn Lg (.ix Lr (.LX 2))) (.cons (.expr (.neg (.cst .LC)))
  .nil) .nil)
  .nil)
noncomputable def VO:bL:=(.cons (.LP (.tp [1,2]) (.enum Le) BP)
  .nil)
noncomputable def RK (i:Nat)(t:List Nat):List D:=((t.map fun c=>D.str (tx [c])).zipIdx i).map fun q=>.tup [.int (q.2:Int),q.1]
theorem Ae (i c:Nat)(t:List Nat):RK i (c::t)=.tup [.int (i:Int),.str (tx [c])]::RK (i+1) t:=rfl
theorem Ja (h:ev T e env=.ok (.str (tx t),.mv [])):fU T (.enum e) env=.ok (RK 0 t,[]):=by
 rw[fU,h,aA];rfl
theorem IB (hg:GL T)(hc:c<128)(ha:ev T a env=.ok (.str (tx [c]),R)):ev T (.cmp .NotIn a (.ix Lr (.LX 2))) env=.ok (.bl (!eK 3 c),.mv []):=by
 have e1:ev T (.ix Lr (.LX 2)) env=.ok (.str (KS 3),.mv []):=dC (i:=3) (aU (hg 3 (by decide))) (aU (hg 2 (by decide))) rfl rfl;rw[ev,ha,aA,e1,aA];show (eW ((some (Iu (tx [c]) (KS 3))).map (!·))).bind _=_;rw[mR c hc 3 (by decide)];rfl
theorem C3 {a1 a2:Slot}(h1:aR a1)(h2:aR a2)(i c:Nat):bK [] (.tp [1,2]) (.tup [.int (i:Int),.str (tx [c])]) [sT t,a1,a2]=some [sT t,sN i,sT [c]]:=xS (.cons (aB _) (.cons h1 (.cons h2 .nil))) (show (1:Nat)<3 by decide) (show (2:Nat)<3 by decide) rfl rfl
theorem vM (hg:GL T){t:List Nat}:∀(l:List Nat) (i:Nat) (a1 a2:Slot),aR a1->aR a2->Good l->∃b1 b2,aR b1/\aR b2/\cZ (.tp [1,2]) [] (aE T BP) (RK i l) [sT t,a1,a2]=.nx [sT t,b1,b2]
 |[],i,a1,a2,h1,h2,_=>⟨a1,a2,h1,h2,rfl⟩
 | c::l,i,a1,a2,h1,h2,hG=>by
  obtain⟨g1,g2⟩:=hG c aj;obtain⟨b1,b2,u1,u2,q⟩:=vM hg (t:=t) l (i+1) (sN i) (sT [c]) (aB _) (aB _) fun d hd=>hG d (ai _ hd)
  refine⟨b1,b2,u1,u2,?_⟩;have e1:=IB hg g1 (aC (T:=T) (env:=[sT t,sN i,sT [c]]) (i:=2) (d:=.str (tx [c])) (t:=.own) rfl rfl);rw[g2] at e1;rw[Ae,cF (C3 h1 h2 i c) (show aE T BP [sT t,sN i,sT [c]]=.nx [sT t,sN i,sT [c]] by unfold BP;rw[aE,ite_ff e1,aD,aE]),q]
theorem Jo (hg:GL T)(hG:Good t):ret (aE T VO (aI [.str (tx t)] 3))=.ok (.LC,true):=by
 have LJ:aI [.str (tx t)] 3=[sT t,none,none]:=rfl;obtain⟨b1,b2,u1,u2,q⟩:=vM hg (t:=t) t 0 none none aN aN hG;rw[LJ];unfold VO;rw[aE,dQ (Ja (aC rfl rfl)) q,aD,aE];rfl
def J9 (T:Tb):Prop:=∀t:List Nat,Good t->T.cl 2 [.str (tx t)]=.ok (.LC,true)
theorem Jn (hf:1000<=T.fuel)(hrs:J9 T)(hbc:KR T)(ht:t.length<=400)(hG:Good t):ret (aE T VU (aI [.str (tx t)] 6))=.ok (.lst ((pc t.length t).map pD),true):=by
 have LJ:aI [.str (tx t)] 6=[sT t,none,none,none,none,none]:=rfl;have tn:=aN;have g0:aV T (.expr (.call 2 (Ls Le))) [sT t,none,none,none,none,none]=.nx [sT t,none,none,none,none,none]:=by
  rw[aV,fL (aC rfl rfl) (hrs t hG)];rfl
 have g1:aV T (.asg (.nm 1) (.call 3 (Ls Le)) false) [sT t,none,none,none,none,none]=.nx [sT t,oQ (bc t),none,none,none,none] :=
  aK (.cons (aB _) (.cons tn (.cons tn (.cons tn (.cons tn (.cons tn .nil)))))) (show (1:Nat)<6 by decide) (fL (aC rfl rfl) (hbc t (by omega) hG))
 have g2:aV T (.asg (.nm 2) (.lst .nil) false) [sT t,oQ (bc t),none,none,none,none]=.nx [sT t,oQ (bc t),oP [],none,none,none] :=
  aK (.cons (aB _) (.cons (aB _) (.cons tn (.cons tn (.cons tn (.cons tn .nil)))))) (show (2:Nat)<6 by decide) (by rw[ev,aY];rfl)
 have g3:aV T (.asg (.nm 3) KU false) [sT t,oQ (bc t),oP [],none,none,none]=.nx (EC t (bc t) [] 0 none none) :=
  aK (.cons (aB _) (.cons (aB _) (.cons (aB _) (.cons tn (.cons tn (.cons tn .nil)))))) (show (3:Nat)<6 by decide) (aF _)
 obtain⟨b4,b5,q⟩:=yF (T:=T) (show t.length<=900 by omega) hG t.length T.fuel 0 [] none none tn tn (dh _) (by omega) (by omega) (by rw[bz];omega);rw[LJ];unfold VU;rw[aE,g0,aD,aE,g1,aD,aE,g2,aD,aE,g3,aD,aE,aV,q,aD,aE,aV,aX (i:=2) (d:=.lst ((pc t.length t).map pD)) rfl rfl];rfl
def IM (T:Tb):Prop:=∀t:List Nat,t.length<=400->Good t->T.cl 1 [.str (tx t)]=.ok (.lst ((pc t.length t).map pD),true)
structure Piece (p:Pe):Prop where
 k1:1<=p.1
 k3:p.1<=3
 c1:1<=p.2.length
 Pa:p.2.length<=64
 all:∀c∈p.2,eK p.1 c=true
theorem gF:∀(n:Nat) (t:List Nat),Good t->∀p∈pc n t,Piece p
 |0,t,_,p,hp=>by cases hp
 |n+1,[],_,p,hp=>by rw[nR] at hp;cases hp
 | n+1,c::r,hG,p,hp=>by
  rw[kG] at hp;have F:=kT (r:=r) (hG c aj).2;have hl:(hd (c::r)).2.2.2<=(c::r).length:=bq F.run (mj _ _);rcases je.mp hp with rfl | hp
  .refine⟨F.k1,F.k3,?_,?_,yL _ _ _ F.run⟩
   .show 1<=((c::r).take _).length;rw[bh,fk hl];exact F.c1
   .show ((c::r).take _).length<=64;rw[bh,fk hl];exact F.Pa
  .exact gF n _ (hG.drop _) p hp
theorem mZ:∀(n:Nat) (t:List Nat),Good t->t.length<=n->((pc n t).map (·.2)).flatten=t
 | 0,t,_,h=>by
  have:t=[]:=List.length_eq_zero_iff.mp (by omega);subst this;rfl
 |n+1,[],_,_=>by rw[nR];rfl
 | n+1,c::r,hG,h=>by
  have F:=kT (r:=r) (hG c aj).2;have Us:=F.c1;rw[kG,aw,cx,mZ n _ (hG.drop _) (by rw[bu];omega)];exact jt _ _
open Pc.Fr (iD)
noncomputable def VQ:bL:=(.cons (.asg (.nm 3) Lf false)
  (.cons (.ite (.cmp .Gt (Ly Le) KU) (.cons (.asg (.nm 3) (.ix Le (.bin .Mod Lf (Ly Le))) false)
  .nil) .nil)
  (.cons (.ret (.bin .Mod (.bin .Add (.bin .Add (.bin .Add (.bin .Mult (.bin .Mod Lk (Ld 1000000007)) (Ld 69621)) (.bin .Mult (.bin .Mult Lf Lf) (Ld 7919))) (.bin .Mult K3 Lf)) (Ld 1234567)) Lg))
  .nil)))
noncomputable abbrev EM (cs:List Int)(k p:Int)(a:Slot):En:=[some (.lst (iD cs),.sh []),sI k,sI p,a]
variable {p:Int}
theorem vP {cs:List Int}{k:Int}{a:Slot}(h:aR a):Tame (EM cs k p a):=.cons (dJ _) (.cons (aB _) (.cons (aB _) (.cons h .nil)))
theorem A4 {T:Tb}{cs:List Int}{k v:Int}(hk:small k=true)(hp:0<p):∃r,0<=r/\r<p/\ret (aE T (.cons (.ret (.bin .Mod (.bin .Add (.bin .Add (.bin .Add (.bin .Mult (.bin .Mod Lk (Ld 1000000007)) (Ld 69621)) (.bin .Mult (.bin .Mult Lf Lf) (Ld 7919))) (.bin .Mult K3 Lf)) (Ld 1234567)) Lg)) .nil) (EM cs k p (sI v)))=.ok (.int r,true):=by
 have v1:ev T Lf (EM cs k p (sI v))=.ok (.int k,.mv []):=aC rfl rfl;have v2:ev T Lg (EM cs k p (sI v))=.ok (.int p,.mv []):=aC rfl rfl;have v3:ev T Lk (EM cs k p (sI v))=.ok (.int v,.mv []):=aC rfl rfl;have e1:=Fr.kx (by rw[show small 69621=true by decide,jo]) (bQ (by decide) v3 (aF (.int 1000000007))) (aF (.int 69621));have e2:=Fr.kx (by rw[show small 7919=true by decide,jo]) (Fr.kx (by rw[hk];rfl) v1 v1) (aF (.int 7919));have e3:=Fr.kx (by rw[show small 5=true by decide];rfl) (aF (.int 5)) v1;have e4:=bQ hp (cP (cP (cP e1 e2) e3) (aF (.int 1234567))) v2;exact⟨_,cf _ (by omega),bt _ hp,eR e4⟩
theorem KL {T:Tb}{cs:List Int}{k:Int}(hk:small k=true)(hp:0<p):∃r,0<=r/\r<p/\ret (aE T VQ (aI [.lst (iD cs),.int k,.int p] 4))=.ok (.int r,true):=by
 have LJ:aI [.lst (iD cs),.int k,.int p] 4=EM cs k p none:=rfl;have g1:aV T (.asg (.nm 3) Lf false) (EM cs k p none)=.nx (EM cs k p (sI k)):=aK (vP aN) (show (3:Nat)<4 by decide) (aC rfl rfl);obtain⟨R,v0⟩:∃R,ev T Le (EM cs k p (sI k))=.ok (.lst (iD cs),R):=jQ rfl;have el:ev T (Ly Le) (EM cs k p (sI k))=.ok (.int (cs.length:Int),.mv []):=by
  rw[eL v0,show (iD cs).length=cs.length from ak ..]
 have ec:=zO (x:=cs.length) (y:=0) el (aF (.int 0));rw[LJ];unfold VQ;rw[aE,g1,aD,aE,oH ec];by_cases h0:0<cs.length
 .rw[if_pos h0];obtain⟨j,hj,Xg⟩:=cM (cf k (show (cs.length:Int)≠0 by omega)) (bt k (show (0:Int)<(cs.length:Int) by omega));have hj3:j<cs.length:=by omega
  have em:=bQ (show (0:Int)<(cs.length:Int) by omega) (aC (T:=T) (env:=EM cs k p (sI k)) (i:=1) (d:=.int k) (t:=.own) rfl rfl) el;rw[hj] at em;have ex:=jJ (i:=j) v0 em (by rw[List.getElem?_map,List.getElem?_eq_getElem hj3];rfl) rfl;have g2:aV T (.asg (.nm 3) (.ix Le (.bin .Mod Lf (Ly Le))) false) (EM cs k p (sI k))=.nx (EM cs k p (sI cs[j])):=aK (vP (aB _)) (show (3:Nat)<4 by decide) ex;rw[iN g2,aD];exact A4 hk hp
 .rw[if_neg h0,jM,aD];exact A4 hk hp
def A1 (T:Tb):Prop:=∀(cs:List Int) (k p:Int),small k=true->0<p->∃r,0<=r/\r<p/\T.cl 5 [.lst (iD cs),.int k,.int p]=.ok (.int r,true)
noncomputable def XQ:bL:=(.cons (.ite (.cmp .Eq Le KW) (.cons (.ret (.cst (.str ("0123456789" : PySem.Str))))
  .nil) .nil)
  (.cons (.ite (.cmp .Eq Le K4) (.cons (.ret (.cst (.str (" ABCDEFGHIJKLMNOPQRSTUVWXYZ.,-:/" : PySem.Str))))
  .nil) .nil)
  (.cons (.asg (.nm 1) (.cst (.str (" !\"#$&'()*+,-./0123456789:;<=>?@ABCDEFGHIJKLMNOPQRSTUVWXYZ[\\]^_`" : PySem.Str))) false)
  (.cons (.ret (.bin .Add Lf (.cst (.str ("abcdefghijklmnopqrstuvwxyz{|}~" : PySem.Str)))))
  .nil))))
theorem IX {T:Tb}{k:Nat}(h1:1<=k)(h3:k<=3):ret (aE T XQ (aI [.int (k:Int)] 2))=.ok (.str (KS k),true):=by
 have:k=1\/k=2\/k=3:=by omega
 rcases this with rfl | rfl | rfl
 .rfl
 .rfl
 .rfl
def uW (T:Tb):Prop:=∀k:Nat,1<=k->k<=3->T.cl 6 [.int (k:Int)]=.ok (.str (KS k),true)
noncomputable def xq:bL:=(.cons (.asg (.nm 0) (.bin .Add (.bin .Mod (.bin .Mult Le (Ld 48271)) (Ld 2147483647)) Li) false)
  (.cons (.asg (.nm 3) (.bin .Add Lk (.ix Lg (.bin .Mod (.bin .FloorDiv Le KZ) (Ly Lg)))) false)
  .nil))
noncomputable def RS:bL:=(.cons (.asg (.nm 2) (.call 6 (Ls (.bin .Add KW (.bin .Mod Le K5)))) false)
  (.cons (.asg (.nm 3) (.cst (.str ("" : PySem.Str))) false)
  (.cons (.LP (.nm 4) (.L7 Lf) xq)
  (.cons (.ret Lk)
  .nil))))
noncomputable abbrev ER (d n:Int)(S cs:List Nat)(a:Slot):En:=[sI d,sI n,sT S,sT cs,a]
theorem rD {d n:Int}{S cs:List Nat}{a:Slot}(h:aR a):Tame (ER d n S cs a):=.cons (aB _) (.cons (aB _) (.cons (aB _) (.cons (aB _) (.cons h .nil))))
variable {i:Int}
theorem Ht {cs:List Nat}(hl:cs.length<=1000)(h0:0<=i)(h1:i<cs.length){T:Tb}{env:En}{a b:Ex}{R R':Rt}(ha:ev T a env=.ok (.str (tx cs),R))(hb:ev T b env=.ok (.int i,R')):∃c∈cs,ev T (.ix a b) env=.ok (.str (tx [c]),.mv []):=by
 obtain⟨j,rfl,_⟩:=cM h0 h1;have hj:j<cs.length:=by omega
 exact⟨cs[j],fh hj,rC hl ha hb (List.getElem?_eq_getElem hj)⟩
variable {S:List Nat}
theorem Jy {T:Tb}{d n k:Int}{cs:List Nat}(hS:S.length<=100)(Uy:0<S.length)(RG:cs.length<=200):∃d',∃c∈S,aE T xq (ER d n S cs (sI k))=.nx (ER d' n S (cs ++ [c]) (sI k)):=by
 have e1:=cP (bQ (by decide) (Fr.kx (by rw[show small 48271=true by decide,jo]) (aC (T:=T) (env:=ER d n S cs (sI k)) (i:=0) (d:=.int d) (t:=.own) rfl rfl) (aF (.int 48271))) (aF (.int 2147483647))) (aC (i:=4) (d:=.int k) (t:=.own) rfl rfl);have g1:=aK (i:=0) (rD (d:=d) (n:=n) (S:=S) (cs:=cs) (aB (.int k))) (show (0:Nat)<5 by decide) e1;have g1:aV T (.asg (.nm 0) (.bin .Add (.bin .Mod (.bin .Mult Le (Ld 48271)) (Ld 2147483647)) Li) false) (ER d n S cs (sI k))=.nx (ER (d*48271%2147483647+k) n S cs (sI k)):=g1;generalize d*48271%2147483647+k=d' at g1;have v2:ev T Lg (ER d' n S cs (sI k))=.ok (.str (tx S),.mv []):=aC rfl rfl;have e2:=bQ (show (0:Int)<(S.length:Int) by omega) (dB (by decide) (by decide) (aC (T:=T) (env:=ER d' n S cs (sI k)) (i:=0) (d:=.int d') (t:=.own) rfl rfl) (aF (.int 64))) (gC (by omega) v2);obtain⟨c,hc,e3⟩:=Ht (by omega) (cf _ (by omega)) (bt _ (show (0:Int)<(S.length:Int) by omega)) v2 e2;have e4:=vL (aC (T:=T) (env:=ER d' n S cs (sI k)) (i:=3) (d:=.str (tx cs)) (t:=.own) rfl rfl) e3 (by rw[az];omega);have g2:=aK (i:=3) (rD (d:=d') (n:=n) (S:=S) (cs:=cs) (aB (.int k))) (show (3:Nat)<5 by decide) e4;refine⟨d',c,hc,?_⟩;unfold xq;rw[aE,g1,aD,aE,g2,aD,aE];rfl
theorem wL {T:Tb}{n:Int}(hS:S.length<=100)(Uy:0<S.length):∀(l:List Int) (d:Int) (cs:List Nat) (a:Slot),aR a->cs.length+l.length<=100->(∀c∈cs,c∈S)->∃d' QO a',aR a'/\QO.length=cs.length+l.length/\(∀c∈QO,c∈S)/\cZ (.nm 4) [] (aE T xq) (l.map D.int) (ER d n S cs a)=.nx (ER d' n S QO a')
 |[],d,cs,a,h,_,hc=>⟨d,cs,a,h,rfl,hc,rfl⟩
 | k::l,d,cs,a,h,hl,hc=>by
  rw[ah] at hl;obtain⟨d1,c,hcS,st⟩:=Jy (T:=T) (d:=d) (n:=n) (k:=k) (cs:=cs) hS Uy (by omega);obtain⟨d',QO,a',t',q1,q2,q⟩:=wL (T:=T) (n:=n) hS Uy l d1 (cs ++ [c]) (sI k) (aB _) (by rw[aa,az];omega) (fun x hx=>by
   rcases List.mem_append.mp hx with hx | hx
   .exact hc x hx
   .rw[iq.mp hx];exact hcS)
  refine⟨d',QO,a',t',by rw[q1,aa,az,ah];omega,q2,?_⟩;have hb:bK [] (.nm 4) (.int k) (ER d n S cs a)=some (ER d n S cs (sI k)):=dD (rD h) (show (4:Nat)<5 by decide);rw[aw,cF hb st];exact q
theorem Ts {k:Nat}(h1:1<=k)(h3:k<=3):(kn k).length<=100/\0<(kn k).length:=by
 obtain⟨a,b,c⟩:=uq;have:k=1\/k=2\/k=3:=by omega
 rcases this with rfl | rfl | rfl<;>omega
theorem vE {k:Nat}(h3:k<=3){cs:List Nat}(h:∀c∈cs,c∈kn k):Good cs:=fun c hc=>⟨by have:=Hg k (by omega) c (h c hc);omega,GG k (by omega) c (h c hc)⟩
theorem GK {T:Tb}(hsg:uW T){d:Int}(n:Nat)(hn:n<=100):∃cs,cs.length=n/\Good cs/\ret (aE T RS (aI [.int d,.int (n:Int)] 5))=.ok (.str (tx cs),true):=by
 have LJ:aI [.int d,.int (n:Int)] 5=[sI d,sI (n:Int),none,none,none]:=rfl;have tn:=aN;obtain⟨j,hj,Xg⟩:=cM (cf d (show (3:Int)≠0 by decide)) (bt d (show (0:Int)<3 by decide));have em:=bQ (show (0:Int)<3 by decide) (aC (T:=T) (env:=[sI d,sI (n:Int),none,none,none]) (i:=0) (d:=.int d) (t:=.own) rfl rfl) (aF (.int 3));rw[hj] at em;have ep:=be (x:=1) (aF (.int 1)) em;have RB:1<=1+j:=by omega
 have Qw:1+j<=3:=by omega
 obtain⟨hb1,O5⟩:=Ts RB Qw;have ec:=fL ep (hsg (1+j) RB Qw);rw[KH] at ec;have hgd:∀cs:List Nat,(∀c∈cs,c∈kn (1+j))->Good cs:=fun cs h=>vE Qw h
 generalize kn (1+j)=S at *;have g1:aV T (.asg (.nm 2) (.call 6 (Ls (.bin .Add KW (.bin .Mod Le K5)))) false) [sI d,sI (n:Int),none,none,none]=.nx [sI d,sI (n:Int),sT S,none,none]:=aK (.cons (aB _) (.cons (aB _) (.cons tn (.cons tn (.cons tn .nil))))) (show (2:Nat)<5 by decide) ec;have g2:aV T (.asg (.nm 3) (.cst (.str ("" : PySem.Str))) false) [sI d,sI (n:Int),sT S,none,none]=.nx (ER d (n:Int) S [] none):=rfl;obtain⟨d',cs,a',t',q1,q2,q⟩:=wL (T:=T) (n:=(n:Int)) hb1 O5 ((List.range n).map fun k=>((0+k:Nat):Int)) d [] none tn (by rw[List.length_map,List.length_range];simpa using hn) (fun _ h=>(nomatch h));have hit:fU T (.L7 Lf) (ER d (n:Int) S [] none)=.ok (((List.range n).map fun k=>((0+k:Nat):Int)).map D.int,[]):=by
  rw[DE (m:=n) (aC rfl rfl) (by omega),iR,df];rfl
 have g3:=dQ hit q;refine⟨cs,by rw[q1,bz,ak,cw];omega,hgd cs q2,?_⟩;rw[LJ];unfold RS;rw[aE,g1,aD,aE,g2,aD,aE,g3,aD];exact eR (aC rfl rfl)
def zV (T:Tb):Prop:=∀(d:Int) (n:Nat),n<=100->∃cs,cs.length=n/\Good cs/\T.cl 7 [.int d,.int (n:Int)]=.ok (.str (tx cs),true)
noncomputable def xi:bL:=(.cons (.asg (.nm 5) (.call 5 (Lv Le Li (Ld 2147483587))) false)
  (.cons (.asg (.nm 6) (.bin .Add KW (.bin .Mod (.bin .FloorDiv Lh K6) K3)) false)
  (.cons (.ite (.cmp .Eq (.bin .Mod (.bin .FloorDiv Lh K7) K3) KW) (.cons (.asg (.nm 6) (.bin .Add KW (.bin .Mod (.bin .FloorDiv Lh (Ld 225)) (Ld 90))) false)
  .nil) .nil)
  (.cons (.asg (.nm 3) (.bin .Add Lk (.call 7 (Lu (.bin .Add KW (.bin .FloorDiv Lh K2)) Lj))) false)
  (.cons (.asg (.nm 4) (.bin .Add Li KW) false)
  .nil)))))
noncomputable def RQ:bL:=(.cons (.asg (.nm 2) (.bin .Mod (.bin .FloorDiv (.call 5 (Lv Le KU (Ld 2147483629))) K3) (.bin .Add Lf KW)) false)
  (.cons (.asg (.nm 3) (.cst (.str ("" : PySem.Str))) false)
  (.cons (.asg (.nm 4) KW false)
  (.cons (.Mu (.cmp .Lt (Ly Lk) Lg) xi)
  (.cons (.ret (.sl Lk .none (.some Lg)))
  .nil)))))
noncomputable abbrev ET (cs:List Int)(m:Int)(n:Nat)(t:List Nat)(k:Nat)(a5 a6:Slot):En:=[some (.lst (iD cs),.sh []),sI m,sN n,sT t,sN k,a5,a6]
theorem zP {T:Tb}{env:En}{a b:Ex}{j:Int}{R R':Rt}(ha:ev T a env=.ok (.int i,R))(hb:ev T b env=.ok (.int j,R')):ev T (.cmp .Eq a b) env=.ok (.bl (decide (i=j)),.mv []):=by
 rw[ev,ha,aA,hb,aA];show (eW (D.L4 40 (.int i) (.int j))).bind _=_;have:D.L4 40 (.int i) (.int j)=some (decide (i=j)):=by
  show some (i==j)=_;congr 1
 rw[this];rfl
def JI (T:Tb):Prop:=∀(cs:List Int) (m:Nat),m<=300->∃t,Good t/\t.length<=m/\T.cl 8 [.lst (iD cs),.int (m:Int)]=.ok (.str (tx t),true)
open Pc.Fr (iD fK)
theorem iM {α:Type}{T:Tb}{own:Nat}{pick:List Nat}{t:oU}{it:ym}{e:Ex}{env:En}{l:List α}{R:List Nat}{g r:α->D}(hit:fU T it env=.ok (l.map g,R))(hl:l.length<=1000)
  (hg:∀a∈l,dP (bK [] t (g a) (cN env own pick)) (yk T .none) (ev T e)=.ok (some (r a,.mv []))):ev T (.comp own pick t it .none e) env=.ok (.lst (l.map r),.mv []):=by
 rw[ev,hit,aA,mD (f:=fun d=>dP (bK [] t d (cN env own pick)) (yk T .none) (ev T e)) (c:=fun _=>true) (r:=r) (fun a ha=>by rw[hg a ha];rfl),aA];dsimp only;rw[List.filter_eq_self.mpr fun _ _=>rfl,if_pos (by rw[ak];exact jI hl),if_pos,df]
 .rfl
 .rw[cv];intro q hq;obtain⟨a,_,rfl⟩:=List.mem_map.mp hq;show ((r a).flat || true)=true;rw[jo]
theorem pS {T:Tb}{e:Ex}{env:En}{d:D}(h:ev T e env=.ok (d,.mv [])):dP (some env) (yk T .none) (ev T e)=.ok (some (d,.mv [])):=by
 unfold dP;dsimp only;rw[yk,aA,if_pos rfl,h,aA]
theorem yY {α:Type}:∀l:List α,allB (l.map fun _=>D.bl true)=some true
 |[]=>rfl
 |_::l=>yY l
theorem CQ {α:Type}{T:Tb}{env:En}{e:Ex}{l:List α}{R:Rt}(h:ev T e env=.ok (.lst (l.map fun _=>D.bl true),R)):ev T (.blt .all (.cons e .nil)) env=.ok (.bl true,.mv []):=by
 rw[ev,aY,h,aA,aY,aA,aA,md];show (eW (if (l.map fun _=>D.bl true).all D.MK then (allB (l.map fun _=>D.bl true)).map D.bl else none)).bind _=_;rw[if_pos (by rw[cv];intro d hd;obtain⟨_,_,rfl⟩:=List.mem_map.mp hd;rfl),yY];rfl
noncomputable def e0:Ex:=.ix Le KU
noncomputable def e1:Ex:=.ix Le KW
noncomputable def Il:Ex:=(.or (.not (.blt (.N6 "tuple") (Ls Le))) (.cmp .NotEq (Ly Le) K4))
theorem sZ:∀l:List Str,sJ (l.map D.str)=some l
 |[]=>rfl
 | a::l=>by
  show (sJ (l.map D.str)).map (a :: ·)=_;rw[sZ l];rfl
theorem wu:∀l:List (List Nat),Str.join ⟨#[]⟩ (l.map tx)=tx l.flatten
 |[]=>rfl
 | [a]=>by
  rw[cx,List.flatten_nil,ay];rfl
 | a::b::r=>by
  have ih:=wu (b::r);show tx a ++ ⟨#[]⟩++Str.join ⟨#[]⟩ ((b::r).map tx)=_;rw[ih,show (⟨#[]⟩:Str)=tx [] from rfl,ko,ko,ay];rfl
theorem vN:∀l:List (List Nat),((l.map tx).map (·.length)).sum=l.flatten.length
 |[]=>rfl
 | a::l=>by
  rw[aw,aw,ig,vN l,kf,cx,aa]
theorem Ba {T:Tb}{env:En}{e:Ex}{ls:List (List Nat)}{R:Rt}(h:ev T e env=.ok (.lst (ls.map fun l=>D.str (tx l)),R))(hl:ls.flatten.length<=1000):ev T (.NF .MG (.cst (.str ("" : PySem.Str))) (.cons e .nil)) env=.ok (.str (tx ls.flatten),.mv []):=by
 rw[show (("" : PySem.Str))=⟨#[]⟩ by decide +kernel,ev,aF,aA,aY,h,aA,aY,aA,aA];have hm:(ls.map fun l=>D.str (tx l))=(ls.map tx).map D.str:=by rw[df];rfl
 show (eW ((sJ (ls.map fun l=>D.str (tx l))).bind fun ys=>if (ys.map (·.length)).sum+ys.length*(⟨#[]⟩:Str).length<=lim then some (D.str (Str.join ⟨#[]⟩ ys)) else none)).bind _=_;rw[hm,sZ,fm,if_pos (by rw[vN,show (⟨#[]⟩:Str).length=0 from rfl,Nat.mul_zero,Nat.add_zero];exact jI hl),wu];rfl
theorem JZ (n:Nat)(s:List Nat):D.L4 (n+1) (.str (tx s)) (.str (tx s))=some true:=by
 show some (tx s==tx s)=_;rw[eo]
end Pc.Ct
end
section
namespace Pc.Gn
open PySem Pc Pc.Sm Pc.Lw Pc.Gr Pc.Nw Pc.Ct
open Pc.Fr (iD)
variable {n:Nat}
theorem sU (h:n<=20000):n<=lim:=bq h (by decide)
theorem Ir (h:n<=20000):fT (n:Int)=true:=by simp[fT];omega
noncomputable def VX:bL:=(.cons (.ret (.comp 1 [0] (.nm 0) (.L6 (.bin .Sub Lf KW) (.neg KW) (.neg KW)) .none (.bin .BitAnd (.bin .RShift Lf Le) KW)))
  .nil)
noncomputable def aP (x:Int):Nat->List Int
 |0=>[]
 |n+1=>x / 2 ^ n%2::aP x n
theorem aQ (x:Int):∀n,(aP x n).length=n
 |0=>rfl
 |n+1=>by rw[aP,ah,aQ]
theorem lu (x:Int):∀n,∀b∈aP x n,0<=b/\b<=1
 | n+1,b,h=>by
  rcases je.mp h with rfl | h
  .omega
  .exact lu x n b h
theorem ki (x:Int):∀n:Nat,(jy ((n:Int)-1) (-1) n).map (fun w=>x / 2 ^ w.toNat%2)=aP x n
 |0=>rfl
 | n+1=>by
  rw[jy,aP,aw];have e:((n+1:Nat):Int)-1=(n:Int):=by omega
  rw[e,cj,<-ki x n];rfl
theorem tY:∀(n:Nat) (i:Int),i∈jy ((n:Int)-1) (-1) n->0<=i
 |0,i,h=>by cases h
 | n+1,i,h=>by
  rw[jy] at h;have e:((n+1:Nat):Int)-1=(n:Int):=by omega
  rw[e] at h;rcases je.mp h with rfl | h
  .omega
  .exact tY n i h
variable {T:Tb}
theorem wQ (x:Int)(c:Nat)(hx:0<=x)(hc:c<=60):ret (aE T VX (aI [.int x,.int (c:Int)] 2))=.ok (.lst (iD (aP x c)),true):=by
 have h1:fT ((c:Int)-1)=true:=by simp[fT];omega
 have h2:fT (-1)=true:=by decide
 have hit:fU T (.L6 (.bin .Sub Lf KW) (.neg KW) (.neg KW)) [some (.int x,.own),some (.int c,.own)]=.ok ((jy ((c:Int)-1) (-1) c).map D.int,[]):=by
  unfold fU;simp[ev,aA,bZ,gH,Pc.binI,D.flat,fW,h1,h2,xJ,qf]
 have Nm:gJ (fun d=>dP (bK [] (.nm 0) d (cN [some (.int x,.own),some (.int c,.own)] 1 [0])) (yk T .none) (ev T (.bin .BitAnd (.bin .RShift Lf Le) KW))) ((jy ((c:Int)-1) (-1) c).map D.int)=.ok ((jy ((c:Int)-1) (-1) c).map fun w=>(D.int (x / 2 ^ w.toNat%2),Rt.mv [])):=by
  refine nu (g:=fun w=>.int (x / 2 ^ w.toNat%2)) fun i hi=>?_
  have hi:=tY c i hi;have hb:Builtin.bitAnd (x / 2 ^ i.toNat) 1=x / 2 ^ i.toNat%2:=uV (Int.ediv_nonneg hx (Int.pow_nonneg (by decide)));simp[cN,bK,put,dP,yk,aA,ev,bZ,gH,Pc.binI,D.flat,bE,fW,hi,hb,Tg.drop]
 have hl:(jy ((c:Int)-1) (-1) c).length=c:=by
  have:=gv List.length (ki x c);rw[ak,aQ] at this;exact this
 have Mm:c<=lim:=bq hc (by decide);simp only[VX,aI,List.map_cons,List.map_nil,bE,D.flat,if_true,List.length_cons,List.length_nil,Nat.sub_self,List.replicate_zero,List.append_nil,aE,aV];unfold ev;rw[hit,aA,Nm,aA];dsimp only;rw[if_pos (by rw[List.length_map,hl];exact Mm),if_pos (by simp[D.flat]),bA];have:(jy ((c:Int)-1) (-1) c).map (fun w=>D.int (x / 2 ^ w.toNat%2))=(aP x c).map D.int:=by
  rw[<-ki,df];rfl
 simp[BV,Pc.ret,fA,Function.comp_def,this]
def pq (T:Tb):Prop:=∀(x:Int) (c:Nat),0<=x->c<=60->T.cl 9 [.int x,.int (c:Int)]=.ok (.lst (iD (aP x c)),true)
theorem yX (x P:Int)(hP:0<=P):x%(P*2)=P*(x / P%2)+x%P:=by
 have a:=ju x (P*2);have b:=ju x P;have c:=ju (x / P) 2;have d:x / P / 2=x / (P*2):=Int.ediv_ediv_of_nonneg hP;have e:P*(2*(x / P / 2)+x / P%2)=P*2*(x / P / 2)+P*(x / P%2):=by rw[Int.mul_add,Int.mul_assoc]
 rw[c,d] at e;omega
theorem pG (x:Int):∀(n:Nat) (a:Int),(aP x n).foldl (fun x y=>2*x+y) a=a*2 ^ n+x%2 ^ n
 |0,a=>by simp[aP]
 | n+1,a=>by
  rw[aP,jr,pG x n,Int.pow_succ,ic (2 ^ n) 2];have h:x%(2*2 ^ n)=2 ^ n*(x / 2 ^ n%2)+x%2 ^ n:=by
   rw[ic 2 (2 ^ n)];exact yX x (2 ^ n) (Int.pow_nonneg (by decide))
  rw[h,Int.add_mul];have:2*a*2 ^ n=a*(2*2 ^ n):=by rw[ic 2 a,Int.mul_assoc]
  rw[this,ic (x / 2 ^ n%2) (2 ^ n)];omega
theorem xV {x:Int}(h0:0<=x)(h1:x<2 ^ n):(aP x n).foldl (fun x y=>2*x+y) 0=x:=by
 rw[pG,Int.zero_mul,Int.zero_add,Int.emod_eq_of_lt h0 h1]
noncomputable def EX:bL:=(.cons (.asg (.nm 1) (.bin .Add (.bin .Mult K4 Lf) Lg) false)
  .nil)
noncomputable def IC:bL:=(.cons (.asg (.nm 1) KU false)
  (.cons (.LP (.nm 2) (.seq Le) EX)
  (.cons (.ret Lf)
  .nil)))
noncomputable def num (l:List Int):Int:=l.foldl (fun x y=>2*x+y) 0
theorem KP (T:Tb)(S:List D)(a b:Int):aE T EX [some (.lst S,.sh []),sI a,sI b]=.nx [some (.lst S,.sh []),sI (2*a+b),sI b]:=rfl
theorem wV (T:Tb)(S:List D):∀(l:List Int) (a:Int) (o:Slot),aR o->∃o',cZ (.nm 2) [] (aE T EX) (iD l) [some (.lst S,.sh []),sI a,o]=.nx [some (.lst S,.sh []),sI (l.foldl (fun x y=>2*x+y) a),o']
 |[],a,o,_=>⟨o,rfl⟩
 | b::l,a,o,h=>by
  obtain⟨o',q⟩:=wV T S l (2*a+b) (sI b) (aB _);refine⟨o',?_⟩;have hb:bK [] (.nm 2) (.int b) [some (.lst S,.sh []),sI a,o]=some [some (.lst S,.sh []),sI a,sI b]:=dD (.cons (dJ _) (.cons (aB _) (.cons h .nil))) (show (2:Nat)<3 by decide);rw[iD,aw,cF hb (KP T S a b)];exact q
theorem DJ (l:List Int):ret (aE T IC (aI [.lst (iD l)] 3))=.ok (.int (num l),true):=by
 have LJ:aI [.lst (iD l)] 3=[some (.lst (iD l),.sh []),none,none]:=rfl;rw[LJ];have g1:aV T (.asg (.nm 1) KU false) [some (.lst (iD l),.sh []),none,none]=.nx [some (.lst (iD l),.sh []),sI 0,none]:=rfl;obtain⟨o',q⟩:=wV T (iD l) l 0 none aN;have hit:fU T (.seq Le) [some (.lst (iD l),.sh []),sI 0,none]=.ok (iD l,[]):=rfl;have g2:=dQ hit q;unfold IC;rw[aE,g1,aD,aE,g2,aD];exact eR (aC rfl rfl)
def IY (T:Tb):Prop:=∀l:List Int,T.cl 10 [.lst (iD l)]=.ok (.int (num l),true)
noncomputable def fQ (k c:Nat):Int:=match tK .L5 (.str (KS k)) [.str (tx [c])] with
 | some (.int j)=>j
 |_=>-1
noncomputable def B9 (k c:Nat):Bool:=(match tK .LL (.str (KS k)) [.str (tx [c])] with
 | some (.int j)=>j==fQ k c
 |_=>false)&&(match tK .L5 (.str (KS k)) [.str (tx [c])] with
 | some (.int j)=>j==fQ k c
 |_=>false)&&decide (0<=fQ k c/\fQ k c<2 ^ (2*k+1))
theorem cX2:(kn 2).all (B9 2)=true:=by decide +kernel
theorem cX3:(kn 3).all (B9 3)=true:=by decide +kernel
theorem vy {k c:Nat}(hk:k=2\/k=3)(hc:c∈kn k):tK .LL (.str (KS k)) [.str (tx [c])]=some (.int (fQ k c))/\tK .L5 (.str (KS k)) [.str (tx [c])]=some (.int (fQ k c))/\0<=fQ k c/\fQ k c<2 ^ (2*k+1):=by
 have h:B9 k c=true:=by
  rcases hk with rfl | rfl
  .exact cv.mp cX2 c hc
  .exact cv.mp cX3 c hc
 unfold B9 at h;rw[ao,ao] at h;obtain⟨⟨h1,h2⟩,h3⟩:=h;have h3:=dw h3;refine⟨?_,?_,h3.1,h3.2⟩
 .split at h1
  .rename_i j e;rw[e,ik.mp h1]
  .cases h1
 .split at h2
  .rename_i j e;rw[e,ik.mp h2]
  .cases h2
noncomputable def mI (g:List Nat):Int:=match PySem.intText? (tx g) with
 |some n=>n
 |none=>-1
noncomputable def zt (g:List Nat):Bool:=(match PySem.intText? (tx g) with
 |some n=>n==mI g
 |none=>false)&&decide (0<=mI g/\mI g<2 ^ fb g.length)
theorem cV1:(kn 1).all (fun a=>zt [a])=true:=by decide +kernel
theorem cV2:(kn 1).all (fun a=>(kn 1).all fun b=>zt [a,b])=true:=by decide +kernel
theorem cV3:(kn 1).all (fun a=>(kn 1).all fun b=>(kn 1).all fun c=>zt [a,b,c])=true:=by decide +kernel
theorem rL {g:List Nat}(h0:0<g.length)(h3:g.length<=3)(hg:∀c∈g,c∈kn 1):PySem.intText? (tx g)=some (mI g)/\0<=mI g/\mI g<2 ^ fb g.length:=by
 have h:zt g=true:=by
  match g,h0,h3,hg with
  |[a],_,_,hg=>exact List.all_eq_true.mp cV1 a (hg a (by simp))
  |[a,b],_,_,hg=>exact List.all_eq_true.mp (List.all_eq_true.mp cV2 a (hg a (by simp))) b (hg b (by simp))
  |[a,b,c],_,_,hg=>exact List.all_eq_true.mp (List.all_eq_true.mp (List.all_eq_true.mp cV3 a (hg a (by simp))) b (hg b (by simp))) c (hg c (by simp))
 unfold zt at h;rw[ao] at h;have h2:=dw h.2;refine⟨?_,h2.1,h2.2⟩;have h1:=h.1;split at h1
 .rename_i n e;rw[e,ik.mp h1]
 .cases h1
noncomputable def pb (G:List (Int×Nat)):List Int:=(G.map fun q=>aP q.1 q.2).flatten
theorem jw (a b:List Int):iD (a++b)=iD a++iD b:=dt ..
theorem bM (a:List Int):(iD a).length=a.length:=ak ..
noncomputable abbrev oI (l:List Int):Slot:=some (.lst (iD l),.own)
end Pc.Gn
end
section
namespace Pc.Rd
open PySem Pc Pc.Ct Pc.Gn
noncomputable def iB (bs:List Int)(p c:Nat):Option Int:=if p+c<=bs.length then some (num ((bs.drop p).take c)) else none
noncomputable def zf (m:Nat)(n:Int):Str:=Txt.zfill (Str.ofString (toString n)) (m:Int)
noncomputable def gm (m:Nat):Int:=if m=1 then 9 else if m=2 then 99 else if m=3 then 999 else 0
noncomputable def ft (r:Nat):Nat:=if r<3 then r else 3
noncomputable def mW (bs:List Int):Nat->Nat->Nat->Str->Option (Str×Nat)
 |_,p,0,acc=>some (acc,p)
 |0,_,_+1,_=>none
 |f+1,p,r+1,acc=>(iB bs p (fb (ft (r+1)))).bind fun n=>if gm (ft (r+1))<n then none else mW bs f (p+fb (ft (r+1))) (r+1-ft (r+1)) (acc++zf (ft (r+1)) n)
noncomputable def sb (k:Nat):Nat:=if k=2 then 5 else if k=3 then 7 else 0
noncomputable def mO (bs:List Int)(k:Nat):Nat->Nat->Str->Option (Str×Nat)
 |0,p,acc=>some (acc,p)
 |r+1,p,acc=>(iB bs p (sb k)).bind fun n=>match (kn k)[n.toNat]? with
  |some c=>mO bs k r (p+sb k) (acc++tx [c])
  |none=>none
noncomputable def rV (bs:List Int):Nat->Nat->Nat->List (Nat×Str)->Option (List (Nat×Str)×Nat)
 |_,0,p,acc=>some (acc,p)
 |0,_+1,_,_=>none
 |f+1,k+1,p,acc=>(iB bs p 6).bind fun c=>(if k=0 then mW bs (c.toNat+1) (p+6) (c.toNat+1) (tx []) else mO bs (k+1) (c.toNat+1) (p+6) (tx [])).bind fun q =>
  (iB bs q.2 2).bind fun k'=>rV bs f k'.toNat (q.2+2) (acc ++ [(k+1,q.1)])
noncomputable def DO (bs:List Int):Option (List (Nat×Str)×Nat):=(iB bs 0 2).bind fun k=>rV bs bs.length k.toNat 2 []
noncomputable def CT (q:Nat×Str):D:=.tup [.int (q.1:Int),.str q.2]
noncomputable def outD (q:List (Nat×Str)×Nat):D:=.tup [.lst (q.1.map CT),.int (q.2:Int)]
noncomputable def Dh (bs:List Int):Bool:=bs.all fun b=>decide (0<=b/\b<=1)
noncomputable def dg (m n:Nat):List Nat:=match m with
 |1=>[48+n]
 |2=>[48+n / 10,48+n%10]
 |_=>[48+n / 100,48+n / 10%10,48+n%10]
theorem z1:∀n:Nat,n<10->(zf 1 (n:Int)).cps.toList=dg 1 n:=by decide +kernel
theorem z2:∀n:Nat,n<100->(zf 2 (n:Int)).cps.toList=dg 2 n:=by decide +kernel
theorem z3:∀n:Nat,n<1000->(zf 3 (n:Int)).cps.toList=dg 3 n:=by decide +kernel
theorem rO {s:Str}{l:List Nat}(h:s.cps.toList=l):s=tx l:=by
 cases s with
 |mk a =>
  show (⟨a⟩:Str)=⟨l.toArray⟩;rw[<-h]
variable {m:Nat}
theorem Ec {n:Nat}(h1:1<=m)(h3:m<=3)(h:(n:Int)<=gm m):zf m (n:Int)=tx (dg m n):=by
 match m,h1,h3 with
 |1,_,_=>exact rO (z1 n (by unfold gm at h;simp at h;omega))
 |2,_,_=>exact rO (z2 n (by unfold gm at h;simp at h;omega))
 |3,_,_=>exact rO (z3 n (by unfold gm at h;simp at h;omega))
theorem yT {n:Nat}(h1:1<=m)(h3:m<=3):(dg m n).length=m:=by
 match m,h1,h3 with
 |1,_,_=>rfl
 |2,_,_=>rfl
 |3,_,_=>rfl
variable {n:Int}
theorem GW (h1:1<=m)(h3:m<=3)(h0:0<=n)(h:n<=gm m):(zf m n).length=m:=by
 obtain⟨k,rfl⟩:=dk h0;rw[Ec h1 h3 h,kf,yT h1 h3]
theorem Fm {r:Nat}(h:0<r):1<=ft r/\ft r<=3/\ft r<=r:=by unfold ft;split<;>omega
variable {bs:List Int}
theorem HH (h:Dh bs=true):∀b∈bs,0<=b/\b<=1:=fun b hb=>dw (cv.mp h b hb)
theorem qM:∀(l:List Int) (a:Int),0<=a->(∀b∈l,0<=b/\b<=1)->a*2 ^ l.length<=l.foldl (fun x y=>2*x+y) a/\l.foldl (fun x y=>2*x+y) a<(a+1)*2 ^ l.length
 |[],a,_,_=>by simp;omega
 | b::l,a,ha,h=>by
  obtain⟨b0,b1⟩:=h b aj;obtain⟨q1,q2⟩:=qM l (2*a+b) (by omega) fun x hx=>h x (ai _ hx)
  have hp:(0:Int)<2 ^ l.length:=Int.pow_pos (by decide);rw[jr,ah,Int.pow_succ];generalize hP:(2:Int) ^ l.length=P at *;constructor
  .refine Int.le_trans ?_ q1;rw[Int.add_mul,ic P 2,<-Int.mul_assoc,ic a 2];have:=Int.mul_nonneg b0 (Int.le_of_lt hp);omega
  .refine Int.lt_of_lt_of_le q2 ?_;have e:(a+1)*(P*2)=(2*a+2)*P:=by rw[ic P 2,<-Int.mul_assoc,Int.add_mul,ic a 2];rfl
   rw[e];exact Int.mul_le_mul_of_nonneg_right (by omega) (Int.le_of_lt hp)
variable {c p:Nat}
theorem kK (hb:Dh bs=true)(h:iB bs p c=some n):p+c<=bs.length/\0<=n/\n<2 ^ c:=by
 unfold iB at h;by_cases hc:p+c<=bs.length
 .rw[if_pos hc] at h;cases h;have:=qM ((bs.drop p).take c) 0 (by decide) fun b h=>HH hb b (f9 (fq h))
  have hl:((bs.drop p).take c).length=c:=by rw[bh,bu];omega
  rw[hl] at this;simp at this;exact⟨hc,this.1,this.2⟩
 .rw[if_neg hc] at h;cases h
theorem Ea (h:iB bs p c=some n):p+c<=bs.length:=by
 unfold iB at h;by_cases hc:p+c<=bs.length
 .exact hc
 .rw[if_neg hc] at h;cases h
theorem Es:∀(f p r:Nat) (acc:Str) (w:Str×Nat),p<=bs.length->mW bs f p r acc=some w->p<=w.2/\w.2<=bs.length
 | f,p,0,acc,w,hp,h=>by
  have:mW bs f p 0 acc=some (acc,p):=by cases f<;>rfl
  rw[this] at h;cases h;exact⟨au _,hp⟩
 |0,p,r+1,acc,w,hp,h=>by cases h
 | f+1,p,r+1,acc,w,hp,h=>by
  have h:((iB bs p (fb (ft (r+1)))).bind fun n=>if gm (ft (r+1))<n then none else mW bs f (p+fb (ft (r+1))) (r+1-ft (r+1)) (acc++zf (ft (r+1)) n))=some w:=h;obtain⟨n,hn,h⟩:=ag.mp h;have b:=Ea hn;by_cases hg:gm (ft (r+1))<n
  .rw[if_pos hg] at h;cases h
  .rw[if_neg hg] at h;have:=Es f _ _ _ w b h;omega
theorem Ed (k:Nat):∀(r p:Nat) (acc:Str) (w:Str×Nat),p<=bs.length->mO bs k r p acc=some w->p<=w.2/\w.2<=bs.length
 |0,p,acc,w,hp,h=>by cases h;exact⟨au _,hp⟩
 | r+1,p,acc,w,hp,h=>by
  have h:((iB bs p (sb k)).bind fun n=>match (kn k)[n.toNat]? with
   |some c=>mO bs k r (p+sb k) (acc++tx [c])
   |none=>none)=some w:=h
  obtain⟨n,hn,h⟩:=ag.mp h;have b:=Ea hn;cases hx:(kn k)[n.toNat]? with
  |none=>rw[hx] at h;cases h
  |some c =>
   rw[hx] at h;have:=Ed k r _ _ w b h;omega
end Pc.Rd
end
section
namespace Pc.Gn
open PySem Pc Pc.Sm Pc.Lw Pc.Gr Pc.Nw Pc.Ct
open Pc.Fr (iD)
noncomputable def Dw:bL:=(.cons (.mut 2 .none .extend (Ls (.call 9 (Lu (.NF .LL (.ix Lr Le) (Ls Lk)) (.ix Lq Le)))))
  .nil)
noncomputable def VN:bL:=(.cons (.asg (.nm 2) (.lst .nil) false)
  (.cons (.LP (.nm 3) (.seq Lf) Dw)
  (.cons (.ret Lg)
  .nil)))
noncomputable abbrev E3 (k:Nat)(cs:List Nat)(L:List Int)(o:Slot):En:=[sN k,sT cs,oI L,o]
theorem wN {k:Nat}{cs:List Nat}{L:List Int}{o:Slot}(h:aR o):Tame (E3 k cs L o):=.cons (aB _) (.cons (aB _) (.cons (aB _) (.cons h .nil)))
variable {T:Tb}
theorem glk (hg:GL T)(env:En):∀k:Nat,k=2\/k=3->env[0]? = some (sN k)->ev T (.ix Lr Le) env=.ok (.str (KS k),.mv [])/\ev T (.ix Lq Le) env=.ok (.int ((2*k+1:Nat):Int),.mv []):=by
 intro k hk h0;have v0:ev T Le env=.ok (.int (k:Int),.mv []):=aC h0 rfl;rcases hk with rfl | rfl
 .exact⟨dC (i:=2) (aU (hg 3 (by decide))) v0 rfl rfl,dC (i:=2) (aU (hg 4 (by decide))) v0 rfl rfl⟩
 .exact⟨dC (i:=3) (aU (hg 3 (by decide))) v0 rfl rfl,dC (i:=3) (aU (hg 4 (by decide))) v0 rfl rfl⟩
theorem IS (hg:GL T)(hb:pq T)(k:Nat)(hk:k=2\/k=3)(cs:List Nat)(L:List Int)(c:Nat)(hc:c∈kn k)(hL:L.length<=900):aE T Dw (E3 k cs L (sT [c]))=.nx (E3 k cs (L++aP (fQ k c) (2*k+1)) (sT [c])):=by
 obtain⟨x1,x2,x3,x4⟩:=vy hk hc;obtain⟨e1,e2⟩:=glk hg (E3 k cs L (sT [c])) k hk rfl;have e3:ev T (.NF .LL (.ix Lr Le) (Ls Lk)) (E3 k cs L (sT [c]))=.ok (.int (fQ k c),.mv []):=by
  rw[ev,e1,aA,aY,aC (d:=.str (tx [c])) (t:=.own) rfl rfl,aA,aY,aA,aA,md];dsimp only;rw[x1];rfl
 have e4:ev T (.call 9 (Lu (.NF .LL (.ix Lr Le) (Ls Lk)) (.ix Lq Le))) (E3 k cs L (sT [c]))=.ok (.lst (iD (aP (fQ k c) (2*k+1))),.mv []):=fM e3 e2 (hb _ _ x3 (by omega));have Uv:=aQ (fQ k c) (2*k+1);have g:=kX (x:=2) (wN (k:=k) (cs:=cs) (L:=L) (aB (.str (tx [c])))) rfl e4 (fC _) (by rw[bM,bM,Uv];exact jI (by omega));have g':aV T (.mut 2 .none .extend (Ls (.call 9 (Lu (.NF .LL (.ix Lr Le) (Ls Lk)) (.ix Lq Le))))) (E3 k cs L (sT [c]))=.nx (E3 k cs (L++aP (fQ k c) (2*k+1)) (sT [c])):=by
  rw[g];show Fl.nx [sN k,sT cs,some (.lst (iD L++iD (aP (fQ k c) (2*k+1))),.own),sT [c]]=_;rw[<-jw]
 unfold Dw;rw[aE,g',aD];rfl
noncomputable def t8 (k:Nat)(cs:List Nat):List (Int×Nat):=cs.map fun c=>(fQ k c,2*k+1)
theorem vK (hg:GL T)(hB:pq T)(k:Nat)(hk:k=2\/k=3)(OF:List Nat):∀(cs:List Nat) (L:List Int) (o:Slot),aR o->(∀c∈cs,c∈kn k)->L.length+7*cs.length<=900->∃o',aR o'/\cZ (.nm 3) [] (aE T Dw) (cs.map fun c=>D.str (tx [c])) (E3 k OF L o)=.nx (E3 k OF (L++pb (t8 k cs)) o')
 |[],L,o,h,_,_=>⟨o,h,by rw[show pb (t8 k [])=[] from rfl,ay];rfl⟩
 | c::cs,L,o,h,hc,hl=>by
  rw[ah] at hl;have NN:=IS hg hB k hk OF L c (hc c aj) (by omega);obtain⟨o',t',q⟩:=vK hg hB k hk OF cs (L++aP (fQ k c) (2*k+1)) (sT [c]) (aB _) (fun x hx=>hc x (ai _ hx)) (by rw[aa,aQ];omega);refine⟨o',t',?_⟩;have hb:bK [] (.nm 3) (.str (tx [c])) (E3 k OF L o)=some (E3 k OF L (sT [c])):=dD (wN h) (show (3:Nat)<4 by decide);rw[aw,cF hb NN,q];show Fl.nx (E3 k OF ((L++aP (fQ k c) (2*k+1))++pb (t8 k cs)) o')=Fl.nx (E3 k OF (L++(aP (fQ k c) (2*k+1)++pb (t8 k cs))) o');rw[av]
variable {cs:List Nat}{e:Ex}{env:En}
theorem yO (hl:cs.length<=1000)(h:ev T e env=.ok (.str (tx cs),.mv [])):fU T (.seq e) env=.ok (cs.map fun c=>D.str (tx [c]),[]):=by
 rw[fU,h,aA];have:uY (.str (tx cs))=some (cs.map fun c=>D.str (tx [c])):=by
  show (if (tx cs).length<=lim then some (cs.map fun c=>D.str ⟨#[c]⟩) else none)=_;rw[if_pos (z8 hl)];rfl
 dsimp only;rw[this];rfl
theorem Kg (hg:GL T)(hB:pq T)(k:Nat)(hk:k=2\/k=3)(cs:List Nat)(hc:∀c∈cs,c∈kn k)(hl:cs.length<=64):ret (aE T VN (aI [.int (k:Int),.str (tx cs)] 4))=.ok (.lst (iD (pb (t8 k cs))),true):=by
 have LJ:aI [.int (k:Int),.str (tx cs)] 4=[sN k,sT cs,none,none]:=rfl;rw[LJ];have g1:aV T (.asg (.nm 2) (.lst .nil) false) [sN k,sT cs,none,none]=.nx (E3 k cs [] none):=rfl;obtain⟨o',t',q⟩:=vK hg hB k hk cs cs [] none aN hc (by simp;omega);have g2:=dQ (yO (by omega) (aC (T:=T) (env:=E3 k cs [] none) (i:=1) (d:=.str (tx cs)) (t:=.own) rfl rfl)) q;rw[dq] at g2;generalize pb (t8 k cs)=B at *;unfold VN;rw[aE,g1,aD,aE,g2,aD];have v2:ev T Lg (E3 k cs B o')=.ok (.lst (iD B),.mv [2]):=aX rfl rfl;rw[aE,aV,v2,bA];rfl
def GP (T:Tb):Prop:=∀(k:Nat),k=2\/k=3->∀cs:List Nat,(∀c∈cs,c∈kn k)->cs.length<=64->T.cl 13 [.int (k:Int),.str (tx cs)]=.ok (.lst (iD (pb (t8 k cs))),true)
noncomputable def ch:Nat->List Nat->List (List Nat)
 |0,_=>[]
 |m+1,cs=>cs.take 3::ch m (cs.drop 3)
noncomputable def lh (cs:List Nat):Nat:=(cs.length+2) / 3
noncomputable def jz (m:Nat)(cs:List Nat):List (Int×Nat):=(ch m cs).map fun g=>(mI g,fb g.length)
theorem IK (n:Nat):(Builtin.Range.rangeSize 0 (n:Int) 3).toNat=(n+2) / 3:=by
 unfold Builtin.Range.rangeSize;rw[if_pos (by decide)];by_cases h:(0:Int)<(n:Int)
 .rw[if_pos h];omega
 .rw[if_neg h];omega
variable {R:Rt}
theorem Dt (T:Tb)(env:En)(e1 e2:Ex)(n:Nat)(hn:n<=1000)(h1:ev T e1 env=.ok (.int (n:Int),R)){R2:Rt}(h2:ev T e2 env=.ok (.int 3,R2)):fU T (.L6 KU e1 e2) env=.ok (aW 0 3 ((n+2) / 3),[]):=by
 rw[fU,aF,aA,h1,aA,h2,aA];dsimp only;have a1:fT 0=true:=by decide
 have a2:=DN hn;have a3:((3:Int) != 0)=true:=by decide
 have a4:decide ((3:Int).natAbs<1073741824)=true:=by decide
 rw[a1,a2,a3,a4,IK];rfl
theorem Bm (cs:List Nat)(s:Nat)(h:s<=cs.length)(hl:cs.length<=1000):Ib (.str (tx cs)) (some (s:Int)) (some ((s:Int)+3))=some (.str (tx ((cs.drop s).take 3))):=by
 show (if (tx cs).length<=lim then some (D.str ⟨(cut cs (some (s:Int)) (some ((s:Int)+3))).toArray⟩) else none)=_;rw[if_pos (z8 hl)];have:cut cs (some (s:Int)) (some ((s:Int)+3))=(cs.drop s).take 3:=by
  unfold cut;have h1:eF cs.length 0 (some (s:Int))=s:=by
   unfold eF;dsimp only;rw[if_neg (by omega),cj];omega
  have h2:eF cs.length cs.length (some ((s:Int)+3))=min (s+3) cs.length:=by
   unfold eF;dsimp only;rw[if_neg (by omega),show ((s:Int)+3).toNat=s+3 by omega]
  dsimp only;rw[h1,h2];by_cases hc:s+3<=cs.length
  .rw[fk hc,show s+3-s=3 by omega]
  .rw[i5 (by omega),dm (by rw[bu];omega),dm (by rw[bu];omega)]
 rw[this];rfl
theorem Kj (hg:GL T)(env:En)(e:Ex):∀m:Nat,0<m->m<=3->ev T e env=.ok (.int (m:Int),R)->ev T (.ix Lo e) env=.ok (.int (fb m:Nat),.mv [])
 |1,_,_,h=>dC (i:=1) (aU (hg 8 (by decide))) h rfl rfl
 |2,_,_,h=>dC (i:=2) (aU (hg 8 (by decide))) h rfl rfl
 |3,_,_,h=>dC (i:=3) (aU (hg 8 (by decide))) h rfl rfl
 |m+4,_,h,_=>absurd h (by omega)
theorem CG {g:List Nat}(h0:0<g.length)(h3:g.length<=3)(hg:∀c∈g,c∈kn 1)(h:ev T e env=.ok (.str (tx g),.mv [])):ev T (.blt .int (.cons e .nil)) env=.ok (.int (mI g),.mv []):=by
 obtain⟨a,_,_⟩:=rL h0 h3 hg;rw[ev,aY,aY,h,aA,aA,aA,md];have:iH .int [.str (tx g)]=some (.int (mI g)):=by
  show (if (tx g).length<=640 then (PySem.intText? (tx g)).map D.int else none)=_;rw[if_pos (by rw[kf];omega),a];rfl
 dsimp only;rw[this,bZ,aA,fW]
theorem AR {m:Nat}(h:m<=3):fb m<=10:=by
 unfold fb;split<;>omega
noncomputable def Cb:bL:=(.cons (.asg (.nm 3) (.sl Le (.some Lg) (.some (.bin .Add Lg Lp))) false)
  (.cons (.mut 1 .none .extend (Ls (.call 9 (Lu (.blt .int (Ls Lk)) (.ix Lo (Ly Lk))))))
  .nil))
noncomputable def VT:bL:=(.cons (.asg (.nm 1) (.lst .nil) false)
  (.cons (.LP (.nm 2) (.L6 KU (Ly Le) Lp) Cb)
  (.cons (.ret Lf)
  .nil)))
noncomputable abbrev E2 (cs:List Nat)(L:List Int)(o2 o3:Slot):En:=[sT cs,oI L,o2,o3]
theorem qR {cs:List Nat}{L:List Int}{o2 o3:Slot}(h2:aR o2)(h3:aR o3):Tame (E2 cs L o2 o3):=.cons (aB _) (.cons (aB _) (.cons h2 (.cons h3 .nil)))
theorem J8 (hg:GL T)(hB:pq T)(cs:List Nat)(RG:cs.length<=64)(hk:∀c∈cs,c∈kn 1)(L:List Int)(hL:L.length<=900)(s:Nat)(hs:s<cs.length)(o3:Slot)(t3:aR o3):aE T Cb (E2 cs L (sN s) o3)=.nx (E2 cs (L++aP (mI ((cs.drop s).take 3)) (fb ((cs.drop s).take 3).length)) (sN s) (sT ((cs.drop s).take 3))):=by
 have to:=aB;have es:ev T (.sl Le (.some Lg) (.some (.bin .Add Lg Lp))) (E2 cs L (sN s) o3)=.ok (.str (tx ((cs.drop s).take 3)),.mv []):=by
  have v0:ev T Le (E2 cs L (sN s) o3)=.ok (.str (tx cs),.mv []):=aC rfl rfl;have v2:ev T Lg (E2 cs L (sN s) o3)=.ok (.int (s:Int),.mv []):=aC rfl rfl;have v3:ev T (.bin .Add Lg Lp) (E2 cs L (sN s) o3)=.ok (.int ((s:Int)+3),.mv []):=cP v2 (aU (hg 9 (by decide)));rw[ev,v0,aA,kq,v2,aA];dsimp only;rw[aA,kq,v3,aA];dsimp only;rw[aA,Bm cs s (by omega) (by omega)];rfl
 have Ug:0<((cs.drop s).take 3).length:=by rw[bh,bu];omega
 have NZ:((cs.drop s).take 3).length<=3:=by rw[bh];omega
 have Xj:∀c∈(cs.drop s).take 3,c∈kn 1:=fun c hc=>hk c (f9 (fq hc))
 generalize (cs.drop s).take 3=g at *;have g1:aV T (.asg (.nm 3) (.sl Le (.some Lg) (.some (.bin .Add Lg Lp))) false) (E2 cs L (sN s) o3)=.nx (E2 cs L (sN s) (sT g)):=aK (qR (to _) t3) (show (3:Nat)<4 by decide) es;have v3:ev T Lk (E2 cs L (sN s) (sT g))=.ok (.str (tx g),.mv []):=aC rfl rfl;obtain⟨_,hv0,hv1⟩:=rL Ug NZ Xj;have hfb:=AR NZ;have e4:ev T (.call 9 (Lu (.blt .int (Ls Lk)) (.ix Lo (Ly Lk)))) (E2 cs L (sN s) (sT g))=.ok (.lst (iD (aP (mI g) (fb g.length))),.mv []):=fM (CG Ug NZ Xj v3) (Kj hg _ _ g.length Ug NZ (gC (by omega) v3)) (hB _ _ hv0 (by omega));have Uv:=aQ (mI g) (fb g.length);have gg:=kX (x:=1) (qR (cs:=cs) (L:=L) (to (.int (s:Int))) (to (.str (tx g)))) rfl e4 (fC _) (by rw[bM,bM,Uv];exact jI (by omega));have gg':aV T (.mut 1 .none .extend (Ls (.call 9 (Lu (.blt .int (Ls Lk)) (.ix Lo (Ly Lk)))))) (E2 cs L (sN s) (sT g))=.nx (E2 cs (L++aP (mI g) (fb g.length)) (sN s) (sT g)):=by
  rw[gg];show Fl.nx [sT cs,some (.lst (iD L++iD (aP (mI g) (fb g.length))),.own),sN s,sT g]=_;rw[<-jw]
 unfold Cb;rw[aE,g1,aD,aE,gg',aD];rfl
theorem ints3 (s m:Nat):aW (s:Int) 3 (m+1)=.int (s:Int)::aW ((s+3:Nat):Int) 3 m:=by
 rw[aW,show (s:Int)+3=((s+3:Nat):Int) by omega]
theorem wA (hg:GL T)(hB:pq T)(cs:List Nat)(RG:cs.length<=64)(hk:∀c∈cs,c∈kn 1):∀(m s:Nat) (L:List Int) (o2 o3:Slot),aR o2->aR o3->s+3*m<cs.length+3->L.length+10*m<=900->∃WN WM,aR WN/\aR WM/\cZ (.nm 2) [] (aE T Cb) (aW (s:Int) 3 m) (E2 cs L o2 o3)=.nx (E2 cs (L++pb (jz m (cs.drop s))) WN WM)
 |0,s,L,o2,o3,h2,h3,_,_=>⟨o2,o3,h2,h3,by rw[show pb (jz 0 (cs.drop s))=[] from rfl,ay];rfl⟩
 | m+1,s,L,o2,o3,h2,h3,hs,hl=>by
  have NN:=J8 hg hB cs RG hk L (by omega) s (by omega) o3 h3;have hfb:=AR (show ((cs.drop s).take 3).length<=3 by rw[bh];omega);obtain⟨p2,p3,u2,u3,q⟩:=wA hg hB cs RG hk m (s+3) (L++aP (mI ((cs.drop s).take 3)) (fb ((cs.drop s).take 3).length)) (sN s) (sT ((cs.drop s).take 3)) (aB _) (aB _) (by omega) (by rw[aa,aQ];omega);refine⟨p2,p3,u2,u3,?_⟩;have hb:bK [] (.nm 2) (.int (s:Int)) (E2 cs L o2 o3)=some (E2 cs L (sN s) o3):=dD (qR h2 h3) (show (2:Nat)<4 by decide);rw[ints3,cF hb NN,q];show Fl.nx (E2 cs ((L++aP (mI ((cs.drop s).take 3)) (fb ((cs.drop s).take 3).length))++pb (jz m (cs.drop (s+3)))) p2 p3)=Fl.nx (E2 cs (L++(aP (mI ((cs.drop s).take 3)) (fb ((cs.drop s).take 3).length)++pb (jz m ((cs.drop s).drop 3)))) p2 p3);rw[av,List.drop_drop]
theorem Jw (hg:GL T)(hB:pq T)(cs:List Nat)(hc:∀c∈cs,c∈kn 1)(hl:cs.length<=64):ret (aE T VT (aI [.str (tx cs)] 4))=.ok (.lst (iD (pb (jz (lh cs) cs))),true):=by
 have LJ:aI [.str (tx cs)] 4=[sT cs,none,none,none]:=rfl;rw[LJ];have g1:aV T (.asg (.nm 1) (.lst .nil) false) [sT cs,none,none,none]=.nx (E2 cs [] none none):=rfl;obtain⟨o2,o3,t2,t3,q⟩:=wA hg hB cs hl hc ((cs.length+2) / 3) 0 [] none none aN aN (by omega) (by simp;omega);have v0:ev T Le (E2 cs [] none none)=.ok (.str (tx cs),.mv []):=aC rfl rfl;have hit:=Dt T (E2 cs [] none none) _ Lp cs.length (by omega) (gC (by omega) v0) (R2:=.mv []) (aU (hg 9 (by decide)));have g2:=dQ hit q;rw[dq,iz] at g2;unfold lh;generalize pb (jz ((cs.length+2) / 3) cs)=B at *;unfold VT;rw[aE,g1,aD,aE,g2,aD];have v1:ev T Lf (E2 cs B o2 o3)=.ok (.lst (iD B),.mv [1]):=aX rfl rfl;rw[aE,aV,v1,bA];rfl
def Gh (T:Tb):Prop:=∀cs:List Nat,(∀c∈cs,c∈kn 1)->cs.length<=64->T.cl 12 [.str (tx cs)]=.ok (.lst (iD (pb (jz (lh cs) cs))),true)
noncomputable def lW (k:Nat)(cs:List Nat):List (Int×Nat):=if k=1 then jz (lh cs) cs else t8 k cs
noncomputable def gG (k:Nat)(cs:List Nat):List (Int×Nat):=[((k:Int),2),((cs.length:Int)-1,6)]++lW k cs
theorem fE {T:Tb}{env:En}{a b:Ex}{x y:List Int}{R R':Rt}(h:ev T a env=.ok (.lst (iD x),R))(h':ev T b env=.ok (.lst (iD y),R'))(hl:x.length+y.length<=20000):ev T (.bin .Add a b) env=.ok (.lst (iD (x++y)),.mv []):=by
 rw[ev,h,aA,h',aA];have:ph .Add (.lst (iD x)) (.lst (iD y))=some (.lst (iD (x++y))):=by
  show ck ((iD x).length+(iD y).length) (.lst (iD x++iD y))=_;unfold ck;rw[if_pos (by rw[bM,bM];exact sU hl),jw]
 rw[this,bZ,aA,iO]
theorem vj:∀(G:List (Int×Nat)),(∀q∈G,q.2<=10)->(pb G).length<=10*G.length
 |[],_=>dh _
 | q::G,h=>by
  have:=vj G fun x hx=>h x (ai _ hx)
  have hq:=h q aj;show (aP q.1 q.2++pb G).length<=_;rw[aa,aQ,ah];omega
theorem uQ:∀(m:Nat) (cs:List Nat),(ch m cs).length=m
 |0,_=>rfl
 |m+1,cs=>by rw[ch,ah,uQ m]
theorem D7:∀(m:Nat) (cs:List Nat),∀g∈ch m cs,g.length<=3
 | m+1,cs,g,hg=>by
  rcases je.mp hg with rfl | hg
  .rw[bh];omega
  .exact D7 m _ g hg
variable {k:Nat}
theorem Ef (hk:k=1\/k=2\/k=3)(hl:cs.length<=64):(lW k cs).length<=64/\∀q∈lW k cs,q.2<=10:=by
 unfold lW;split
 .constructor
  .unfold jz lh;rw[ak,uQ];omega
  .intro q hq;obtain⟨g,_,rfl⟩:=List.mem_map.mp hq;exact AR (D7 _ _ g ‹_›)
 .constructor
  .unfold t8;rw[ak];exact hl
  .intro q hq;obtain⟨c,_,rfl⟩:=List.mem_map.mp hq;show 2*k+1<=10;omega
noncomputable def RT:bL:=(.cons (.asg (.nm 1) (.ix Le KU) false)
  (.cons (.asg (.nm 2) (.ix Le KW) false)
  (.cons (.asg (.nm 3) (.bin .Add (.call 9 (Lu Lf Lm)) (.call 9 (Lu (.bin .Sub (Ly Lg) KW) Ln))) false)
  (.cons (.ite (.cmp .Eq Lf (.LX 0)) (.cons (.ret (.bin .Add Lk (.call 12 (Ls Lg))))
  .nil) .nil)
  (.cons (.ret (.bin .Add Lk (.call 13 (Lu Lf Lg))))
  .nil)))))
theorem KI (hg:GL T)(hB:pq T)(hF:Gh T)(hS:GP T)(k:Nat)(hk:k=1\/k=2\/k=3)(cs:List Nat)(hc:∀c∈cs,c∈kn k)(h0:0<cs.length)(hl:cs.length<=64):ret (aE T RT (aI [.tup [.int (k:Int),.str (tx cs)]] 4))=.ok (.lst (iD (pb (gG k cs))),true):=by
 have LJ:aI [.tup [.int (k:Int),.str (tx cs)]] 4=[some (.tup [.int (k:Int),.str (tx cs)],.own),none,none,none]:=rfl;rw[LJ];have to:=aB;have g1:aV T (.asg (.nm 1) (.ix Le KU) false) [some (.tup [.int (k:Int),.str (tx cs)],.own),none,none,none]=.nx [some (.tup [.int (k:Int),.str (tx cs)],.own),sN k,none,none]:=rfl;have g2:aV T (.asg (.nm 2) (.ix Le KW) false) [some (.tup [.int (k:Int),.str (tx cs)],.own),sN k,none,none]=.nx [some (.tup [.int (k:Int),.str (tx cs)],.own),sN k,sT cs,none]:=rfl;have tp0:aR (some (D.tup [.int (k:Int),.str (tx cs)],Tg.own)):=to _;generalize (some (D.tup [.int (k:Int),.str (tx cs)],Tg.own):Slot)=p0 at *;have v1:∀o,ev T Lf [p0,sN k,sT cs,o]=.ok (.int (k:Int),.mv []):=fun _=>aC rfl rfl
 have v2:∀o,ev T Lg [p0,sN k,sT cs,o]=.ok (.str (tx cs),.mv []):=fun _=>aC rfl rfl
 have x1:ev T (.call 9 (Lu Lf Lm)) [p0,sN k,sT cs,none]=.ok (.lst (iD (aP (k:Int) 2)),.mv []):=fM (v1 none) (aU (d:=.int ((2:Nat):Int)) (hg 5 (by decide))) (hB _ 2 (by omega) (by omega));have x2:ev T (.bin .Sub (Ly Lg) KW) [p0,sN k,sT cs,none]=.ok (.int ((cs.length:Int)-1),.mv []):=by
  rw[ev,gC (by omega) (v2 none),aA,aF,aA,gH];rfl
 have x3:ev T (.call 9 (Lu (.bin .Sub (Ly Lg) KW) Ln)) [p0,sN k,sT cs,none]=.ok (.lst (iD (aP ((cs.length:Int)-1) 6)),.mv []):=fM x2 (aU (d:=.int ((6:Nat):Int)) (hg 6 (by decide))) (hB _ 6 (by omega) (by omega));have x4:=fE x1 x3 (by rw[aQ,aQ];omega);have hGe:pb (gG k cs)=(aP (k:Int) 2++aP ((cs.length:Int)-1) 6)++pb (lW k cs):=by
  show aP (k:Int) 2++(aP ((cs.length:Int)-1) 6++pb (lW k cs))=_;rw[av]
 have hHl:(aP (k:Int) 2++aP ((cs.length:Int)-1) 6).length=8:=by rw[aa,aQ,aQ]
 rw[hGe];generalize aP (k:Int) 2++aP ((cs.length:Int)-1) 6=HD at *;have g3:aV T (.asg (.nm 3) (.bin .Add (.call 9 (Lu Lf Lm)) (.call 9 (Lu (.bin .Sub (Ly Lg) KW) Ln))) false) [p0,sN k,sT cs,none]=.nx [p0,sN k,sT cs,oI HD]:=aK (.cons tp0 (.cons (to _) (.cons (to _) (.cons aN .nil)))) (show (3:Nat)<4 by decide) x4;have v3:ev T Lk [p0,sN k,sT cs,oI HD]=.ok (.lst (iD HD),.mv [3]):=aX rfl rfl;have gb:=Ef hk hl;have Md:=vj (lW k cs) gb.2;have xc:ev T (.cmp .Eq Lf (.LX 0)) [p0,sN k,sT cs,oI HD]=.ok (.bl ((k:Int)==1),.mv []):=by
  rw[ev,v1,aA,aU (hg 0 (by decide)),aA];rfl
 unfold RT;rw[aE,g1,aD,aE,g2,aD,aE,g3,aD];by_cases h1:k=1
 .subst h1;have y:=fL (f:=12) (v2 (oI HD)) (hF cs hc hl);have Ue:lW 1 cs=jz (lh cs) cs:=rfl;rw[<-Ue] at y;have z:=fE v3 y (by omega);rw[aE,aV,xc,bA];have:truth (.bl (((1:Nat):Int)==1))=some true:=rfl;dsimp only;rw[this];dsimp only;rw[aE,aV,z,bA];rfl
 .have Nv:k=2\/k=3:=by omega
  have y:=fM (f:=13) (v1 (oI HD)) (v2 (oI HD)) (hS k Nv cs hc hl);have Ue:lW k cs=t8 k cs:=by unfold lW;rw[if_neg h1]
  rw[<-Ue] at y;have z:=fE v3 y (by omega);have NJ:((k:Int)==1)=false:=by rw[gd];omega
  rw[NJ] at xc;rw[aE,ite_ff xc,aD];exact eR z
noncomputable def PB (p:Pe):List Int:=pb (gG p.1 p.2)
def G5 (T:Tb):Prop:=∀p:Pe,Piece p->T.cl 11 [pD p]=.ok (.lst (iD (PB p)),true)
theorem nF {c:Nat}(h:eK k c=true):c∈kn k:=by
 unfold eK at h;exact List.contains_iff_mem.mp h
variable {p:Pe}
theorem AA (hg:GL T)(hB:pq T)(hF:Gh T)(hS:GP T)(h:Piece p):ret (aE T RT (aI [pD p] 4))=.ok (.lst (iD (PB p)),true) :=
 KI hg hB hF hS p.1 (by have:=h.k1;have:=h.k3;omega) p.2 (fun c hc=>nF (h.all c hc)) (by have:=h.c1;omega) h.Pa
theorem Hl (h:Piece p):(PB p).length<=18*p.2.length:=by
 have hk:p.1=1\/p.1=2\/p.1=3:=by have:=h.k1;have:=h.k3;omega
 have gb:=Ef hk h.Pa;have c1:=h.c1;have e:(lW p.1 p.2).length<=p.2.length:=by
  unfold lW;split
  .unfold jz lh;rw[ak,uQ];omega
  .unfold t8;rw[ak];omega
 have:=vj (lW p.1 p.2) gb.2;have hh:(PB p).length=8+(pb (lW p.1 p.2)).length:=by
  show (aP (p.1:Int) 2++(aP ((p.2.length:Int)-1) 6++pb (lW p.1 p.2))).length=_;rw[aa,aa,aQ,aQ];omega
 omega
noncomputable def fV (P:List Pe):List Int:=(P.map PB).flatten
theorem mY:∀(P:List Pe),(∀p∈P,Piece p)->(fV P).length<=18*((P.map (·.2)).flatten).length
 |[],_=>dh _
 | p::P,h=>by
  have a:=Hl (h p aj);have b:=mY P fun q hq=>h q (ai _ hq)
  show (PB p++fV P).length<=18*(p.2++(P.map (·.2)).flatten).length;rw[aa,aa];omega
end Pc.Gn
end
section
namespace Pc.Rd
open PySem Pc Pc.Ct Pc.Gn
theorem kO {pre post:List Int}{x:Int}{c:Nat}(h0:0<=x)(h1:x<2 ^ c):iB (pre++(aP x c++post)) pre.length c=some x:=by
 unfold iB;rw[if_pos (by rw[aa,aa,aQ];omega),List.drop_left,List.take_left' (aQ x c)];exact gv some (xV h0 h1)
theorem kM (q:Int×Nat)(G:List (Int×Nat)):pb (q::G)=aP q.1 q.2++pb G:=rfl
noncomputable def zC (g:List Nat):Bool:=decide ((zf g.length (mI g)).cps.toList=g)&&decide (mI g<=gm g.length)
theorem cZ1:(kn 1).all (fun a=>zC [a])=true:=by decide +kernel
theorem cZ2:(kn 1).all (fun a=>(kn 1).all fun b=>zC [a,b])=true:=by decide +kernel
theorem cZ3:(kn 1).all (fun a=>(kn 1).all fun b=>(kn 1).all fun c=>zC [a,b,c])=true:=by decide +kernel
theorem zv {g:List Nat}(h0:0<g.length)(h3:g.length<=3)(hg:∀c∈g,c∈kn 1):zf g.length (mI g)=tx g/\mI g<=gm g.length:=by
 have h:zC g=true:=by
  match g,h0,h3,hg with
  |[a],_,_,hg=>exact List.all_eq_true.mp cZ1 a (hg a (by simp))
  |[a,b],_,_,hg=>exact List.all_eq_true.mp (List.all_eq_true.mp cZ2 a (hg a (by simp))) b (hg b (by simp))
  |[a,b,c],_,_,hg=>exact List.all_eq_true.mp (List.all_eq_true.mp (List.all_eq_true.mp cZ3 a (hg a (by simp))) b (hg b (by simp))) c (hg c (by simp))
 unfold zC at h;rw[ao] at h;exact⟨rO (dw h.1),dw h.2⟩
theorem Bu (cs:List Nat):(cs.take 3).length=ft cs.length:=by
 rw[bh];unfold ft;split<;>omega
theorem zH {bs post:List Int}:∀(m f:Nat) (pre:List Int) (cs a:List Nat),3*m<cs.length+3->cs.length<=3*m->m<=f->(∀c∈cs,c∈kn 1)->bs=pre++(pb (jz m cs)++post) ->
  mW bs f pre.length cs.length (tx a)=some (tx (a++cs),pre.length+(pb (jz m cs)).length)
 | 0,f,pre,cs,a,_,h2,_,_,_=>by
  obtain rfl:cs=[]:=List.length_eq_zero_iff.mp (by omega);rw[ay];cases f<;>rfl
 |m+1,0,pre,cs,a,_,_,h,_,_=>by omega
 | m+1,f+1,pre,cs,a,h1,h2,h3,hc,hb=>by
  obtain⟨r,hr⟩:∃r,cs.length=r+1:=⟨cs.length-1,by omega⟩;have hl:=Bu cs;have hft:=Fm (show 0<r+1 by omega);rw[hr] at hl;have hg:∀c∈cs.take 3,c∈kn 1:=fun c h=>hc c (fq h)
  obtain⟨_,v1,v2⟩:=rL (g:=cs.take 3) (by omega) (by omega) hg;obtain⟨z1,z2⟩:=zv (g:=cs.take 3) (by omega) (by omega) hg;rw[hl] at v2 z1 z2;have hG:jz (m+1) cs=(mI (cs.take 3),fb (ft (r+1)))::jz m (cs.drop 3):=by
   show (mI (cs.take 3),fb (cs.take 3).length)::jz m (cs.drop 3)=_;rw[hl]
  rw[hG,kM,av] at hb;have e1:iB bs pre.length (fb (ft (r+1)))=some (mI (cs.take 3)):=by rw[hb];exact kO v1 v2
  have ih:=zH (bs:=bs) (post:=post) m f (pre++aP (mI (cs.take 3)) (fb (ft (r+1)))) (cs.drop 3) (a++cs.take 3) (by rw[bu];omega) (by rw[bu];omega) (by omega) (fun c h=>hc c (f9 h)) (by rw[hb,av]);rw[hr];show ((iB bs pre.length (fb (ft (r+1)))).bind fun n=>if gm (ft (r+1))<n then none else mW bs f (pre.length+fb (ft (r+1))) (r+1-ft (r+1)) (tx a++zf (ft (r+1)) n))=_;rw[e1,fm,if_neg (by omega),z1,ko];rw[aa,aQ,bu,av,jt] at ih;have hd:r+1-ft (r+1)=cs.length-3:=by
   have:ft (r+1)=min 3 (r+1):=by rw[<-hl,bh,hr]
   omega
  rw[hd,ih,hG,kM,aa,aQ];congr 2;omega
theorem cI2:(kn 2).all (fun c=>decide ((kn 2)[(fQ 2 c).toNat]? = some c))=true:=by decide +kernel
theorem cI3:(kn 3).all (fun c=>decide ((kn 3)[(fQ 3 c).toNat]? = some c))=true:=by decide +kernel
variable {k:Nat}
theorem Hb {c:Nat}(hk:k=2\/k=3)(hc:c∈kn k):(kn k)[(fQ k c).toNat]? = some c:=by
 rcases hk with rfl | rfl
 .exact dw (cv.mp cI2 c hc)
 .exact dw (cv.mp cI3 c hc)
theorem DV (hk:k=2\/k=3):sb k=2*k+1:=by rcases hk with rfl | rfl<;>rfl
theorem Al {bs post:List Int}{k:Nat}(hk:k=2\/k=3):∀(cs:List Nat) (pre:List Int) (a:List Nat),(∀c∈cs,c∈kn k)->bs=pre++(pb (t8 k cs)++post) ->
  mO bs k cs.length pre.length (tx a)=some (tx (a++cs),pre.length+(pb (t8 k cs)).length)
 |[],pre,a,_,_=>by rw[ay];rfl
 | c::cs,pre,a,hc,hb=>by
  have hm:=hc c aj;obtain⟨_,_,v1,v2⟩:=vy hk hm;have hG:t8 k (c::cs)=(fQ k c,2*k+1)::t8 k cs:=rfl;rw[hG,kM,av] at hb;have e1:iB bs pre.length (sb k)=some (fQ k c):=by rw[hb,DV hk];exact kO v1 v2
  have ih:=Al (bs:=bs) (post:=post) hk cs (pre++aP (fQ k c) (2*k+1)) (a ++ [c]) (fun x h=>hc x (ai _ h)) (by rw[hb,av]);show ((iB bs pre.length (sb k)).bind fun n=>match (kn k)[n.toNat]? with
   |some c=>mO bs k cs.length (pre.length+sb k) (tx a++tx [c])
   |none=>none)=_
  rw[e1,fm,Hb hk hm];dsimp only;rw[ko,DV hk];rw[aa,aQ,av] at ih;rw[ih,hG,kM,aa,aQ];congr 2;show pre.length+(2*k+1)+_=pre.length+(2*k+1+_);omega
noncomputable def pT (p:Pe):Nat×Str:=(p.1,tx p.2)
theorem y9 {bs tail:List Int}:∀(P:List Pe) (f:Nat) (pre:List Int) (acc:List (Nat×Str)),P.length<=f->(∀p∈P,Piece p)->bs=pre++(fV P++([0,0]++tail)) ->
  ((iB bs pre.length 2).bind fun k=>rV bs f k.toNat (pre.length+2) acc)=some (acc++P.map pT,pre.length+(fV P).length+2)
 | [],f,pre,acc,_,_,hb=>by
  have e:iB bs pre.length 2=some 0:=by rw[hb];exact kO (x:=0) (c:=2) (by decide) (by decide)
  rw[e,gu,ay];cases f<;>rfl
 |p::P,0,pre,acc,h,_,_=>by cases h
 | p::P,f+1,pre,acc,h,hP,hb=>by
  have hp:=hP p aj;obtain⟨k,cs⟩:=p;obtain⟨k1,k3,c1,Pa,Np⟩:=hp;dsimp only at k1 k3 c1 Pa Np;have hc:∀c∈cs,c∈kn k:=fun c h=>nF (Np c h)
  obtain⟨j,rfl⟩:∃j,k=j+1:=⟨k-1,by omega⟩;have hB:fV ((j+1,cs)::P)=aP ((j+1:Nat):Int) 2++(aP ((cs.length:Int)-1) 6++(pb (lW (j+1) cs)++fV P)):=by
   show pb (gG (j+1) cs)++fV P=_;show (aP ((j+1:Nat):Int) 2++(aP ((cs.length:Int)-1) 6++pb (lW (j+1) cs)))++fV P=_;rw[av,av]
  rw[hB,av,av,av] at hb;have e1:iB bs pre.length 2=some ((j+1:Nat):Int):=by rw[hb];exact kO (by omega) (by show _<(4:Int);omega)
  have e2:iB bs (pre.length+2) 6=some ((cs.length:Int)-1):=by
   have:=kO (pre:=pre++aP ((j+1:Nat):Int) 2) (post:=pb (lW (j+1) cs)++(fV P++([0,0]++tail))) (x:=(cs.length:Int)-1) (c:=6) (by omega) (by show _<(64:Int);omega);rw[aa,aQ,av] at this;rw[hb];exact this
  have hcn:((cs.length:Int)-1).toNat+1=cs.length:=by omega
  have e3:(if j=0 then mW bs (((cs.length:Int)-1).toNat+1) (pre.length+2+6) (((cs.length:Int)-1).toNat+1) (tx []) else mO bs (j+1) (((cs.length:Int)-1).toNat+1) (pre.length+2+6) (tx []))=some (tx cs,pre.length+2+6+(pb (lW (j+1) cs)).length):=by
   rw[hcn];have O5:bs=(pre++aP ((j+1:Nat):Int) 2++aP ((cs.length:Int)-1) 6)++(pb (lW (j+1) cs)++(fV P++([0,0]++tail))):=by rw[hb,av,av]
   have hl:(pre++aP ((j+1:Nat):Int) 2++aP ((cs.length:Int)-1) 6).length=pre.length+2+6:=by rw[aa,aa,aQ,aQ]
   by_cases hj:j=0
   .subst hj;rw[if_pos rfl];have:=zH (lh cs) cs.length (pre++aP ((0+1:Nat):Int) 2++aP ((cs.length:Int)-1) 6) cs [] (by unfold lh;omega) (by unfold lh;omega) (by unfold lh;omega) hc O5;rw[hl] at this;exact this
   .rw[if_neg hj];have hg:lW (j+1) cs=t8 (j+1) cs:=if_neg (by omega);rw[hg] at O5 ⊢;have:=Al (k:=j+1) (by omega) cs (pre++aP ((j+1:Nat):Int) 2++aP ((cs.length:Int)-1) 6) [] hc O5;rw[hl] at this;exact this
  rw[e1,fm];show ((iB bs (pre.length+2) 6).bind fun c=>(if j=0 then mW bs (c.toNat+1) (pre.length+2+6) (c.toNat+1) (tx []) else mO bs (j+1) (c.toNat+1) (pre.length+2+6) (tx [])).bind fun q =>
   (iB bs q.2 2).bind fun k'=>rV bs f k'.toNat (q.2+2) (acc ++ [(j+1,q.1)]))=_
  rw[e2,fm,e3,fm];dsimp only;have ih:=y9 (bs:=bs) (tail:=tail) P f (pre++aP ((j+1:Nat):Int) 2++aP ((cs.length:Int)-1) 6++pb (lW (j+1) cs)) (acc ++ [(j+1,tx cs)]) (Nat.le_of_succ_le_succ h) (fun q hq=>hP q (ai _ hq)) (by rw[hb,av,av,av]);have hl:(pre++aP ((j+1:Nat):Int) 2++aP ((cs.length:Int)-1) 6++pb (lW (j+1) cs)).length=pre.length+2+6+(pb (lW (j+1) cs)).length:=by rw[aa,aa,aa,aQ,aQ]
  rw[hl] at ih;rw[ih,hB,aa,aa,aa,aQ,aQ,av];congr 2;omega
theorem HX {P:List Pe}{tail:List Int}(hP:∀p∈P,Piece p)(hl:P.length<=(fV P).length):DO (fV P++([0,0]++tail))=some (P.map pT,(fV P).length+2):=by
 have:=y9 (bs:=fV P++([0,0]++tail)) (tail:=tail) P (fV P++([0,0]++tail)).length [] [] (by rw[aa];omega) hP rfl;rw[bz,fv,dq,fv] at this;exact this
end Pc.Rd
end
section
namespace Pc.Gn
open PySem Pc Pc.Sm Pc.Lw Pc.Gr Pc.Nw Pc.Ct
open Pc.Fr (iD)
structure Ip (T:Tb):Prop where
 g:GL T
 e:T.gl 10=.int 0
 b:T.gl 11=.int 6
 f:T.gl 12=.tup [.int 42,.int 21]
theorem J7 (n:Nat):(Builtin.Range.rangeSize 0 (n:Int) 6).toNat=(n+5) / 6:=by
 unfold Builtin.Range.rangeSize;rw[if_pos (by decide)];by_cases h:(0:Int)<(n:Int)
 .rw[if_pos h];omega
 .rw[if_neg h];omega
theorem DW:∀(m s:Nat),aW (s:Int) 6 m=(List.range m).map fun j=>D.int ((s+6*j:Nat):Int)
 |0,s=>rfl
 | m+1,s=>by
  rw[aW,show (s:Int)+6=((s+6:Nat):Int) by omega,DW m,gj,aw,df];congr 1;refine gi fun j _=>?_
  show D.int ((s+6+6*j:Nat):Int)=D.int ((s+6*(j+1):Nat):Int);rw[show s+6+6*j=s+6*(j+1) by omega]
variable {R:Rt}{env:En}
theorem Kv {T:Tb}{e1 e2:Ex}{n:Nat}(hn:n<=20000){R2:Rt}(h1:ev T e1 env=.ok (.int (n:Int),R))(h2:ev T e2 env=.ok (.int 6,R2)):fU T (.L6 KU e1 e2) env=.ok ((List.range ((n+5) / 6)).map fun j=>D.int ((6*j:Nat):Int),[]):=by
 rw[fU,aF,aA,h1,aA,h2,aA];dsimp only;have a1:fT 0=true:=by decide
 have a2:=Ir hn;have a3:((6:Int) != 0)=true:=by decide
 have a4:decide ((6:Int).natAbs<1073741824)=true:=by decide
 rw[a1,a2,a3,a4,J7];have:=DW ((n+5) / 6) 0;simp only[Nat.zero_add] at this;rw[<-this];rfl
variable {T:Tb}
theorem ux {a:Ex}{lo hi:m6}{B r:List Int}{l h:Option Int}(ha:ev T a env=.ok (.lst (iD B),R))(e1:kq T lo env=.ok l)(e2:kq T hi env=.ok h)(hr:Ib (.lst (iD B)) l h=some (.lst (iD r))):ev T (.sl a lo hi) env=.ok (.lst (iD r),.mv []):=by
 rw[ev,ha,aA,e1,aA,e2,aA,hr,bZ,aA,iO]
noncomputable def VR:bL:=(.cons (.ret (.comp 1 [0] (.nm 0) (.L6 KU (Ly Le) (.LX 11)) .none (.call 10 (Ls (.sl Lf (.some Le) (.some (.bin .Add Le (.LX 11))))))))
  .nil)
noncomputable def gr (B:List Int):List Int:=(List.range ((B.length+5) / 6)).map fun j=>num ((B.drop (6*j)).take 6)
theorem G8 (B:List Int):(gr B).length=(B.length+5) / 6:=by
 unfold gr;rw[ak,cw]
variable {B:List Int}
theorem KC (hg:Ip T)(hN:IY T)(hl:B.length<=5000)(h6:B.length%6=0):ret (aE T VR (aI [.lst (iD B)] 1))=.ok (.lst (iD (gr B)),true):=by
 have LJ:aI [.lst (iD B)] 1=[some (.lst (iD B),.sh [])]:=rfl;rw[LJ];have v0:ev T Le [some (.lst (iD B),.sh [])]=.ok (.lst (iD B),.sh []):=rfl;have el:=eL v0;rw[bM] at el;have hit:=Kv (by omega) el (aU (hg.b));have k:=iM (own:=1) (pick:=[0]) (t:=.nm 0) (e:=(.call 10 (Ls (.sl Lf (.some Le) (.some (.bin .Add Le (.LX 11))))))) (r:=fun j=>D.int (num ((B.drop (6*j)).take 6))) hit (by rw[cw];omega) (fun j hj=>by
  have hj:=List.mem_range.mp hj;have hb:bK [] (.nm 0) (.int ((6*j:Nat):Int)) (cN [some (.lst (iD B),.sh [])] 1 [0])=some [sN (6*j),some (.lst (iD B),.sh [])]:=rfl;rw[hb];refine pS (fL (ux (B:=B) (r:=(B.drop (6*j)).take 6) (jQ rfl).choose_spec (cY (i:=((6*j:Nat):Int)) (aC rfl rfl)) (cY (i:=((6*j:Nat):Int)+6) (cP (aC rfl rfl) (aU hg.b))) ?_) (hN _));have:=Ci (iD B) (6*j) 6 (by rw[bM];omega);rw[show ((6:Nat):Int)=6 from rfl] at this;rw[this,iD,<-List.map_drop,<-jf])
 unfold VR;have e:(List.range ((B.length+5) / 6)).map (fun j=>D.int (num ((B.drop (6*j)).take 6)))=iD (gr B):=by
  unfold gr;rw[iD,df];rfl
 rw[e] at k;exact eR k
def Ju (T:Tb):Prop:=∀B:List Int,B.length<=5000->B.length%6=0->T.cl 16 [.lst (iD B)]=.ok (.lst (iD (gr B)),true)
noncomputable def Fq:bL:=(.cons (.mut 1 .none .extend (Ls (.call 11 (Ls Lg))))
  .nil)
noncomputable def RN:Ex:=(.cmp .NotEq (.bin .Mod (Ly Lf) (.LX 11)) KU)
noncomputable def GY:bL:=(.cons (.mut 1 .none .append (Ls KU))
  .nil)
noncomputable def VY:bL:=(.cons (.asg (.nm 1) (.lst .nil) false)
  (.cons (.LP (.nm 2) (.seq (.call 1 (Ls Le))) Fq)
  (.cons (.mut 1 .none .extend (Ls (.call 9 (Lu (.LX 10) Lm))))
  (.cons (.Mu RN GY)
  (.cons (.ret (.call 16 (Ls Lf)))
  .nil)))))
noncomputable abbrev EG (t:List Nat)(B:List Int)(o:Slot):En:=[sT t,oI B,o]
variable {o:Slot}
theorem rA {t:List Nat}{B:List Int}(h:aR o):Tame (EG t B o):=.cons (aB _) (.cons (aB _) (.cons h .nil))
variable {t:List Nat}
theorem DP {L:List Int}{e:Ex}(h:aR o)(he:ev T e (EG t B o)=.ok (.lst (iD L),.mv []))(hl:B.length+L.length<=20000):aV T (.mut 1 .none .extend (.cons e .nil)) (EG t B o)=.nx (EG t (B++L) o):=by
 rw[kX (x:=1) (rA (t:=t) (B:=B) h) rfl he (fC _) (by rw[bM,bM];exact sU hl),<-jw];rfl
theorem vX (hP:G5 T){t:List Nat}:∀(P:List Pe) (B:List Int) (o:Slot),aR o->(∀p∈P,Piece p)->B.length+(fV P).length<=20000->∃o',aR o'/\cZ (.nm 2) [] (aE T Fq) (P.map pD) (EG t B o)=.nx (EG t (B++fV P) o')
 |[],B,o,h,_,_=>⟨o,h,by rw[show fV []=[] from rfl,ay];rfl⟩
 | p::P,B,o,h,hp,hl=>by
  have e:fV (p::P)=PB p++fV P:=rfl;rw[e,aa] at hl;have g:aV T (.mut 1 .none .extend (Ls (.call 11 (Ls Lg)))) (EG t B (some (pD p,.own)))=.nx (EG t (B++PB p) (some (pD p,.own))):=DP (aB _) (fL (aC rfl rfl) (hP p (hp p aj))) (by omega);obtain⟨o',t',q⟩:=vX hP (t:=t) P (B++PB p) (some (pD p,.own)) (aB _) (fun q hq=>hp q (ai _ hq)) (by rw[aa];omega);refine⟨o',t',?_⟩;have hb:bK [] (.nm 2) (pD p) (EG t B o)=some (EG t B (some (pD p,.own))):=dD (rA h) (show (2:Nat)<3 by decide);rw[aw,cF hb (show aE T Fq _=_ from iN g),q,e,av]
theorem vF (hg:Ip T):((ev T RN (EG t B o)).bind fun p=>eW (truth p.1))=.ok (decide (B.length%6≠0)):=by
 have el:=eL (aX (T:=T) (env:=EG t B o) (i:=1) (d:=.lst (iD B)) rfl rfl);rw[bM] at el;have em:=bQ (show (0:Int)<6 by decide) el (aU hg.b);rw[show (B.length:Int)%6=((B.length%6:Nat):Int) by omega] at em;have:=E4 (y:=0) em (aF (.int 0));unfold RN;rw[this,aA];rfl
theorem y6 (hg:Ip T){t:List Nat}(h:aR o):∀(r f:Nat) (B:List Int),r<f->r<6->(B.length+r)%6=0->B.length+r<=20000->eU (fun env=>(ev T RN env).bind fun p=>eW (truth p.1)) (aE T GY) f (EG t B o)=.nx (EG t (B++List.replicate r 0) o)
 |r,0,B,h1,_,_,_=>absurd h1 (gq _)
 | 0,f+1,B,_,_,h3,_=>by
  rw[og (by rw[vF hg,ba (by omega)]),List.replicate_zero,ay]
 | r+1,f+1,B,h1,h2,h3,h4=>by
  have g:aV T (.mut 1 .none .append (Ls KU)) (EG t B o)=.nx (EG t (B ++ [0]) o):=by
   rw[gU (x:=1) (rA (t:=t) (B:=B) h) rfl (aF (.int 0)) (by rw[bM];exact sU (by omega)),show iD B ++ [D.int 0]=iD (B ++ [0]) by rw[jw];rfl];rfl
  rw[oC (by rw[vF hg,bp (by omega)]) (show aE T GY _=_ from iN g),y6 hg h r f (B ++ [0]) (by omega) (by omega) (by rw[aa,az];omega) (by rw[aa,az];omega),av];rfl
noncomputable def nK (n:Nat):Nat:=(6-n%6)%6
noncomputable def tb (t:List Nat):List Int:=fV (pc t.length t) ++ [0,0]
noncomputable def rQ (t:List Nat):List Int:=tb t++List.replicate (nK (tb t).length) 0
noncomputable def tg (t:List Nat):List Int:=gr (rQ t)
theorem A6 (hG:Good t):(tb t).length<=18*t.length+2/\2<=(tb t).length:=by
 have h:=mY (pc t.length t) (gF _ _ hG);rw[mZ _ _ hG (au _)] at h;unfold tb;rw[aa];exact⟨Nat.add_le_add_right h 2,Nat.le_add_left _ _⟩
theorem rf (hG:Good t):(rQ t).length<=18*t.length+8/\(rQ t).length%6=0/\(rQ t).length=(tb t).length+nK (tb t).length:=by
 have h:=(A6 hG).1;have e:(rQ t).length=(tb t).length+nK (tb t).length:=by
  unfold rQ;rw[aa,cm]
 unfold nK at *;refine⟨?_,?_,e⟩<;>omega
theorem qO (hG:Good t):1<=(tg t).length/\(tg t).length<=3*t.length+3/\(tg t).length=((tb t).length+5) / 6:=by
 obtain⟨h1,h2,h3⟩:=rf hG;obtain⟨h4,h5⟩:=A6 hG;unfold tg;rw[G8];unfold nK at h3;refine⟨?_,?_,?_⟩<;>omega
theorem IF (hf:1000<=T.fuel)(hg:Ip T)(hC:IM T)(hB:pq T)(hP:G5 T)(hR:Ju T)(ht:t.length<=260)(hG:Good t):ret (aE T VY (aI [.str (tx t)] 3))=.ok (.lst (iD (tg t)),true):=by
 have LJ:aI [.str (tx t)] 3=[sT t,none,none]:=rfl;rw[LJ];have tn:=aN;have Md:=mY (pc t.length t) (gF _ _ hG);rw[mZ _ _ hG (au _)] at Md;have g1:aV T (.asg (.nm 1) (.lst .nil) false) [sT t,none,none]=.nx (EG t [] none):=aK (.cons (aB _) (.cons tn (.cons tn .nil))) (show (1:Nat)<3 by decide) (by rw[ev,aY];rfl);have hit:fU T (.seq (.call 1 (Ls Le))) (EG t [] none)=.ok ((pc t.length t).map pD,[]):=by
  rw[fU,fL (aC rfl rfl) (hC t (by omega) hG),aA];rfl
 obtain⟨o,h,q⟩:=vX hP (t:=t) (pc t.length t) [] none tn (gF _ _ hG) (by rw[bz];omega);rw[dq] at q;have g2:=dQ hit q;have g3:aV T (.mut 1 .none .extend (Ls (.call 9 (Lu (.LX 10) Lm)))) (EG t (fV (pc t.length t)) o)=.nx (EG t (tb t) o) :=
  DP (L:=[0,0]) h (fM (aU hg.e) (aU (d:=.int ((2:Nat):Int)) (hg.g 5 (by decide))) (hB 0 2 (by decide) (by decide))) (by show _+2<=_;omega)
 obtain⟨l1,l2,l3⟩:=rf hG;have hp6:nK (tb t).length<6:=Nat.mod_lt _ (by decide);have g4:=y6 hg (t:=t) h (nK (tb t).length) T.fuel (tb t) (by omega) hp6 (by rw[<-l3];exact l2) (by omega);have k:=fL (aX (T:=T) (env:=EG t (rQ t) o) (i:=1) (d:=.lst (iD (rQ t))) rfl rfl) (hR (rQ t) (by omega) l2);unfold VY;rw[aE,g1,aD,aE,g2,aD,aE,g3,aD,aE,aV,g4,aD];exact eR k
def JX (T:Tb):Prop:=∀t:List Nat,t.length<=260->Good t->T.cl 15 [.str (tx t)]=.ok (.lst (iD (tg t)),true)
noncomputable def VS:bL:=(.cons (.ite (.cmp .Gt (Ly Le) Lf) (.cons (.expr (.neg (.cst .LC)))
  .nil) .nil)
  (.cons (.asg (.nm 2) (.bin .Sub Lf (Ly Le)) false)
  (.cons (.ret (.bin .Add Le (.comp 1 [] (.nm 0) (.L7 Lg) .none (.ix (.LX 12) (.bin .Mod Le (Ly (.LX 12)))))))
  .nil)))
noncomputable def fi (n:Nat):Int:=if n%2=0 then 42 else 21
noncomputable def j6 (n:Nat):List Int:=(List.range n).map fi
variable {r:Nat}
theorem KQ (hg:Ip T){L:List Int}(hr:L.length<=r)(h:r<=1000):ret (aE T VS (aI [.lst (iD L),.int (r:Int)] 3))=.ok (.lst (iD (L++j6 (r-L.length))),true):=by
 have LJ:aI [.lst (iD L),.int (r:Int)] 3=[some (.lst (iD L),.sh []),sN r,none]:=rfl;rw[LJ];have te:Tame [some (.lst (iD L),.sh []),sN r,none]:=.cons (dJ _) (.cons (aB _) (.cons aN .nil));have el:∀o,ev T (Ly Le) [some (.lst (iD L),.sh []),sN r,o]=.ok (.int (L.length:Int),.mv []):=fun o=>by
  have:=eL (T:=T) (env:=[some (.lst (iD L),.sh []),sN r,o]) (e:=.var 0) (xs:=iD L) (R:=.sh []) rfl;rw[bM] at this;exact this
 have ec:=zO (el none) (aC (T:=T) (i:=1) (d:=.int (r:Int)) (t:=.own) rfl rfl);have g1:=oH (a:=(.cons (.expr (.neg (.cst .LC))) .nil)) (b:=.nil) ec;rw[if_neg (by omega),jM] at g1;have g2:aV T (.asg (.nm 2) (.bin .Sub Lf (Ly Le)) false) [some (.lst (iD L),.sh []),sN r,none]=.nx [some (.lst (iD L),.sh []),sN r,sN (r-L.length)] :=
  aK te (show (2:Nat)<3 by decide) (lV hr (aC rfl rfl) (el none))
 have hit:=DE (aC (T:=T) (env:=[some (.lst (iD L),.sh []),sN r,sN (r-L.length)]) (i:=2) (d:=.int ((r-L.length:Nat):Int)) (t:=.own) rfl rfl) (by omega);rw[iR] at hit;have k:=iM (own:=1) (pick:=[]) (t:=.nm 0) (e:=(.ix (.LX 12) (.bin .Mod Le (Ly (.LX 12))))) (r:=fun j=>D.int (fi j)) hit (by rw[cw];omega) (fun j hj=>by
  have hb:bK [] (.nm 0) (.int ((0+j:Nat):Int)) (cN [some (.lst (iD L),.sh []),sN r,sN (r-L.length)] 1 [])=some [sN (0+j)]:=rfl;rw[hb,fv];have el2:=Fr.CO (aU (T:=T) (env:=[sN j]) hg.f);have em:=bQ (show (0:Int)<2 by decide) (aC (T:=T) (env:=[sN j]) (i:=0) (d:=.int (j:Int)) (t:=.own) rfl rfl) el2;rw[show (j:Int)%2=((j%2:Nat):Int) by omega] at em;refine pS (dC (i:=j%2) (aU hg.f) em ?_ rfl);unfold fi;have:j%2<2:=Nat.mod_lt _ (by decide)
  match j%2,this with
  |0,_=>rfl
  |1,_=>rfl)
 have e:(List.range (r-L.length)).map (fun j=>D.int (fi j))=iD (j6 (r-L.length)):=by
  unfold j6;rw[iD,df];rfl
 rw[e] at k;have ka:=fE (T:=T) (env:=[some (.lst (iD L),.sh []),sN r,sN (r-L.length)]) (a:=.var 0) (x:=L) (R:=.sh []) rfl k (by
  have:(j6 (r-L.length)).length=r-L.length:=by unfold j6;rw[ak,cw]
  omega)
 unfold VS;rw[aE,g1,aD,aE,g2,aD];exact eR ka
def JE (T:Tb):Prop:=∀(L:List Int) (r:Nat),L.length<=r->r<=1000->T.cl 17 [.lst (iD L),.int (r:Int)]=.ok (.lst (iD (L++j6 (r-L.length))),true)
noncomputable def VM:bL:=(.cons (.ret (.call 17 (Lu (.call 15 (Ls Le)) Lf)))
  .nil)
theorem Hj (hB:JX T)(hF:JE T)(ht:t.length<=260)(hG:Good t)(hr:(tg t).length<=r)(h:r<=1000):ret (aE T VM (aI [.str (tx t),.int (r:Int)] 2))=.ok (.lst (iD (tg t++j6 (r-(tg t).length))),true):=by
 have LJ:aI [.str (tx t),.int (r:Int)] 2=[sT t,sN r]:=rfl;rw[LJ];unfold VM;exact eR (fM (fL (aC rfl rfl) (hB t ht hG)) (aC rfl rfl) (hF _ _ hr h))
def Wg (T:Tb):Prop:=∀(t:List Nat) (r:Nat),t.length<=260->Good t->(tg t).length<=r->r<=1000->T.cl 14 [.str (tx t),.int (r:Int)]=.ok (.lst (iD (tg t++j6 (r-(tg t).length))),true)
end Pc.Gn
end
section
namespace Pc.Ct
open PySem Pc Pc.Sm Pc.Lw Pc.Gr Pc.Nw
theorem jC:∀a:List Int,jY a a=false
 |[]=>rfl
 | x::a=>by
  unfold jY;rw[if_pos (eo x)];exact jC a
def zI (a b:List Int):Prop:=jY b a=false
theorem xh (x y:Int)(a b:List Int):jY (x::a) (y::b)=if x=y then jY a b else decide (x<y):=by
 show (if (x==y)=true then jY a b else decide (x<y))=_;by_cases h:x=y
 .rw[if_pos (by simpa using h),if_pos h]
 .rw[if_neg (by simpa using h),if_neg h]
theorem gE {x y:Int}{a b:List Int}:zI (x::a) (y::b)↔x<y\/(x=y/\zI a b):=by
 unfold zI;rw[xh];by_cases h:y=x
 .rw[if_pos h];constructor
  .intro q;exact .inr ⟨h.symm,q⟩
  .rintro (q | q)
   .omega
   .exact q.2
 .rw[if_neg h,decide_eq_false_iff_not];constructor
  .intro q;left;omega
  .rintro (q | q)
   .omega
   .exact absurd q.1.symm h
theorem pQ:∀{a b c:List Int},a.length=b.length->b.length=c.length->zI a b->zI b c->zI a c
 | [],b,c,h1,h2,_,_=>by
  have:b=[]:=List.length_eq_zero_iff.mp h1.symm;subst this;have:c=[]:=List.length_eq_zero_iff.mp h2.symm;subst this;rfl
 |x::a,[],_,h1,_,_,_=>by cases h1
 |x::a,y::b,[],_,h2,_,_=>by cases h2
 | x::a,y::b,z::c,h1,h2,p,q=>by
  rw[gE] at p q ⊢;simp only[List.length_cons,Nat.add_right_cancel_iff] at h1 h2;rcases p with p | ⟨p1,p2⟩
  .rcases q with q | ⟨q1,_⟩
   .left;omega
   .left;omega
  .rcases q with q | ⟨q1,q2⟩
   .left;omega
   .exact .inr ⟨by omega,pQ h1 h2 p2 q2⟩
theorem qd:∀{a b:List Int},a.length=b.length->zI a b\/zI b a
 |[],[],_=>.inl rfl
 |[],_::_,h=>by cases h
 |_::_,[],h=>by cases h
 | x::a,y::b,h=>by
  rw[gE,gE];simp only[List.length_cons,Nat.add_right_cancel_iff] at h;rcases qd h with q | q
  .by_cases hx:x<y
   .exact .inl (.inl hx)
   .by_cases hy:y<x
    .exact .inr (.inl hy)
    .exact .inl (.inr ⟨by omega,q⟩)
  .by_cases hx:x<y
   .exact .inl (.inl hx)
   .by_cases hy:y<x
    .exact .inr (.inl hy)
    .exact .inr (.inr ⟨by omega,q⟩)
def leQ (a b:Q4):Prop:=zI (k4 a) (k4 b)
theorem B4 {a b:Q4}:leQ a b↔a.1<b.1\/(a.1=b.1/\(a.2.1<b.2.1\/(a.2.1=b.2.1/\(a.2.2.1<b.2.2.1\/(a.2.2.1=b.2.2.1/\a.2.2.2<=b.2.2.2))))):=by
 unfold leQ k4;rw[gE,gE,gE,gE];have:zI [] []:=rfl;constructor
 .rintro (h | ⟨h,h | ⟨h',h | ⟨h2,h | ⟨h3,_⟩⟩⟩⟩)<;>omega
 .intro h;by_cases c1:a.1<b.1
  .left;omega
  .right;refine⟨by omega,?_⟩;by_cases c2:a.2.1<b.2.1
   .left;omega
   .right;refine⟨by omega,?_⟩;by_cases c3:a.2.2.1<b.2.2.1
    .left;omega
    .right;refine⟨by omega,?_⟩;by_cases c4:a.2.2.2<b.2.2.2
     .left;omega
     .exact .inr ⟨by omega,this⟩
theorem ql (l:List Q4):∀(k j m:Nat),m<l.length->j+k<=l.length->(∀i,i<j->i<l.length->leQ (l.getD m z4) (l.getD i z4)) ->
  ∀i,i<j+k->leQ (l.getD (dM (fun i j=>jY ((l.map k4).getD i []) ((l.map k4).getD j [])) k j m) z4) (l.getD i z4)
 |0,j,m,hm,hj,h,i,hi=>h i hi (by omega)
 | k+1,j,m,hm,hj,h,i,hi=>by
  unfold dM;have kd:∀i,i<l.length->(l.map k4).getD i []=k4 (l.getD i z4):=fun i hi=>by
   rw[List.getD_eq_getElem?_getD,List.getD_eq_getElem?_getD,List.getElem?_map,List.getElem?_eq_getElem hi];rfl
  refine ql l k (j+1) _ ?_ (by omega) (fun i hi hl=>?_) i (by omega)
  .split<;>omega
  .simp only[kd j (by omega),kd m hm];by_cases hc:jY (k4 (l.getD j z4)) (k4 (l.getD m z4))=true
   .rw[if_pos hc];show leQ (l.getD j z4) (l.getD i z4);have hle:leQ (l.getD j z4) (l.getD m z4):=by
     rcases qd (a:=k4 (l.getD j z4)) (b:=k4 (l.getD m z4)) rfl with q | q
     .exact q
     .unfold zI at q;rw[hc] at q;cases q
    by_cases Ud:i<j
    .exact pQ (b:=k4 (l.getD m z4)) rfl rfl hle (h i Ud hl)
    .have:i=j:=by omega
     subst this;exact jC _
   .rw[if_neg hc];by_cases Ud:i<j
    .exact h i Ud hl
    .have:i=j:=by omega
     subst this;exact Bool.eq_false_iff.mpr hc
theorem Hv {l:List Q4}{q:Q4}(h:q∈l):leQ (Bo l) q:=by
 obtain⟨i,hi,rfl⟩:=List.mem_iff_getElem.mp h;have h0:0<l.length:=by omega
 have:=ql l (l.length-1) 1 0 h0 (by omega) (fun j hj hl=>by
  have:j=0:=by omega
  subst this;exact jC _) i (by omega)
 rw[List.getD_eq_getElem?_getD (l:=l) (i:=i),List.getElem?_eq_getElem hi] at this;exact this
noncomputable def iC (P:List Pe):Nat:=(P.map fun p=>eQ p.1 p.2.length).sum
noncomputable def HB (P:List Pe):List (Nat×Nat):=P.map fun p=>(p.1,p.2.length)
noncomputable def Fd:List (Nat×Nat)->List (Nat×Nat)->Bool
 |[],[]=>false
 |[],_::_=>true
 |_::_,[]=>false
 |p::a,q::b=>if p=q then Fd a b else decide (p.1<q.1\/(p.1=q.1/\p.2<q.2))
structure Cut (t:List Nat)(Q:List Pe):Prop where
 ok:∀p∈Q,Piece p
 eq:(Q.map (·.2)).flatten=t
theorem Er (k:Nat):∀{s t:List Nat},(∀c∈s,eK k c=true)->s.length<=rn k (s++t)
 |[],t,_=>dh _
 | c::s,t,h=>by
  rw[List.cons_append,jO,if_pos (h c aj),ah];exact i0 (Er k fun d hd=>h d (ai _ hd))
theorem vJ {r:List Nat}{j:Nat}(h:j<=r.length):(bc r).getD j z4=hd (r.drop j):=by
 rw[List.getD_eq_getElem?_getD,Em r j h];rfl
theorem Vv {c:Nat}{r:List Nat}{k j:Nat}(h1:1<=k)(h3:k<=3)(hj:j+1<=rn k (c::r))(h64:j+1<=64):one k (j+1) (hd ((c::r).drop (j+1)))∈qe (c::r) (bc r):=by
 have hl:=mj k (c::r);rw[ah] at hl;have hm:one k (j+1) (hd ((c::r).drop (j+1)))∈uc k (bc r) (min (rn k (c::r)) 64):=by
  unfold uc;refine List.mem_map.mpr ⟨j,List.mem_range.mpr (by omega),?_⟩;rw[vJ (by omega),jb]
 unfold qe;have:k=1\/k=2\/k=3:=by omega
 rcases this with rfl | rfl | rfl
 .exact bo _ (bo _ hm)
 .exact bo _ (ax _ hm)
 .exact ax _ hm
theorem Ho {c:Nat}{r:List Nat}(h:eK 3 c=true):∃k j,1<=k/\k<=3/\j+1<=rn k (c::r)/\j+1<=64/\hd (c::r)=one k (j+1) (hd ((c::r).drop (j+1))):=by
 have hm:=wd (zh (r:=r) (C:=bc r) h);rw[<-rz] at hm;have key:∀k,1<=k->k<=3->hd (c::r)∈uc k (bc r) (min (rn k (c::r)) 64)->∃k j,1<=k/\k<=3/\j+1<=rn k (c::r)/\j+1<=64/\hd (c::r)=one k (j+1) (hd ((c::r).drop (j+1))):=fun k h1 h3 hm=>by
  obtain⟨j,hj,e⟩:=vx hm;have hl:=mj k (c::r);rw[ah] at hl;refine⟨k,j,h1,h3,by omega,by omega,?_⟩;rw[e,vJ (by omega),jb]
 unfold qe at hm;rcases List.mem_append.mp hm with hm | hm
 .rcases List.mem_append.mp hm with hm | hm
  .exact key 1 (by decide) (by decide) hm
  .exact key 2 (by decide) (by decide) hm
 .exact key 3 (by decide) (by decide) hm
theorem qX:∀(n:Nat) (t:List Nat),Good t->t.length<=n->iC (pc n t)=(hd t).1/\(pc n t).length=(hd t).2.1
 | 0,t,_,h=>by
  have:t=[]:=List.length_eq_zero_iff.mp (by omega);subst this;exact⟨rfl,rfl⟩
 |n+1,[],_,_=>by rw[nR];exact⟨rfl,rfl⟩
 | n+1,c::r,hG,h=>by
  obtain⟨k,j,h1,h3,hj,h64,e⟩:=Ho (r:=r) (hG c aj).2;have hl:=mj k (c::r);have ih:=qX n ((c::r).drop (j+1)) (hG.drop _) (by rw[bu];rw[ah] at h ⊢;omega);rw[kG];generalize hd (c::r)=q at e ⊢;subst e;show iC ((k,(c::r).take (j+1))::pc n ((c::r).drop (j+1)))=eQ k (j+1)+_/\(((k,(c::r).take (j+1))::pc n ((c::r).drop (j+1))):List Pe).length=1+_;rw[<-ih.1,<-ih.2];constructor
  .unfold iC;rw[aw,ig];show eQ k ((c::r).take (j+1)).length+_=_;rw[bh,fk (by omega)]
  .rw[ah];omega
theorem nS:∀(n:Nat) (t:List Nat) (Q:List Pe),Good t->t.length<=n->Cut t Q->iC (pc n t)<iC Q\/(iC (pc n t)=iC Q/\((pc n t).length<Q.length\/((pc n t).length=Q.length/\Fd (HB Q) (HB (pc n t))=false)))
 | n,t,[],hG,h,hc=>by
  have:t=[]:=hc.eq.symm;subst this;rw[nR];exact .inr ⟨rfl,.inr ⟨rfl,rfl⟩⟩
 | 0,t,p::Q,hG,h,hc=>by
  have:t=[]:=List.length_eq_zero_iff.mp (by omega);subst this;have h1:=(hc.ok p aj).c1;have:=gv List.length hc.eq;rw[aw,cx,aa,bz] at this;omega
 | n+1,[],p::Q,hG,h,hc=>by
  have h1:=(hc.ok p aj).c1;have:=gv List.length hc.eq;rw[aw,cx,aa,bz] at this;omega
 | n+1,c::r,(k',s)::Q,hG,h,hc=>by
  have hp:=hc.ok (k',s) aj;have he:s++(Q.map (·.2)).flatten=c::r:=hc.eq;have hs1:1<=s.length:=hp.c1;have hs64:s.length<=64:=hp.Pa;have RB:1<=k':=hp.k1;have Qw:k'<=3:=hp.k3;have LH:s.length<=rn k' (c::r):=by rw[<-he];exact Er k' hp.all
  have hdr:(c::r).drop s.length=(Q.map (·.2)).flatten:=by rw[<-he,List.drop_left]
  have hQ:Cut ((c::r).drop s.length) Q:=⟨fun p hp=>hc.ok p (ai _ hp),hdr.symm⟩;have hlen:((c::r).drop s.length).length<=n:=by rw[bu];rw[ah] at h ⊢;omega
  have ih:=nS n _ Q (hG.drop s.length) hlen hQ;obtain⟨i1,i2⟩:=qX n _ (hG.drop s.length) hlen;have hsj:s.length-1+1=s.length:=by omega
  have Oy:=Vv (c:=c) (r:=r) (j:=s.length-1) RB Qw (by omega) (by omega);rw[hsj] at Oy;have hle:=Hv Oy;rw[<-rz,B4] at hle;obtain⟨p1,p2⟩:=qX (n+1) (c::r) hG h;have b1:iC ((k',s)::Q)=eQ k' s.length+iC Q:=by unfold iC;rw[aw,ig]
  have b2:((k',s)::Q:List Pe).length=1+Q.length:=by rw[ah];omega
  have o1:(one k' s.length (hd ((c::r).drop s.length))).1=eQ k' s.length+(hd ((c::r).drop s.length)).1:=rfl;have o2:(one k' s.length (hd ((c::r).drop s.length))).2.1=1+(hd ((c::r).drop s.length)).2.1:=rfl;have o3:(one k' s.length (hd ((c::r).drop s.length))).2.2.1=k':=rfl;have o4:(one k' s.length (hd ((c::r).drop s.length))).2.2.2=s.length:=rfl;rw[o1,o2,o3,o4] at hle;rw[b1,b2,p1,p2];by_cases e1:(hd (c::r)).1<eQ k' s.length+iC Q
  .exact .inl e1
  .refine .inr ⟨by omega,?_⟩;by_cases e2:(hd (c::r)).2.1<1+Q.length
   .exact .inl e2
   .refine .inr ⟨by omega,?_⟩;have hF:=kT (r:=r) (hG c aj).2;have Uq:(hd (c::r)).2.2.2<=(c::r).length:=bq hF.run (mj _ _);have hpr:HB (pc (n+1) (c::r))=((hd (c::r)).2.2.1,(hd (c::r)).2.2.2)::HB (pc n ((c::r).drop (hd (c::r)).2.2.2)):=by
     rw[kG];unfold HB;rw[aw];show (_,((c::r).take (hd (c::r)).2.2.2).length)::_=_;rw[bh,fk Uq]
    have hpq:HB ((k',s)::Q)=(k',s.length)::HB Q:=rfl;rw[hpr,hpq];unfold Fd;by_cases e3:(k',s.length)=((hd (c::r)).2.2.1,(hd (c::r)).2.2.2)
    .rw[if_pos e3];injection e3 with e4 e5
     rw[<-e5];rcases ih with ih | ⟨ih1,ih | ⟨ih2,ih3⟩⟩
     .omega
     .omega
     .exact ih3
    .rw[if_neg e3,decide_eq_false_iff_not];have e4:¬ (k'=(hd (c::r)).2.2.1/\s.length=(hd (c::r)).2.2.2):=fun z=>e3 (by rw[z.1,z.2])
     omega
end Pc.Ct
end
section
namespace Pc.Rd
open PySem Pc Pc.Ct Pc.Gn
theorem AN:∀G:List (Int×Nat),(pb G).length=(G.map (·.2)).sum
 |[]=>rfl
 |q::G=>by rw[kM,aa,aQ,AN G,aw,ig]
theorem qt (a:Nat):∀l:List Nat,((l.map fun _=>a)).sum=a*l.length
 |[]=>rfl
 |_::l=>by rw[aw,ig,qt a l,ah,Nat.mul_succ];omega
theorem wO:∀(m:Nat) (cs:List Nat),3*m<cs.length+3->cs.length<=3*m->((jz m cs).map (·.2)).sum=10*(cs.length / 3)+fb (cs.length%3)
 | 0,cs,_,h=>by
  obtain rfl:cs=[]:=List.length_eq_zero_iff.mp (by omega);rfl
 | m+1,cs,h1,h2=>by
  show fb (cs.take 3).length+((jz m (cs.drop 3)).map (·.2)).sum=_;rw[wO m (cs.drop 3) (by rw[bu];omega) (by rw[bu];omega),bh,bu];by_cases h:3<=cs.length
  .rw[fk h,show cs.length / 3=(cs.length-3) / 3+1 by omega,show cs.length%3=(cs.length-3)%3 by omega,show fb 3=10 from rfl];omega
  .rw[i5 (by omega),show cs.length / 3=0 by omega,show cs.length%3=cs.length by omega,show cs.length-3=0 by omega];show fb cs.length+(10*0+fb 0)=_;rw[show fb 0=0 from rfl];omega
theorem DG {p:Pe}(h1:1<=p.1)(h3:p.1<=3):(PB p).length=eQ p.1 p.2.length:=by
 obtain⟨k,cs⟩:=p;show (pb ([((k:Int),2),((cs.length:Int)-1,6)]++lW k cs)).length=_;rw[AN,dt,List.sum_append];show 2+(6+0)+((lW k cs).map (·.2)).sum=eQ k cs.length;unfold eQ lW;by_cases h:k=1
 .rw[if_pos h,if_pos h,wO (lh cs) cs (by unfold lh;omega) (by unfold lh;omega)];omega
 .rw[if_neg h,if_neg h];unfold t8;rw[df];show 8+(cs.map fun _=>2*k+1).sum=_;rw[qt];dsimp only at h1 h3;by_cases h2:k=2
  .subst h2;rfl
  .obtain rfl:k=3:=by omega
   rfl
theorem lx:∀P:List Pe,(∀p∈P,Piece p)->(fV P).length=iC P
 |[],_=>rfl
 | p::P,h=>by
  have hp:=h p aj;show (PB p++fV P).length=eQ p.1 p.2.length+iC P;rw[aa,DG hp.k1 hp.k3,lx P fun q hq=>h q (ai _ hq)]
theorem J4 {m n:Nat}(h1:1<=m)(h3:m<=3)(h:(n:Int)<=gm m):∀c∈dg m n,c∈kn 1:=by
 have key:∀d,d<10->48+d∈kn 1:=by decide +kernel
 match m,h1,h3 with
 |1,_,_ =>
  intro c hc;rw[iq.mp hc];exact key n (by unfold gm at h;simp at h;omega)
 |2,_,_ =>
  have:n<100:=by unfold gm at h;simp at h;omega
  intro c hc;rcases je.mp hc with rfl | hc
  .exact key _ (by omega)
  .rw[iq.mp hc];exact key _ (by omega)
 |3,_,_ =>
  have:n<1000:=by unfold gm at h;simp at h;omega
  intro c hc;rcases je.mp hc with rfl | hc
  .exact key _ (by omega)
  .rcases je.mp hc with rfl | hc
   .exact key _ (by omega)
   .rw[iq.mp hc];exact key _ (by omega)
variable {bs:List Int}
theorem vz (hb:Dh bs=true):∀(f p r:Nat) (a:List Nat) (w:Str×Nat),mW bs f p r (tx a)=some w->∃cs:List Nat,w.1=tx (a++cs)/\cs.length=r/\(∀c∈cs,c∈kn 1)/\w.2=p+(10*(r / 3)+fb (r%3))
 | f,p,0,a,w,h=>by
  have:mW bs f p 0 (tx a)=some (tx a,p):=by cases f<;>rfl
  rw[this] at h;cases h;exact⟨[],by rw[ay],rfl,fun _ z=>(nomatch z),rfl⟩
 |0,p,r+1,a,w,h=>by cases h
 | f+1,p,r+1,a,w,h=>by
  have h:((iB bs p (fb (ft (r+1)))).bind fun n=>if gm (ft (r+1))<n then none else mW bs f (p+fb (ft (r+1))) (r+1-ft (r+1)) (tx a++zf (ft (r+1)) n))=some w:=h;obtain⟨n0,hn,h⟩:=ag.mp h;obtain⟨_,n2,_⟩:=kK hb hn;obtain⟨n,rfl⟩:=dk n2;obtain⟨b1,b3,br⟩:=Fm (show 0<r+1 by omega);by_cases hg:gm (ft (r+1))<(n:Int)
  .rw[if_pos hg] at h;cases h
  .rw[if_neg hg,Ec b1 b3 (by omega),ko] at h;obtain⟨cs,h1,h2,h3,h4⟩:=vz hb f _ _ _ w h;refine⟨dg (ft (r+1)) n++cs,by rw[h1,av],by rw[aa,yT b1 b3,h2];omega,fun c hc=>?_,?_⟩
   .rcases List.mem_append.mp hc with hc | hc
    .exact J4 b1 b3 (by omega) c hc
    .exact h3 c hc
   .rw[h4];unfold ft at *;by_cases z:r+1<3
    .simp only[if_pos z] at *;rw[Nat.sub_self,show (r+1) / 3=0 by omega,show (r+1)%3=r+1 by omega];show p+fb (r+1)+(10*0+fb 0)=_;rw[show fb 0=0 from rfl];omega
    .simp only[if_neg z] at *;rw[show (r+1) / 3=(r+1-3) / 3+1 by omega,show (r+1)%3=(r+1-3)%3 by omega,show fb 3=10 from rfl];omega
theorem wB {k:Nat}:∀(r p:Nat) (a:List Nat) (w:Str×Nat),mO bs k r p (tx a)=some w->∃cs:List Nat,w.1=tx (a++cs)/\cs.length=r/\(∀c∈cs,c∈kn k)/\w.2=p+sb k*r
 |0,p,a,w,h=>by cases h;exact⟨[],by rw[ay],rfl,fun _ z=>(nomatch z),rfl⟩
 | r+1,p,a,w,h=>by
  have h:((iB bs p (sb k)).bind fun n=>match (kn k)[n.toNat]? with
   |some c=>mO bs k r (p+sb k) (tx a++tx [c])
   |none=>none)=some w:=h
  obtain⟨n,hn,h⟩:=ag.mp h;cases hx:(kn k)[n.toNat]? with
  |none=>rw[hx] at h;cases h
  |some c =>
   rw[hx] at h;dsimp only at h;rw[ko] at h;obtain⟨cs,h1,h2,h3,h4⟩:=wB r _ _ w h;refine⟨c::cs,by rw[h1,av];rfl,by rw[ah,h2],fun d hd=>?_,by rw[h4,Nat.mul_succ];omega⟩;rcases je.mp hd with rfl | hd
   .exact List.mem_of_getElem? hx
   .exact h3 d hd
theorem wx (hb:Dh bs=true):∀(f k p:Nat) (P0:List Pe) (w:List (Nat×Str)×Nat),k<4->p<=bs.length->(∀q∈P0,Piece q)->p=iC P0+2->rV bs f k p (P0.map pT)=some w->∃P:List Pe,w.1=P.map pT/\(∀q∈P,Piece q)/\w.2=iC P+2/\w.2<=bs.length
 | f,0,p,P0,w,_,hp,hP,he,h=>by
  have:rV bs f 0 p (P0.map pT)=some (P0.map pT,p):=by cases f<;>rfl
  rw[this] at h;cases h;exact⟨P0,rfl,hP,he,hp⟩
 |0,k+1,p,P0,w,_,_,_,_,h=>by cases h
 | f+1,k+1,p,P0,w,hk,hp,hP,he,h=>by
  have h:((iB bs p 6).bind fun c=>(if k=0 then mW bs (c.toNat+1) (p+6) (c.toNat+1) (tx []) else mO bs (k+1) (c.toNat+1) (p+6) (tx [])).bind fun q =>
   (iB bs q.2 2).bind fun k'=>rV bs f k'.toNat (q.2+2) (P0.map pT ++ [(k+1,q.1)]))=some w:=h
  obtain⟨c0,hn,h⟩:=ag.mp h;obtain⟨_,c2,c3⟩:=kK hb hn;obtain⟨c,rfl⟩:=dk c2;rw[cj] at h;obtain⟨q,hq,h⟩:=ag.mp h;obtain⟨k',Nv,h⟩:=ag.mp h;obtain⟨d1,d2,d3⟩:=kK hb Nv;have inv:∃cs:List Nat,q.1=tx cs/\cs.length=c+1/\(∀x∈cs,x∈kn (k+1))/\q.2+2=p+eQ (k+1) (c+1):=by
   by_cases hz:k=0
   .subst hz;rw[if_pos rfl] at hq;obtain⟨cs,h1,h2,h3,h4⟩:=vz hb _ _ _ [] q hq;refine⟨cs,h1,h2,h3,?_⟩;rw[h4];unfold eQ;rw[if_pos rfl];omega
   .rw[if_neg hz] at hq;obtain⟨cs,h1,h2,h3,h4⟩:=wB (k:=k+1) _ _ [] q hq;refine⟨cs,h1,h2,h3,?_⟩;rw[h4];unfold eQ sb;have:k=1\/k=2:=by omega
    rcases this with rfl | rfl
    .show p+6+5*(c+1)+2=p+(8+5*(c+1));omega
    .show p+6+7*(c+1)+2=p+(8+7*(c+1));omega
  obtain⟨cs,i1,i2,i3,i4⟩:=inv;have hpc:Piece (k+1,cs):=⟨i0 (dh _),by show k+1<=3;omega,by show 1<=cs.length;omega,by show cs.length<=64;omega,fun x hx=>by
   unfold eK;exact List.contains_iff_mem.mpr (i3 x hx)⟩
  have O5:iC (P0 ++ [(k+1,cs)])=iC P0+eQ (k+1) (c+1):=by
   unfold iC;rw[dt,List.sum_append];show _+(eQ (k+1) cs.length+0)=_;rw[i2];rfl
  rw[show P0.map pT ++ [(k+1,q.1)]=(P0 ++ [(k+1,cs)]).map pT by rw[dt,i1];rfl] at h;exact wx hb f k'.toNat (q.2+2) (P0 ++ [(k+1,cs)]) w (by omega) d1 (fun x hx=>by
   rcases List.mem_append.mp hx with hx | hx
   .exact hP x hx
   .rw[iq.mp hx];exact hpc) (by rw[O5,i4,he];omega) h
variable {w:List (Nat×Str)×Nat}
theorem DF (hb:Dh bs=true)(h:DO bs=some w):∃P:List Pe,w.1=P.map pT/\(∀q∈P,Piece q)/\w.2=iC P+2/\w.2<=bs.length:=by
 obtain⟨k,hk,h⟩:=ag.mp h;obtain⟨d1,d2,d3⟩:=kK hb hk;exact wx hb bs.length k.toNat 2 [] w (by omega) d1 (fun _ z=>(nomatch z)) rfl h
noncomputable def dZ (l:List Int):Bool:=l.all fun g=>decide (0<=g/\g<64)
noncomputable def bG (l:List Int):List Int:=(l.map fun g=>aP g 6).flatten
theorem va:∀l:List Int,(bG l).length=6*l.length
 |[]=>rfl
 | g::l=>by
  show (aP g 6++bG l).length=_;rw[aa,aQ,va l,ah];omega
theorem Et (l:List Int):Dh (bG l)=true:=by
 unfold Dh;rw[cv];intro b hb;obtain⟨r,hr,hb⟩:=List.mem_flatten.mp hb;obtain⟨g,_,rfl⟩:=List.mem_map.mp hr;exact bp (lu g 6 b hb)
noncomputable def jn (Q:List (Nat×Str)):List Nat:=(Q.map fun q=>q.2.cps.toList).flatten
theorem vG (P:List Pe):jn (P.map pT)=(P.map (·.2)).flatten:=by
 unfold jn;rw[df];rfl
noncomputable def yl (l:List Int):Option (List Nat):=(DO (bG l)).bind fun w=>if (tg (jn w.1)).length<=l.length/\tg (jn w.1)++j6 (l.length-(tg (jn w.1)).length)=l then some (jn w.1) else none
theorem Dc {k c:Nat}(h1:1<=k)(h3:k<=3):10*c<=3*eQ k c:=by
 unfold eQ;have:k=1\/k=2\/k=3:=by omega
 rcases this with rfl | rfl | rfl
 .rw[if_pos rfl];omega
 .rw[if_neg (by decide),if_pos rfl];omega
 .rw[if_neg (by decide),if_neg (by decide)];omega
theorem y3:∀P:List Pe,(∀p∈P,Piece p)->10*((P.map (·.2)).flatten).length<=3*iC P
 |[],_=>au _
 | p::P,h=>by
  have hp:=h p aj;have:=y3 P fun q hq=>h q (ai _ hq)
  have h2:=Dc (c:=p.2.length) hp.k1 hp.k3;show 10*(p.2++(P.map (·.2)).flatten).length<=3*(eQ p.1 p.2.length+iC P);rw[aa];omega
theorem CD {P:List Pe}(h:∀p∈P,Piece p):Good ((P.map (·.2)).flatten):=by
 intro c hc;obtain⟨s,hs,hc⟩:=List.mem_flatten.mp hc;obtain⟨p,hp,rfl⟩:=List.mem_map.mp hs;have:=h p hp;exact vE this.k3 (fun d hd=>nF (this.all d hd)) c hc
theorem pO {l:List Int}(hl:l.length<=133)(h:DO (bG l)=some w):Good (jn w.1)/\(jn w.1).length<=260/\(tg (jn w.1)).length<=l.length/\∃P:List Pe,w.1=P.map pT/\(∀q∈P,Piece q):=by
 obtain⟨P,h1,h2,h3,h4⟩:=DF (Et l) h;rw[va] at h4;have hG:=CD h2;have hb:=y3 P h2;rw[h1,vG];generalize ht:(P.map (·.2)).flatten=t at *;have hc:Cut t P:=⟨h2,ht⟩;have hle:iC (pc t.length t)<=iC P:=by
  rcases nS t.length t P hG (au _) hc with z | ⟨z,_⟩
  .omega
  .omega
 have W4:(tb t).length=iC (pc t.length t)+2:=by
  unfold tb;rw[aa,lx _ (gF _ _ hG)];rfl
 refine⟨hG,by omega,?_,P,rfl,h2⟩;rw[(qO hG).2.2,W4];omega
noncomputable def fJ (l:List Int):D:=match yl l with
 |some t=>.str (tx t)
 |none=>.tup [.bl true,.bl true,.bl false]
noncomputable def gR:List D->Option D
 |[.lst xs]=>match iL xs with
  |some l=>if dZ l&&decide (l.length<=133) then some (fJ l) else none
  |none=>none
 |_=>none
end Pc.Rd
end
section
namespace K09
open PySem PySem.Spec PyProof.Rows L2 Pc Pc.Ct Pc.Gn Pc.Rd
noncomputable def stM (i:Nat):Stmt:=match st 27 with
 |.ClassDef _ _ _ b ..=>b.getD i (.Pass ⟨0,0,0,0⟩)
 |s=>s
variable {A:Around}{C a f fI fN l r:Addr}{H':Hp}{Q0:VK}{acc:Str}{b c k n:Nat}{ds:List (Option D)}{fd MR MB:FuncData}{o:HO}{vs:List V}
section
variable {P:Program}{w:World}{K:Frag}{mg:Str->Option Value}{base:Heap}
structure iA (a b:Nat)(A:Around):Prop where
 hd:A.handled=none
 dp:A.depth+a<recursionLimit
 un:A.units+b<cLine
theorem iA.deeper {a b:Nat}(r:iA (a+1) (b+3) A)(env:Env):iA a b (A.deeper env) :=
 ⟨r.hd,by have:=r.dp;show A.depth+1+a<_;omega,by have:=r.un;show A.units+3+b<_;omega⟩
theorem iA.mono {a a' b':Nat}(r:iA a b A)(h:a'<=a)(h':b'<=b):iA a' b' A:=⟨r.hd,by have:=r.dp;omega,by have:=r.un;omega⟩
theorem iA.room (r:iA (3*n+5) (16*n+200) A):gM n A:=⟨r.hd,by have:=r.dp;omega,by have:=r.un;omega⟩
theorem iA.ok {a b:Nat}(r:iA a b A):A.handled=none/\A.depth<recursionLimit:=⟨r.hd,by have:=r.dp;omega⟩
structure Fz (K:Frag)(mg:Str->Option Value)(C fI fN:Addr)(MR MB:FuncData)(cT:Addr):Prop where
 cl:L2.Ab K C
 n1:hZ K C "bits"
 n2:hZ K C "place"
 mc:Mk K C fI
 mt:F6 K C "read_number" fN
 mC:mg "BitReader" = some (.ref C)
 FI:L2.lI K "__init__" "BitReader.__init__" (stM 0) fI MR
 FN:L2.lI K "read_number" "BitReader.read_number" (stM 1) fN MB
 bI:Binds K MR ["self","bits"] []
 bN:Binds K MB ["self","count"] []
 mT:mg "NoText" = some (.ref cT)
 qT:nr K cT=true
def At (H:Hp)(C a l:Addr)(bs:List Int)(p:Nat):Prop:=∃dx,H a=some (.ins C dx [("bits",.ref l),("place",.int (p:Int))])/\Rd H l (.lst (bs.map .int))
def Kept (a:Addr)(H H':Hp):Prop:=∀b o,b≠a->H b=some o->H' b=some o
theorem Kept.refl {H:Hp}:Kept a H H:=fun _ _ _ h=>h
theorem Kept.trans {H X2:Hp}(x:Kept a H H')(y:Kept a H' X2):Kept a H X2:=fun b o n h=>y b o n (x b o n h)
theorem Kept.same {H:Hp}(x:aH H H'):Kept a H H':=fun b o _ h=>x b o h
theorem Kept.rd {b:Addr}{H:Hp}(x:Kept a H H')(n:b≠a)(h:Rd H b o):Rd H' b o:=by
 rcases h with h | ⟨u,h⟩
 .exact .inl (x _ _ n h)
 .exact .inr ⟨u,x _ _ n h⟩
theorem At.ne {H:Hp}{bs:List Int}{p:Nat}(h:At H C a l bs p):l≠a:=by
 obtain⟨dx,h1,h2⟩:=h;intro z;subst z;rcases h2 with h2 | ⟨u,h2⟩<;>(rw[h1] at h2;cases h2)
theorem At.same {H:Hp}{bs:List Int}{p:Nat}(h:At H C a l bs p)(s:aH H H'):At H' C a l bs p:=by
 obtain⟨dx,h1,h2⟩:=h;exact⟨dx,s _ _ h1,aH.rd s h2⟩
def Wy (C:Addr):Sp:=fun vs H Q E=>∃a dx v,vs=[.ref a,v]/\H a=some (.ins C dx [])/\Q .LC (upd (upd H a (.ins C dx [("bits",v)])) a (.ins C dx [("bits",v),("place",.int 0)]))
theorem CS {cT:Addr}(k:Fz K mg C fI fN MR MB cT)(S:cL ["self","bits"] ["self","bits"] (aG (stM 0))):cV P w K mg base (l7 P w) (iA 1 3) fI MR ["self","bits"] (Wy C):=by
 refine kj k.FI S (fun A r=>r.ok) (fun vs H Q E ⟨a,dx,v,e,_⟩=>by rw[e];rfl) fun LD A outer s H vs Q E hr hs=>?_
 obtain⟨a,dx,v,rfl,hH,q⟩:=hs;refine⟨_,aT (uX (pv 0) (pv 1) rfl) (cU (uX (pv 0) lZ rfl)),?_⟩;refine⟨v,rfl,.ref a,rfl,a,C,dx,[],rfl,hH,k.cl,k.n1,by decide,.ref a,rfl,a,C,dx,_,rfl,aM,k.cl,k.n2,(show (1:Nat)<1000 by decide),?_⟩;exact q
def Q8 (C cT:Addr):Sp:=fun vs H Q E=>∃a l bs p c,vs=[.ref a,.int ((c:Nat):Int)]/\At H C a l bs p/\bs.length<=10000/\match iB bs p c with
 |some n=>∀H',Kept a H H'->At H' C a l bs (p+c)->Q (.int n) H'
 |none=>∀H',Kept a H H'->E (.ref cT) none H'
theorem Dd (bs:List Int)(p c:Nat)(h:p+c<=bs.length):r9 (bs.map V.int) (some (p:Int)) (some ((p:Int)+(c:Int)))=(((bs.drop p).take c).map V.int):=by
 have e1:HT.eF (bs.map V.int).length 0 (some (p:Int))=p:=by
  rw[HT.jP,ak];omega
 have e2:HT.eF (bs.map V.int).length (bs.map V.int).length (some ((p:Int)+(c:Int)))=p+c:=by
  rw[show (p:Int)+(c:Int)=((p+c:Nat):Int) from by omega,HT.jP,ak];omega
 unfold r9;rw[e1,e2,Nat.add_sub_cancel_left,jf,List.map_drop]
theorem EL {cT:Addr}{n:Nat}{r:List D->Rs (D×Bool)}(k:Fz K mg C fI fN MR MB cT)(S:cL ["self","count","end","number"] ["self","count"] (aG (stM 1)))
  (F:lr P w K mg base xW n f fd ["bits"] (zy K 1 r)) (kp:PySem.W.keepIn K (.ref f)=true) (B:Binds K fd ["bits"] []) (hm:mg "number_of" = some (.ref f)) (hr:∀l:List Int,r [.lst (l.map .int)]=.ok (.int (num l),true)) (hl:mg "len" = none) :
  cV P w K mg base (l7 P w) (iA (3*n+6) (16*n+203)) fN MB ["self","count"] (Q8 C cT):=by
 refine kj k.FN S (fun A r=>r.ok) (fun vs H Q E ⟨a,l,bs,p,c,e,_⟩=>by rw[e];rfl) fun LD A outer s H vs Q E Mx hs=>?_
 obtain⟨a,l,bs,p,c,rfl,⟨dx,h1,h2⟩,N0,q⟩:=hs;have FG:cV P w K mg base xW (gM n) f fd ["bits"] (zy K 1 r):=⟨F.len,F.run⟩;refine⟨_,aT (cG (i:=2) S.nd rfl (.inl rfl) (ua uJ (nE (pv 0) rfl) (pv 1))) (aT (tB (wG D3 (pv 2) (iE iY rfl hl PySem.boot_len (aL (nE (pv 0) rfl) bB)) rfl)
  (cU (lA (C:=cT) (W:=fun H'=>E (.ref cT) none H') rfl rfl k.mT (jW k.qT) gy (aL jA bB) (fun pins σ H1 s1 h' a us hW I hx=>gP I hx hW) (fun σ H Q h=>⟨(show (1:Nat)<=sizeLine by decide),h⟩) rfl rfl rfl)) lE)
  (aT (cG (i:=3) S.nd rfl (.inl rfl) (kU (E:=E0) FG (iA.room (Mx.deeper _)) rfl hm kp B Ag (aL (sk wU (nE (pv 0) rfl) (rF (nE (pv 0) rfl)) (rF (pv 2))) bB)))
  (aT (uX (pv 0) (pv 2) rfl) (cU (km (pv 3)))))),?_⟩
 refine⟨.ref a,rfl,a,C,dx,_,.int p,rfl,h1,k.cl,k.n2,rfl,.int c,rfl,p,c,rfl,rfl,?_⟩;refine⟨.int ((p:Int)+(c:Int)),rfl,.ref a,rfl,a,C,dx,_,.ref l,rfl,h1,k.cl,k.n1,rfl,l,_,rfl,.inl (.inl h2),_,_,rfl,rfl,_,rfl,?_⟩;rw[ak];by_cases hc:p+c<=bs.length
 .have e:iB bs p c=some (num ((bs.drop p).take c)):=if_pos hc;rw[e] at q;rw[ba (by omega)];show if false=true then _ else _
  rw[if_neg bj];refine⟨.ref a,rfl,a,C,dx,_,.ref l,rfl,h1,k.cl,k.n1,rfl,.ref a,rfl,a,C,dx,_,.int p,rfl,h1,k.cl,k.n2,rfl,p,rfl,.int ((p:Int)+(c:Int)),rfl,_,rfl,l,_,rfl,.inl h2,fun b hb=>?_⟩;rw[Dd bs p c hc];refine⟨[.lst (((bs.drop p).take c).map .int)],_,rfl,.cons (.lst (.inl aM) (jV _)) .nil,_,hr _,fun v H' G' sm rp _ _=>?_⟩;obtain⟨rfl,_⟩:=rp.int_inv;have SA:aH H H':=(aH.new hb).trans sm;refine⟨.int ((p:Int)+(c:Int)),rfl,.ref a,rfl,a,C,dx,_,rfl,SA _ _ h1,k.cl,k.n2,(show (2:Nat)<1000 by decide),.int _,rfl,?_⟩;refine q _ (fun b o hn Mn=>?_) ⟨dx,?_,?_⟩
  .rw[aO hn];exact SA _ _ Mn
  .exact aM
  .have hn:=At.ne ⟨dx,h1,h2⟩;exact Kept.rd (fun b o Mn h'=>by rw[aO Mn];exact h') hn (aH.rd SA h2)
 .have e:iB bs p c=none:=if_neg hc;rw[e] at q;rw[bp (by omega)];show if true=true then _ else _
  rw[if_pos rfl];exact q H Kept.refl
inductive FR (K:Frag):List (Option D)->L2.St->Prop where
 | nil:FR K [] []
 | skip {o:Option V}{r:List (Option D)}{s:L2.St}(h:FR K r s):FR K (none::r) (o::s)
 | val {d:D}{v:V}{r:List (Option D)}{s:L2.St}(hd:∀H,Rep K H d v []) (h:FR K r s):FR K (some d::r) (some v::s)
noncomputable def mJ (ds:List (Option D)):En:=ds.map fun o=>o.map fun d=>(d,Tg.own)
theorem FR.len {σ:L2.St}(h:FR K ds σ):ds.length=σ.length:=by
 induction h with
 |nil=>rfl
 |skip _ ih=>rw[ah,ah,ih]
 |val _ _ ih=>rw[ah,ah,ih]
theorem FR.get {σ:L2.St}(h:FR K ds σ)(H:Hp):∀(i:Nat) (d:D) (t:Tg),(mJ ds)[i]? = some (some (d,t))->∃v,σ[i]? = some (some v)/\Rep K H d v []:=by
 induction h with
 |nil=>intro i d t e;cases e
 |skip _ ih=>intro i d t e;cases i with
  |zero=>cases e
  |succ i=>exact ih i d t e
 |val hd _ ih=>intro i d t e;cases i with
  |zero=>cases e;exact⟨_,rfl,hd H⟩
  |succ i=>exact ih i d t e
theorem FR.re {σ:L2.St}(h:FR K ds σ)(H:Hp):RE K (fun _=>False) (mJ ds) σ H (fun _=>[]) where
 len:=by unfold mJ;rw[ak,h.len]
 val:=h.get H
 M6:=fun _ _=>rfl
 one:=fun _ _ _ _ _=>⟨cu,fun _ z=>(nomatch z),fun _ z=>(nomatch z)⟩
 wr:=fun _ _ _ _ z=>(nomatch z)
 pl:=fun _ z=>z.elim
theorem jS {T:Tb}{c:Ex}{σ:L2.St}{H:Hp}{Q:VK}{n:Int}{r:Rt}(fr:FR K ds σ)(h:ev T c (mJ ds)=.ok (.int n,r))(k:∀H',aH H H'->Q (.int n) H'):tE K T c σ H Q :=
 ⟨_,_,_,fr.re H,_,h,fun v H' G s rp _=>by obtain⟨rfl,_⟩:=rp.int_inv;exact k H' s⟩
theorem DB {T:Tb}{c:Ex}{σ:L2.St}{H:Hp}{Q:VK}{n:Str}{r:Rt}(fr:FR K ds σ)(h:ev T c (mJ ds)=.ok (.str n,r))(k:∀H',aH H H'->Q (.str n) H'):tE K T c σ H Q :=
 ⟨_,_,_,fr.re H,_,h,fun v H' G s rp _=>by obtain⟨rfl,_⟩:=rp.str_inv;exact k H' s⟩
theorem mf {T:Tb}{c:Ex}{σ:L2.St}{H:Hp}{Q:Bool->Hp->Prop}{b:Bool}{r:Rt}(fr:FR K ds σ)(h:ev T c (mJ ds)=.ok (.bl b,r))(k:∀H',aH H H'->Q b H'):m5 K T c σ H Q :=
 ⟨_,_,_,fr.re H,_,b,h,rfl,k⟩
noncomputable def VJ:Ex:=.cmp .Lt (Ly Lg) Lf
noncomputable def VI:Ex:=.blt .min2 (Lu Lp (.bin .Sub Lf (Ly Lg)))
noncomputable def VH:Ex:=.ix Lo Lk
noncomputable def VG:Ex:=.cmp .Gt Li (.ix (.LX 13) Lk)
noncomputable def G3:Nat->D
 |0=>.int 1
 |1=>.int 2
 |2=>.int 3
 |3=>.tup [.str (tx []),.str (KS 1),.str (KS 2),.str (KS 3)]
 |4=>.tup [.int 0,.int 0,.int 5,.int 7]
 |5=>.int 2
 |6=>.int 6
 |7=>.int 64
 |8=>.tup [.int 0,.int 4,.int 7,.int 10]
 |9=>.int 3
 |10=>.int 0
 |11=>.int 6
 |12=>.tup [.int 42,.int 21]
 |13=>.tup [.int 0,.int 9,.int 99,.int 999]
 |_=>.LC
def wb (T:Tb):Prop:=∀i,i<14->T.gl i=G3 i
noncomputable def Br:List Str:=["FIGURES","CAPITALS","ANY","KIND_SIGNS","SIGN_BITS","KIND_BITS","COUNT_BITS","MOST_SIGNS","FIGURE_BITS","MOST_FIGURES","END","GRAIN_BITS","FILLING","FIGURE_GREATEST"]
noncomputable def Cq:List Str:=["piece_length","cut_text","refuse_strange_signs","best_cuts","cuts_of_kind","_law_mix","_law_signs","_law_run","_law_text","bits_of","number_of","piece_bits","figures_bits","signs_bits","text_grains","bare_grains","grains_of_bits","filled_grains","bits_of_grains","read_pieces","_law_any_cut","_law_cut_grains","_law_read","_law_right","law"]
noncomputable def wj:List Str:=["range","len","isinstance","int","bool","list","min","str","enumerate","tuple","all","sum","ValueError"]
noncomputable def scF:Sc:=⟨["reader","count","signs","together","number"],aG (st 33),Cq,Br,wj⟩
def Q9 (C cT:Addr)(out:List Int->Nat->Nat->Option (Str×Nat)):List V->Hp->VK->XK->Addr->Nat->Prop:=fun vs H Q E a c=>∃l bs p,At H C a l bs p/\bs.length<=10000/\Dh bs=true/\c<=64/\match out bs p c with
 |some q=>∀H',Kept a H H'->At H' C a l bs q.2->Q (.str q.1) H'
 |none=>∀H',Kept a H H'->E (.ref cT) none H'
def Dj (C cT:Addr):Sp:=fun vs H Q E=>∃a c,vs=[.ref a,.int ((c:Nat):Int)]/\Q9 C cT (fun bs p c=>mW bs c p c (tx [])) vs H Q E a c
theorem Hr {T:Tb}{o3 o4:Option D}(h:acc.length<=lim):ev T VJ (mJ [none,some (.int (c:Int)),some (.str acc),o3,o4])=.ok (.bl (decide ((acc.length:Int)<(c:Int))),.mv []):=by
 have e:ev T (Ly Lg) (mJ [none,some (.int (c:Int)),some (.str acc),o3,o4])=.ok (.int (acc.length:Int),.mv []):=by
  have h2:iH .len [.str acc]=some (.int (acc.length:Int)):=if_pos h;unfold ev aY;show ((Rs.ok [(D.str acc,Rt.mv [])]).bind fun l=>(eW (iH .len (l.map (·.1)))).bind fun d=>.ok (d,eT d (aZ (l.map (·.2)))))=_;show ((eW (iH .len [.str acc])).bind fun d=>.ok (d,eT d _))=_;rw[h2];rfl
 unfold VJ ev;rw[e];rfl
theorem Ew {T:Tb}(hg:wb T){r:Nat}{o3 o4:Option D}(h:acc.length<=lim)(hr:acc.length+r=c):ev T VI (mJ [none,some (.int (c:Int)),some (.str acc),o3,o4])=.ok (.int (ft r:Nat),.mv []):=by
 have e:ev T (Ly Lg) (mJ [none,some (.int (c:Int)),some (.str acc),o3,o4])=.ok (.int (acc.length:Int),.mv []):=by
  have h2:iH .len [.str acc]=some (.int (acc.length:Int)):=if_pos h;unfold ev aY;show ((eW (iH .len [.str acc])).bind fun d=>.ok (d,eT d _))=_;rw[h2];rfl
 have e2:ev T (.bin .Sub Lf (Ly Lg)) (mJ [none,some (.int (c:Int)),some (.str acc),o3,o4])=.ok (.int (r:Int),.mv []):=by
  unfold ev;rw[e];show Rs.ok (D.int ((c:Int)-(acc.length:Int)),_)=_;rw[show (c:Int)-(acc.length:Int)=(r:Int) from by omega];rfl
 have e3:ev T Lp (mJ [none,some (.int (c:Int)),some (.str acc),o3,o4])=.ok (.int 3,.mv []):=by
  unfold ev;rw[hg 9 (by decide)];rfl
 have e4:uA [.int 3,.int (r:Int)]=some (.int (ft r:Nat)):=by
  show some (D.int (if (r:Int)<3 then (r:Int) else 3))=_;unfold ft;by_cases z:r<3
  .rw[if_pos (by omega),if_pos z]
  .rw[if_neg (by omega),if_neg z];rfl
 unfold VI;rw[ev,aY,e3,aA,aY,e2,aA,aY,aA,aA,aA];show ((eW (uA [.int 3,.int (r:Int)])).bind fun d=>.ok (d,eT d _))=_;rw[e4];rfl
theorem Gc {T:Tb}(hg:wb T){o4:Option D}:∀{m:Nat},1<=m->m<=3->ev T VH (mJ [none,some (.int (c:Int)),some (.str acc),some (.int (m:Int)),o4])=.ok (.int (fb m:Nat),.mv []):=by
 intro m h1 h3;unfold VH ev;rw[show ev T Lo _=Rs.ok (T.gl 8,Rt.mv []) from by unfold ev;rw[hg 8 (by decide)],hg 8 (by decide)]
 match m,h1,h3 with
 |1,_,_=>rfl
 |2,_,_=>rfl
 |3,_,_=>rfl
theorem Hi {T:Tb}(hg:wb T){n:Int}:∀{m:Nat},1<=m->m<=3->ev T VG (mJ [none,some (.int (c:Int)),some (.str acc),some (.int (m:Int)),some (.int n)])=.ok (.bl (decide (gm m<n)),.mv []):=by
 intro m h1 h3;have e:ev T (.ix (.LX 13) Lk) (mJ [none,some (.int (c:Int)),some (.str acc),some (.int (m:Int)),some (.int n)])=.ok (.int (gm m),.mv []):=by
  unfold ev;rw[show ev T (.LX 13) _=Rs.ok (T.gl 13,Rt.mv []) from by unfold ev;rw[hg 13 (by decide)],hg 13 (by decide)]
  match m,h1,h3 with
  |1,_,_=>rfl
  |2,_,_=>rfl
  |3,_,_=>rfl
 unfold VG ev;rw[e];rfl
theorem By {cT:Addr}{a:Nat}{T:Tb}(k:Fz K mg C fI fN MR MB cT)(F:L2.lI K "read_figures" "read_figures" (st 33) f fd) (S:cL ["reader","count","signs","together","number"] ["reader","count"] (aG (st 33)))
  (FN:cV P w K mg base (l7 P w) (iA a b) fN MB ["self","count"] (Q8 C cT)) (hC:∀LD A outer s H E,iA (a+1) (b+3) A->nz (fH (l7 P w) P w K mg base ["reader","count","signs","together","number"] "read_figures" (aG (st 33)) f LD A outer s H E).L1 scF T) (hg:wb T) (hs:mg "str" = none) :
  cV P w K mg base (l7 P w) (iA (a+1) (b+3)) f fd ["reader","count"] (Dj C cT):=by
 refine kj F S (fun A r=>r.ok) (fun vs H Q E ⟨a,c,e,_⟩=>by rw[e];rfl) fun LD A outer s H vs Q E Mx Mw=>?_
 obtain⟨r,c,rfl,l,bs,p,MQ,N0,NR,hc,q⟩:=Mw;dsimp only at q;have Cx:=hC LD A outer s H E Mx;refine⟨_,aT (cG (i:=2) S.nd rfl (.inl rfl) jA) (aT (lj PassesOwn.leaving (PT.L1 (bY 60 Cx.c _ VJ (by kernel_rfl)).2)
  (aT (cG (i:=3) S.nd rfl (.inl rfl) (PE.L1 (bY 60 Cx.c _ VI (by kernel_rfl)).1))
  (aT (cG (i:=4) S.nd rfl (.inl rfl) (jL (E:=fun C _ H'=>E C none H') (pv 0) k.cl k.mt FN (Mx.deeper _) k.bN eO (aL (PE.L1 (bY 60 Cx.c _ VH (by kernel_rfl)).1) bB)))
  (aT (tB (PT.L1 (bY 60 Cx.c _ VG (by kernel_rfl)).2)
   (cU (lA (C:=cT) (W:=fun H'=>E (.ref cT) none H') rfl rfl k.mT (jW k.qT) gy (aL jA bB) (fun pins σ H1 s1 h' a us hW I hx=>gP I hx hW) (fun σ H Q h=>⟨(show (1:Nat)<=sizeLine by decide),h⟩) rfl rfl rfl)) lE)
  (cU (cG (i:=2) S.nd rfl (.inl rfl) (ua nH (pv 2) (qA jj PySem.F.slot_str_zfill PySem.F.type_str_zfill AK (pM uN rfl hs rfl (aL (pv 4) bB)) (aL (pv 3) bB)))))))))
  (cU (km (pv 2)))),?_⟩
 have Mm:∀{s:Str},s.length<=c->s.length<=lim:=fun h=>bq (bq h hc) (by decide)
 refine⟨fun m σ H'=>∃acc p' o3 o4,σ=[some (.ref r),some (.int ((c:Nat):Int)),some (.str acc),o3,o4]/\Kept r H H'/\At H' C r l bs p'/\acc.length+m=c/\∃f,m<=f/\mW bs f p' m acc=mW bs c p c (tx []),⟨c,_,p,_,_,rfl,Kept.refl,MQ,fv _,c,au _,rfl⟩,?_⟩;rintro m σ H1 ⟨acc,p',o3,o4,rfl,kp,Mo,hm,f,hf,NI⟩;rw[<-NI] at q;refine mf (.skip (.val (fun H=>.int _) (.val (fun H=>.str _) (.skip (.skip .nil))))) (Hr (o3:=none) (o4:=none) (Mm (by omega))) fun H2 s2=>?_
 cases m with
 |zero =>
  rw[ba (by omega)];show if false=true then _ else _
  rw[if_neg bj];have e:mW bs f p' 0 acc=some (acc,p'):=by cases f<;>rfl
  rw[e] at q;exact⟨.str acc,rfl,q H2 (kp.trans (Kept.same s2)) (Mo.same s2)⟩
 |succ m =>
  rw[bp (by omega)];show if true=true then _ else _
  rw[if_pos rfl];obtain⟨b1,b3,br⟩:=Fm (show 0<m+1 from Nat.succ_pos m);refine⟨_,fun σ' H' h=>h,?_⟩;refine jS (.skip (.val (fun H=>.int _) (.val (fun H=>.str _) (.skip (.skip .nil))))) (Ew hg (o3:=none) (o4:=none) (r:=m+1) (Mm (by omega)) (by omega)) fun H3 s3=>?_
  have Pb:=(Mo.same s2).same s3;obtain⟨dx,hx,_⟩:=Pb;refine⟨.ref r,rfl,r,dx,_,rfl,hx,rfl,?_⟩;refine jS (.skip (.val (fun H=>.int _) (.val (fun H=>.str _) (.val (fun H=>.int _) (.skip .nil))))) (Gc hg (o4:=none) b1 b3) fun H4 s4=>?_
  have k4:Kept r H H4:=kp.trans (Kept.same ((s2.trans s3).trans s4));refine⟨r,l,bs,p',fb (ft (m+1)),rfl,Mo.same ((s2.trans s3).trans s4),N0,?_⟩;cases f with
  |zero=>omega
  |succ f =>
  have er:mW bs (f+1) p' (m+1) acc=(iB bs p' (fb (ft (m+1)))).bind fun n=>if gm (ft (m+1))<n then none else mW bs f (p'+fb (ft (m+1))) (m+1-ft (m+1)) (acc++zf (ft (m+1)) n):=rfl
  cases hn:iB bs p' (fb (ft (m+1))) with
  |none =>
   rw[er,hn] at q;exact fun H5 k5=>q H5 (k4.trans k5)
  |some n =>
   obtain⟨n1,n2,n3⟩:=kK NR hn;intro H5 k5 V9;have M5:mW bs (f+1) p' (m+1) acc=if gm (ft (m+1))<n then none else mW bs f (p'+fb (ft (m+1))) (m+1-ft (m+1)) (acc++zf (ft (m+1)) n):=by rw[er,hn];rfl
   refine mf (.skip (.val (fun H=>.int _) (.val (fun H=>.str _) (.val (fun H=>.int _) (.val (fun H=>.int _) .nil))))) (Hi hg b1 b3) fun H6 s6=>?_
   have k6:Kept r H H6:=(k4.trans k5).trans (Kept.same s6);by_cases RF:gm (ft (m+1))<n
   .rw[M5,if_pos RF] at q;rw[bp RF];show if true=true then _ else _
    rw[if_pos rfl];exact q H6 k6
   .rw[ba RF];show if false=true then _ else _
    rw[if_neg bj];have hz:=GW b1 b3 n2 (by omega:n<=gm (ft (m+1)));have hgm:gm (ft (m+1))<=999:=by unfold gm;split<;>(try split)<;>(try split)<;>omega
    have T8:(acc++zf (ft (m+1)) n).length=acc.length+ft (m+1):=by have:=Str.length_append acc (zf (ft (m+1)) n);rw[hz] at this;exact this
    refine⟨.str acc,rfl,.int n,rfl,n,rfl,by omega,rfl,.int _,rfl,_,_,rfl,rfl,?_,_,_,rfl,rfl,?_,?_⟩
    .have:∀j:Nat,j<=3->PadOk (j:Int)=true:=by decide +kernel
     exact this _ b3
    .have:(Txt.zfill (Str.ofString (toString n)) ((ft (m+1):Nat):Int)).length=ft (m+1):=hz;rw[this,sizeLine_eq];omega
    .refine⟨m+1-ft (m+1),by omega,acc++zf (ft (m+1)) n,p'+fb (ft (m+1)),_,_,rfl,k6,V9.same s6,by rw[T8];omega,f,by omega,?_⟩;rw[<-NI,M5,if_neg RF]
noncomputable def VA:Ex:=.cmp .Lt (Ly Lk) Lg
noncomputable def Vz:Ex:=.ix Lq Lf
noncomputable def Vy:Ex:=.cmp .GtE Li (Ly (.ix Lr Lf))
noncomputable def Vx:Ex:=.bin .Add Lk (.ix (.ix Lr Lf) Li)
noncomputable def scS:Sc:=⟨["reader","kind","count","signs","number"],aG (st 34),Cq,Br,wj⟩
noncomputable def D8 (k c:Nat)(acc:Str)(o:Option D):List (Option D):=[none,some (.int (k:Int)),some (.int (c:Int)),some (.str acc),o]
theorem Fo {T:Tb}{o:Option D}(h:acc.length<=lim):ev T VA (mJ (D8 k c acc o))=.ok (.bl (decide ((acc.length:Int)<(c:Int))),.mv []):=by
 have e:ev T (Ly Lk) (mJ (D8 k c acc o))=.ok (.int (acc.length:Int),.mv []):=by
  have h2:iH .len [.str acc]=some (.int (acc.length:Int)):=if_pos h;unfold ev aY;show ((eW (iH .len [.str acc])).bind fun d=>.ok (d,eT d _))=_;rw[h2];rfl
 unfold VA ev;rw[e];rfl
theorem Fh {T:Tb}(hg:wb T){o:Option D}(hk:k=2\/k=3):ev T Vz (mJ (D8 k c acc o))=.ok (.int (sb k:Nat),.mv []):=by
 unfold Vz ev;rw[show ev T Lq _=Rs.ok (T.gl 4,Rt.mv []) from by unfold ev;rw[hg 4 (by decide)],hg 4 (by decide)];rcases hk with rfl | rfl<;>rfl
theorem DQ {T:Tb}(hg:wb T){o:Option D}(hk:k=2\/k=3):ev T (.ix Lr Lf) (mJ (D8 k c acc o))=.ok (.str (KS k),.mv []):=by
 unfold ev;rw[show ev T Lr _=Rs.ok (T.gl 3,Rt.mv []) from by unfold ev;rw[hg 3 (by decide)],hg 3 (by decide)];rcases hk with rfl | rfl<;>rfl
theorem z6 (hk:k=2\/k=3):(kn k).length<=94/\(KS k).length=(kn k).length:=by
 rcases hk with rfl | rfl
 .exact⟨by rw[uq.2.1];decide,rfl⟩
 .exact⟨by rw[uq.2.2];decide,rfl⟩
theorem E9 {T:Tb}(hg:wb T){n:Int}(hk:k=2\/k=3):ev T Vy (mJ (D8 k c acc (some (.int n))))=.ok (.bl (decide (((kn k).length:Int)<=n)),.mv []):=by
 obtain⟨h1,h2⟩:=z6 hk;have e:ev T (Ly (.ix Lr Lf)) (mJ (D8 k c acc (some (.int n))))=.ok (.int ((kn k).length:Int),.mv []):=by
  have h3:iH .len [.str (KS k)]=some (.int ((kn k).length:Int)):=by
   show (if (KS k).length<=lim then some (D.int ((KS k).length:Int)) else none)=_;rw[h2,if_pos (bq h1 (by decide))]
  rw[ev,aY,DQ hg hk,aA,aY,aA,aA];show ((eW (iH .len [.str (KS k)])).bind fun d=>.ok (d,eT d _))=_;rw[h3];rfl
 unfold Vy ev;rw[e];rfl
theorem HI {T:Tb}(hg:wb T){x:Nat}(hk:k=2\/k=3)(hx:(kn k)[n]? = some x)(hl:acc.length<=1000):ev T Vx (mJ (D8 k c acc (some (.int (n:Int)))))=.ok (.str (acc++tx [x]),.mv []):=by
 obtain⟨h1,h2⟩:=z6 hk;have hn:n<(kn k).length:=(List.getElem?_eq_some_iff.mp hx).1;have e:yn (.str (KS k)) (.int (n:Int))=some (.str (tx [x])):=by
  show (if (KS k).length<=lim then ((Pc.j9 (kn k).length (n:Int)).bind fun j=>(kn k)[j]?).map (fun c=>D.str ⟨#[c]⟩) else none)=_;rw[h2,if_pos (bq h1 (by decide)),nk hn];show ((kn k)[n]?).map _=_;rw[hx];rfl
 have e1:ev T (.ix (.ix Lr Lf) Li) (mJ (D8 k c acc (some (.int (n:Int)))))=.ok (.str (tx [x]),.mv []):=by
  rw[ev,DQ hg hk,aA];show ((eW (yn (.str (KS k)) (.int (n:Int)))).bind fun d=>.ok (d,nQ d _))=_;rw[e];rfl
 unfold Vx;rw[ev,e1];show ((eW (ck (acc.length+(tx [x]).length) (.str (acc++tx [x])))).bind fun d=>.ok (d,eT d _))=_;have:ck (acc.length+(tx [x]).length) (.str (acc++tx [x]))=some (.str (acc++tx [x])):=if_pos (bq (show acc.length+1<=1001 by omega) (by decide));rw[this];rfl
def C2 (C cT:Addr):Sp:=fun vs H Q E=>∃a k c,vs=[.ref a,.int ((k:Nat):Int),.int ((c:Nat):Int)]/\(k=2\/k=3)/\Q9 C cT (fun bs p c=>mO bs k c p (tx [])) vs H Q E a c
theorem BX {cT:Addr}{a:Nat}{T:Tb}(k:Fz K mg C fI fN MR MB cT)(F:L2.lI K "read_signs" "read_signs" (st 34) f fd) (S:cL ["reader","kind","count","signs","number"] ["reader","kind","count"] (aG (st 34)))
  (FN:cV P w K mg base (l7 P w) (iA a b) fN MB ["self","count"] (Q8 C cT)) (hC:∀LD A outer s H E,iA (a+1) (b+3) A->nz (fH (l7 P w) P w K mg base ["reader","kind","count","signs","number"] "read_signs" (aG (st 34)) f LD A outer s H E).L1 scS T) (hg:wb T) :
  cV P w K mg base (l7 P w) (iA (a+1) (b+3)) f fd ["reader","kind","count"] (C2 C cT):=by
 refine kj F S (fun A r=>r.ok) (fun vs H Q E ⟨a,k,c,e,_⟩=>by rw[e];rfl) fun LD A outer s H vs Q E Mx Mw=>?_
 obtain⟨r,kd,c,rfl,hk,l,bs,p,MQ,N0,NR,hc,q⟩:=Mw;dsimp only at q;have Cx:=hC LD A outer s H E Mx;refine⟨_,aT (cG (i:=3) S.nd rfl (.inl rfl) jA) (aT (lj PassesOwn.leaving (PT.L1 (bY 60 Cx.c _ VA (by kernel_rfl)).2)
  (aT (cG (i:=4) S.nd rfl (.inl rfl) (jL (E:=fun C _ H'=>E C none H') (pv 0) k.cl k.mt FN (Mx.deeper _) k.bN eO (aL (PE.L1 (bY 60 Cx.c _ Vz (by kernel_rfl)).1) bB)))
  (aT (tB (PT.L1 (bY 60 Cx.c _ Vy (by kernel_rfl)).2)
   (cU (lA (C:=cT) (W:=fun H'=>E (.ref cT) none H') rfl rfl k.mT (jW k.qT) gy (aL jA bB) (fun pins σ H1 s1 h' a us hW I hx=>gP I hx hW) (fun σ H Q h=>⟨(show (1:Nat)<=sizeLine by decide),h⟩) rfl rfl rfl)) lE)
  (cU (cG (i:=3) S.nd rfl (.inl rfl) (PE.L1 (bY 60 Cx.c _ Vx (by kernel_rfl)).1))))))
  (cU (km (pv 3)))),?_⟩
 have Mm:∀{s:Str},s.length<=c->s.length<=lim:=fun h=>bq (bq h hc) (by decide)
 refine⟨fun m σ H'=>∃acc p' o,σ=[some (.ref r),some (.int ((kd:Nat):Int)),some (.int ((c:Nat):Int)),some (.str acc),o]/\Kept r H H'/\At H' C r l bs p'/\acc.length+m=c/\mO bs kd m p' acc=mO bs kd c p (tx []),⟨c,_,p,_,rfl,Kept.refl,MQ,fv _,rfl⟩,?_⟩;rintro m σ H1 ⟨acc,p',o,rfl,kp,Mo,hm,NI⟩;rw[<-NI] at q;refine mf (.skip (.val (fun H=>.int _) (.val (fun H=>.int _) (.val (fun H=>.str _) (.skip .nil))))) (Fo (o:=none) (Mm (by omega))) fun H2 s2=>?_
 cases m with
 |zero =>
  rw[ba (by omega)];show if false=true then _ else _
  rw[if_neg bj];exact⟨.str acc,rfl,q H2 (kp.trans (Kept.same s2)) (Mo.same s2)⟩
 |succ m =>
  rw[bp (by omega)];show if true=true then _ else _
  rw[if_pos rfl];refine⟨_,fun σ' H' h=>h,?_⟩;obtain⟨dx,hx,_⟩:=Mo.same s2;refine⟨.ref r,rfl,r,dx,_,rfl,hx,rfl,?_⟩;refine jS (.skip (.val (fun H=>.int _) (.val (fun H=>.int _) (.val (fun H=>.str _) (.skip .nil))))) (Fh hg (o:=none) hk) fun H4 s4=>?_
  have k4:Kept r H H4:=kp.trans (Kept.same (s2.trans s4));refine⟨r,l,bs,p',sb kd,rfl,Mo.same (s2.trans s4),N0,?_⟩;have er:mO bs kd (m+1) p' acc=(iB bs p' (sb kd)).bind fun n=>match (kn kd)[n.toNat]? with
   |some c=>mO bs kd m (p'+sb kd) (acc++tx [c])
   |none=>none:=rfl
  cases hn:iB bs p' (sb kd) with
  |none =>
   rw[er,hn] at q;exact fun H5 k5=>q H5 (k4.trans k5)
  |some n0 =>
   obtain⟨n1,n2,n3⟩:=kK NR hn;obtain⟨n,rfl⟩:=dk n2;intro H5 k5 V9;refine mf (.skip (.val (fun H=>.int _) (.val (fun H=>.int _) (.val (fun H=>.str _) (.val (fun H=>.int _) .nil))))) (E9 hg hk) fun H6 s6=>?_
   have k6:Kept r H H6:=(k4.trans k5).trans (Kept.same s6);cases hx:(kn kd)[n]? with
   |none =>
    have M5:mO bs kd (m+1) p' acc=none:=by
     rw[er,hn];show (match (kn kd)[n]? with | some c=>mO bs kd m (p'+sb kd) (acc++tx [c]) | none=>none)=_;rw[hx]
    rw[M5] at q;have:(kn kd).length<=n:=by
     rw[List.getElem?_eq_none_iff] at hx;exact hx
    rw[bp (by omega)];show if true=true then _ else _
    rw[if_pos rfl];exact q H6 k6
   |some x =>
    have M5:mO bs kd (m+1) p' acc=mO bs kd m (p'+sb kd) (acc++tx [x]):=by
     rw[er,hn];show (match (kn kd)[n]? with | some c=>mO bs kd m (p'+sb kd) (acc++tx [c]) | none=>none)=_;rw[hx]
    have:n<(kn kd).length:=(List.getElem?_eq_some_iff.mp hx).1;rw[ba (by omega)];show if false=true then _ else _
    rw[if_neg bj];have T8:(acc++tx [x]).length=acc.length+1:=Str.length_append acc (tx [x]);refine DB (.skip (.val (fun H=>.int _) (.val (fun H=>.int _) (.val (fun H=>.str _) (.val (fun H=>.int _) .nil))))) (HI hg hk hx (by omega)) fun H7 s7=>?_
    exact⟨m,gn _,acc++tx [x],p'+sb kd,_,rfl,k6.trans (Kept.same s7),(V9.same s6).same s7,by rw[T8];omega,by rw[<-NI,M5]⟩
noncomputable def scP:Sc:=⟨["bits","reader","pieces","kind","count","signs"],aG (st 32),Cq,Br,wj⟩
noncomputable def VE:Ex:=.cmp .NotEq Lk (.LX 10)
noncomputable def Il:Ex:=.cmp .Eq Lk (.LX 0)
noncomputable def Xx (k:Nat):List (Option D):=[none,none,none,some (.int (k:Int)),none,none]
theorem aU {T:Tb}(hg:wb T){j:Nat}{n:Int}(hj:j<14)(h:G3 j=.int n)(env:En):ev T (.LX j) env=.ok (.int n,.mv []):=by
 unfold ev;rw[hg j hj,h]
theorem Ff {T:Tb}(hg:wb T):ev T VE (mJ (Xx k))=.ok (.bl (!decide (k=0)),.mv []):=by
 unfold VE ev;rw[aU hg (by decide) rfl];show Rs.ok (D.bl (!((k:Int)==0)),_)=_;have:((k:Int)==0)=decide (k=0):=by cases k<;>rfl
 rw[this]
theorem ED {T:Tb}(hg:wb T):ev T Il (mJ (Xx k))=.ok (.bl (decide (k=1)),.mv []):=by
 unfold Il ev;rw[aU hg (by decide) rfl];show Rs.ok (D.bl ((k:Int)==1),_)=_;have:((k:Int)==1)=decide (k=1):=by
  by_cases h:k=1
  .subst h;rfl
  .rw[ba h,gd];omega
 rw[this]
theorem Kept.tq {b:Addr}{H:Hp}(x:Kept r H H')(hr:H r=some o)(ho:∀vs,o≠.tup vs)(h:lJ K H b vs):lJ K H' b vs:=by
 rcases h with h | h
 .exact .inl (x _ _ (fun z=>by subst z;rw[hr] at h;exact ho _ (cq h)) h)
 .exact .inr h
theorem Kept.fz {H:Hp}(x:Kept r H H')(hr:H r=some o)(ho:∀a b,o≠.MA a b):Ih H H':=fun b p u h=>x _ _ (fun z=>by subst z;rw[hr] at h;exact ho _ _ (cq h)) h
theorem Kept.LQ {H:Hp}{ds:List D}(x:Kept r H H')(hr:H r=some o)(ho:∀vs,o≠.tup vs)(hz:∀a b,o≠.MA a b)(h:aJ K H ds vs []):aJ K H' ds vs [] :=
 h.keep (fun _ _=>x.tq hr ho) (x.fz hr hz) fun _ z=>(nomatch z)
theorem Kept.LN {H H1:Hp}(x:Kept r H1 H')(s:aH H H1)(hr:H r=none):aH H H':=fun b o h=>x b o (fun z=>by subst z;rw[hr] at h;cases h) (s b o h)
theorem Kept.upd {H:Hp}:Kept r H (upd H r o):=fun b u n h=>by rw[aO n];exact h
def Sy (K:Frag)(cT:Addr):Sp:=fun vs H Q E=>∃l bs,vs=[.ref l]/\Rd H l (.lst (bs.map .int))/\bs.length<=10000/\Dh bs=true/\match DO bs with
 |some q=>∀v H' G',aH H H'->Rep K H' (outD q) v G'->(∀a∈G',H a=none/\∃vs:ML,H' a=some vs.o)->G'.Nodup->Q v H'
 |none=>∀H',aH H H'->E (.ref cT) none H'
theorem tV {cT:Addr}{out:List Int->Nat->Nat->Option (Str×Nat)}{H:Hp}{Q1:VK}{E:XK}(hm:∀x H',Q1 x H'->Q0 x H')(h:Q9 C cT out vs H Q1 E a c):Q9 C cT out vs H Q0 E a c:=by
 obtain⟨l,bs,p,h1,h2,h3,h4,h5⟩:=h;refine⟨l,bs,p,h1,h2,h3,h4,?_⟩;cases e:out bs p c with
 |none=>rw[e] at h5;exact h5
 |some q=>rw[e] at h5;exact fun H' kp at'=>hm _ _ (h5 H' kp at')
theorem A7 {T:Tb}{cT:Addr}{E':XK}{σ:L2.St}{H:Hp}{Q1:VK}(hm:∀x H',Q1 x H'->Q0 x H')
  (h:So (m5 K T Il) (fun σ H Q=>cC (jX 1) (cC (jX 4) mL) σ H fun vs H1=>Dj C cT vs H1 Q E') (fun σ H Q=>cC (jX 1) (cC (jX 3) (cC (jX 4) mL)) σ H fun vs H1=>C2 C cT vs H1 Q E') σ H Q1) :
  So (m5 K T Il) (fun σ H Q=>cC (jX 1) (cC (jX 4) mL) σ H fun vs H1=>Dj C cT vs H1 Q E') (fun σ H Q=>cC (jX 1) (cC (jX 3) (cC (jX 4) mL)) σ H fun vs H1=>C2 C cT vs H1 Q E') σ H Q0:=by
 obtain⟨P,env,F,re,p,b,h1,h2,k⟩:=h;refine⟨P,env,F,re,p,b,h1,h2,fun H' s=>?_⟩;have:=k H' s;cases b with
 |true =>
  obtain⟨v1,e1,v4,e4,a,c,e,g⟩:=this;exact⟨v1,e1,v4,e4,a,c,e,tV hm g⟩
 |false =>
  obtain⟨v1,e1,v3,e3,v4,e4,a,kd,c,e,hk,g⟩:=this;exact⟨v1,e1,v3,e3,v4,e4,a,kd,c,e,hk,tV hm g⟩
theorem xB {fF fS cT:Addr}{OD OB:FuncData}{a:Nat}{T:Tb}(ha6:6<=a)(hb6:203<=b)(k:Fz K mg C fI fN MR MB cT)(F:L2.lI K "read_pieces" "read_pieces" (st 32) f fd) (S:cL ["bits","reader","pieces","kind","count","signs"] ["bits"] (aG (st 32)))
  (FI:cV P w K mg base (l7 P w) (iA 1 3) fI MR ["self","bits"] (Wy C))
  (FN:cV P w K mg base (l7 P w) (iA a b) fN MB ["self","count"] (Q8 C cT))
  (FF:cV P w K mg base (l7 P w) (iA (a+1) (b+3)) fF OD ["reader","count"] (Dj C cT)) (kF:PySem.W.keepIn K (.ref fF)=true) (bF:Binds K OD ["reader","count"] []) (mF:mg "read_figures" = some (.ref fF))
  (FS:cV P w K mg base (l7 P w) (iA (a+1) (b+3)) fS OB ["reader","kind","count"] (C2 C cT)) (kS:PySem.W.keepIn K (.ref fS)=true) (bS:Binds K OB ["reader","kind","count"] []) (mS:mg "read_signs" = some (.ref fS))
  (hC:∀LD A outer s H E,iA (a+2) (b+6) A->nz (fH (l7 P w) P w K mg base ["bits","reader","pieces","kind","count","signs"] "read_pieces" (aG (st 32)) f LD A outer s H E).L1 scP T) (hg:wb T) :
  cV P w K mg base (l7 P w) (iA (a+2) (b+6)) f fd ["bits"] (Sy K cT):=by
 refine kj F S (fun A r=>r.ok) (fun vs H Q E ⟨l,bs,e,_⟩=>by rw[e];rfl) fun LD A outer s H vs Q E Mx Mw=>?_
 obtain⟨l,bs,rfl,hl,N0,NR,q⟩:=Mw;have Cx:=hC LD A outer s H E Mx;have rN:∀{env:Env},iA a b (A.deeper env):=fun {env}=>(iA.deeper (a:=a+1) (b:=b+3) Mx env).mono (by omega) (by omega)
 have rI:∀{env:Env}(us:List Value),iA 1 3 ((A.deeper env).under (.builtin "type.__call__" ⟨.ref C::us,[]⟩)):=fun {env} us=>⟨Mx.hd,by have:=Mx.dp;rw[uZ];show A.depth+1+1+1<_;omega,by have:=Mx.un;rw[um];show A.units+3+1+3<_;omega⟩
 refine⟨_,aT (cG (i:=1) S.nd rfl (.inl rfl) (zx (E:=fun C _ H'=>E C none H') k.mc FI rI rfl k.mC k.bI eO (aL (pv 0) bB)))
  (aT (cG (i:=2) S.nd rfl (.inl rfl) (vh bB))
  (aT (cG (i:=3) S.nd rfl (.inl rfl) (jL (E:=fun C _ H'=>E C none H') (pv 1) k.cl k.mt FN rN k.bN eO (aL (PE.L1 (bY 60 Cx.c _ Lm (by kernel_rfl)).1) bB)))
  (aT (lj PassesOwn.leaving (PT.L1 (bY 60 Cx.c _ VE (by kernel_rfl)).2)
   (aT (cG (i:=4) S.nd rfl (.inl rfl) (ua uJ (jL (E:=fun C _ H'=>E C none H') (pv 1) k.cl k.mt FN rN k.bN eO (aL (PE.L1 (bY 60 Cx.c _ Ln (by kernel_rfl)).1) bB)) lZ))
   (aT (cG (i:=5) S.nd rfl (.inl rfl) (sC (PT.L1 (bY 60 Cx.c _ Il (by kernel_rfl)).2)
    (kU (E:=fun C _ H'=>E C none H') FF (Mx.deeper _) rfl mF kF bF eO (aL (pv 1) (aL (pv 4) bB)))
    (kU (E:=fun C _ H'=>E C none H') FS (Mx.deeper _) rfl mS kS bS eO (aL (pv 1) (aL (pv 3) (aL (pv 4) bB))))))
   (aT (kN (qA iw PySem.F.slot_list_append PySem.F.type_list_append lL (pv 2) (aL (oF (aL (pv 3) (aL (pv 5) bB))) bB)))
   (cU (cG (i:=3) S.nd rfl (.inl rfl) (jL (E:=fun C _ H'=>E C none H') (pv 1) k.cl k.mt FN rN k.bN eO (aL (PE.L1 (bY 60 Cx.c _ Lm (by kernel_rfl)).1) bB))))))))
  (cU (km (oF (aL (pv 2) (aL (nE (pv 1) rfl) bB)))))))),?_⟩
 refine⟨.ref l,rfl,fun r dx hr Uo NJ=>?_⟩;refine⟨r,dx,.ref l,rfl,aM,rfl,(show (0:Nat)<=sizeLine by decide),fun lp Qs=>?_⟩;have Qt:H l≠none:=Rd.Mh hl;have nlr:l≠r:=fun z=>Qt (by rw[z];exact hr)
 have nldx:l≠dx:=fun z=>Qt (by rw[z];exact Uo)
 have ON:lp≠r:=fun z=>by rw[z,aM] at Qs;cases Qs
 have Ra:aH H (upd (upd (upd (upd (upd H dx (.own r)) r (.ins C dx [])) r (.ins C dx [("bits",.ref l)])) r (.ins C dx [("bits",.ref l),("place",.int 0)])) lp (.lst [])):=fun b o hb=>by
  have n1:b≠r:=fun z=>by rw[z,hr] at hb;cases hb
  have n2:b≠dx:=fun z=>by rw[z,Uo] at hb;cases hb
  have e:(upd (upd (upd (upd H dx (.own r)) r (.ins C dx [])) r (.ins C dx [("bits",.ref l)])) r (.ins C dx [("bits",.ref l),("place",.int 0)])) b=some o:=by
   rw[aO n1,aO n1,aO n1,aO n2];exact hb
  exact aH.new Qs _ _ e
 generalize Xp:upd (upd (upd (upd (upd H dx (.own r)) r (.ins C dx [])) r (.ins C dx [("bits",.ref l)])) r (.ins C dx [("bits",.ref l),("place",.int 0)])) lp (.lst [])=H0 at Ra;have XT:At H0 C r l bs 0:=⟨dx,by rw[<-Xp,aO (eh ON)];exact aM,aH.rd Ra hl⟩;have lp0:H0 lp=some (.lst []):=by rw[<-Xp];exact aM
 have O1:H lp=none:=by
  cases e:H lp with
  |none=>rfl
  |some o =>
   exfalso;have n2:lp≠dx:=fun z=>by rw[z,Uo] at e;cases e
   have n1:lp≠r:=ON;rw[show (upd (upd (upd (upd H dx (.own r)) r (.ins C dx [])) r (.ins C dx [("bits",.ref l)])) r (.ins C dx [("bits",.ref l),("place",.int 0)])) lp=some o from by rw[aO n1,aO n1,aO n1,aO n2];exact e] at Qs;cases Qs
 obtain⟨dx1,W0,_⟩:=id XT;refine⟨.ref r,rfl,r,dx1,_,rfl,W0,rfl,?_⟩;refine jS (.skip (.skip (.skip (.skip (.skip (.skip .nil)))))) (aU hg (n:=2) (by decide) rfl _) fun H1 s1=>?_
 refine⟨r,l,bs,0,2,rfl,XT.same s1,N0,?_⟩;have eP:DO bs=(iB bs 0 2).bind fun k=>rV bs bs.length k.toNat 2 []:=rfl
 cases Qx:iB bs 0 2 with
 |none =>
  rw[eP,Qx] at q;exact fun H2 k2=>q H2 (k2.LN (Ra.trans s1) hr)
 |some n0 =>
 obtain⟨b1,b2,b3⟩:=kK NR Qx;obtain⟨k0,rfl⟩:=dk b2;have eP2:DO bs=rV bs bs.length k0 2 []:=by rw[eP,Qx];rfl
 rw[eP2] at q;intro H2 k2 at2;have Nj:∀{o:HO}{fs:List (Str×V)}{d:Addr},o=.ins C d fs->(∀vs,o≠.tup vs)/\∀a b,o≠.MA a b:=fun e=>by subst e;exact⟨fun _ z=>(by cases z),fun _ _ z=>(by cases z)⟩
 refine⟨fun m σ H'=>∃(kd p':Nat) (acc:List (Nat×Str)) (vs:List V) (o4 o5:Option V),σ=[some (.ref l),some (.ref r),some (.ref lp),some (.int (kd:Int)),o4,o5]/\kd<4/\aH H H'/\At H' C r l bs p'/\H' lp=some (.lst vs)/\aJ K H' (acc.map CT) vs []/\acc.length+m=bs.length/\acc.length+2<=p'/\p'<=bs.length/\rV bs m kd p' acc=rV bs bs.length k0 2 [],
  ⟨bs.length,k0,2,[],[],_,_,rfl,by omega,k2.LN (Ra.trans s1) hr,at2,k2 _ _ ON (s1 _ _ lp0),.nil,fv _,au _,b1,rfl⟩,?_⟩
 rintro m σ H3 ⟨kd,p',acc,vs,o4,o5,rfl,Xf,WH,Pb,Tf,WK,hm,Pu,Qo,NI⟩;rw[<-NI] at q;refine mf (.skip (.skip (.skip (.val (fun H=>.int _) (.skip (.skip .nil)))))) (Ff hg) fun H4 s4=>?_
 cases kd with
 |zero =>
  show if false=true then _ else _
  rw[if_neg bj];have e:rV bs m 0 p' acc=some (acc,p'):=by cases m<;>rfl
  rw[e] at q;obtain⟨RM,Ru,_⟩:=Pb.same s4;refine⟨.ref lp,rfl,.ref r,rfl,r,C,RM,_,.int (p':Int),rfl,Ru,k.cl,k.n2,rfl,(show (2:Nat)<=sizeLine by decide),fun tp N7=>?_⟩;refine q (.ref tp) _ [lp] ((WH.trans s4).trans (aH.new N7)) (.tup (.inl aM) (.cons (G:=[lp]) (G':=[]) (.lst (.inl (aH.new N7 _ _ (s4 _ _ Tf))) (WK.same (s4.trans (aH.new N7)))) (.cons (G:=[]) (.int _) .nil))) (fun x hx=>?_) (by simp);rw[iq] at hx;subst hx;exact⟨O1,.l vs,aH.new N7 _ _ (s4 _ _ Tf)⟩
 |succ kd =>
  show if true=true then _ else _
  rw[if_pos rfl];refine⟨_,fun σ' H' h=>h,?_⟩;obtain⟨RM,Ru,_⟩:=Pb.same s4;refine⟨.ref r,rfl,r,RM,_,rfl,Ru,rfl,?_⟩;refine jS (.skip (.skip (.skip (.skip (.skip (.skip .nil)))))) (aU hg (n:=6) (by decide) rfl _) fun H5 s5=>?_
  have Wz:aH H H5:=(WH.trans s4).trans s5;refine⟨r,l,bs,p',6,rfl,Pb.same (s4.trans s5),N0,?_⟩;cases m with
  |zero=>omega
  |succ m =>
  have er:rV bs (m+1) (kd+1) p' acc=(iB bs p' 6).bind fun c=>(if kd=0 then mW bs (c.toNat+1) (p'+6) (c.toNat+1) (tx []) else mO bs (kd+1) (c.toNat+1) (p'+6) (tx [])).bind fun q =>
   (iB bs q.2 2).bind fun k'=>rV bs m k'.toNat (q.2+2) (acc ++ [(kd+1,q.1)]):=rfl
  cases hn:iB bs p' 6 with
  |none =>
   rw[er,hn] at q;exact fun H6 k6=>q H6 (k6.LN Wz hr)
  |some c0 =>
  obtain⟨c1,c2,c3⟩:=kK NR hn;obtain⟨c,rfl⟩:=dk c2;intro H6 k6 XS;refine⟨(c:Int),1,rfl,rfl,?_⟩;have Sz:aH H H6:=k6.LN Wz hr;have x5:H5 r=some (.ins C RM _):=s5 _ _ Ru;have rs6:aJ K H6 (acc.map CT) vs []:=k6.LQ x5 (Nj rfl).1 (Nj rfl).2 ((WK.same s4).same s5);have lp6:H6 lp=some (.lst vs):=k6 _ _ ON (s5 _ _ (s4 _ _ Tf));have QA:(c:Int)+1=((c+1:Nat):Int):=by omega
  have XD:c+1<=64:=by omega
  have M5:rV bs (m+1) (kd+1) p' acc=(if kd=0 then mW bs (c+1) (p'+6) (c+1) (tx []) else mO bs (kd+1) (c+1) (p'+6) (tx [])).bind fun q =>
   (iB bs q.2 2).bind fun k'=>rV bs m k'.toNat (q.2+2) (acc ++ [(kd+1,q.1)]):=by rw[er,hn];rfl
  refine A7 (Q1:=fun x H8=>∃sg p2,x=.str sg/\Kept r H6 H8/\At H8 C r l bs p2/\p'+6<=p2/\p2<=bs.length/\rV bs (m+1) (kd+1) p' acc=(iB bs p2 2).bind fun k'=>rV bs m k'.toNat (p2+2) (acc ++ [(kd+1,sg)])) (fun x H8 hx8=>?_) ?_
  .obtain⟨sg,p2,rfl,k8,QS,g1,g2,Xv⟩:=hx8;rw[Xv] at q;have sm8:aH H H8:=k8.LN Sz hr;obtain⟨dx6,x6,_⟩:=id XS;have WJ:aJ K H8 (acc.map CT) vs []:=k8.LQ x6 (Nj rfl).1 (Nj rfl).2 rs6;have Te:H8 lp=some (.lst vs):=k8 _ _ ON lp6;refine⟨.ref lp,rfl,.inl ⟨rfl,_,.inl (.inl Te)⟩,.int ((kd+1:Nat):Int),rfl,.str sg,rfl,(show (2:Nat)<=sizeLine by decide),fun tp N7=>?_⟩;have hvl:vs.length=acc.length:=by rw[<-WJ.len,ak]
   refine⟨lp,vs,.ref tp,rfl,rfl,aH.new N7 _ _ Te,by rw[hvl,sizeLine_eq];omega,?_⟩;have s9:aH H8 (upd H8 tp (.tup [.int ((kd+1:Nat):Int),.str sg])):=aH.new N7;generalize hH9:upd H8 tp (.tup [.int ((kd+1:Nat):Int),.str sg])=H9 at s9;have t9:H9 tp=some (.tup [.int ((kd+1:Nat):Int),.str sg]):=by rw[<-hH9];exact aM
   have Qj:Kept lp H9 (upd H9 lp (.lst (vs ++ [.ref tp]))):=Kept.upd;have WU:H9 lp=some (.lst vs):=s9 _ _ Te;have ntp:tp≠lp:=fun z=>by rw[z,WU] at t9;cases t9
   have Pd:At (upd H9 lp (.lst (vs ++ [.ref tp]))) C r l bs p2:=by
    obtain⟨d8,x8,y8⟩:=QS.same s9;refine⟨d8,Qj _ _ (eh ON) x8,Qj.rd (fun z=>?_) y8⟩;exact Qt (by rw[z];exact O1)
   have PU:aJ K (upd H9 lp (.lst (vs ++ [.ref tp]))) ((acc ++ [(kd+1,sg)]).map CT) (vs ++ [.ref tp]) []:=by
    have a1:aJ K (upd H9 lp (.lst (vs ++ [.ref tp]))) (acc.map CT) vs []:=Qj.LQ WU (fun _ z=>(by cases z)) (fun _ _ z=>(by cases z)) (WJ.same s9);rw[dt];exact a1.append (G':=[]) (.cons (G:=[]) (.tup (.inl (Qj _ _ ntp t9)) (.cons (G:=[]) (.int _) (.cons (G:=[]) (.str _) .nil))) .nil)
   have OH:aH H (upd H9 lp (.lst (vs ++ [.ref tp]))):=Qj.LN (sm8.trans s9) O1;have Qf:(upd H9 lp (.lst (vs ++ [.ref tp]))) lp=some (.lst (vs ++ [.ref tp])):=aM;generalize upd H9 lp (.lst (vs ++ [.ref tp]))=X1 at Pd PU OH Qf;obtain⟨Ve,Ql,_⟩:=id Pd;refine⟨.ref r,rfl,r,Ve,_,rfl,Ql,rfl,?_⟩;refine jS (.skip (.skip (.skip (.skip (.skip (.skip .nil)))))) (aU hg (n:=2) (by decide) rfl _) fun H11 OJ=>?_
   refine⟨r,l,bs,p2,2,rfl,Pd.same OJ,N0,?_⟩;cases Oa:iB bs p2 2 with
   |none =>
    rw[Oa] at q;exact fun X0 Qi=>q X0 (Qi.LN (OH.trans OJ) hr)
   |some n2 =>
    obtain⟨u1,u2,u3⟩:=kK NR Oa;obtain⟨k3,rfl⟩:=dk u2;intro X0 Qi Wa;refine⟨m,gn _,k3,p2+2,acc ++ [(kd+1,sg)],vs ++ [.ref tp],_,_,rfl,by omega,Qi.LN (OH.trans OJ) hr,Wa,Qi _ _ ON (OJ _ _ Qf),Qi.LQ (OJ _ _ Ql) (Nj rfl).1 (Nj rfl).2 (PU.same OJ),?_,?_,u1,?_⟩
    .rw[aa];show acc.length+1+m=_;omega
    .rw[aa];show acc.length+1+2<=_;omega
    .rw[<-NI,Xv,Oa];rfl
  .refine mf (.skip (.skip (.skip (.val (fun H=>.int _) (.skip (.skip .nil)))))) (ED hg) fun H7 s7=>?_
   have XR:=XS.same s7;by_cases h1:kd=0
   .subst h1;show if true=true then _ else _
    rw[if_pos rfl];refine⟨.ref r,rfl,.int ((c:Int)+1),rfl,r,c+1,by rw[QA],l,bs,p'+6,XR,N0,NR,XD,?_⟩;dsimp only;rw[if_pos rfl] at M5;cases hf:mW bs (c+1) (p'+6) (c+1) (tx []) with
    |none =>
     rw[M5,hf] at q;exact fun H8 k8=>q H8 (k8.LN (Sz.trans s7) hr)
    |some w =>
     rw[hf] at M5;obtain⟨g1,g2⟩:=Es (c+1) (p'+6) (c+1) (tx []) w c1 hf;exact fun H8 k8 QS=>⟨w.1,w.2,rfl,(Kept.same s7).trans k8,QS,g1,g2,M5⟩
   .rw[ba (by omega)];show if false=true then _ else _
    rw[if_neg bj];refine⟨.ref r,rfl,.int ((kd+1:Nat):Int),rfl,.int ((c:Int)+1),rfl,r,kd+1,c+1,by rw[QA],by omega,l,bs,p'+6,XR,N0,NR,XD,?_⟩;dsimp only;rw[if_neg h1] at M5;cases hf:mO bs (kd+1) (c+1) (p'+6) (tx []) with
    |none =>
     rw[M5,hf] at q;exact fun H8 k8=>q H8 (k8.LN (Sz.trans s7) hr)
    |some w =>
     rw[hf] at M5;obtain⟨g1,g2⟩:=Ed (kd+1) (c+1) (p'+6) (tx []) w c1 hf;exact fun H8 k8 QS=>⟨w.1,w.2,rfl,(Kept.same s7).trans k8,QS,g1,g2,M5⟩
end
variable {F:Nat->List Addr}
section
variable {P:Program}{w:World}{K:Frag}{mg:Str->Option Value}{base:Heap}
noncomputable def dN:Df:=⟨"number_of",st 2,["bits"],["bits","number","bit"],IC⟩
noncomputable def p0:Pg:=⟨[dN],[],[],fun _=>.LC,1000⟩
theorem ok0:tP (Df.Ph p0 []) p0.Nb :=
 ⟨.inl (Df.MI (n:=60) (by decide +kernel) rfl (fun _ _ _ _ _ _ us hl=>@uD (fun us=>bindArgs _ ⟨us,[]⟩=pure (List.zip _ us)) us hl (fun _=>rfl))),trivial⟩
theorem S3 (F:L2.lI K "number_of" "number_of" (st 2) f fd) (M:mg "number_of" = some (.ref f)) (hH:Bp w K):lr P w K mg base xW 1 f fd ["bits"] (zy K 1 (p0.run 1 0)):=by
 have I0:p0.In K mg:=by
  refine⟨fun i d hd=>?_,fun i x h=>(by cases h),fun x h=>(by cases h)⟩;cases i with
  |zero=>cases hd;exact⟨f,fd,F,M⟩
  |succ i=>cases hd
 exact wm (fo:=[]) (dE ok0) I0 hH (fun n i d hd hn=>by cases hn) 1 0 dN rfl f fd F
theorem Aq (l:List Int):p0.run 1 0 [.lst (l.map .int)]=.ok (.int (num l),true):=(bH (F:=⟨1,3,IC⟩) rfl rfl).trans (DJ l)
inductive FS (K:Frag) (H:Hp):List (Option D)->L2.St->(Nat->List Addr)->Prop where
 |nil:FS K H [] [] fun _=>[]
 | skip {o:Option V}{r:List (Option D)}{s:L2.St}{F:Nat->List Addr}(h:FS K H r s F):FS K H (none::r) (o::s) fun i=>match i with
  |0=>[]
  |i+1=>F i
 | val {d:D}{v:V}{G:List Addr}{r:List (Option D)}{s:L2.St}{F:Nat->List Addr}(hd:Rep K H d v G) (h:FS K H r s F):FS K H (some d::r) (some v::s) fun i=>match i with
  |0=>G
  |i+1=>F i
noncomputable def j4 (ds:List (Option D)):En:=ds.map fun o=>o.map fun d=>(d,bE d [])
theorem FS.len {H:Hp}{σ:L2.St}(h:FS K H ds σ F):ds.length=σ.length:=by
 induction h with
 |nil=>rfl
 |skip _ ih=>rw[ah,ah,ih]
 |val _ _ ih=>rw[ah,ah,ih]
theorem FS.get {H:Hp}{σ:L2.St}(h:FS K H ds σ F):∀(i:Nat) (d:D) (t:Tg),(j4 ds)[i]? = some (some (d,t))->t=bE d []/\∃v,σ[i]? = some (some v)/\Rep K H d v (F i):=by
 induction h with
 |nil=>intro i d t e;cases e
 |skip _ ih=>intro i d t e;cases i with
  |zero=>cases e
  |succ i=>exact ih i d t e
 |val hd _ ih=>intro i d t e;cases i with
  |zero=>cases e;exact⟨rfl,_,rfl,hd⟩
  |succ i=>exact ih i d t e
theorem FS.M6 {H:Hp}{σ:L2.St}(h:FS K H ds σ F):∀i,(∀d t,(j4 ds)[i]?≠some (some (d,t)))->F i=[]:=by
 induction h with
 |nil=>intro i _;rfl
 |skip _ ih=>intro i e;cases i with
  |zero=>rfl
  |succ i=>exact ih i e
 |val hd _ ih=>intro i e;cases i with
  |zero=>exact absurd rfl (e _ _)
  |succ i=>exact ih i e
theorem FS.re {H:Hp}{σ:L2.St}(h:FS K H ds σ F):RE K (fun _=>False) (j4 ds) σ H F where
 len:=by unfold j4;rw[ak,h.len]
 val:=fun i d t e=>(h.get i d t e).2
 M6:=h.M6
 one:=fun i d t e o=>by
  obtain⟨rfl,v,_,rp⟩:=h.get i d t e;have hf:d.flat=true:=by
   unfold bE at o;by_cases z:d.flat=true
   .exact z
   .rw[if_neg z] at o;cases o
  rw[rp.flat hf];exact⟨cu,fun _ z=>(nomatch z),fun _ z=>(nomatch z)⟩
 wr:=fun _ _ _ _ _ z=>z
 pl:=fun _ z=>z.elim
theorem CY {T:Tb}{c:Ex}{σ:L2.St}{H:Hp}{Q:VK}{n:Str}{r:Rt}(fr:FS K H ds σ F)(h:ev T c (j4 ds)=.ok (.str n,r))(k:∀H',aH H H'->Q (.str n) H'):tE K T c σ H Q :=
 ⟨_,_,_,fr.re,_,h,fun v H' G s rp _=>by obtain⟨rfl,_⟩:=rp.str_inv;exact k H' s⟩
theorem Hs {T:Tb}{c:Ex}{σ:L2.St}{H:Hp}{Q:Bool->Hp->Prop}{b:Bool}{r:Rt}(fr:FS K H ds σ F)(h:ev T c (j4 ds)=.ok (.bl b,r))(k:∀H',aH H H'->Q b H'):m5 K T c σ H Q :=
 ⟨_,_,_,fr.re,_,b,h,rfl,k⟩
theorem Cf {T:Tb}{c:Ex}{σ:L2.St}{H:Hp}{Q:VK}{xs:List D}{r:Rt}(fr:FS K H ds σ F)(h:ev T c (j4 ds)=.ok (.lst xs,r))(k:∀l vs G H',aH H H'->Rd H' l (.lst vs)->aJ K H' xs vs G->Q (.ref l) H'):tE K T c σ H Q :=
 ⟨_,_,_,fr.re,_,h,fun v H' G s rp _=>by obtain⟨l,vs,g,rfl,rfl,a1,a2⟩:=rp.lst_inv;exact k l vs g H' s a1 a2⟩
noncomputable def scG:Sc:=⟨["grains","pieces","text"],aG (st 48),Cq,Br,wj⟩
noncomputable def XM:Ex:=.call 18 (Ls Le)
noncomputable def XJ:Ex:=.NF .MG (.cst (.str ("" : PySem.Str))) (Ls (.comp 2 [] (.tp [0,1]) (.seq Lf) .none Lf))
noncomputable def VF:Ex:=.cmp .NotEq (.call 14 (Lu Lg (Ly Le))) (.blt .list (Ls Le))
structure Gs (T:Tb):Prop where
 g0:∀l:List Int,dZ l=true->l.length<=133->∀o1 o2,∃r,ev T XM (j4 [some (.lst (l.map .int)),o1,o2])=.ok (.lst ((bG l).map .int),r)
 g1:∀(P:List Pe) (o0 o2:Option D),(∀q∈P,Piece q)->((P.map (·.2)).flatten).length<=260->∃r,ev T XJ (j4 [o0,some (.lst ((P.map pT).map CT)),o2])=.ok (.str (tx (P.map (·.2)).flatten),r)
 g2:∀(l:List Int) (t:List Nat) (o1:Option D),l.length<=133->Good t->t.length<=260->(tg t).length<=l.length->∃r,ev T VF (j4 [some (.lst (l.map .int)),o1,some (.str (tx t))])=.ok (.bl (!decide (tg t++j6 (l.length-(tg t).length)=l)),r)
def Wx (cT:Addr):Sp:=fun vs H Q E=>∃p l,vs=[.ref p]/\Rd H p (.lst (l.map .int))/\dZ l=true/\l.length<=133/\match yl l with
 |some t=>∀H',aH H H'->Q (.str (tx t)) H'
 |none=>∀H',aH H H'->E (.ref cT) none H'
theorem lY {H:Hp}:∀{bs:List Int}{vs:List V}{G:List Addr},aJ K H (bs.map D.int) vs G->vs=bs.map V.int
 |[],vs,G,h=>by cases h;rfl
 | b::bs,vs,G,h=>by
  cases h with
  |cons h r =>
   obtain⟨rfl,_⟩:=h.int_inv;rw[lY r];rfl
theorem xC {fP cT:Addr}{OC:FuncData}{a b:Nat}{RP:Around->Prop}{T:Tb}(k:Fz K mg C fI fN MR MB cT)(F:L2.lI K "read_grains" "read_grains" (st 48) f fd) (S:cL ["grains","pieces","text"] ["grains"] (aG (st 48)))
  (FP:cV P w K mg base (l7 P w) RP fP OC ["bits"] (Sy K cT)) (Px:∀A env,iA a b A->RP (A.deeper env)) (kP:PySem.W.keepIn K (.ref fP)=true) (bP:Binds K OC ["bits"] []) (mP:mg "read_pieces" = some (.ref fP))
  (hC:∀LD A outer s H E,iA a b A->nz (fH (l7 P w) P w K mg base ["grains","pieces","text"] "read_grains" (aG (st 48)) f LD A outer s H E).L1 scG T) (hg:Gs T) :
  cV P w K mg base (l7 P w) (iA a b) f fd ["grains"] (Wx cT):=by
 refine kj F S (fun A r=>r.ok) (fun vs H Q E ⟨p,l,e,_⟩=>by rw[e];rfl) fun LD A outer s H vs Q E Mx Mw=>?_
 obtain⟨p,l,rfl,hl,h6,Oc,q⟩:=Mw;have Cx:=hC LD A outer s H E Mx;refine⟨_,aT (cG (i:=1) S.nd rfl (.inl rfl) (DK yW (kU (E:=fun C _ H'=>E C none H') FP (Px A _ Mx) rfl mP kP bP eO (aL (PE.L1 (bY 60 Cx.c _ XM (by kernel_rfl)).1) bB)) lZ (fun _ _=>rfl)))
  (aT (cG (i:=2) S.nd rfl (.inl rfl) (PE.L1 (bY 60 Cx.c _ XJ (by kernel_rfl)).1))
  (aT (tB (PT.L1 (bY 60 Cx.c _ VF (by kernel_rfl)).2)
   (cU (lA (C:=cT) (W:=fun H'=>E (.ref cT) none H') rfl rfl k.mT (jW k.qT) gy (aL jA bB) (fun pins σ H1 s1 h' a us hW I hx=>gP I hx hW) (fun σ H Q h=>⟨(show (1:Nat)<=sizeLine by decide),h⟩) rfl rfl rfl)) lE)
  (cU (km (pv 2))))),?_⟩
 have rl:∀{H':Hp},aH H H'->Rep K H' (.lst (l.map .int)) (.ref p) [p]:=fun {H'} sm=>.lst (aH.rd sm hl) (jV _)
 obtain⟨r0,e0⟩:=hg.g0 l h6 Oc none none;refine Cf (.val (rl (aH.refl _)) (.skip (.skip .nil))) e0 fun lb vb Gb H1 s1 h1 r1=>?_
 rw[lY r1] at h1;refine⟨lb,bG l,rfl,h1,by rw[va];omega,Et l,?_⟩;cases hr:DO (bG l) with
 |none =>
  have:yl l=none:=by unfold yl;rw[hr];rfl
  rw[this] at q;exact fun H2 s2=>q H2 (s1.trans s2)
 |some W =>
  obtain⟨hG,O6,M1,P0,hW,hP0⟩:=pO Oc hr;intro v H2 G2 s2 rp _ _;obtain⟨tp,vs,rfl,a1,a2⟩:=rp.LG;obtain⟨x,y,g1,g2,rfl,b1,b2⟩:=a2.of2;refine⟨tp,_,0,x,rfl,rfl,a1,rfl,?_⟩;rw[hW,vG] at hG O6 M1;have b1:Rep K H2 (.lst ((P0.map pT).map CT)) x g1:=by rw[<-hW];exact b1
  obtain⟨r1,e1⟩:=hg.g1 P0 none none hP0 O6;refine CY (.skip (.val b1 (.skip .nil))) e1 fun H3 s3=>?_
  obtain⟨r2,e2⟩:=hg.g2 l (P0.map (·.2)).flatten none Oc hG O6 M1;refine Hs (.val (rl ((s1.trans s2).trans s3)) (.skip (.val (.str _) .nil))) e2 fun H4 s4=>?_
  have WG:aH H H4:=((s1.trans s2).trans s3).trans s4;have er:yl l=if (tg (P0.map (·.2)).flatten).length<=l.length/\tg (P0.map (·.2)).flatten++j6 (l.length-(tg (P0.map (·.2)).flatten).length)=l then some (P0.map (·.2)).flatten else none:=by
   unfold yl;rw[hr,fm,hW,vG]
  by_cases z:tg (P0.map (·.2)).flatten++j6 (l.length-(tg (P0.map (·.2)).flatten).length)=l
  .rw[er,if_pos ⟨M1,z⟩] at q;rw[bp z];show if false=true then _ else _
   rw[if_neg bj];exact⟨.str _,rfl,q H4 WG⟩
  .rw[er,if_neg fun y=>z y.2] at q;rw[ba z];show if true=true then _ else _
   rw[if_pos rfl];exact q H4 WG
end
variable {cs:List Addr}
section
variable {P:Program}{w:World}{K:Frag}{mg:Str->Option Value}{base:Heap}
structure Iz (K:Frag)(mg:Str->Option Value)(cS cT:Addr)(cs:List Addr):Prop where
 hS:mg "SquareError" = some (.ref cS)
 sQ:nr K cS=true
 t:mg "NoText" = some (.ref cT)
 tQ:nr K cT=true
 o:tP (fun q:Str×Addr=>(PySem.W.nsIn K mainGlobals q.1=some (some (.ref q.2))/\pe K q.2=true)/\fO K cT q.2=false) (List.zip ["NoInverse","NoLabel","NoMarks","NoMend","NoPicture","NoSign","NoSquare","TooLong"] cs)
 l:cs.length=8
 st:fO K cT cS=true
 tD:pe K cT=true
 tt:fO K cT cT=true
theorem Tj (h:cs.length=8):∃a b c d e f g i,cs=[a,b,c,d,e,f,g,i]:=by
 match cs,h with
 |[a,b,c,d,e,f,g,i],_=>exact⟨a,b,c,d,e,f,g,i,rfl⟩
def tsR (K:Frag)(cI c1 c2 c3 c4 c5 c6 c7 c8 a:Addr):TS:=JL (xm (FA (AE K a cI) (cC (jX 2) (cC (GX (cC (tC (.ref c1)) (cC (tC (.ref c2)) (cC (tC (.ref c3)) (cC (tC (.ref c4)) (cC (tC (.ref c5)) (cC (tC (.ref c6)) (cC (tC (.ref c7)) (cC (tC (.ref c8)) mL))))))))) mL))) (my 3))
 (xm (GX (cC (FA (AE K a cI) (cC (jX 2) (cC (tC (.ref cI)) mL))) (cC (FA (AE K a cI) (cC (jX 2) (cC (tC (.ty "ValueError")) mL))) (cC (jX 3) mL)))) (my 1))
theorem reads {f' cS cT:Addr}{OE:FuncData}{h:Heap}{Sx:Sp}(KX:K.In h)(G:h.Ns mainGlobals mg)(hh:Iz K mg cS cT cs)
  (F:L2.lI K "_law_read" "_law_read" (st 56) f fd) (S:cL ["_law_row","_law_told","e","_law_others"] ["_law_row"] (aG (st 56)))
  (FR:cV P w K mg base (l7 P w) (iA (3*n+6) (16*n+203)) f' OE ["grains"] Sx) (kp:PySem.W.keepIn K (.ref f')=true) (B':Binds K OE ["grains"] []) (hm':mg "read_grains" = some (.ref f'))
  (hi:mg "isinstance" = none) (hv:mg "ValueError" = none) (sp:Sp)
  (hl:∀vs H Q E,sp vs H Q E->∃v,vs=[v]/\Sx [v] H Q (fun C' _ H'=>C'=.ref cT/\∀H2 tp,aH H' H2->H2 tp=some (.tup [.bl true,.bl true,.bl false])->Q (.ref tp) H2)):lr P w K mg base xW (n+1) f fd ["_law_row"] sp:=by
 obtain⟨c1,c2,c3,c4,c5,c6,c7,c8,rfl⟩:=Tj hh.l;obtain⟨⟨o1,n1⟩,⟨o2,n2⟩,⟨o3,n3⟩,⟨o4,n4⟩,⟨o5,n5⟩,⟨o6,n6⟩,⟨o7,n7⟩,⟨o8,n8⟩,_⟩:=hh.o;refine (kj (RP:=gM (n+1)) F S (fun A r=>⟨r.hd,r.depth⟩) (fun vs H Q E h=>by obtain⟨v1,e,_⟩:=hl vs H Q E h;rw[e];rfl) fun LD A outer s H vs Q E hr hs=>?_).plain;obtain⟨v1,rfl,hx⟩:=hl vs H Q E hs;have Px:∀env,iA (3*n+6) (16*n+203) (A.deeper env):=fun env=>⟨hr.hd,by have:=hr.dp;show A.depth+1+_<_;omega,by have:=hr.un;show A.units+3+_<_;omega⟩
 have L3:lP (fH xW P w K mg base ["_law_row","_law_told","e","_law_others"] "_law_read" (aG (st 56)) f LD A outer s H E).L1 ((bD (st 56)).drop 1)
   (fun D σ H1=>σ=[some v1,some .LC,none,none]/\Sx [v1] H1 D.rt (fun C' _ H'=>C'=.ref cT/\∀H2 tp,aH H' H2->H2 tp=some (.tup [.bl true,.bl true,.bl false])->D.rt (.ref tp) H2)):=by
  intro pins s1 σ H1 D I ⟨hσ,hx⟩;subst hσ;refine wpAny_execs_cons (wpAny_mono (Q:=SP _ pins { D with nx:=fun σ' H'=>∃z,σ'[1]? = some (some z)/\D.rt z H' }) (FD (i:=2) (ts:=tsR K cT c1 c2 c3 c4 c5 c6 c7 c8) (W:=fun C' H'=>C'=.ref cT/\∀H2 tp,aH H' H2->H2 tp=some (.tup [.bl true,.bl true,.bl false])->D.rt (.ref tp) H2) rfl rfl I.ok S.nd rfl rfl rfl hh.hS (jW hh.sQ) (by decide)
   (fun a o C H' hW hc hd=>?su) (fun C H' hW=>?w) (by decide)
   (BI (i:=1) (Q:=D.rt) S.nd rfl (.inl rfl) I (xZ FR (Px _) rfl hm' kp B' .nil I (aL (pv 0) bB) ⟨v1,rfl,hx⟩) fun v H' q=>⟨v,rfl,q⟩)) (fun fl s2 q=>?_) fun _ _ z=>z)
  case su =>
   have hc:o.cls=.ref cT:=hc.trans hW.1;exact aT (cG (i:=3) S.nd rfl (.inl rfl) (iE (lK hh.tQ hc) rfl hi boot_isinstance (aL (pv 2) (aL (oF (aL (eI rfl (cz KX G o1.1) rfl) (aL (eI rfl (cz KX G o2.1) rfl) (aL (eI rfl (cz KX G o3.1) rfl) (aL (eI rfl (cz KX G o4.1) rfl) (aL (eI rfl (cz KX G o5.1) rfl) (aL (eI rfl (cz KX G o6.1) rfl) (aL (eI rfl (cz KX G o7.1) rfl) (aL (eI rfl (cz KX G o8.1) rfl) bB))))))))) bB))))
    (cU (cG (i:=1) S.nd rfl (.inl rfl) (oF (aL (iE (lK hh.tQ hc) rfl hi boot_isinstance (aL (pv 2) (aL (eI rfl hh.t rfl) bB))) (aL (iE (lK hh.tQ hc) rfl hi boot_isinstance (aL (pv 2) (aL (vU (v:=.ty "ValueError") rfl hv (by rfl) rfl) bB))) (aL (pv 3) bB))))))
  case w =>
   obtain⟨rfl,hQ⟩:=hW;refine⟨⟨cT,rfl,Ap hh.tQ hh.st⟩,fun a=>?_⟩;refine⟨.ref a,rfl,(show (8:Nat)<=sizeLine by decide),fun p hp=>.inr (.inr ⟨p,[c1,c2,c3,c4,c5,c6,c7,c8],rfl,aM,?_,?_⟩)⟩
   .intro D hD;simp only[List.mem_cons,List.not_mem_nil,or_false] at hD;rcases hD with rfl | rfl | rfl | rfl | rfl | rfl | rfl | rfl
    .exact o1.2
    .exact o2.2
    .exact o3.2
    .exact o4.2
    .exact o5.2
    .exact o6.2
    .exact o7.2
    .exact o8.2
   .have e:(([c1,c2,c3,c4,c5,c6,c7,c8].map (fO K cT)).any id)=false:=by
     simp only[List.map_cons,List.map_nil,List.any_cons,List.any_nil,n1,n2,n3,n4,n5,n6,n7,n8];rfl
    rw[e];refine⟨.ref a,rfl,.inl ⟨cT,rfl,hh.tD,?_⟩⟩;rw[hh.tt];refine⟨.ref a,rfl,.inr (.inl ⟨rfl,?_⟩)⟩;refine⟨.bl false,rfl,(show (3:Nat)<=sizeLine by decide),fun tp N7=>?_⟩;exact⟨_,rfl,hQ _ tp ((aH.new hp).trans (aH.new N7)) aM⟩
  cases fl with
  |next =>
   obtain⟨σ',H',J,z,hz,q⟩:=q;exact cU (km (rj (i:=1) rfl (.inl rfl))) pins s2 _ H' D J ⟨z,hz,q⟩
  |ret u=>exact q
  |brk=>exact q
  |cont=>exact q
 exact⟨_,lP.L1 (aT (cG (i:=1) S.nd rfl (.inl rfl) uG) L3),rfl,hx⟩
end
end K09
end
section
namespace K09
open PySem Pc
noncomputable def xi:bL:=(.cons (.asg (.nm 5) (.call 5 (Lv Le Li (Ld 2147483587))) false)
  (.cons (.asg (.nm 6) (.bin .Add KW (.bin .Mod (.bin .FloorDiv Lh K6) K3)) false)
  (.cons (.ite (.cmp .Eq (.bin .Mod (.bin .FloorDiv Lh K7) K3) KW) (.cons (.asg (.nm 6) (.bin .Add KW (.bin .Mod (.bin .FloorDiv Lh (Ld 225)) (Ld 60))) false)
  .nil) .nil)
  (.cons (.asg (.nm 3) (.bin .Add Lk (.call 7 (Lu (.bin .Add KW (.bin .FloorDiv Lh K2)) Lj))) false)
  (.cons (.asg (.nm 4) (.bin .Add Li KW) false)
  .nil)))))
noncomputable def RQ:bL:=(.cons (.asg (.nm 2) (.bin .Mod (.bin .FloorDiv (.call 5 (Lv Le KU (Ld 2147483629))) K3) (.bin .Add Lf KW)) false)
  (.cons (.asg (.nm 3) (.cst (.str ("" : PySem.Str))) false)
  (.cons (.asg (.nm 4) KW false)
  (.cons (.Mu (.cmp .Lt (Ly Lk) Lg) xi)
  (.cons (.ret (.sl Lk .none (.some Lg)))
  .nil)))))
noncomputable def y2:bL:=(.cons (.mut 1 .none .extend (Ls (.call 9 (Lu Lg (.LX 11)))))
  .nil)
noncomputable def FX:Ex:=(.and (.cmp .Lt Lj Ll) (.and (.cmp .Lt (.bin .Add Lk Lj) (Ly Le)) (.cmp .In (.ix Le (.bin .Add Lk Lj)) (.call 6 (Ls Lh)))))
noncomputable def Ia:bL:=(.cons (.asg (.nm 6) (.bin .Add Lj KW) false)
  .nil)
noncomputable def Ij:bL:=(.cons (.asg (.nm 4) (.call 5 (Lv Lf (.bin .Add K8 Lk) (Ld 2147483549))) false)
  (.cons (.asg (.nm 5) (.ix (.lst (Lu K5 (.bin .Add KW (.bin .Mod Li K5)))) (.bin .Mod (.bin .FloorDiv Li K5) K4)) false)
  (.cons (.ite (.cmp .NotIn (.ix Le Lk) (.call 6 (Ls Lh))) (.cons (.asg (.nm 5) K5 false)
  .nil) .nil)
  (.cons (.asg (.nm 6) KW false)
  (.cons (.asg (.nm 7) (.bin .Add KW (.bin .Mod (.bin .FloorDiv Li K9) La)) false)
  (.cons (.Mu FX Ia)
  (.cons (.mut 2 .none .append (Ls (.tup (Lu Lh (.sl Le (.some Lk) (.some (.bin .Add Lk Lj)))))))
  (.cons (.asg (.nm 3) (.bin .Add Lk Lj) false)
  .nil))))))))
noncomputable def Kk:bL:=(.cons (.asg (.nm 3) (.bin .Add Lk (.call 11 (Ls Li))) false)
  .nil)
noncomputable def G9:Ex:=(.cmp .NotEq (.bin .Mod (Ly Lk) K9) KU)
noncomputable def Va:Ex:=(.blt .sum (Ls (.comp 1 [6,3] (.nm 0) (.L7 K9) .none (.bin .LShift (.ix Lg (.bin .Add Lf Le)) (.bin .Sub K3 Le)))))
noncomputable def Jl:bL:=(.cons (.mut 5 .none .append (.cons Va .nil))
  .nil)
noncomputable def Ii:bL:=(.cons (.mut 5 .none .append (Ls Ll))
  (.cons (.asg (.nm 7) (.bin .Sub KY Ll) false)
  .nil))
noncomputable def VC:Ex:=(.cmp .Eq (.call 14 (Lu Lg (Ly Le))) Le)
noncomputable def XG:Ex:=(.cmp .Eq Lg (.tup (Lv (.cst (.bl true)) (.cst (.bl true)) (.cst (.bl false)))))
noncomputable def Xz:Ex:=(.blt .all (Ls (.comp 1 [] (.nm 0) (.seq (.var 8)) .none (.call 23 (Ls Le)))))
noncomputable def RL:Ex:=(Ly (.call 21 (Lv (.sl (.lst (Ls (.tup (Lu K5 Lg)))) .none (.some (.blt .len (Ls Lg)))) KU KU)))
noncomputable def Ik:Ex:=(.bin .Add Li (.bin .Mod Lk Lb))
noncomputable def Xy:Ex:=(.bin .Add (.bin .Add (.sl Lh .none (.some Lj)) (.lst (Ls (.bin .BitXor (.ix Lh Lj) (.bin .Add KW (.bin .Mod (.bin .FloorDiv Lk (Ld 700)) KY)))))) (.sl Lh (.some (.bin .Add Lj KW)) .none))
noncomputable def eB:Ex:=(.sl Lh .none (.some (.neg KW)))
noncomputable def eA:Ex:=(.bin .Add eB (.lst (Ls (.bin .BitXor (.ix Lh (.neg KW)) (.bin .Add KW (.bin .Mod (.bin .FloorDiv Lk (Ld 5000)) KY))))))
noncomputable def eD:Ex:=(.bin .Add Lh (.lst (Ls (.ix (.lst (Lv Lc (Ld 21) (.bin .Mod Lk KZ))) (.bin .Mod (.bin .FloorDiv Lk K5) K5)))))
noncomputable def eC:Ex:=(.comp 1 [0] (.nm 0) (.L7 (.bin .Mod (.bin .FloorDiv Lk (Ld 11)) (Ld 41))) .none (.bin .Mod (.bin .FloorDiv (.call 5 (Lv Lf (.bin .Add (Ld 200) Le) (Ld 2147483543))) K6) KZ))
noncomputable def RO:Ex:=(.cmp .Eq (.bin .Mod (.call 5 (Lv Le (Ld 80) (Ld 2147483647))) (Ld 8)) KW)
noncomputable def Q6:bL:=(.cons (.asg (.nm 6) (.bin .Mod (.bin .FloorDiv Lk Lb) (Ly Lh)) false)
  (.cons (.asg (.nm 7) Xy false)
  (.cons (.asg (.nm 8) (.lst (.cons Ll (.cons eA (.cons eB (.cons eD .nil))))) true)
  (.cons (.asg (.nm 9) (.call 20 (Lu Lg Le)) false)
  (.cons (.mut 8 .none .append (Ls (.call 21 (.cons (.var 9) (.cons (.bin .Mod (.bin .FloorDiv Lk K2) K4) (.cons Ik .nil))))))
  (.cons (.mut 8 .none .append (.cons eC .nil))
  (.cons (.mut 8 .none .append (Ls (.lst .nil)))
  (.cons (.ret Xz)
  .nil))))))))
noncomputable def b0:bL:=Pc.Ct.VP
noncomputable def b1:bL:=Pc.Ct.VU
noncomputable def b2:bL:=Pc.Ct.VO
noncomputable def b3:bL:=Pc.Ct.VZ
noncomputable def b4:bL:=Pc.Ct.VW
noncomputable def b5:bL:=Pc.Ct.VQ
noncomputable def b6:bL:=Pc.Ct.XQ
noncomputable def b7:bL:=Pc.Ct.RS
noncomputable def b8:bL:=RQ
noncomputable def b9:bL:=Pc.Gn.VX
noncomputable def V7:bL:=Pc.Gn.IC
noncomputable def V6:bL:=Pc.Gn.RT
noncomputable def V5:bL:=Pc.Gn.VT
noncomputable def V4:bL:=Pc.Gn.VN
noncomputable def V3:bL:=Pc.Gn.VM
noncomputable def V2:bL:=Pc.Gn.VY
noncomputable def V1:bL:=Pc.Gn.VR
noncomputable def V0:bL:=Pc.Gn.VS
noncomputable def RX:bL:=(.cons (.asg (.nm 1) (.lst .nil) false) (.cons (.LP (.nm 2) (.seq Le) y2) (.cons (.ret Lf) .nil)))
noncomputable def JG:bL:=(.cons (.expr (.neg (.cst .LC)))
  .nil)
noncomputable def RW:bL:=(.cons (.asg (.nm 2) (.lst .nil) false) (.cons (.asg (.nm 3) KU false) (.cons (.Mu (.cmp .Lt Lk (Ly Le)) Ij) (.cons (.ret Lg) .nil))))
noncomputable def RV:bL:=(.cons (.asg (.nm 3) (.lst .nil) false) (.cons (.LP (.nm 4) (.seq Le) Kk) (.cons (.asg (.nm 3) (.bin .Add Lk (.lst (Lu KU KU))) false) (.cons (.Mu G9 (.cons (.mut 3 .none .append (Ls Lf)) .nil)) (.cons (.asg (.nm 5) (.lst .nil) false) (.cons (.LP (.nm 6) (.L6 KU (Ly Lk) K9) Jl) (.cons (.asg (.nm 7) Lc false) (.cons (.Mu (.cmp .Lt (Ly Lh) Lg) Ii) (.cons (.ret (.sl Lh .none (.some (Ld 133)))) .nil)))))))))
noncomputable def E6:bL:=(.cons (.expr (.call 14 (Lu (.cst (.str ("0" : PySem.Str))) K8)))
  (.cons (.ret (.app Pc.Rd.gR (Ls Le)))
  .nil))
noncomputable def RU:bL:=(.cons (.asg (.nm 1) (.blt .list (Ls Le)) false) (.cons (.asg (.nm 2) (.call 22 (Ls Lf)) false) (.cons (.ite (.cmp .NotEq Lf Le) (.cons (.ret (.cst (.bl false))) .nil) .nil) (.cons (.ite (.blt (.N6 "str") (Ls Lg)) (.cons (.ret VC) .nil) .nil) (.cons (.ret XG) .nil)))))
noncomputable def Ko:bL:=(.cons (.asg (.nm 1) La false) (.cons (.ite RO (.cons (.asg (.nm 1) K7 false) .nil) .nil) (.cons (.asg (.nm 2) (.call 8 (Lu Le Lf)) false) (.cons (.asg (.nm 3) (.call 5 (Lv Le (Ld 81) (Ld 2147483563))) false) (.cons (.asg (.nm 4) RL false) (.cons (.asg (.nm 5) (.call 14 (Lu Lg (.bin .Add Li (.bin .Mod Lk Lb)))) false) (.cons (.ite (.cmp .NotEq (.call 22 (Ls (.blt .list (Ls Lh)))) Lg) (.cons (.ret (.cst (.bl false))) .nil) .nil) Q6)))))))
noncomputable def fns:List Fn:=[⟨2,3,b0⟩,⟨1,6,b1⟩,⟨1,3,b2⟩,⟨1,6,b3⟩,⟨4,7,b4⟩,⟨3,4,b5⟩,⟨1,2,b6⟩,⟨2,5,b7⟩,⟨2,7,b8⟩,⟨2,2,b9⟩,⟨1,3,V7⟩,⟨1,4,V6⟩,⟨1,4,V5⟩,⟨2,4,V4⟩,⟨2,2,V3⟩,⟨1,3,V2⟩,⟨1,1,V1⟩,⟨2,3,V0⟩,⟨1,3,RX⟩,⟨1,6,JG⟩,⟨2,8,RW⟩,⟨3,8,RV⟩,⟨1,4,E6⟩,⟨1,3,RU⟩,⟨1,10,Ko⟩]
noncomputable def gl:Nat->D
 |0=>.int 1
 |1=>.int 2
 |2=>.int 3
 |3=>.tup [.str ("" : PySem.Str),.str ("0123456789" : PySem.Str),.str (" ABCDEFGHIJKLMNOPQRSTUVWXYZ.,-:/" : PySem.Str),.str (" !\"#$&'()*+,-./0123456789:;<=>?@ABCDEFGHIJKLMNOPQRSTUVWXYZ[\\]^_`abcdefghijklmnopqrstuvwxyz{|}~" : PySem.Str)]
 |4=>.tup [.int 0,.int 0,.int 5,.int 7]
 |5=>.int 2
 |6=>.int 6
 |7=>.int 64
 |8=>.tup [.int 0,.int 4,.int 7,.int 10]
 |9=>.int 3
 |10=>.int 0
 |11=>.int 6
 |12=>.tup [.int 42,.int 21]
 |13=>.tup [.int 0,.int 9,.int 99,.int 999]
 |_=>.LC
noncomputable abbrev T (n:Nat):Tb:=⟨Pc.run fns gl 1000 n,gl,1000⟩
theorem oB (n:Nat):(T n).cl=Pc.run fns gl 1000 n:=rfl
end K09
end
section
namespace K09
open PySem Pc Pc.Sm Pc.Lw Pc.Gr Pc.Nw Pc.Ct Pc.Gn Pc.Rd
open Pc.Fr (iD fK)
noncomputable abbrev ET (cs:List Int)(m:Int)(n:Nat)(t:List Nat)(k:Nat)(a5 a6:Slot):En:=[some (.lst (iD cs),.sh []),sI m,sN n,sT t,sN k,a5,a6]
variable {a5 a6:Slot}
theorem kE {cs:List Int}{m:Int}{n:Nat}{t:List Nat}{k:Nat}(h5:aR a5)(h6:aR a6):Tame (ET cs m n t k a5 a6):=.cons (dJ _) (.cons (aB _) (.cons (aB _) (.cons (aB _) (.cons (aB _) (.cons h5 (.cons h6 .nil))))))
variable {t:List Nat}
theorem IG {T:Tb}(O0:A1 T)(Pt:zV T){cs:List Int}{m:Int}{n:Nat}{k:Nat}(h5:aR a5)(h6:aR a6)(hk:k<=1000)(ht:t.length<=400)(hG:Good t) :
  ∃t' b5 b6,aR b5/\aR b6/\Good t'/\t.length<t'.length/\t'.length<=t.length+60/\aE T xi (ET cs m n t k a5 a6)=.nx (ET cs m n t' (k+1) b5 b6):=by
 obtain⟨d,d0,d1,ed⟩:=O0 cs (k:Int) 2147483587 (m8 (by omega) (by omega)) (by decide);obtain⟨R,v0⟩:∃R,ev T Le (ET cs m n t k a5 a6)=.ok (.lst (iD cs),R):=jQ rfl;have g1:aV T (.asg (.nm 5) (.call 5 (Lv Le Li (Ld 2147483587))) false) (ET cs m n t k a5 a6)=.nx (ET cs m n t k (sI d) a6):=aK (kE h5 h6) (show (5:Nat)<7 by decide) (mq v0 (aC rfl rfl) (aF _) ed);have lg:∀(a6:Slot) (x y:Int),0<x->x<1073741824->0<y->ev T (.bin .Add KW (.bin .Mod (.bin .FloorDiv Lh (.cst (.int x))) (.cst (.int y)))) (ET cs m n t k (sI d) a6)=.ok (.int (1+d / x%y),.mv []):=fun a6 x y h1 h2 h3 =>
  cP (aF _) (bQ h3 (dB h1 h2 (aC rfl rfl) (aF _)) (aF _))
 have g2:aV T (.asg (.nm 6) (.bin .Add KW (.bin .Mod (.bin .FloorDiv Lh K6) K3)) false) (ET cs m n t k (sI d) a6)=.nx (ET cs m n t k (sI d) (sI (1+d / 9%5))):=aK (kE (aB _) h6) (show (6:Nat)<7 by decide) (lg a6 9 5 (by decide) (by decide) (by decide));have g3:∃l:Nat,1<=l/\l<=60/\aV T (.ite (.cmp .Eq (.bin .Mod (.bin .FloorDiv Lh K7) K3) KW) (.cons (.asg (.nm 6) (.bin .Add KW (.bin .Mod (.bin .FloorDiv Lh (Ld 225)) (Ld 60))) false) .nil) .nil) (ET cs m n t k (sI d) (sI (1+d / 9%5)))=.nx (ET cs m n t k (sI d) (sI (l:Int))):=by
  have ec:=zP (bQ (show (0:Int)<5 by decide) (dB (show (0:Int)<45 by decide) (by decide) (aC (T:=T) (env:=ET cs m n t k (sI d) (sI (1+d / 9%5))) (i:=5) (d:=.int d) (t:=.own) rfl rfl) (aF (.int 45))) (aF (.int 5))) (aF (.int 1));rw[oH ec];split
  .have p0:=cf (d / 225) (show (60:Int)≠0 by decide);have p1:=bt (d / 225) (show (0:Int)<60 by decide);refine⟨(1+d / 225%60).toNat,by omega,by omega,?_⟩;rw[show (((1+d / 225%60).toNat:Nat):Int)=1+d / 225%60 by omega];exact iN (aK (kE (aB _) (aB _)) (show (6:Nat)<7 by decide) (lg _ 225 60 (by decide) (by decide) (by decide)))
  .have p0:=cf (d / 9) (show (5:Int)≠0 by decide);have p1:=bt (d / 9) (show (0:Int)<5 by decide);refine⟨(1+d / 9%5).toNat,by omega,by omega,?_⟩;rw[show (((1+d / 9%5).toNat:Nat):Int)=1+d / 9%5 by omega];exact jM
 obtain⟨l,l1,l90,g3⟩:=g3;obtain⟨r,r1,r2,er⟩:=Pt (1+d / 7) l (by omega);have e4:=fM (cP (aF (T:=T) (env:=ET cs m n t k (sI d) (sI (l:Int))) (.int 1)) (dB (show (0:Int)<7 by decide) (by decide) (aC (i:=5) (d:=.int d) (t:=.own) rfl rfl) (aF (.int 7)))) (aC (i:=6) (d:=.int (l:Int)) (t:=.own) rfl rfl) er;have e5:=vL (aC (T:=T) (env:=ET cs m n t k (sI d) (sI (l:Int))) (i:=3) (d:=.str (tx t)) (t:=.own) rfl rfl) e4 (by omega);have g4:=aK (i:=3) (kE (cs:=cs) (m:=m) (n:=n) (t:=t) (k:=k) (aB (.int d)) (aB (.int (l:Int)))) (show (3:Nat)<7 by decide) e5;have g4:aV T (.asg (.nm 3) (.bin .Add Lk (.call 7 (Lu (.bin .Add KW (.bin .FloorDiv Lh K2)) Lj))) false) (ET cs m n t k (sI d) (sI (l:Int)))=.nx (ET cs m n (t++r) k (sI d) (sI (l:Int))):=g4;have g5:aV T (.asg (.nm 4) (.bin .Add Li KW) false) (ET cs m n (t++r) k (sI d) (sI (l:Int)))=.nx (ET cs m n (t++r) (k+1) (sI d) (sI (l:Int))):=aK (kE (aB _) (aB _)) (show (4:Nat)<7 by decide) (be (y:=1) (aC rfl rfl) (aF _));refine⟨t++r,sI d,sI (l:Int),aB _,aB _,fun c hc=>?_,by rw[aa];omega,by rw[aa];omega,?_⟩
 .rcases List.mem_append.mp hc with h | h
  .exact hG c h
  .exact r2 c h
 .unfold xi;rw[aE,g1,aD,aE,g2,aD,aE,g3,aD,aE,g4,aD,aE,g5,aD,aE]
variable {cs:List Int}{k n:Nat}
theorem wD {T:Tb}{m:Int}(ht:t.length<=900):((ev T (.cmp .Lt (Ly Lk) Lg) (ET cs m n t k a5 a6)).bind fun p=>eW (truth p.1))=.ok (decide (t.length<n)):=by
 rw[lX (x:=t.length) (y:=n) (gC (by omega) (aC rfl rfl)) (aC rfl rfl),aA];rfl
theorem AL {T:Tb}(O0:A1 T)(Pt:zV T){cs:List Int}{m:Int}{n:Nat}(hn:n<=300):∀(f k:Nat) (t:List Nat) (a5 a6:Slot),aR a5->aR a6->n-t.length<f->t.length<=n+60->k+(n-t.length)<=900->Good t->∃t' k' b5 b6,aR b5/\aR b6/\Good t'/\n<=t'.length/\t'.length<=n+60 /\
  eU (fun env=>(ev T (.cmp .Lt (Ly Lk) Lg) env).bind fun p=>eW (truth p.1)) (aE T xi) f (ET cs m n t k a5 a6)=.nx (ET cs m n t' k' b5 b6)
 |0,k,t,a5,a6,_,_,h,_,_,_=>absurd h (gq _)
 | f+1,k,t,a5,a6,h5,h6,hf,ht,hk,hG=>by
  by_cases LO:t.length<n
  .obtain⟨t1,b5,b6,u5,u6,G1,l1,l2,st⟩:=IG O0 Pt (cs:=cs) (m:=m) (n:=n) (k:=k) h5 h6 (by omega) (show t.length<=400 by omega) hG;obtain⟨t',k',c5,c6,w5,w6,G2,q1,q2,q⟩:=AL O0 Pt hn f (k+1) t1 b5 b6 u5 u6 (by omega) (by omega) (by omega) G1;refine⟨t',k',c5,c6,w5,w6,G2,q1,q2,?_⟩;rw[oC (by rw[wD (by omega),bp LO]) st,q]
  .refine⟨t,k,a5,a6,h5,h6,hG,by omega,ht,?_⟩;rw[og (by rw[wD (by omega),ba LO])]
theorem Gf {T:Tb}(hf:1000<=T.fuel)(O0:A1 T)(Pt:zV T){cs:List Int}(m:Nat)(hm:m<=300):∃t,Good t/\t.length<=m/\ret (aE T RQ (aI [.lst (iD cs),.int (m:Int)] 7))=.ok (.str (tx t),true):=by
 have LJ:aI [.lst (iD cs),.int (m:Int)] 7=[some (.lst (iD cs),.sh []),sI (m:Int),none,none,none,none,none]:=rfl;have tn:=aN;obtain⟨d,d0,d1,ed⟩:=O0 cs 0 2147483629 (by decide) (by decide);obtain⟨R,v0⟩:∃R,ev T Le [some (.lst (iD cs),.sh []),sI (m:Int),none,none,none,none,none]=.ok (.lst (iD cs),R):=jQ rfl;have e1:=bQ (show (0:Int)<(m:Int)+1 by omega) (dB (show (0:Int)<5 by decide) (by decide) (mq v0 (aF (.int 0)) (aF (.int 2147483629)) ed) (aF (.int 5))) (cP (aC (T:=T) (env:=[some (.lst (iD cs),.sh []),sI (m:Int),none,none,none,none,none]) (i:=1) (d:=.int (m:Int)) (t:=.own) rfl rfl) (aF (.int 1)));obtain⟨n,hn,Qq⟩:=cM (cf (d / 5) (show (m:Int)+1≠0 by omega)) (bt (d / 5) (show (0:Int)<(m:Int)+1 by omega));rw[hn] at e1;have Xd:n<=m:=by omega
 have g1:aV T (.asg (.nm 2) (.bin .Mod (.bin .FloorDiv (.call 5 (Lv Le KU (Ld 2147483629))) K3) (.bin .Add Lf KW)) false) [some (.lst (iD cs),.sh []),sI (m:Int),none,none,none,none,none]=.nx [some (.lst (iD cs),.sh []),sI (m:Int),sN n,none,none,none,none] :=
  aK (.cons (dJ _) (.cons (aB _) (.cons tn (.cons tn (.cons tn (.cons tn (.cons tn .nil))))))) (show (2:Nat)<7 by decide) e1
 have g2:aV T (.asg (.nm 3) (.cst (.str ("" : PySem.Str))) false) [some (.lst (iD cs),.sh []),sI (m:Int),sN n,none,none,none,none]=.nx [some (.lst (iD cs),.sh []),sI (m:Int),sN n,sT [],none,none,none]:=rfl;have g3:aV T (.asg (.nm 4) KW false) [some (.lst (iD cs),.sh []),sI (m:Int),sN n,sT [],none,none,none]=.nx (ET cs (m:Int) n [] 1 none none):=rfl;obtain⟨t,k',b5,b6,u5,u6,hG,q1,q2,q⟩:=AL O0 Pt (cs:=cs) (m:=(m:Int)) (n:=n) (by omega) T.fuel 1 [] none none tn tn (by rw[bz];omega) (by rw[bz];omega) (by rw[bz];omega) (fun _ h=>(nomatch h));refine⟨t.take n,fun c hc=>hG c (fq hc),by rw[bh];omega,?_⟩;rw[LJ];unfold RQ;rw[aE,g1,aD,aE,g2,aD,aE,g3,aD,aE,aV,q,aD];exact eR (uL (by omega) (aC rfl rfl) iK (cY (aC (d:=.int (n:Int)) (t:=.own) rfl rfl)) (Ez t n))
def JI (T:Tb):Prop:=∀(cs:List Int) (m:Nat),m<=300->∃t,Good t/\t.length<=m/\T.cl 8 [.lst (iD cs),.int (m:Int)]=.ok (.str (tx t),true)
open Pc.Fr (iD fK)
theorem gL (n:Nat):GL (T n):=fun i hi=>by
 match i,hi with
 |0,_=>rfl
 |1,_=>rfl
 |2,_=>rfl
 |3,_=>rfl
 |4,_=>rfl
 |5,_=>rfl
 |6,_=>rfl
 |7,_=>rfl
 |8,_=>rfl
 |9,_=>rfl
theorem U2 (n:Nat):Ip (T n):=⟨gL n,rfl,rfl,rfl⟩
theorem pL (n:Nat):BJ (T (n+1)):=fun k c h1 h3 hc=>by
 rw[oB,bH (F:=⟨2,3,b0⟩) rfl rfl];exact JP (gL n) h1 h3 hc
theorem cK (n:Nat):yu (T (n+2)):=fun B s k r h1 h3 hB=>by
 rw[oB,bH (F:=⟨4,7,b4⟩) rfl rfl];exact Jq (gL (n+1)) (pL n) h1 h3 hB
theorem bC (n:Nat):KR (T (n+3)):=fun t ht hG=>by
 rw[oB,bH (F:=⟨1,6,b3⟩) rfl rfl];exact Ey (gL (n+2)) (cK n) ht hG
theorem rS (n:Nat):J9 (T (n+1)):=fun t hG=>by
 rw[oB,bH (F:=⟨1,3,b2⟩) rfl rfl];exact Jo (gL n) hG
theorem cT (n:Nat):IM (T (n+4)):=fun t ht hG=>by
 rw[oB,bH (F:=⟨1,6,b1⟩) rfl rfl];exact Jn (au _) (rS (n+2)) (bC n) ht hG
theorem mX (n:Nat):A1 (T (n+1)):=fun cs k p hk hp=>by
 obtain⟨r,h0,h1,h2⟩:=KL (T:=T n) (cs:=cs) hk hp;refine⟨r,h0,h1,?_⟩;rw[oB,bH (F:=⟨3,4,b5⟩) rfl rfl];exact h2
theorem sG (n:Nat):uW (T (n+1)):=fun k h1 h3=>by
 rw[oB,bH (F:=⟨1,2,b6⟩) rfl rfl];exact IX h1 h3
theorem rN (n:Nat):zV (T (n+2)):=fun d m hm=>by
 obtain⟨cs,h1,h2,h3⟩:=GK (sG n) (d:=d) m hm;refine⟨cs,h1,h2,?_⟩;rw[oB,bH (F:=⟨2,5,b7⟩) rfl rfl];exact h3
theorem tX (n:Nat):JI (T (n+3)):=fun cs m hm=>by
 obtain⟨t,h1,h2,h3⟩:=Gf (T:=T (n+2)) (au _) (mX (n+1)) (rN n) (cs:=cs) m hm;refine⟨t,h1,h2,?_⟩;rw[oB,bH (F:=⟨2,7,b8⟩) rfl rfl];exact h3
theorem bO (n:Nat):pq (T (n+1)):=fun x c hx hc=>by
 rw[oB,bH (F:=⟨2,2,b9⟩) rfl rfl];exact wQ x c hx hc
theorem nO (n:Nat):IY (T (n+1)):=fun l=>by
 rw[oB,bH (F:=⟨1,3,V7⟩) rfl rfl];exact DJ l
theorem fB (n:Nat):Gh (T (n+2)):=fun cs hc hl=>by
 rw[oB,bH (F:=⟨1,4,V5⟩) rfl rfl];exact Jw (gL (n+1)) (bO n) cs hc hl
theorem sB (n:Nat):GP (T (n+2)):=fun k hk cs hc hl=>by
 rw[oB,bH (F:=⟨2,4,V4⟩) rfl rfl];exact Kg (gL (n+1)) (bO n) k hk cs hc hl
theorem pB (n:Nat):G5 (T (n+3)):=fun p h=>by
 rw[oB,bH (F:=⟨1,4,V6⟩) rfl rfl];exact AA (gL (n+2)) (bO (n+1)) (fB n) (sB n) h
theorem gB (n:Nat):Ju (T (n+2)):=fun B hl h6=>by
 rw[oB,bH (F:=⟨1,1,V1⟩) rfl rfl];exact KC (U2 (n+1)) (nO n) hl h6
theorem bGi (n:Nat):JX (T (n+5)):=fun t ht hG=>by
 rw[oB,bH (F:=⟨1,3,V2⟩) rfl rfl];exact IF (au _) (U2 (n+4)) (cT n) (bO (n+3)) (pB (n+1)) (gB (n+2)) ht hG
theorem fG (n:Nat):JE (T (n+1)):=fun L r hr h=>by
 rw[oB,bH (F:=⟨2,3,V0⟩) rfl rfl];exact KQ (U2 n) hr h
theorem tG (n:Nat):Wg (T (n+6)):=fun t r ht hG hr h=>by
 rw[oB,bH (F:=⟨2,2,V3⟩) rfl rfl];exact Hj (bGi n) (fG (n+4)) ht hG hr h
open Pc.Fr (iD fK)
theorem E7:RX=(.cons (.asg (.nm 1) (.lst .nil) false)
  (.cons (.LP (.nm 2) (.seq Le) y2)
  (.cons (.ret Lf)
  .nil))):=rfl
noncomputable abbrev sL (l:List Int):Slot:=some (.lst (iD l),.sh [])
noncomputable abbrev EB (l B:List Int)(a:Slot):En:=[sL l,oI B,a]
theorem iW {l B:List Int}{a:Slot}(h:aR a):Tame (EB l B a):=.cons (dJ _) (.cons (aB _) (.cons h .nil))
variable {env:En}
theorem U6 {T:Tb}{k:Nat}{d:D}(h:T.gl k=d):ev T (.LX k) env=.ok (d,.mv []):=by
 unfold ev;rw[h]
theorem vT (n:Nat){l0:List Int}:∀(l B:List Int) (a:Slot),aR a->(∀g∈l,0<=g/\g<64)->B.length+6*l.length<=10000->∃a',cZ (.nm 2) [] (aE (T (n+1)) y2) (l.map D.int) (EB l0 B a)=.nx (EB l0 (B++bG l) a')
 |[],B,a,_,_,_=>⟨a,by rw[show bG []=[] from rfl,ay];rfl⟩
 | g::l,B,a,h,hg,hl=>by
  rw[ah] at hl;have hg0:=hg g aj;have ec:=fM (aC (T:=T (n+1)) (env:=EB l0 B (sI g)) (i:=2) (d:=.int g) (t:=.own) rfl rfl) (U6 (T:=T (n+1)) (k:=11) (d:=.int 6) rfl) (bO n g 6 hg0.1 (by decide));have hlb:(aP g 6).length=6:=aQ _ _;obtain⟨a',q⟩:=vT n (l0:=l0) l (B++aP g 6) (sI g) (aB _) (fun x hx=>hg x (ai _ hx)) (by rw[aa,hlb];omega);have hb:bK [] (.nm 2) (.int g) (EB l0 B a)=some (EB l0 B (sI g)):=dD (iW h) (show (2:Nat)<3 by decide);have st:aE (T (n+1)) y2 (EB l0 B (sI g))=.nx (EB l0 (B++aP g 6) (sI g)):=by
   generalize aP g 6=Z at *;have gx:=kX (x:=1) (iW (l:=l0) (B:=B) (aB (.int g))) rfl ec (fC Z) (by rw[bM,bM];exact sU (by omega));unfold y2;rw[aE,gx,aD,aE];show Fl.nx [sL l0,some (.lst (iD B++iD Z),.own),sI g]=_;rw[EB,oI,jw]
  refine⟨a',?_⟩;rw[aw,cF hb st,q,show bG (g::l)=aP g 6++bG l from rfl,av]
variable {l:List Int}
theorem iU (h:dZ l=true):∀g∈l,0<=g/\g<64:=fun g hg=>dw (cv.mp h g hg)
theorem bs (n:Nat)(h6:dZ l=true)(hl:l.length<=1000):(T (n+2)).cl 18 [.lst (iD l)]=.ok (.lst (iD (bG l)),true):=by
 have LJ:aI [.lst (iD l)] 3=[sL l,none,none]:=rfl;have g1:aV (T (n+1)) (.asg (.nm 1) (.lst .nil) false) [sL l,none,none]=.nx (EB l [] none):=rfl;obtain⟨a',q⟩:=vT n (l0:=l) l [] none aN (iU h6) (by rw[bz];omega);have hit:fU (T (n+1)) (.seq Le) (EB l [] none)=.ok (l.map D.int,[]):=rfl;have g2:=dQ hit q;rw[oB,bH (F:=⟨1,3,RX⟩) rfl rfl];dsimp only;rw[dq] at g2;generalize bG l=B at *;rw[LJ,E7,aE,g1,aD,aE,g2,aD];have v1:ev (T (n+1)) Lf (EB l B a')=.ok (.lst (iD B),.mv [1]):=aX rfl rfl;rw[aE,aV,v1,bA];rfl
noncomputable def AM:Ex:=(.cmp .Lt Lk (Ly Le))
theorem Gk:RW=(.cons (.asg (.nm 2) (.lst .nil) false)
  (.cons (.asg (.nm 3) KU false)
  (.cons (.Mu AM Ij)
  (.cons (.ret Lg)
  .nil)))):=rfl
noncomputable abbrev oP (P:List Pe):Slot:=some (.lst (P.map pD),.own)
noncomputable abbrev EA (t:List Nat)(cs:List Int)(P:List Pe)(i:Nat)(a4 a5 a6 a7:Slot):En:=[sT t,sL cs,oP P,sN i,a4,a5,a6,a7]
variable {a4 a7:Slot}
theorem gQ {t:List Nat}{cs:List Int}{P:List Pe}{i:Nat}(h4:aR a4)(h5:aR a5)(h6:aR a6)(h7:aR a7):Tame (EA t cs P i a4 a5 a6 a7):=.cons (aB _) (.cons (dJ _) (.cons (aB _) (.cons (aB _) (.cons h4 (.cons h5 (.cons h6 (.cons h7 .nil)))))))
variable {R R':Rt}{a b:Ex}
theorem EZ {T:Tb}(hs:uW T){c:Nat}(h1:1<=k)(h3:k<=3)(hc:c<128)(ha:ev T a env=.ok (.str (tx [c]),R))(hb:ev T b env=.ok (.int (k:Int),R')):ev T (.cmp .In a (.call 6 (.cons b .nil))) env=.ok (.bl (eK k c),.mv []):=by
 rw[ev,ha,aA,fL hb (hs k h1 h3),aA];show (eW (some (Iu (tx [c]) (KS k)))).bind _=_;rw[mR c hc k (by omega)];rfl
theorem B8 {T:Tb}(hs:uW T){c:Nat}(h1:1<=k)(h3:k<=3)(hc:c<128)(ha:ev T a env=.ok (.str (tx [c]),R))(hb:ev T b env=.ok (.int (k:Int),R')):ev T (.cmp .NotIn a (.call 6 (.cons b .nil))) env=.ok (.bl (!eK k c),.mv []):=by
 rw[ev,ha,aA,fL hb (hs k h1 h3),aA];show (eW ((some (Iu (tx [c]) (KS k))).map (!·))).bind _=_;rw[mR c hc k (by omega)];rfl
open Pc.Fr (iD fK)
noncomputable abbrev vC (T:Tb)(c:Ex):En->Rs Bool:=fun env=>(ev T c env).bind fun p=>eW (truth p.1)
theorem BU {T:Tb}(hs:uW T){t:List Nat}{cs:List Int}{P:List Pe}{i k m M:Nat}{d:Int}(ht:t.length<=500)(hG:Good t)(h1:1<=k)(h3:k<=3) :
  ∃b,vC T FX (EA t cs P i (sI d) (sN k) (sN m) (sN M))=.ok b/\(b=true->m<M/\∃c,t[i+m]? = some c/\eK k c=true):=by
 have v6:ev T Lj (EA t cs P i (sI d) (sN k) (sN m) (sN M))=.ok (.int (m:Int),.mv []):=aC rfl rfl;have v3:ev T Lk (EA t cs P i (sI d) (sN k) (sN m) (sN M))=.ok (.int (i:Int),.mv []):=aC rfl rfl;have v0:ev T Le (EA t cs P i (sI d) (sN k) (sN m) (sN M))=.ok (.str (tx t),.mv []):=aC rfl rfl;have c1:=lX v6 (aC (T:=T) (env:=EA t cs P i (sI d) (sN k) (sN m) (sN M)) (i:=7) (d:=.int (M:Int)) (t:=.own) rfl rfl);have e2:=be v3 v6;have c2:=lX e2 (gC (by omega) v0);by_cases z1:m<M
 .rw[bp z1] at c1;by_cases z2:i+m<t.length
  .rw[bp z2] at c2;have hx:=List.getElem?_eq_getElem z2;have c3:=EZ hs (c:=t[i+m]) h1 h3 (hG _ (fh z2)).1 (rC (by omega) v0 e2 hx) (aC (T:=T) (env:=EA t cs P i (sI d) (sN k) (sN m) (sN M)) (i:=5) (d:=.int (k:Int)) (t:=.own) rfl rfl);refine⟨eK k t[i+m],?_,fun h=>⟨z1,_,hx,h⟩⟩;unfold vC FX;rw[ev,c1,aA];dsimp only;rw[ev,c2,aA];dsimp only;rw[c3,aA];rfl
  .rw[ba z2] at c2;refine⟨false,?_,fun h=>by cases h⟩;unfold vC FX;rw[ev,c1,aA];dsimp only;rw[ev,c2,aA];rfl
 .rw[ba z1] at c1;refine⟨false,?_,fun h=>by cases h⟩;unfold vC FX;rw[ev,c1,aA];rfl
theorem zU {T:Tb}(hs:uW T){t:List Nat}{cs:List Int}{P:List Pe}{i k M:Nat}{d:Int}(ht:t.length<=500)(hG:Good t)(h1:1<=k)(h3:k<=3)(hM:M<=30):∀(f m:Nat),M-m<f->m<=30->i+m<=t.length->(∀c∈(t.drop i).take m,eK k c=true) ->
  ∃m',m<=m'/\m'<=30/\i+m'<=t.length/\(∀c∈(t.drop i).take m',eK k c=true)/\eU (vC T FX) (aE T Ia) f (EA t cs P i (sI d) (sN k) (sN m) (sN M))=.nx (EA t cs P i (sI d) (sN k) (sN m') (sN M))
 |0,m,h,_,_,_=>absurd h (gq _)
 | f+1,m,hf,hm,hi,hk=>by
  obtain⟨b,hb,Xi⟩:=BU hs (t:=t) (cs:=cs) (P:=P) (i:=i) (k:=k) (m:=m) (M:=M) (d:=d) ht hG h1 h3;cases b with
  |false=>exact⟨m,au _,hm,hi,hk,by rw[og hb]⟩
  |true =>
   obtain⟨z,c,hc,Nx⟩:=Xi rfl;have LO:=(List.getElem?_eq_some_iff.mp hc).1;have st:aE T Ia (EA t cs P i (sI d) (sN k) (sN m) (sN M))=.nx (EA t cs P i (sI d) (sN k) (sN (m+1)) (sN M)):=by
    have g:=aK (i:=6) (gQ (t:=t) (cs:=cs) (P:=P) (i:=i) (aB (.int d)) (aB (.int (k:Int))) (aB (.int (m:Int))) (aB (.int (M:Int)))) (show (6:Nat)<8 by decide) (be (y:=1) (aC (T:=T) (env:=EA t cs P i (sI d) (sN k) (sN m) (sN M)) (i:=6) (d:=.int (m:Int)) (t:=.own) rfl rfl) (aF (.int 1)));unfold Ia;rw[aE,g,aD,aE];rfl
   obtain⟨m',q1,q2,q3,q4,q⟩:=zU hs (t:=t) (cs:=cs) (P:=P) (i:=i) (d:=d) ht hG h1 h3 hM f (m+1) (by omega) (by omega) (by omega) (fun x hx=>by
    rw[List.take_succ,List.getElem?_drop,hc] at hx;rcases List.mem_append.mp hx with hx | hx
    .exact hk x hx
    .rw[iq.mp hx];exact Nx)
   exact⟨m',by omega,q2,q3,q4,by rw[oC hb st,q]⟩
theorem Kw (n:Nat){t:List Nat}{cs:List Int}{P:List Pe}{i:Nat}(h4:aR a4)(h5:aR a5)(h6:aR a6)(h7:aR a7)(ht:t.length<=100)(hG:Good t)(hi:i<t.length)(hP:P.length<=500) :
  ∃k m d M,1<=k/\k<=3/\1<=m/\m<=30/\i+m<=t.length/\(∀c∈(t.drop i).take m,eK k c=true)/\aE (T (n+1)) Ij (EA t cs P i a4 a5 a6 a7)=.nx (EA t cs (P ++ [(k,(t.drop i).take m)]) (i+m) (sI d) (sN k) (sN m) (sN M)):=by
 have hs:uW (T (n+1)):=sG n;have hx:=List.getElem?_eq_getElem hi;have Xq:=hG _ (fh hi);obtain⟨d,d0,d1,ed⟩:=mX n cs ((100+i:Nat):Int) 2147483549 (m8 (by omega) (by omega)) (by decide);obtain⟨R,v1⟩:∃R,ev (T (n+1)) Lf (EA t cs P i a4 a5 a6 a7)=.ok (.lst (iD cs),R):=jQ rfl;have g1:=aK (i:=4) (gQ (t:=t) (cs:=cs) (P:=P) (i:=i) h4 h5 h6 h7) (show (4:Nat)<8 by decide) (mq v1 (be (x:=100) (aF (.int 100)) (aC (i:=3) (d:=.int (i:Int)) (t:=.own) rfl rfl)) (aF (.int 2147483549)) ed);have g1:aV (T (n+1)) (.asg (.nm 4) (.call 5 (Lv Lf (.bin .Add K8 Lk) (Ld 2147483549))) false) (EA t cs P i a4 a5 a6 a7)=.nx (EA t cs P i (sI d) a5 a6 a7):=g1;have v4:∀{a5 a6 a7:Slot},ev (T (n+1)) Li (EA t cs P i (sI d) a5 a6 a7)=.ok (.int d,.mv []):=fun {_ _ _}=>aC rfl rfl
 have e2:∃k:Nat,1<=k/\k<=3/\ev (T (n+1)) (.ix (.lst (Lu K5 (.bin .Add KW (.bin .Mod Li K5)))) (.bin .Mod (.bin .FloorDiv Li K5) K4)) (EA t cs P i (sI d) a5 a6 a7)=.ok (.int (k:Int),.mv []):=by
  obtain⟨j,hj,Xg⟩:=cM (cf d (show (3:Int)≠0 by decide)) (bt d (show (0:Int)<3 by decide));obtain⟨y,hy,WZ⟩:=cM (cf (d / 3) (show (2:Int)≠0 by decide)) (bt (d / 3) (show (0:Int)<2 by decide));have em:=bQ (by decide:(0:Int)<3) (v4 (a5:=a5) (a6:=a6) (a7:=a7)) (aF (.int 3));rw[hj] at em;have ek:=be (x:=1) (aF (.int 1)) em;have ey:=bQ (by decide:(0:Int)<2) (dB (by decide:(0:Int)<3) (by decide) (v4 (a5:=a5) (a6:=a6) (a7:=a7)) (aF (.int 3))) (aF (.int 2));rw[hy] at ey;have el:ev (T (n+1)) (.lst (Lu K5 (.bin .Add KW (.bin .Mod Li K5)))) (EA t cs P i (sI d) a5 a6 a7)=.ok (.lst [.int 3,.int ((1+j:Nat):Int)],.mv []):=by
   rw[ev,aY,aF,aA,aY,ek,aA,aY];rfl
  have:y=0\/y=1:=by omega
  rcases this with rfl | rfl
  .exact⟨3,by decide,by decide,jJ (i:=0) el ey rfl rfl⟩
  .exact⟨1+j,by omega,by omega,jJ (i:=1) el ey rfl rfl⟩
 obtain⟨k0,WW,WV,e2⟩:=e2;have g2:=aK (i:=5) (gQ (t:=t) (cs:=cs) (P:=P) (i:=i) (aB (.int d)) h5 h6 h7) (show (5:Nat)<8 by decide) e2;have g2:aV (T (n+1)) (.asg (.nm 5) (.ix (.lst (Lu K5 (.bin .Add KW (.bin .Mod Li K5)))) (.bin .Mod (.bin .FloorDiv Li K5) K4)) false) (EA t cs P i (sI d) a5 a6 a7)=.nx (EA t cs P i (sI d) (sN k0) a6 a7):=g2;have e3:=B8 hs (c:=t[i]) WW WV Xq.1 (rC (by omega) (aC (T:=T (n+1)) (env:=EA t cs P i (sI d) (sN k0) a6 a7) (i:=0) (d:=.str (tx t)) (t:=.own) rfl rfl) (aC (i:=3) (d:=.int (i:Int)) (t:=.own) rfl rfl) hx) (aC (T:=T (n+1)) (env:=EA t cs P i (sI d) (sN k0) a6 a7) (i:=5) (d:=.int (k0:Int)) (t:=.own) rfl rfl);have g3:∃k,1<=k/\k<=3/\eK k t[i]=true/\aV (T (n+1)) (.ite (.cmp .NotIn (.ix Le Lk) (.call 6 (Ls Lh))) (.cons (.asg (.nm 5) K5 false) .nil) .nil) (EA t cs P i (sI d) (sN k0) a6 a7)=.nx (EA t cs P i (sI d) (sN k) a6 a7):=by
  cases hz:eK k0 t[i] with
  |true =>
   rw[hz] at e3;exact⟨k0,WW,WV,hz,ite_ff e3⟩
  |false =>
   rw[hz] at e3;refine⟨3,by decide,by decide,Xq.2,?_⟩;have e3:ev (T (n+1)) (.cmp .NotIn (.ix Le Lk) (.call 6 (Ls Lh))) (EA t cs P i (sI d) (sN k0) a6 a7)=.ok (.bl (decide True),.mv []):=e3;rw[oH e3,if_pos trivial];exact iN (aK (gQ (aB _) (aB _) h6 h7) (show (5:Nat)<8 by decide) (aF (.int 3)))
 obtain⟨k,k1,k3,Xf,g3⟩:=g3;have g4:aV (T (n+1)) (.asg (.nm 6) KW false) (EA t cs P i (sI d) (sN k) a6 a7)=.nx (EA t cs P i (sI d) (sN k) (sN 1) a7):=aK (gQ (aB _) (aB _) h6 h7) (show (6:Nat)<8 by decide) (aF (.int 1));obtain⟨y,hy,WZ⟩:=cM (cf (d / 6) (show (30:Int)≠0 by decide)) (bt (d / 6) (show (0:Int)<30 by decide));have e5:=bQ (by decide:(0:Int)<30) (dB (by decide:(0:Int)<6) (by decide) (v4 (a5:=sN k) (a6:=sN 1) (a7:=a7)) (aF (.int 6))) (aF (.int 30));rw[hy] at e5;have g5:aV (T (n+1)) (.asg (.nm 7) (.bin .Add KW (.bin .Mod (.bin .FloorDiv Li K9) La)) false) (EA t cs P i (sI d) (sN k) (sN 1) a7)=.nx (EA t cs P i (sI d) (sN k) (sN 1) (sN (1+y))):=aK (gQ (aB _) (aB _) (aB _) h7) (show (7:Nat)<8 by decide) (be (x:=1) (aF (.int 1)) e5);obtain⟨m,m1,WS,Rz,T4,q⟩:=zU hs (t:=t) (cs:=cs) (P:=P) (i:=i) (k:=k) (M:=1+y) (d:=d) (by omega) hG k1 k3 (by omega) 1000 1 (by omega) (by decide) (by omega) (fun c hc=>by
  have:(t.drop i).take 1=[t[i]]:=by rw[List.take_one,List.head?_drop,hx];rfl
  rw[this] at hc;rw[iq.mp hc];exact Xf)
 have g6:aV (T (n+1)) (.Mu FX Ia) (EA t cs P i (sI d) (sN k) (sN 1) (sN (1+y)))=.nx (EA t cs P i (sI d) (sN k) (sN m) (sN (1+y))):=by rw[aV];exact q
 have v3:∀{P:List Pe},ev (T (n+1)) Lk (EA t cs P i (sI d) (sN k) (sN m) (sN (1+y)))=.ok (.int (i:Int),.mv []):=fun {_}=>aC rfl rfl
 have v6:∀{P:List Pe},ev (T (n+1)) Lj (EA t cs P i (sI d) (sN k) (sN m) (sN (1+y)))=.ok (.int (m:Int),.mv []):=fun {_}=>aC rfl rfl
 have es:=uL (by omega) (aC (T:=T (n+1)) (env:=EA t cs P i (sI d) (sN k) (sN m) (sN (1+y))) (i:=0) (d:=.str (tx t)) (t:=.own) rfl rfl) (cY v3) (cY (be v3 v6)) (we t i m Rz);have et:=oy (aC (T:=T (n+1)) (env:=EA t cs P i (sI d) (sN k) (sN m) (sN (1+y))) (i:=5) (d:=.int (k:Int)) (t:=.own) rfl rfl) es;have g7:=gU (x:=2) (gQ (t:=t) (cs:=cs) (P:=P) (i:=i) (aB (.int d)) (aB (.int (k:Int))) (aB (.int (m:Int))) (aB (.int ((1+y:Nat):Int)))) rfl et (by rw[ak];exact bq (i0 hP) (by decide));have g7:aV (T (n+1)) (.mut 2 .none .append (Ls (.tup (Lu Lh (.sl Le (.some Lk) (.some (.bin .Add Lk Lj))))))) (EA t cs P i (sI d) (sN k) (sN m) (sN (1+y)))=.nx (EA t cs (P ++ [(k,(t.drop i).take m)]) i (sI d) (sN k) (sN m) (sN (1+y))):=by
  rw[g7];show Fl.nx [sT t,sL cs,some (.lst (P.map pD ++ [pD (k,(t.drop i).take m)]),.own),sN i,sI d,sN k,sN m,sN (1+y)]=_;rw[EA,oP,dt];rfl
 have g8:aV (T (n+1)) (.asg (.nm 3) (.bin .Add Lk Lj) false) (EA t cs (P ++ [(k,(t.drop i).take m)]) i (sI d) (sN k) (sN m) (sN (1+y)))=.nx (EA t cs (P ++ [(k,(t.drop i).take m)]) (i+m) (sI d) (sN k) (sN m) (sN (1+y))):=aK (gQ (aB _) (aB _) (aB _) (aB _)) (show (3:Nat)<8 by decide) (be v3 v6);refine⟨k,m,d,1+y,k1,k3,m1,WS,Rz,T4,?_⟩;unfold Ij;rw[aE,g1,aD,aE,g2,aD,aE,g3,aD,aE,g4,aD,aE,g5,aD,aE,g6,aD,aE,g7,aD,aE,g8,aD,aE]
theorem ze (n:Nat){cs:List Int}(ht:t.length<=100)(hG:Good t):∀(f i:Nat) (P:List Pe) (a4 a5 a6 a7:Slot),aR a4->aR a5->aR a6->aR a7->t.length-i<f->i<=t.length->P.length<=i->(∀p∈P,Piece p)->((P.map (·.2)).flatten).length=i ->
  ∃P' i' b4 b5 b6 b7,(∀p∈P',Piece p)/\((P'.map (·.2)).flatten).length<=100/\P'.length<=100/\eU (vC (T (n+1)) AM) (aE (T (n+1)) Ij) f (EA t cs P i a4 a5 a6 a7)=.nx (EA t cs P' i' b4 b5 b6 b7)
 |0,i,P,a4,a5,a6,a7,_,_,_,_,h,_,_,_,_=>absurd h (gq _)
 | f+1,i,P,a4,a5,a6,a7,h4,h5,h6,h7,hf,hi,QG,hP,hfl=>by
  have c:=lX (aC (T:=T (n+1)) (env:=EA t cs P i a4 a5 a6 a7) (i:=3) (d:=.int (i:Int)) (t:=.own) rfl rfl) (gC (by omega) (aC (T:=T (n+1)) (env:=EA t cs P i a4 a5 a6 a7) (i:=0) (d:=.str (tx t)) (t:=.own) rfl rfl));have hc:vC (T (n+1)) AM (EA t cs P i a4 a5 a6 a7)=.ok (decide (i<t.length)):=by
   unfold vC AM;rw[c,aA];rfl
  by_cases z:i<t.length
  .rw[bp z] at hc;obtain⟨k,m,d,M,k1,k3,m1,WS,Rz,T4,st⟩:=Kw n (t:=t) (cs:=cs) (P:=P) (i:=i) h4 h5 h6 h7 ht hG z (by omega);have hlen:((t.drop i).take m).length=m:=by rw[bh,bu];omega
   obtain⟨P',i',b4,b5,b6,b7,q1,q2,q3,q⟩:=ze n (cs:=cs) ht hG f (i+m) (P ++ [(k,(t.drop i).take m)]) (sI d) (sN k) (sN m) (sN M) (aB _) (aB _) (aB _) (aB _) (by omega) Rz (by rw[aa,az];omega) (fun p hp=>by
    rcases List.mem_append.mp hp with hp | hp
    .exact hP p hp
    .rw[iq.mp hp];exact⟨k1,k3,by show 1<=((t.drop i).take m).length;omega,by show ((t.drop i).take m).length<=64;omega,T4⟩) (by
    rw[dt,List.flatten_append,aa,hfl];show i+(((t.drop i).take m) ++ []).length=_;rw[ay,hlen])
   exact⟨P',i',b4,b5,b6,b7,q1,q2,q3,by rw[oC hc st,q]⟩
  .rw[ba z] at hc;exact⟨P,i,a4,a5,a6,a7,hP,by omega,by omega,by rw[og hc]⟩
theorem ac (n:Nat){t:List Nat}{cs:List Int}(ht:t.length<=100)(hG:Good t):∃P:List Pe,(∀p∈P,Piece p)/\((P.map (·.2)).flatten).length<=100/\P.length<=100/\(T (n+2)).cl 20 [.str (tx t),.lst (iD cs)]=.ok (.lst (P.map pD),true):=by
 have LJ:aI [.str (tx t),.lst (iD cs)] 8=[sT t,sL cs,none,none,none,none,none,none]:=rfl;have tn:=aN;have g1:aV (T (n+1)) (.asg (.nm 2) (.lst .nil) false) [sT t,sL cs,none,none,none,none,none,none]=.nx [sT t,sL cs,oP [],none,none,none,none,none]:=rfl;have g2:aV (T (n+1)) (.asg (.nm 3) KU false) [sT t,sL cs,oP [],none,none,none,none,none]=.nx (EA t cs [] 0 none none none none):=rfl;obtain⟨P,i',b4,b5,b6,b7,q1,q2,q3,q⟩:=ze n (cs:=cs) ht hG 1000 0 [] none none none none tn tn tn tn (by omega) (dh _) (au _) (fun _ z=>(nomatch z)) rfl;have g3:aV (T (n+1)) (.Mu AM Ij) (EA t cs [] 0 none none none none)=.nx (EA t cs P i' b4 b5 b6 b7):=by rw[aV];exact q
 refine⟨P,q1,q2,q3,?_⟩;rw[oB,bH (F:=⟨2,8,RW⟩) rfl rfl];dsimp only;rw[LJ,Gk,aE,g1,aD,aE,g2,aD,aE,g3,aD];have v2:ev (T (n+1)) Lg (EA t cs P i' b4 b5 b6 b7)=.ok (.lst (P.map pD),.mv [2]):=aX rfl rfl;rw[aE,aV,v2,bA];rfl
open Pc.Fr (iD fK)
noncomputable def Jb:bL:=(.cons (.mut 3 .none .append (Ls Lf))
  .nil)
noncomputable def Kl:Ex:=(.cmp .Lt (Ly Lh) Lg)
theorem HM:RV=(.cons (.asg (.nm 3) (.lst .nil) false)
  (.cons (.LP (.nm 4) (.seq Le) Kk)
  (.cons (.asg (.nm 3) (.bin .Add Lk (.lst (Lu KU KU))) false)
  (.cons (.Mu G9 Jb)
  (.cons (.asg (.nm 5) (.lst .nil) false)
  (.cons (.LP (.nm 6) (.L6 KU (Ly Lk) K9) Jl)
  (.cons (.asg (.nm 7) Lc false)
  (.cons (.Mu Kl Ii)
  (.cons (.ret (.sl Lh .none (.some (Ld 133))))
  .nil))))))))):=rfl
noncomputable abbrev sP (P:List Pe):Slot:=some (.lst (P.map pD),.sh [])
noncomputable abbrev EC (P:List Pe)(z r:Nat)(a3 a4 a5 a6 a7:Slot):En:=[sP P,sN z,sN r,a3,a4,a5,a6,a7]
variable {a3:Slot}
theorem cJ {P:List Pe}{z r:Nat}(h3:aR a3)(h4:aR a4)(h5:aR a5)(h6:aR a6)(h7:aR a7):Tame (EC P z r a3 a4 a5 a6 a7):=.cons (dJ _) (.cons (aB _) (.cons (aB _) (.cons h3 (.cons h4 (.cons h5 (.cons h6 (.cons h7 .nil)))))))
theorem Bl (n:Nat){P0:List Pe}{z r:Nat}:∀(P:List Pe) (B:List Int) (a4:Slot),aR a4->(∀p∈P,Piece p)->B.length+(fV P).length<=10000->∃RZ,aR RZ/\cZ (.nm 4) [] (aE (T (n+3)) Kk) (P.map pD) (EC P0 z r (oI B) a4 none none none)=.nx (EC P0 z r (oI (B++fV P)) RZ none none none)
 |[],B,a4,h,_,_=>⟨a4,h,by rw[show fV []=[] from rfl,ay];rfl⟩
 | p::P,B,a4,h,hP,hl=>by
  have tn:=aN;have hB:fV (p::P)=PB p++fV P:=rfl;rw[hB,aa] at hl;have ec:=fL (aC (T:=T (n+3)) (env:=EC P0 z r (oI B) (some (pD p,.own)) none none none) (i:=4) (d:=pD p) (t:=.own) rfl rfl) (pB n p (hP p aj));obtain⟨RZ,t4,q⟩:=Bl n (P0:=P0) (z:=z) (r:=r) P (B++PB p) (some (pD p,.own)) (aB _) (fun x hx=>hP x (ai _ hx)) (by rw[aa];omega);have hb:bK [] (.nm 4) (pD p) (EC P0 z r (oI B) a4 none none none)=some (EC P0 z r (oI B) (some (pD p,.own)) none none none):=dD (cJ (aB _) h tn tn tn) (show (4:Nat)<8 by decide);have st:aE (T (n+3)) Kk (EC P0 z r (oI B) (some (pD p,.own)) none none none)=.nx (EC P0 z r (oI (B++PB p)) (some (pD p,.own)) none none none):=by
   obtain⟨R,v3⟩:∃R,ev (T (n+3)) Lk (EC P0 z r (oI B) (some (pD p,.own)) none none none)=.ok (.lst (iD B),R):=⟨_,aX rfl rfl⟩;generalize PB p=Z at *;have g:=aK (i:=3) (cJ (P:=P0) (z:=z) (r:=r) (aB (.lst (iD B))) (aB (pD p)) tn tn tn) (show (3:Nat)<8 by decide) (fE v3 ec (by omega));unfold Kk;rw[aE,g,aD,aE];rfl
  exact⟨RZ,t4,by rw[aw,cF hb st,q,hB,av]⟩
theorem wJ {T:Tb}{P:List Pe}{z r:Nat}{B:List Int}{a4:Slot}:vC T G9 (EC P z r (oI B) a4 none none none)=.ok (decide (B.length%6≠0)):=by
 obtain⟨R,v3⟩:∃R,ev T Lk (EC P z r (oI B) a4 none none none)=.ok (.lst (iD B),R):=⟨_,aX rfl rfl⟩;have el:=eL v3;rw[bM] at el;have em:=bQ (by decide:(0:Int)<6) el (aF (.int 6));have:ev T G9 (EC P z r (oI B) a4 none none none)=.ok (.bl (decide (B.length%6≠0)),.mv []):=by
  unfold G9;rw[ev,em,aA,aF,aA];show (eW ((some (((B.length:Int)%6)==0)).map (!·))).bind _=_;have:(!(((B.length:Int)%6)==0))=decide (B.length%6≠0):=by
   by_cases h:B.length%6=0
   .rw[decide_eq_false (by simpa using h),show ((B.length:Int)%6)=0 by omega];rfl
   .rw[bp h,show (((B.length:Int)%6)==0)=false by rw[gd];omega];rfl
  show (eW (some (!(((B.length:Int)%6)==0)))).bind _=_;rw[this];rfl
 unfold vC;rw[this,aA];rfl
theorem yR {T:Tb}{P:List Pe}{z r:Nat}(h4:aR a4):∀(d f:Nat) (B:List Int),d<f->d<6->(B.length+d)%6=0->B.length+d<=20000->eU (vC T G9) (aE T Jb) f (EC P z r (oI B) a4 none none none)=.nx (EC P z r (oI (B++List.replicate d (z:Int))) a4 none none none)
 |0,0,B,h,_,_,_=>absurd h (gq _)
 | 0,f+1,B,_,_,h,_=>by
  have hc:=wJ (T:=T) (P:=P) (z:=z) (r:=r) (B:=B) (a4:=a4);rw[ba (by omega)] at hc;rw[og hc,List.replicate_zero,ay]
 |d+1,0,B,h,_,_,_=>absurd h (gq _)
 | d+1,f+1,B,hf,h6,h,hl=>by
  have hc:=wJ (T:=T) (P:=P) (z:=z) (r:=r) (B:=B) (a4:=a4);rw[bp (by omega)] at hc;have st:aE T Jb (EC P z r (oI B) a4 none none none)=.nx (EC P z r (oI (B ++ [(z:Int)])) a4 none none none):=by
   have g:=gU (x:=3) (cJ (P:=P) (z:=z) (r:=r) (aB (.lst (iD B))) h4 aN aN aN) rfl (aC (T:=T) (env:=EC P z r (oI B) a4 none none none) (i:=1) (d:=.int (z:Int)) (t:=.own) rfl rfl) (by rw[bM];exact sU (by omega));unfold Jb;rw[aE,g,aD,aE];show Fl.nx [sP P,sN z,sN r,some (.lst (iD B ++ [.int (z:Int)]),.own),a4,none,none,none]=_;rw[EC,oI,jw];rfl
  rw[oC hc st,yR h4 d f (B ++ [(z:Int)]) (by omega) (by omega) (by rw[aa,az];omega) (by rw[aa,az];omega),av];rfl
noncomputable def D6 (B:List Int)(a:Nat):Int:=((List.range 6).map fun k=>B.getD (a+k) 0*2 ^ (5-k)).sum
variable {B:List Int}
theorem JN (hB:∀b∈B,0<=b/\b<=1)(a:Nat):0<=D6 B a/\D6 B a<64:=by
 have key:∀j,0<=B.getD j 0/\B.getD j 0<=1:=fun j=>by
  by_cases h:j<B.length
  .have e:B.getD j 0=B[j]:=by simp[h]
   rw[e];exact hB _ (fh h)
  .have e:B.getD j 0=0:=by simp[Nat.le_of_not_lt h]
   rw[e];decide
 have e:D6 B a=B.getD (a+0) 0*32+(B.getD (a+1) 0*16+(B.getD (a+2) 0*8+(B.getD (a+3) 0*4+(B.getD (a+4) 0*2+(B.getD (a+5) 0*1+0))))):=rfl;have:=key (a+0);have:=key (a+1);have:=key (a+2);have:=key (a+3);have:=key (a+4);have:=key (a+5);omega
theorem GJ {T:Tb}{P:List Pe}{z r:Nat}{B R:List Int}{a4:Slot}{a:Nat}(hB:∀b∈B,0<=b/\b<=1)(ha:a+6<=B.length):ev T Va (EC P z r (oI B) a4 (oI R) (sN a) none)=.ok (.int (D6 B a),.mv []):=by
 have hit:fU T (.L7 K9) (EC P z r (oI B) a4 (oI R) (sN a) none)=.ok (((List.range 6).map fun k=>k).map fun (k:Nat)=>D.int (k:Int),[]):=by
  rw[DE (m:=6) (aF (.int 6)) (by decide)];rfl
 have ec:=iM (own:=1) (pick:=[6,3]) (t:=.nm 0) (e:=.bin .LShift (.ix Lg (.bin .Add Lf Le)) (.bin .Sub K3 Le)) (r:=fun (k:Nat)=>D.int (B.getD (a+k) 0*2 ^ (5-k))) hit (by decide) (fun k hk=>by
  have hk6:k<6:=by simpa using hk
  have hb:bK [] (.nm 0) (.int (k:Int)) (cN (EC P z r (oI B) a4 (oI R) (sN a) none) 1 [6,3])=some [sN k,some (.int (a:Int),.sh []),some (.lst (iD B),.sh [])]:=rfl;rw[hb];refine pS ?_;have v0:ev T Le [sN k,some (.int (a:Int),.sh []),some (.lst (iD B),.sh [])]=.ok (.int (k:Int),.mv []):=aC rfl rfl;have v1:ev T Lf [sN k,some (.int (a:Int),.sh []),some (.lst (iD B),.sh [])]=.ok (.int (a:Int),.mv []):=aC rfl rfl;obtain⟨R2,v2⟩:∃R,ev T Lg [sN k,some (.int (a:Int),.sh []),some (.lst (iD B),.sh [])]=.ok (.lst (iD B),R):=⟨_,rfl⟩;have LO:a+k<B.length:=by omega
  have hg:B.getD (a+k) 0=B[a+k]:=by simp[LO]
  have hbd:=hB _ (fh LO);have ex:=Fr.A5 (i:=((a+k:Nat):Int)) (v:=B[a+k]) (by omega) (by rw[cj];exact List.getElem?_eq_getElem LO) v2 (be v1 v0);have es:=lV (x:=5) (by omega:k<=5) (aF (.int 5)) v0;rw[ev,ex,aA,es,aA,hg];generalize hb0:B[a+k]=b at *;have e:ph .LShift (.int b) (.int ((5-k:Nat):Int))=some (.int (b*2 ^ (5-k))):=by
   show ((if 0<=((5-k:Nat):Int)/\((5-k:Nat):Int)<=1000000/\b.natAbs<2 ^ 64 then some (b*2 ^ (((5-k:Nat):Int)).toNat) else none)).map D.int=_;rw[if_pos ⟨by omega,by omega,by omega⟩,cj];rfl
  rw[e];rfl)
 have hs:iH .sum [.lst (((List.range 6).map fun k=>k).map fun (k:Nat)=>D.int (B.getD (a+k) 0*2 ^ (5-k)))]=some (.int (D6 B a)):=by
  have e:(((List.range 6).map fun k=>k).map fun (k:Nat)=>D.int (B.getD (a+k) 0*2 ^ (5-k)))=((List.range 6).map fun k=>B.getD (a+k) 0*2 ^ (5-k)).map D.int:=by
   rw[df,df];rfl
  rw[e];show (vn 0 (((List.range 6).map fun k=>B.getD (a+k) 0*2 ^ (5-k)).map D.int)).map D.int=_;rw[sum_ints,Int.zero_add];rfl
 unfold Va;rw[ev,aY,ec,aA,aY,aA,aA,md,hs];rfl
theorem Aa {T:Tb}{P:List Pe}{z r:Nat}(h4:aR a4)(hB:∀b∈B,0<=b/\b<=1):∀(l:List Nat) (R:List Int) (a6:Slot),aR a6->(∀j∈l,6*j+6<=B.length)->(∀g∈R,0<=g/\g<64)->R.length+l.length<=2000 ->
  ∃R' RY,aR RY/\(∀g∈R',0<=g/\g<64)/\R'.length=R.length+l.length/\cZ (.nm 6) [] (aE T Jl) (l.map fun j=>D.int ((0+6*j:Nat):Int)) (EC P z r (oI B) a4 (oI R) a6 none)=.nx (EC P z r (oI B) a4 (oI R') RY none)
 |[],R,a6,h6,_,hR,_=>⟨R,a6,h6,hR,rfl,rfl⟩
 | j::l,R,a6,h6,hj,hR,hl=>by
  rw[ah] at hl;have es:=GJ (T:=T) (P:=P) (z:=z) (r:=r) (B:=B) (R:=R) (a4:=a4) (a:=0+6*j) hB (by have:=hj j aj;omega);have hsv:=JN hB (0+6*j);have st:aE T Jl (EC P z r (oI B) a4 (oI R) (sN (0+6*j)) none)=.nx (EC P z r (oI B) a4 (oI (R ++ [D6 B (0+6*j)])) (sN (0+6*j)) none):=by
   have g:=gU (x:=5) (cJ (P:=P) (z:=z) (r:=r) (aB (.lst (iD B))) h4 (aB (.lst (iD R))) (aB (.int ((0+6*j:Nat):Int))) aN) rfl es (by rw[bM];exact sU (by omega));unfold Jl;rw[aE,g,aD,aE];show Fl.nx [sP P,sN z,sN r,oI B,a4,some (.lst (iD R ++ [.int (D6 B (0+6*j))]),.own),sN (0+6*j),none]=_;rw[EC,oI,oI,jw];rfl
  obtain⟨R',RY,t6,q1,q2,q⟩:=Aa (T:=T) (P:=P) (z:=z) (r:=r) h4 hB l (R ++ [D6 B (0+6*j)]) (sN (0+6*j)) (aB _) (fun x hx=>hj x (ai _ hx)) (fun g hg=>by
   rcases List.mem_append.mp hg with hg | hg
   .exact hR g hg
   .rw[iq.mp hg];exact hsv) (by rw[aa,az];omega)
  have hb:bK [] (.nm 6) (.int ((0+6*j:Nat):Int)) (EC P z r (oI B) a4 (oI R) a6 none)=some (EC P z r (oI B) a4 (oI R) (sN (0+6*j)) none):=dD (cJ (aB _) h4 (aB _) h6 aN) (show (6:Nat)<8 by decide);exact⟨R',RY,t6,q1,by rw[q2,aa,az,ah];omega,by rw[aw,cF hb st];exact q⟩
theorem DL {T:Tb}{P:List Pe}{z r:Nat}{B:List Int}(h4:aR a4)(h6:aR a6):∀(f y:Nat) (R:List Int),r-R.length<f->(∀g∈R,0<=g/\g<64)->y<=63->R.length<=3000->r<=3000->∃R' y',(∀g∈R',0<=g/\g<64)/\R'.length=max R.length r/\eU (vC T Kl) (aE T Ii) f (EC P z r (oI B) a4 (oI R) a6 (sN y))=.nx (EC P z r (oI B) a4 (oI R') a6 (sN y'))
 |0,y,R,h,_,_,_,_=>absurd h (gq _)
 | f+1,y,R,hf,hR,hy,hl,hr=>by
  obtain⟨R2,v5⟩:∃R2,ev T Lh (EC P z r (oI B) a4 (oI R) a6 (sN y))=.ok (.lst (iD R),R2):=⟨_,aX rfl rfl⟩;have el:=eL v5;rw[bM] at el;have c:=lX el (aC (T:=T) (env:=EC P z r (oI B) a4 (oI R) a6 (sN y)) (i:=2) (d:=.int (r:Int)) (t:=.own) rfl rfl);have hc:vC T Kl (EC P z r (oI B) a4 (oI R) a6 (sN y))=.ok (decide (R.length<r)):=by
   unfold vC Kl;rw[c,aA];rfl
  by_cases hz:R.length<r
  .rw[bp hz] at hc;have g1:=gU (x:=5) (cJ (P:=P) (z:=z) (r:=r) (aB (.lst (iD B))) h4 (aB (.lst (iD R))) h6 (aB (.int (y:Int)))) rfl (aC (T:=T) (env:=EC P z r (oI B) a4 (oI R) a6 (sN y)) (i:=7) (d:=.int (y:Int)) (t:=.own) rfl rfl) (by rw[bM];exact sU (by omega));have g1:aV T (.mut 5 .none .append (Ls Ll)) (EC P z r (oI B) a4 (oI R) a6 (sN y))=.nx (EC P z r (oI B) a4 (oI (R ++ [(y:Int)])) a6 (sN y)):=by
    rw[g1];show Fl.nx [sP P,sN z,sN r,oI B,a4,some (.lst (iD R ++ [.int (y:Int)]),.own),a6,sN y]=_;rw[EC,oI,oI,jw];rfl
   have g2:aV T (.asg (.nm 7) (.bin .Sub KY Ll) false) (EC P z r (oI B) a4 (oI (R ++ [(y:Int)])) a6 (sN y))=.nx (EC P z r (oI B) a4 (oI (R ++ [(y:Int)])) a6 (sN (63-y))):=aK (cJ (aB _) h4 (aB _) h6 (aB _)) (show (7:Nat)<8 by decide) (lV (x:=63) hy (aF (.int 63)) (aC rfl rfl));have st:aE T Ii (EC P z r (oI B) a4 (oI R) a6 (sN y))=.nx (EC P z r (oI B) a4 (oI (R ++ [(y:Int)])) a6 (sN (63-y))):=by
    unfold Ii;rw[aE,g1,aD,aE,g2,aD,aE]
   have hl1:(R ++ [(y:Int)]).length=R.length+1:=by rw[aa,az]
   obtain⟨R',y',q1,q2,q⟩:=DL (T:=T) (P:=P) (z:=z) (B:=B) h4 h6 f (63-y) (R ++ [(y:Int)]) (by omega) (fun g hg=>by
    rcases List.mem_append.mp hg with hg | hg
    .exact hR g hg
    .rw[iq.mp hg];omega) (by omega) (by omega) hr
   exact⟨R',y',q1,by rw[q2,hl1];omega,by rw[oC hc st,q]⟩
  .rw[ba hz] at hc;exact⟨R,y,hR,by omega,by rw[og hc]⟩
theorem HV {α:Type}(cs:List α)(n:Nat):cut cs none (some (n:Int))=cs.take n:=by
 unfold cut eF;simp only[List.drop_zero,Nat.sub_zero];rw[if_neg (by omega),cj];by_cases h:n<=cs.length
 .rw[fk h]
 .rw[i5 (by omega),dm (au _),dm (by omega)]
theorem Vu {α:Type}(cs:List α)(n:Nat):cut cs (some (n:Int)) none=cs.drop n:=by
 unfold cut;rw[jP];show (cs.drop (min n cs.length)).take (cs.length-min n cs.length)=_;by_cases h:n<=cs.length
 .rw[fk h];exact List.take_of_length_le (by simp)
 .rw[i5 (by omega),Nat.sub_self,List.take_zero,List.drop_of_length_le (l:=cs) (i:=n) (by omega)]
theorem Vt {α:Type}(cs:List α):cut cs none (some (-1))=cs.take (cs.length-1):=by
 unfold cut eF;simp only[List.drop_zero,Nat.sub_zero];rw[if_pos (by decide),show (-1+(cs.length:Int)).toNat=cs.length-1 by omega]
theorem cg (n:Nat){P:List Pe}{z r:Nat}(hP:∀p∈P,Piece p)(hb:iC P<=2000)(hz:z<=1)(hr:r<=300):∃R:List Int,dZ R=true/\R.length=min 133 (max ((iC P+2+5) / 6) r)/\(T (n+4)).cl 21 [.lst (P.map pD),.int (z:Int),.int (r:Int)]=.ok (.lst (iD R),true):=by
 have tn:=aN;have LJ:aI [.lst (P.map pD),.int (z:Int),.int (r:Int)] 8=EC P z r none none none none none:=rfl;have g1:aV (T (n+3)) (.asg (.nm 3) (.lst .nil) false) (EC P z r none none none none none)=.nx (EC P z r (oI []) none none none none):=aK (cJ tn tn tn tn tn) (show (3:Nat)<8 by decide) (by rw[ev,aY];rfl);have QG:=lx P hP;obtain⟨a4,t4,q1⟩:=Bl n (P0:=P) (z:=z) (r:=r) P [] none tn hP (by rw[bz,QG];omega);have Uc:fU (T (n+3)) (.seq Le) (EC P z r (oI []) none none none none)=.ok (P.map pD,[]):=rfl;have g2:=dQ Uc q1;rw[dq] at g2;obtain⟨R2,v3⟩:∃R,ev (T (n+3)) Lk (EC P z r (oI (fV P)) a4 none none none)=.ok (.lst (iD (fV P)),R):=⟨_,aX rfl rfl⟩;have ez:ev (T (n+3)) (.lst (Lu KU KU)) (EC P z r (oI (fV P)) a4 none none none)=.ok (.lst (iD [0,0]),.mv []):=by
  rw[ev,aY,aF,aA,aY,aF,aA,aY];rfl
 have g3:=aK (i:=3) (cJ (P:=P) (z:=z) (r:=r) (aB (.lst (iD (fV P)))) t4 tn tn tn) (show (3:Nat)<8 by decide) (fE v3 ez (by rw[QG];show _+2<=_;omega));have g3:aV (T (n+3)) (.asg (.nm 3) (.bin .Add Lk (.lst (Lu KU KU))) false) (EC P z r (oI (fV P)) a4 none none none)=.nx (EC P z r (oI (fV P ++ [0,0])) a4 none none none):=g3;have UA:(fV P ++ [0,0]).length=iC P+2:=by rw[aa,QG];rfl
 have hd6:((fV P ++ [0,0]).length+(6-(iC P+2)%6)%6)%6=0:=by rw[UA];omega
 have q4:=yR (T:=T (n+3)) (P:=P) (z:=z) (r:=r) t4 ((6-(iC P+2)%6)%6) 1000 (fV P ++ [0,0]) (by omega) (by omega) hd6 (by rw[UA];omega);have g4:aV (T (n+3)) (.Mu G9 Jb) (EC P z r (oI (fV P ++ [0,0])) a4 none none none)=.nx (EC P z r (oI (fV P ++ [0,0]++List.replicate ((6-(iC P+2)%6)%6) (z:Int))) a4 none none none):=by rw[aV];exact q4
 have NR:∀b∈fV P ++ [0,0]++List.replicate ((6-(iC P+2)%6)%6) (z:Int),0<=b/\b<=1:=fun b hb=>by
  rcases List.mem_append.mp hb with hb | hb
  .rcases List.mem_append.mp hb with hb | hb
   .obtain⟨s,hs,hb⟩:=List.mem_flatten.mp hb;obtain⟨p,_,rfl⟩:=List.mem_map.mp hs;obtain⟨s,hs,hb⟩:=List.mem_flatten.mp (show b∈(List.map (fun q=>aP q.1 q.2) (gG p.1 p.2)).flatten from hb);obtain⟨q,_,rfl⟩:=List.mem_map.mp hs;exact lu q.1 q.2 b hb
   .have:∀b∈([0,0]:List Int),0<=b/\b<=1:=by decide
    exact this b hb
  .rw[(List.mem_replicate.mp hb).2];omega
 have hBl:(fV P ++ [0,0]++List.replicate ((6-(iC P+2)%6)%6) (z:Int)).length=6*((iC P+2+5) / 6):=by rw[aa,UA,cm];omega
 generalize fV P ++ [0,0]++List.replicate ((6-(iC P+2)%6)%6) (z:Int)=B at *;have g5:aV (T (n+3)) (.asg (.nm 5) (.lst .nil) false) (EC P z r (oI B) a4 none none none)=.nx (EC P z r (oI B) a4 (oI []) none none):=aK (cJ (aB _) t4 tn tn tn) (show (5:Nat)<8 by decide) (by rw[ev,aY];rfl);obtain⟨R3,a6,t6,q5,q6,q7⟩:=Aa (T:=T (n+3)) (P:=P) (z:=z) (r:=r) t4 NR (List.range ((iC P+2+5) / 6)) [] none tn (fun j hj=>by have:=List.mem_range.mp hj;omega) (fun _ h=>(nomatch h)) (by rw[cw,bz];omega);obtain⟨R4,v3'⟩:∃R,ev (T (n+3)) Lk (EC P z r (oI B) a4 (oI []) none none)=.ok (.lst (iD B),R):=⟨_,aX rfl rfl⟩;have el:=eL v3';rw[bM] at el;have hit:=Kv (T:=T (n+3)) (n:=B.length) (by omega) el (aF (.int 6));rw[show (B.length+5) / 6=(iC P+2+5) / 6 by omega] at hit;have g6:=dQ hit (by simpa only[Nat.zero_add] using q7);have g7:aV (T (n+3)) (.asg (.nm 7) Lc false) (EC P z r (oI B) a4 (oI R3) a6 none)=.nx (EC P z r (oI B) a4 (oI R3) a6 (sN 42)):=aK (cJ (aB _) t4 (aB _) t6 tn) (show (7:Nat)<8 by decide) (aF (.int 42));rw[bz,fv,cw] at q6;obtain⟨R5,y',u1,u2,u⟩:=DL (T:=T (n+3)) (P:=P) (z:=z) (r:=r) (B:=B) t4 t6 1000 42 R3 (by omega) q5 (by decide) (by omega) (by omega);have g8:aV (T (n+3)) (.Mu Kl Ii) (EC P z r (oI B) a4 (oI R3) a6 (sN 42))=.nx (EC P z r (oI B) a4 (oI R5) a6 (sN y')):=by rw[aV];exact u
 refine⟨R5.take 133,?_,by rw[bh,u2,q6],?_⟩
 .unfold dZ;rw[cv];exact fun g hg=>bp (u1 g (fq hg))
 rw[oB,bH (F:=⟨3,8,RV⟩) rfl rfl];dsimp only;rw[LJ,HM,aE,g1,aD,aE,g2,aD,aE,g3,aD,aE,g4,aD,aE,g5,aD,aE,g6,aD,aE,g7,aD,aE,g8,aD];obtain⟨R6,v5⟩:∃R,ev (T (n+3)) Lh (EC P z r (oI B) a4 (oI R5) a6 (sN y'))=.ok (.lst (iD R5),R):=⟨_,aX rfl rfl⟩;have hs:Ib (.lst (iD R5)) none (some 133)=some (.lst (iD (R5.take 133))):=by
  show some (D.lst (cut (iD R5) none (some ((133:Nat):Int))))=_;rw[HV,iD,<-jf]
 exact eR (ux v5 iK (cY (aF (.int 133))) hs)
open Pc.Fr (iD fK)
theorem BW (l:List Int):iL (iD l)=some l:=by
 induction l with
 |nil=>rfl
 |cons a l ih =>
  show (iL (iD l)).map (a :: ·)=_;rw[ih];rfl
theorem good0:Good [48]:=by
 intro c hc;rw[iq.mp hc];decide +kernel
theorem tg0:(tg [48]).length<=100:=by
 have:=(qO good0).2.1;have:(tg [48]).length<=3*1+3:=this;omega
theorem Sf:(("0" : PySem.Str))=tx [48]:=by decide +kernel
theorem rd (n:Nat)(h6:dZ l=true)(hl:l.length<=133):(T (n+7)).cl 22 [.lst (iD l)]=.ok (fJ l,true):=by
 have hg:gR [.lst (iD l)]=some (fJ l):=by
  show (match iL (iD l) with
   |some l=>if dZ l&&decide (l.length<=133) then some (fJ l) else none
   |none=>none)=_
  rw[BW];dsimp only;rw[h6,bp hl,Bool.and_self,if_pos rfl]
 generalize fJ l=O at *;rw[oB,bH (F:=⟨1,4,E6⟩) rfl rfl];have LJ:aI [.lst (iD l)] 4=[sL l,none,none,none]:=rfl;dsimp only;rw[LJ];have e0:ev (T (n+6)) (.call 14 (Lu (.cst (.str ("0" : PySem.Str))) K8)) [sL l,none,none,none]=.ok (.lst (iD (tg [48]++j6 (100-(tg [48]).length))),.mv []):=by
  rw[Sf];exact fM (aF _) (aF _) (tG n [48] 100 (by decide) good0 tg0 (by decide))
 have g1:aV (T (n+6)) (.expr (.call 14 (Lu (.cst (.str ("0" : PySem.Str))) K8))) [sL l,none,none,none]=.nx [sL l,none,none,none]:=by
  rw[aV,e0,bA]
 obtain⟨R0,v0⟩:∃R,ev (T (n+6)) Le [sL l,none,none,none]=.ok (.lst (iD l),R):=⟨_,rfl⟩;have e2:ev (T (n+6)) (.app Pc.Rd.gR (Ls Le)) [sL l,none,none,none]=.ok (O,.mv []):=by
  rw[ev,aY,v0,aA,aY,aA,aA,md,hg];rfl
 unfold E6;rw[aE,g1,aD];exact eR e2
theorem xE (l:List Int):(fJ l).flat=true:=by
 unfold fJ;split<;>rfl
noncomputable def XH:Ex:=(.cmp .NotEq Lf Le)
noncomputable def VD:Ex:=(.blt (.N6 "str") (Ls Lg))
theorem Fx:RU=(.cons (.asg (.nm 1) (.blt .list (Ls Le)) false)
  (.cons (.asg (.nm 2) (.call 22 (Ls Lf)) false)
  (.cons (.ite XH (.cons (.ret (.cst (.bl false))) .nil) .nil)
  (.cons (.ite VD (.cons (.ret VC) .nil) .nil)
  (.cons (.ret XG)
  .nil))))):=rfl
theorem Xw (W:List Int):D.L4 40 (.lst (iD W)) (.lst (iD W))=some true:=by
 have:=wg 38 W W;rw[eo] at this;exact this
variable {d:D}
theorem Ax {T:Tb}{e:D}(h:ev T a env=.ok (d,R))(h':ev T b env=.ok (e,R'))(he:D.L4 40 d e=some true):ev T (.cmp .Eq a b) env=.ok (.bl true,.mv []):=by
 rw[ev,h,aA,h',aA];show (eW (D.L4 40 d e)).bind _=_;rw[he];rfl
variable {e:Ex}
theorem uv {T:Tb}{W:List Int}(h:ev T e env=.ok (.lst (iD W),R)):ev T (.blt .list (.cons e .nil)) env=.ok (.lst (iD W),.mv []):=by
 rw[ev,aY,h,aA,aY,aA,aA,md];show (eW (some (D.lst (iD W)))).bind _=_;rw[bZ,aA,iO]
theorem Du (hl:l.length<=133)(h:yl l=some t):Good t/\t.length<=260/\(tg t).length<=l.length/\tg t++j6 (l.length-(tg t).length)=l:=by
 unfold yl at h;obtain⟨w,hw,h⟩:=ag.mp h;obtain⟨a1,a2,a3,_⟩:=pO hl hw;by_cases z:(tg (jn w.1)).length<=l.length/\tg (jn w.1)++j6 (l.length-(tg (jn w.1)).length)=l
 .rw[if_pos z] at h;cases h;exact⟨a1,a2,a3,z.2⟩
 .rw[if_neg z] at h;cases h
theorem rg (n:Nat)(h6:dZ l=true)(hl:l.length<=133):(T (n+8)).cl 23 [.lst (iD l)]=.ok (.bl true,true):=by
 have tn:=aN;have LJ:aI [.lst (iD l)] 3=[sL l,none,none]:=rfl;obtain⟨R0,v0⟩:∃R,ev (T (n+7)) Le [sL l,none,none]=.ok (.lst (iD l),R):=⟨_,rfl⟩;have g1:aV (T (n+7)) (.asg (.nm 1) (.blt .list (Ls Le)) false) [sL l,none,none]=.nx [sL l,oI l,none]:=aK (.cons (dJ _) (.cons tn (.cons tn .nil))) (show (1:Nat)<3 by decide) (uv v0);have v1:∀{a:Slot},ev (T (n+7)) Lf [sL l,oI l,a]=.ok (.lst (iD l),.mv [1]):=fun {_}=>aX rfl rfl
 have g2:aV (T (n+7)) (.asg (.nm 2) (.call 22 (Ls Lf)) false) [sL l,oI l,none]=.nx [sL l,oI l,some (fJ l,.own)]:=aK (.cons (dJ _) (.cons (aB _) (.cons tn .nil))) (show (2:Nat)<3 by decide) (fL v1 (rd n h6 hl));have hf:=xE l;obtain⟨R1,QW⟩:∃R,ev (T (n+7)) Le [sL l,oI l,some (fJ l,.own)]=.ok (.lst (iD l),R):=⟨_,rfl⟩;have c1:ev (T (n+7)) XH [sL l,oI l,some (fJ l,.own)]=.ok (.bl false,.mv []):=sH v1 QW (Xw l);have v2:ev (T (n+7)) Lg [sL l,oI l,some (fJ l,.own)]=.ok (fJ l,.mv []):=aC rfl hf;rw[oB,bH (F:=⟨1,3,RU⟩) rfl rfl];dsimp only;rw[LJ,Fx,aE,g1,aD,aE,g2,aD,aE,ite_ff c1,aD,aE];cases hr:yl l with
 |none =>
  have ha:fJ l=.tup [.bl true,.bl true,.bl false]:=by unfold fJ;rw[hr]
  rw[ha] at v2 ⊢;have c2:ev (T (n+7)) VD [sL l,oI l,some (.tup [.bl true,.bl true,.bl false],.own)]=.ok (.bl false,.mv []):=fK (n:="str") (b:=false) v2 rfl;rw[ite_ff c2,aD];have et:ev (T (n+7)) (.tup (Lv (.cst (.bl true)) (.cst (.bl true)) (.cst (.bl false)))) [sL l,oI l,some (.tup [.bl true,.bl true,.bl false],.own)]=.ok (.tup [.bl true,.bl true,.bl false],.mv []):=by
   rw[ev,aY,aF,aA,aY,aF,aA,aY,aF,aA,aY];rfl
  exact eR (Ax v2 et rfl)
 |some t =>
  have ha:fJ l=.str (tx t):=by unfold fJ;rw[hr]
  obtain⟨a1,a2,a3,a4⟩:=Du hl hr;rw[ha] at v2 QW ⊢;have c2:ev (T (n+7)) VD [sL l,oI l,some (.str (tx t),.own)]=.ok (.bl (decide True),.mv []):=fK (n:="str") (b:=true) v2 rfl;rw[oH c2,if_pos trivial];have el:=eL QW;rw[bM] at el;have ec:=fM v2 el (tG (n+1) t l.length a2 a1 a3 (by omega));rw[a4] at ec;have e3:ev (T (n+7)) VC [sL l,oI l,some (.str (tx t),.own)]=.ok (.bl true,.mv []):=Ax ec QW (Xw l);rw[aE,aV,e3,bA];rfl
theorem GH (a b:List Int):bG (a++b)=bG a++bG b:=by
 unfold bG;rw[dt,List.flatten_append]
theorem zJ:∀(n:Nat) (l:List Int),l.length=n->(∀b∈l,0<=b/\b<=1)->aP (num l) n=l:=by
 have key:∀(l:List Int) (a:Int),0<=a->(∀b∈l,0<=b/\b<=1)->aP (l.foldl (fun x y=>2*x+y) a) l.length=l:=by
  intro l
  induction l with
  |nil=>intro a _ _;rfl
  |cons b l ih =>
   intro a ha h;obtain⟨b0,b1⟩:=h b aj;have hl:=fun x hx=>h x (ai _ hx)
   rw[jr,ah];show (l.foldl (fun x y=>2*x+y) (2*a+b)) / 2 ^ l.length%2::aP _ l.length=_;rw[ih (2*a+b) (by omega) hl];obtain⟨q1,q2⟩:=qM l (2*a+b) (by omega) hl;have hp:(0:Int)<2 ^ l.length:=Int.pow_pos (by decide);have e:(l.foldl (fun x y=>2*x+y) (2*a+b)) / 2 ^ l.length=2*a+b:=by
    generalize (2:Int) ^ l.length=W at *;generalize l.foldl (fun x y=>2*x+y) (2*a+b)=F at *;exact Int.le_antisymm (Int.lt_add_one_iff.mp (Int.ediv_lt_of_lt_mul hp q2)) ((Int.le_ediv_iff_mul_le hp).mpr q1)
   rw[e];congr 1;omega
 intro n l hl h;subst hl;exact key l 0 (by decide) h
theorem DU:∀(m:Nat) (B:List Int),B.length=6*m->(∀b∈B,0<=b/\b<=1)->bG ((List.range m).map fun j=>num ((B.drop (6*j)).take 6))=B
 | 0,B,h,_=>by
  obtain rfl:B=[]:=List.length_eq_zero_iff.mp (by omega);rfl
 | m+1,B,h,hb=>by
  rw[gj,aw,df];show aP (num ((B.drop (6*0)).take 6)) 6++bG ((List.range m).map fun j=>num ((B.drop (6*(j+1))).take 6))=B;have e:(fun j=>num ((B.drop (6*(j+1))).take 6))=fun j=>num (((B.drop 6).drop (6*j)).take 6):=by
   funext j;rw[List.drop_drop];congr 3;omega
  rw[e,DU m (B.drop 6) (by rw[bu];omega) (fun b h=>hb b (f9 h)),Nat.mul_zero,iz,zJ 6 (B.take 6) (by rw[bh];omega) (fun b h=>hb b (fq h)),jt]
open Pc.Fr (iD fK)
theorem D5 (t:List Nat):∀b∈rQ t,0<=b/\b<=1:=by
 intro b hb;rcases List.mem_append.mp (show b∈tb t++List.replicate (nK (tb t).length) 0 from hb) with hb | hb
 .rcases List.mem_append.mp (show b∈fV (pc t.length t) ++ [0,0] from hb) with hb | hb
  .obtain⟨s,hs,hb⟩:=List.mem_flatten.mp hb;obtain⟨p,_,rfl⟩:=List.mem_map.mp hs;obtain⟨s,hs,hb⟩:=List.mem_flatten.mp (show b∈(List.map (fun q=>aP q.1 q.2) (gG p.1 p.2)).flatten from hb);obtain⟨q,_,rfl⟩:=List.mem_map.mp hs;exact lu q.1 q.2 b hb
  .have:∀b∈([0,0]:List Int),0<=b/\b<=1:=by decide
   exact this b hb
 .rw[(List.mem_replicate.mp hb).2];decide
theorem Sh (t:List Nat):∀g∈tg t,0<=g/\g<64:=by
 intro g hg;obtain⟨j,_,rfl⟩:=List.mem_map.mp (show g∈(List.range (((rQ t).length+5) / 6)).map fun j=>num (((rQ t).drop (6*j)).take 6) from hg);have h:=qM (((rQ t).drop (6*j)).take 6) 0 (by decide) fun b hb=>D5 t b (f9 (fq hb))
 have hl:(((rQ t).drop (6*j)).take 6).length<=6:=by rw[bh];omega
 unfold num;refine⟨by have:=h.1;rw[Int.zero_mul] at this;exact this,Int.lt_of_lt_of_le h.2 ?_⟩;rw[Int.zero_add,Int.one_mul];generalize (((rQ t).drop (6*j)).take 6).length=n at *;have:∀n,n<=6->(2:Int) ^ n<=64:=by decide
 exact this n hl
theorem Kf (n:Nat):∀g∈j6 n,0<=g/\g<64:=by
 intro g hg;obtain⟨j,_,rfl⟩:=List.mem_map.mp hg;unfold fi;split<;>decide
theorem Bz (n:Nat):(j6 n).length=n:=by unfold j6;rw[ak,cw]
theorem iZ (h:∀g∈l,0<=g/\g<64):dZ l=true:=cv.mpr fun g hg=>bp (h g hg)
theorem jD {a b:List Int}(h:dZ a=true)(h':dZ b=true):dZ (a++b)=true:=iZ fun g hg=>(List.mem_append.mp hg).elim (iU h g) (iU h' g)
theorem wo {t:List Nat}{r:Nat}(hG:Good t)(hr:(tg t).length<=r)(Oc:r<=133):dZ (tg t++j6 (r-(tg t).length))=true/\(tg t++j6 (r-(tg t).length)).length=r/\fJ (tg t++j6 (r-(tg t).length))=.str (tx t):=by
 have hlen:(tg t++j6 (r-(tg t).length)).length=r:=by rw[aa,Bz];omega
 refine⟨jD (iZ (Sh t)) (iZ (Kf _)),hlen,?_⟩;have hb:bG (tg t)=rQ t:=by
  have h6:=(rf hG).2.1;exact DU (((rQ t).length+5) / 6) (rQ t) (by omega) (D5 t)
 have QC:bG (tg t++j6 (r-(tg t).length))=fV (pc t.length t)++([0,0]++(List.replicate (nK (tb t).length) 0++bG (j6 (r-(tg t).length)))):=by
  rw[GH,hb];show (fV (pc t.length t) ++ [0,0]++List.replicate (nK (tb t).length) 0)++_=_;rw[av,av]
 have hP:=gF t.length t hG;have hge:∀P:List Pe,P.length<=(fV P).length:=by
  intro P
  induction P with
  |nil=>exact au _
  |cons p P ih =>
   show P.length+1<=(PB p++fV P).length;rw[aa];have:2<=(PB p).length:=by
    show 2<=(aP (p.1:Int) 2++_).length;rw[aa,aQ];omega
   omega
 have NI:=HX (P:=pc t.length t) (tail:=List.replicate (nK (tb t).length) 0++bG (j6 (r-(tg t).length))) hP (hge _);have hj:jn ((pc t.length t).map pT)=t:=by rw[vG];exact mZ _ _ hG (au _)
 have:yl (tg t++j6 (r-(tg t).length))=some t:=by
  unfold yl;rw[QC,NI,fm];dsimp only;rw[hj,hlen,if_pos ⟨hr,rfl⟩]
 unfold fJ;rw[this]
theorem Kz:∀a,a<64->∀b,b<64->0<=Builtin.bitXor (a:Nat) (b:Nat)/\Builtin.bitXor (a:Nat) (b:Nat)<64:=by decide +kernel
theorem yM {T:Tb}{x y:Int}(hx:0<=x/\x<64)(hy:0<=y/\y<64)(h:ev T a env=.ok (.int x,R))(h':ev T b env=.ok (.int y,R')):∃v:Int,0<=v/\v<64/\ev T (.bin .BitXor a b) env=.ok (.int v,.mv []):=by
 obtain⟨i,rfl⟩:=dk hx.1;obtain⟨j,rfl⟩:=dk hy.1;have hb:=Kz i (by omega) j (by omega);refine⟨_,hb.1,hb.2,?_⟩;rw[ev,h,aA,h',aA];rfl
variable {v:Int}
theorem uT {T:Tb}(h:ev T e env=.ok (.int v,.mv [])):ev T (.lst (.cons e .nil)) env=.ok (.lst (iD [v]),.mv []):=by
 rw[ev,aY,h,aA,aY];rfl
theorem Aw {T:Tb}{lo hi:m6}{r:List Int}{l h:Option Int}(ha:ev T a env=.ok (.lst (iD B),R))(e1:kq T lo env=.ok l)(e2:kq T hi env=.ok h)(hr:cut (iD B) l h=iD r):ev T (.sl a lo hi) env=.ok (.lst (iD r),.mv []) :=
 ux ha e1 e2 (by show some (D.lst (cut (iD B) l h))=_;rw[hr])
theorem lT (h:dZ l=true)(n:Nat):dZ (l.take n)=true:=iZ fun g hg=>iU h g (fq hg)
theorem xY (h:dZ l=true)(n:Nat):dZ (l.drop n)=true:=iZ fun g hg=>iU h g (f9 hg)
theorem nY (h:0<=v/\v<64):dZ [v]=true:=iZ fun g hg=>by rw[iq.mp hg];exact h
theorem Eo (d:Int)(x:Int):0<=1+d / x%63/\1+d / x%63<64:=by
 have:=cf (d / x) (show (63:Int)≠0 by decide);have:=bt (d / x) (show (0:Int)<63 by decide);omega
theorem HJ (n:Nat){Ws:List (List Int)}(h8:ev (T (n+8)) (.var 8) env=.ok (.lst (Ws.map fun W=>.lst (iD W)),.mv [8]))(hW:∀W∈Ws,dZ W=true/\W.length<=133)(hl:Ws.length<=100):ev (T (n+8)) Xz env=.ok (.bl true,.mv []):=by
 have hit:∃R,fU (T (n+8)) (.seq (.var 8)) env=.ok (Ws.map fun W=>D.lst (iD W),R):=by
  rw[fU,h8,aA];exact⟨_,rfl⟩
 obtain⟨R,hit⟩:=hit;have ec:=iM (own:=1) (pick:=[]) (t:=.nm 0) (e:=.call 23 (Ls Le)) (r:=fun _=>D.bl true) hit (by omega) (fun W hw=>by
  have hb:bK [] (.nm 0) (.lst (iD W)) (cN env 1 [])=some [sL W]:=rfl;rw[hb];refine pS ?_;obtain⟨R1,v0⟩:∃R,ev (T (n+8)) Le [sL W]=.ok (.lst (iD W),R):=⟨_,rfl⟩;exact fL v0 (rg n (hW W hw).1 (hW W hw).2))
 exact CQ ec
open Pc.Fr (iD fK)
theorem Fp:Ko=(.cons (.asg (.nm 1) La false)
  (.cons (.ite RO (.cons (.asg (.nm 1) K7 false) .nil) .nil)
  (.cons (.asg (.nm 2) (.call 8 (Lu Le Lf)) false)
  (.cons (.asg (.nm 3) (.call 5 (Lv Le (Ld 81) (Ld 2147483563))) false)
  (.cons (.asg (.nm 4) RL false)
  (.cons (.asg (.nm 5) (.call 14 (.cons Lg (.cons Ik .nil))) false)
  (.cons (.ite (.cmp .NotEq (.call 22 (Ls (.blt .list (Ls Lh)))) Lg) (.cons (.ret (.cst (.bl false))) .nil) .nil)
  Q6))))))):=rfl
noncomputable abbrev E1 (cs:List Int)(a1 a2 a3 a4 a5 a6 a7 a8 a9:Slot):En:=[sL cs,a1,a2,a3,a4,a5,a6,a7,a8,a9]
variable {a1 a8 a9:Slot}
theorem eN {cs:List Int}{a2:Slot}(h1:aR a1)(h2:aR a2)(h3:aR a3)(h4:aR a4)(h5:aR a5)(h6:aR a6)(h7:aR a7)(h8:aR a8)(h9:aR a9):Tame (E1 cs a1 a2 a3 a4 a5 a6 a7 a8 a9):=.cons (dJ _) (.cons h1 (.cons h2 (.cons h3 (.cons h4 (.cons h5 (.cons h6 (.cons h7 (.cons h8 (.cons h9 .nil)))))))))
noncomputable def pz (t:List Nat):List Pe:=if t=[] then [] else [(3,t)]
theorem vI (hG:Good t)(ht:t.length<=64):(∀p∈pz t,Piece p)/\Cut t (pz t)/\iC (pz t)<=8+7*t.length:=by
 unfold pz;by_cases h:t=[]
 .subst h;rw[if_pos rfl];exact⟨fun _ z=>(nomatch z),⟨fun _ z=>(nomatch z),rfl⟩,dh _⟩
 .rw[if_neg h];have h1:1<=t.length:=by
   cases t with
   |nil=>exact absurd rfl h
   |cons _ _=>exact i0 (dh _)
  have hp:∀p∈[((3:Nat),t)],Piece p:=fun p hp=>by
   rw[iq.mp hp];exact⟨(show 1<=3 by decide),(show 3<=3 by decide),h1,ht,fun c hc=>(hG c hc).2⟩
  refine⟨hp,⟨hp,by simp⟩,?_⟩;show eQ 3 t.length+0<=_;unfold eQ;rw[if_neg (by decide),if_neg (by decide)];omega
noncomputable def nd (t:List Nat):Nat:=min 133 (max ((iC (pz t)+2+5) / 6) 0)
theorem JW (hG:Good t)(ht:t.length<=45):(tg t).length<=nd t/\nd t<=55:=by
 obtain⟨h1,h2,h3⟩:=vI hG (by omega);have hle:iC (pc t.length t)<=iC (pz t):=by
  rcases nS t.length t (pz t) hG (au _) h2 with z | ⟨z,_⟩
  .omega
  .omega
 have W4:(tb t).length=iC (pc t.length t)+2:=by
  unfold tb;rw[aa,lx _ (gF _ _ hG)];rfl
 have:=(qO hG).2.2;unfold nd;omega
theorem Jc (n:Nat)(hG:Good t)(ht:t.length<=45):ev (T (n+4)) RL (E1 cs a1 (sT t) a3 a4 a5 a6 a7 a8 a9)=.ok (.int (nd t:Nat),.mv []):=by
 obtain⟨h1,h2,h3⟩:=vI hG (by omega);have v2:ev (T (n+4)) Lg (E1 cs a1 (sT t) a3 a4 a5 a6 a7 a8 a9)=.ok (.str (tx t),.mv []):=aC rfl rfl;have et:=oy (aF (T:=T (n+4)) (env:=E1 cs a1 (sT t) a3 a4 a5 a6 a7 a8 a9) (.int 3)) v2;have el:ev (T (n+4)) (.lst (Ls (.tup (Lu K5 Lg)))) (E1 cs a1 (sT t) a3 a4 a5 a6 a7 a8 a9)=.ok (.lst [pD (3,t)],.mv []):=by
  rw[ev,aY,et,aA,aY];rfl
 have es:ev (T (n+4)) (.sl (.lst (Ls (.tup (Lu K5 Lg)))) .none (.some (Ly Lg))) (E1 cs a1 (sT t) a3 a4 a5 a6 a7 a8 a9)=.ok (.lst ((pz t).map pD),.mv []):=by
  rw[ev,el,aA,iK,aA,cY (gC (by omega) v2),aA];show (eW (some (D.lst (cut [pD (3,t)] none (some (t.length:Int)))))).bind _=_;rw[HV];unfold pz;cases t with
  |nil=>rfl
  |cons c r =>
   rw[if_neg (by intro z;cases z),List.take_of_length_le (by simp)];rfl
 obtain⟨R,r1,r2,r3⟩:=cg n (P:=pz t) (z:=0) (r:=0) h1 (by omega) (by decide) (by decide);have ec:=eL (mq es (aF (.int 0)) (aF (.int 0)) r3);rw[bM,r2] at ec;exact ec
variable {d0:D}
theorem DA {T:Tb}{i j:Nat}(ht:Tame env)(hi:i<env.length)(hj:env[j]? = some (some (d0,.own)))(h:ev T e env=.ok (d,.mv [j])):aV T (.asg (.nm i) e true) env=.nx ((env.set j none).set i (some (d,.own))):=by
 have ho:fA env [j]=true:=by
  unfold fA;rw[List.all_cons,hj];rfl
 have hk:kill [j] env=env.set j none:=by
  rw[pW ht];apply List.ext_getElem?;intro x;rw[List.getElem?_mapIdx,List.getElem?_set];by_cases hx:j=x
  .subst hx;rw[if_pos rfl,if_pos (List.getElem?_eq_some_iff.mp hj).1,hj];show some (if [j].contains j=true then none else some (d0,Tg.own))=_;rw[if_pos (by simp)]
  .rw[if_neg hx];cases env[x]? with
   |none=>rfl
   |some s =>
    show some (if [j].contains x=true then none else s)=_;rw[if_neg (by simpa using fun z=>hx z.symm)]
 rw[aV,h,bA];show (if i<env.length then (if fA env [j]=true then Fl.nx (put (kill [j] env) i d .own) else .bad) else .bad)=_;rw[if_pos hi,if_pos ho,hk,jF (ht.set aN j)]
theorem rest (n:Nat){m:Nat}{d:Int}{r:Nat}(hG:Good t)(ht:t.length<=45)(hd:0<=d)(hr:r=nd t+(d%12).toNat):ret (aE (T (n+8)) Q6 (E1 cs (sN m) (sT t) (sI d) (sN (nd t)) (oI (tg t++j6 (r-(tg t).length))) none none none none))=.ok (.bl true,true):=by
 have tn:=aN;obtain⟨n1,n2⟩:=JW hG ht;obtain⟨q,hq,W5⟩:=cM (cf d (show (12:Int)≠0 by decide)) (bt d (show (0:Int)<12 by decide));have hrq:r=nd t+q:=by rw[hr,hq,cj]
 obtain⟨w1,w2,_⟩:=wo (t:=t) (r:=r) hG (by omega) (by omega);have Mx:1<=r:=by have:=(qO hG).1;omega
 generalize tg t++j6 (r-(tg t).length)=W at *;have v3:∀{a6 a7 a8 a9:Slot},ev (T (n+8)) Lk (E1 cs (sN m) (sT t) (sI d) (sN (nd t)) (oI W) a6 a7 a8 a9)=.ok (.int d,.mv []):=fun {_ _ _ _}=>aC rfl rfl
 have v5:∀{a6 a7 a8 a9:Slot},ev (T (n+8)) Lh (E1 cs (sN m) (sT t) (sI d) (sN (nd t)) (oI W) a6 a7 a8 a9)=.ok (.lst (iD W),.mv [5]):=fun {_ _ _ _}=>aX rfl rfl
 have el:∀{a6 a7 a8 a9:Slot},ev (T (n+8)) (Ly Lh) (E1 cs (sN m) (sT t) (sI d) (sN (nd t)) (oI W) a6 a7 a8 a9)=.ok (.int (r:Int),.mv []):=fun {_ _ _ _}=>by
  have:=eL (v5 (a6:=‹_›) (a7:=‹_›) (a8:=‹_›) (a9:=‹_›));rw[bM,w2] at this;exact this
 have e6:=bQ (show (0:Int)<(r:Int) by omega) (dB (by decide:(0:Int)<12) (by decide) (v3 (a6:=none) (a7:=none) (a8:=none) (a9:=none)) (aF (.int 12))) el;obtain⟨i,hi,Xi⟩:=cM (cf (d / 12) (show (r:Int)≠0 by omega)) (bt (d / 12) (show (0:Int)<(r:Int) by omega));rw[hi] at e6;have g6:aV (T (n+8)) (.asg (.nm 6) (.bin .Mod (.bin .FloorDiv Lk Lb) (Ly Lh)) false) (E1 cs (sN m) (sT t) (sI d) (sN (nd t)) (oI W) none none none none)=.nx (E1 cs (sN m) (sT t) (sI d) (sN (nd t)) (oI W) (sN i) none none none):=aK (eN (aB _) (aB _) (aB _) (aB _) (aB _) tn tn tn tn) (show (6:Nat)<10 by decide) e6;have Xh:i<W.length:=by omega
 have v6:∀{a7 a8 a9:Slot},ev (T (n+8)) Lj (E1 cs (sN m) (sT t) (sI d) (sN (nd t)) (oI W) (sN i) a7 a8 a9)=.ok (.int (i:Int),.mv []):=fun {_ _ _}=>aC rfl rfl
 have cn:∀(x:Int) (a6 a7 a8 a9:Slot),0<x->x<1073741824->ev (T (n+8)) (.bin .Add KW (.bin .Mod (.bin .FloorDiv Lk (.cst (.int x))) KY)) (E1 cs (sN m) (sT t) (sI d) (sN (nd t)) (oI W) a6 a7 a8 a9)=.ok (.int (1+d / x%63),.mv []):=fun x a6 a7 a8 a9 h1 h2=>cP (aF (.int 1)) (bQ (by decide:(0:Int)<63) (dB h1 h2 v3 (aF (.int x))) (aF (.int 63)))
 have hWi:=iU w1 _ (fh Xh);obtain⟨x1,x10,x11,ex1⟩:=yM hWi (Eo d 700) (Fr.A5 (i:=(i:Int)) (v:=W[i]) (by omega) (by rw[cj];exact List.getElem?_eq_getElem Xh) (v5 (a6:=sN i) (a7:=none) (a8:=none) (a9:=none)) v6) (cn 700 (sN i) none none none (by decide) (by decide));have s1:=Aw (r:=W.take i) (v5 (a6:=sN i) (a7:=none) (a8:=none) (a9:=none)) iK (cY v6) (by rw[HV,iD,iD,jf]);have s2:=Aw (r:=W.drop (i+1)) (v5 (a6:=sN i) (a7:=none) (a8:=none) (a9:=none)) (cY (be (y:=1) v6 (aF (.int 1)))) iK (by rw[Vu,iD,iD,List.map_drop]);have e7:=fE (fE s1 (uT ex1) (by rw[bh,az];omega)) s2 (by rw[aa,bh,bu,az];omega);have k7:dZ (W.take i ++ [x1]++W.drop (i+1))=true/\(W.take i ++ [x1]++W.drop (i+1)).length<=133:=⟨jD (jD (lT w1 _) (nY ⟨x10,x11⟩)) (xY w1 _),by rw[aa,aa,bh,bu,az];omega⟩;generalize W.take i ++ [x1]++W.drop (i+1)=W7 at *;have g7:aV (T (n+8)) (.asg (.nm 7) Xy false) (E1 cs (sN m) (sT t) (sI d) (sN (nd t)) (oI W) (sN i) none none none)=.nx (E1 cs (sN m) (sT t) (sI d) (sN (nd t)) (oI W) (sN i) (oI W7) none none):=aK (eN (aB _) (aB _) (aB _) (aB _) (aB _) (aB _) tn tn tn) (show (7:Nat)<10 by decide) e7;have P9:ev (T (n+8)) (.neg KW) (E1 cs (sN m) (sT t) (sI d) (sN (nd t)) (oI W) (sN i) (oI W7) none none)=.ok (.int (-1),.mv []):=by rw[ev,aF];rfl
 have sB:=Aw (r:=W.take (W.length-1)) (v5 (a6:=sN i) (a7:=oI W7) (a8:=none) (a9:=none)) iK (cY P9) (by rw[Vt,iD,iD,jf,ak]);have Ox:W.length-1<W.length:=by omega
 have hWl:=iU w1 _ (fh Ox);have exl:ev (T (n+8)) (.ix Lh (.neg KW)) (E1 cs (sN m) (sT t) (sI d) (sN (nd t)) (oI W) (sN i) (oI W7) none none)=.ok (.int W[W.length-1],.mv []):=by
  rw[ev,v5,aA,P9,aA];have:yn (.lst (iD W)) (.int (-1))=some (.int W[W.length-1]):=by
   show (Pc.j9 (iD W).length (-1)).bind (fun j=>(iD W)[j]?)=_;have:Pc.j9 (iD W).length (-1)=some (W.length-1):=by
    unfold Pc.j9;rw[if_neg (by decide),bM,if_pos (by omega),show (-1+(W.length:Int)).toNat=W.length-1 by omega]
   rw[this];show (iD W)[W.length-1]? = _;rw[iD,List.getElem?_map,List.getElem?_eq_getElem Ox];rfl
  rw[this];rfl
 obtain⟨x2,x20,x21,ex2⟩:=yM hWl (Eo d 5000) exl (cn 5000 (sN i) (oI W7) none none (by decide) (by decide));have eAv:=fE sB (uT ex2) (by rw[bh,az];omega);have kA:dZ (W.take (W.length-1) ++ [x2])=true/\(W.take (W.length-1) ++ [x2]).length<=133:=⟨jD (lT w1 _) (nY ⟨x20,x21⟩),by rw[aa,bh,az];omega⟩;have kB:dZ (W.take (W.length-1))=true/\(W.take (W.length-1)).length<=133:=⟨lT w1 _,by rw[bh];omega⟩;have exD:∃x3:Int,0<=x3/\x3<64/\ev (T (n+8)) (.ix (.lst (Lv Lc (Ld 21) (.bin .Mod Lk KZ))) (.bin .Mod (.bin .FloorDiv Lk K5) K5)) (E1 cs (sN m) (sT t) (sI d) (sN (nd t)) (oI W) (sN i) (oI W7) none none)=.ok (.int x3,.mv []):=by
  have em:=bQ (by decide:(0:Int)<64) (v3 (a6:=sN i) (a7:=oI W7) (a8:=none) (a9:=none)) (aF (.int 64));have b0:=cf d (show (64:Int)≠0 by decide);have b1:=bt d (show (0:Int)<64 by decide);generalize d%64=y at *;have U9:ev (T (n+8)) (.lst (Lv Lc (Ld 21) (.bin .Mod Lk KZ))) (E1 cs (sN m) (sT t) (sI d) (sN (nd t)) (oI W) (sN i) (oI W7) none none)=.ok (.lst [.int 42,.int 21,.int y],.mv []):=by
   rw[ev,aY,aF,aA,aY,aF,aA,aY,em,aA,aY];rfl
  have e3:=bQ (by decide:(0:Int)<3) (dB (by decide:(0:Int)<3) (by decide) (v3 (a6:=sN i) (a7:=oI W7) (a8:=none) (a9:=none)) (aF (.int 3))) (aF (.int 3));obtain⟨z,hz,hz2⟩:=cM (cf (d / 3) (show (3:Int)≠0 by decide)) (bt (d / 3) (show (0:Int)<3 by decide));rw[hz] at e3;have:z=0\/z=1\/z=2:=by omega
  rcases this with rfl | rfl | rfl
  .exact⟨42,by decide,by decide,jJ (i:=0) U9 e3 rfl rfl⟩
  .exact⟨21,by decide,by decide,jJ (i:=1) U9 e3 rfl rfl⟩
  .exact⟨y,b0,b1,jJ (i:=2) U9 e3 rfl rfl⟩
 obtain⟨x3,x30,x31,ex3⟩:=exD;have eDv:=fE (v5 (a6:=sN i) (a7:=oI W7) (a8:=none) (a9:=none)) (uT ex3) (by rw[az];omega);have kD:dZ (W ++ [x3])=true/\(W ++ [x3]).length<=133:=⟨jD w1 (nY ⟨x30,x31⟩),by rw[aa,az];omega⟩;generalize W.take (W.length-1) ++ [x2]=WA at *;generalize W.take (W.length-1)=WB at *;generalize W ++ [x3]=WD at *;have v7:ev (T (n+8)) Ll (E1 cs (sN m) (sT t) (sI d) (sN (nd t)) (oI W) (sN i) (oI W7) none none)=.ok (.lst (iD W7),.mv [7]):=aX rfl rfl;have e8:ev (T (n+8)) (.lst (.cons Ll (.cons eA (.cons eB (.cons eD .nil))))) (E1 cs (sN m) (sT t) (sI d) (sN (nd t)) (oI W) (sN i) (oI W7) none none)=.ok (.lst [.lst (iD W7),.lst (iD WA),.lst (iD WB),.lst (iD WD)],.mv [7]):=by
  rw[ev,aY,v7,aA,aY,show ev (T (n+8)) eA _=_ from eAv,aA,aY,show ev (T (n+8)) eB _=_ from sB,aA,aY,show ev (T (n+8)) eD _=_ from eDv,aA,aY];rfl
 have g8:aV (T (n+8)) (.asg (.nm 8) (.lst (.cons Ll (.cons eA (.cons eB (.cons eD .nil))))) true) (E1 cs (sN m) (sT t) (sI d) (sN (nd t)) (oI W) (sN i) (oI W7) none none)=.nx (E1 cs (sN m) (sT t) (sI d) (sN (nd t)) (oI W) (sN i) none (some (.lst ([W7,WA,WB,WD].map fun W=>.lst (iD W)),.own)) none) :=
  DA (eN (aB _) (aB _) (aB _) (aB _) (aB _) (aB _) (aB _) tn tn) (show (8:Nat)<10 by decide) rfl e8
 obtain⟨P,p1,p2,p3,ep⟩:=ac (n+6) (t:=t) (cs:=cs) (by omega) hG;obtain⟨R0,v0⟩:∃R,∀(a6 a7 a8 a9:Slot),ev (T (n+8)) Le (E1 cs (sN m) (sT t) (sI d) (sN (nd t)) (oI W) a6 a7 a8 a9)=.ok (.lst (iD cs),R):=⟨_,fun _ _ _ _=>rfl⟩;have g9:∀(X:List (List Int)),aV (T (n+8)) (.asg (.nm 9) (.call 20 (Lu Lg Le)) false) (E1 cs (sN m) (sT t) (sI d) (sN (nd t)) (oI W) (sN i) none (some (.lst (X.map fun W=>.lst (iD W)),.own)) none)=.nx (E1 cs (sN m) (sT t) (sI d) (sN (nd t)) (oI W) (sN i) none (some (.lst (X.map fun W=>.lst (iD W)),.own)) (oP P)):=fun X =>
  aK (eN (aB _) (aB _) (aB _) (aB _) (aB _) (aB _) tn (aB _) tn) (show (9:Nat)<10 by decide) (fM (aC rfl rfl) (v0 _ _ _ _) ep)
 have app:∀(X:List (List Int)) (e:Ex) (Z:List Int),X.length<=20->ev (T (n+8)) e (E1 cs (sN m) (sT t) (sI d) (sN (nd t)) (oI W) (sN i) none (some (.lst (X.map fun W=>.lst (iD W)),.own)) (oP P))=.ok (.lst (iD Z),.mv []) ->
   aV (T (n+8)) (.mut 8 .none .append (.cons e .nil)) (E1 cs (sN m) (sT t) (sI d) (sN (nd t)) (oI W) (sN i) none (some (.lst (X.map fun W=>.lst (iD W)),.own)) (oP P))=.nx (E1 cs (sN m) (sT t) (sI d) (sN (nd t)) (oI W) (sN i) none (some (.lst ((X ++ [Z]).map fun W=>.lst (iD W)),.own)) (oP P)):=fun X e Z hX he=>by
  have g:=gU (x:=8) (eN (cs:=cs) (aB (.int (m:Int))) (aB (.str (tx t))) (aB (.int d)) (aB (.int (nd t:Nat))) (aB (.lst (iD W))) (aB (.int (i:Int))) tn (aB (.lst (X.map fun W=>.lst (iD W)))) (aB (.lst (P.map pD)))) rfl he (by rw[ak];exact sU (by omega));rw[g,dt];rfl
 have hbP:iC P<=2000:=by
  have h1:=lx P p1;have h2:=mY P p1;omega
 obtain⟨z,hz,hz2⟩:=cM (cf (d / 7) (show (2:Int)≠0 by decide)) (bt (d / 7) (show (0:Int)<2 by decide));obtain⟨WC,c1,c2,c3⟩:=cg (n+4) (P:=P) (z:=z) (r:=nd t+q) p1 hbP (by omega) (by omega);have Vc:∀(X:List (List Int)),ev (T (n+8)) (.call 21 (.cons (.var 9) (.cons (.bin .Mod (.bin .FloorDiv Lk K2) K4) (.cons Ik .nil)))) (E1 cs (sN m) (sT t) (sI d) (sN (nd t)) (oI W) (sN i) none (some (.lst (X.map fun W=>.lst (iD W)),.own)) (oP P))=.ok (.lst (iD WC),.mv []):=fun X=>by
  have v9:ev (T (n+8)) (.var 9) (E1 cs (sN m) (sT t) (sI d) (sN (nd t)) (oI W) (sN i) none (some (.lst (X.map fun W=>.lst (iD W)),.own)) (oP P))=.ok (.lst (P.map pD),.mv [9]):=aX rfl rfl;have ez:=bQ (by decide:(0:Int)<2) (dB (by decide:(0:Int)<7) (by decide) (v3 (a6:=sN i) (a7:=none) (a8:=some (.lst (X.map fun W=>.lst (iD W)),.own)) (a9:=oP P)) (aF (.int 7))) (aF (.int 2));rw[hz] at ez;have em:=bQ (by decide:(0:Int)<12) (v3 (a6:=sN i) (a7:=none) (a8:=some (.lst (X.map fun W=>.lst (iD W)),.own)) (a9:=oP P)) (aF (.int 12));rw[hq] at em;have er:ev (T (n+8)) Ik (E1 cs (sN m) (sT t) (sI d) (sN (nd t)) (oI W) (sN i) none (some (.lst (X.map fun W=>.lst (iD W)),.own)) (oP P))=.ok (.int ((nd t+q:Nat):Int),.mv []):=be (aC rfl rfl) em;exact mq v9 ez er c3
 have Vb:∃WE:List Int,dZ WE=true/\WE.length<=133/\∀(X:List (List Int)),ev (T (n+8)) eC (E1 cs (sN m) (sT t) (sI d) (sN (nd t)) (oI W) (sN i) none (some (.lst (X.map fun W=>.lst (iD W)),.own)) (oP P))=.ok (.lst (iD WE),.mv []):=by
  obtain⟨y,hy,WZ⟩:=cM (cf (d / 11) (show (41:Int)≠0 by decide)) (bt (d / 11) (show (0:Int)<41 by decide));have key:∀k:Nat,∃v:Int,k<41->0<=v/\v<64/\ev (T (n+8)) (.bin .Mod (.bin .FloorDiv (.call 5 (Lv Lf (.bin .Add (Ld 200) Le) (Ld 2147483543))) K6) KZ) [sN k,sL cs]=.ok (.int v,.mv []):=fun k=>by
   by_cases hk:k<41
   .obtain⟨u,u0,u1,eu⟩:=mX (n+7) cs ((200+k:Nat):Int) 2147483543 (m8 (by omega) (by omega)) (by decide);obtain⟨R,v1⟩:∃R,ev (T (n+8)) Lf [sN k,sL cs]=.ok (.lst (iD cs),R):=⟨_,rfl⟩;refine⟨u / 9%64,fun _=>⟨cf _ (by decide),bt _ (by decide),?_⟩⟩;exact bQ (by decide:(0:Int)<64) (dB (by decide:(0:Int)<9) (by decide) (mq v1 (be (x:=200) (aF (.int 200)) (aC rfl rfl)) (aF (.int 2147483543)) eu) (aF (.int 9))) (aF (.int 64))
   .exact⟨0,fun z=>absurd z hk⟩
  refine⟨(List.range y).map fun k=>Classical.choose (key k),iZ fun g hg=>?_,by rw[ak,cw];omega,fun X=>?_⟩
  .obtain⟨k,hk,rfl⟩:=List.mem_map.mp hg;have:=Classical.choose_spec (key k) (by have:=List.mem_range.mp hk;omega);exact⟨this.1,this.2.1⟩
  .have em:=bQ (by decide:(0:Int)<41) (dB (by decide:(0:Int)<11) (by decide) (v3 (a6:=sN i) (a7:=none) (a8:=some (.lst (X.map fun W=>.lst (iD W)),.own)) (a9:=oP P)) (aF (.int 11))) (aF (.int 41));rw[hy] at em;have hit:fU (T (n+8)) (.L7 (.bin .Mod (.bin .FloorDiv Lk (Ld 11)) (Ld 41))) (E1 cs (sN m) (sT t) (sI d) (sN (nd t)) (oI W) (sN i) none (some (.lst (X.map fun W=>.lst (iD W)),.own)) (oP P))=.ok ((List.range y).map fun (k:Nat)=>D.int (k:Int),[]):=by
    rw[DE (m:=y) em (by omega),iR];simp only[Nat.zero_add]
   have ec:=iM (own:=1) (pick:=[0]) (t:=.nm 0) (e:=.bin .Mod (.bin .FloorDiv (.call 5 (Lv Lf (.bin .Add (Ld 200) Le) (Ld 2147483543))) K6) KZ) (r:=fun (k:Nat)=>D.int (Classical.choose (key k))) hit (by rw[cw];omega) (fun k hk=>by
    have hb:bK [] (.nm 0) (.int (k:Int)) (cN (E1 cs (sN m) (sT t) (sI d) (sN (nd t)) (oI W) (sN i) none (some (.lst (X.map fun W=>.lst (iD W)),.own)) (oP P)) 1 [0])=some [sN k,sL cs]:=rfl;rw[hb];exact pS (Classical.choose_spec (key k) (by have:=List.mem_range.mp hk;omega)).2.2)
   unfold eC;rw[ec,iD,df];rfl
 obtain⟨WE,kE1,kE2,Vb⟩:=Vb;have ga:=app [W7,WA,WB,WD] _ WC (show (4:Nat)<=20 by decide) (Vc _);have gb:=app ([W7,WA,WB,WD] ++ [WC]) _ WE (show (5:Nat)<=20 by decide) (Vb _);have gc:=app ([W7,WA,WB,WD] ++ [WC] ++ [WE]) (.lst .nil) [] (show (6:Nat)<=20 by decide) (by rw[ev,aY];rfl);have v8:ev (T (n+8)) (.var 8) (E1 cs (sN m) (sT t) (sI d) (sN (nd t)) (oI W) (sN i) none (some (.lst (([W7,WA,WB,WD] ++ [WC] ++ [WE] ++ [[]]).map fun W=>.lst (iD W)),.own)) (oP P))=.ok (.lst (([W7,WA,WB,WD] ++ [WC] ++ [WE] ++ [[]]).map fun W=>.lst (iD W)),.mv [8]):=aX rfl rfl;have eal:=HJ n v8 (fun X hX=>by
  simp only[List.mem_append,List.mem_cons,List.not_mem_nil,or_false] at hX;rcases hX with ((((rfl | rfl | rfl | rfl) | rfl) | rfl) | rfl)
  .exact k7
  .exact kA
  .exact kB
  .exact kD
  .exact⟨c1,by rw[c2];omega⟩
  .exact⟨kE1,kE2⟩
  .exact⟨rfl,dh _⟩) (show (7:Nat)<=100 by decide)
 unfold Q6;rw[aE,g6,aD,aE,g7,aD,aE,g8,aD,aE,g9,aD,aE,ga,aD,aE,gb,aD,aE,gc,aD];exact eR eal
theorem Tq (ns:List Int)(hl:ns.length<=63):∃fr,Pc.run fns gl 1000 9 24 [.lst (ns.map D.int)]=.ok (.bl true,fr):=by
 refine⟨true,?_⟩;rw[bH (F:=⟨1,10,Ko⟩) rfl rfl];show ret (aE (T 8) Ko (aI [.lst (iD ns)] 10))=_;have LJ:aI [.lst (iD ns)] 10=E1 ns none none none none none none none none none:=rfl;have tn:=aN;obtain⟨R0,v0⟩:∃R,∀(a1 a2 a3 a4 a5 a6 a7 a8 a9:Slot),ev (T 8) Le (E1 ns a1 a2 a3 a4 a5 a6 a7 a8 a9)=.ok (.lst (iD ns),R):=⟨_,fun _ _ _ _ _ _ _ _ _=>rfl⟩;have g1:aV (T 8) (.asg (.nm 1) La false) (E1 ns none none none none none none none none none)=.nx (E1 ns (sN 30) none none none none none none none none):=aK (eN tn tn tn tn tn tn tn tn tn) (show (1:Nat)<10 by decide) (aF (.int 30));obtain⟨y,y0,y1,ey⟩:=mX 7 ns 80 2147483647 (by decide) (by decide);have ec:ev (T 8) RO (E1 ns (sN 30) none none none none none none none none)=.ok (.bl (decide (y%8=1)),.mv []):=zP (bQ (by decide:(0:Int)<8) (mq (v0 _ _ _ _ _ _ _ _ _) (aF (.int 80)) (aF (.int 2147483647)) ey) (aF (.int 8))) (aF (.int 1));have g2:∃m,m<=45/\aV (T 8) (.ite RO (.cons (.asg (.nm 1) K7 false) .nil) .nil) (E1 ns (sN 30) none none none none none none none none)=.nx (E1 ns (sN m) none none none none none none none none):=by
  rw[oH ec];split
  .exact⟨45,by decide,iN (aK (eN (aB _) tn tn tn tn tn tn tn tn) (show (1:Nat)<10 by decide) (aF (.int 45)))⟩
  .exact⟨30,by decide,jM⟩
 obtain⟨m,hm,g2⟩:=g2;obtain⟨t,hG,ht,ex⟩:=tX 5 ns m (by omega);have g3:aV (T 8) (.asg (.nm 2) (.call 8 (Lu Le Lf)) false) (E1 ns (sN m) none none none none none none none none)=.nx (E1 ns (sN m) (sT t) none none none none none none none):=aK (eN (aB _) tn tn tn tn tn tn tn tn) (show (2:Nat)<10 by decide) (fM (v0 _ _ _ _ _ _ _ _ _) (aC rfl rfl) ex);obtain⟨d,d0,d1,ed⟩:=mX 7 ns 81 2147483563 (by decide) (by decide);have g4:aV (T 8) (.asg (.nm 3) (.call 5 (Lv Le (Ld 81) (Ld 2147483563))) false) (E1 ns (sN m) (sT t) none none none none none none none)=.nx (E1 ns (sN m) (sT t) (sI d) none none none none none none):=aK (eN (aB _) (aB _) tn tn tn tn tn tn tn) (show (3:Nat)<10 by decide) (mq (v0 _ _ _ _ _ _ _ _ _) (aF (.int 81)) (aF (.int 2147483563)) ed);have g5:aV (T 8) (.asg (.nm 4) RL false) (E1 ns (sN m) (sT t) (sI d) none none none none none none)=.nx (E1 ns (sN m) (sT t) (sI d) (sN (nd t)) none none none none none):=aK (eN (aB _) (aB _) (aB _) tn tn tn tn tn tn) (show (4:Nat)<10 by decide) (Jc 4 hG (by omega));obtain⟨q,hq,W5⟩:=cM (cf d (show (12:Int)≠0 by decide)) (bt d (show (0:Int)<12 by decide));obtain⟨n1,n2⟩:=JW hG (by omega);have er:ev (T 8) Ik (E1 ns (sN m) (sT t) (sI d) (sN (nd t)) none none none none none)=.ok (.int ((nd t+q:Nat):Int),.mv []):=by
  have em:=bQ (by decide:(0:Int)<12) (aC (T:=T 8) (env:=E1 ns (sN m) (sT t) (sI d) (sN (nd t)) none none none none none) (i:=3) (d:=.int d) (t:=.own) rfl rfl) (aF (.int 12));rw[hq] at em;exact be (aC rfl rfl) em
 have eg:=fM (aC (T:=T 8) (env:=E1 ns (sN m) (sT t) (sI d) (sN (nd t)) none none none none none) (i:=2) (d:=.str (tx t)) (t:=.own) rfl rfl) er (tG 2 t (nd t+q) (by omega) hG (by omega) (by omega));have g6:aV (T 8) (.asg (.nm 5) (.call 14 (.cons Lg (.cons Ik .nil))) false) (E1 ns (sN m) (sT t) (sI d) (sN (nd t)) none none none none none)=.nx (E1 ns (sN m) (sT t) (sI d) (sN (nd t)) (oI (tg t++j6 (nd t+q-(tg t).length))) none none none none):=aK (eN (aB _) (aB _) (aB _) (aB _) tn tn tn tn tn) (show (5:Nat)<10 by decide) eg;obtain⟨w1,w2,w3⟩:=wo (t:=t) (r:=nd t+q) hG (by omega) (by omega);have e7:=fL (uv (show ev (T 8) Lh (E1 ns (sN m) (sT t) (sI d) (sN (nd t)) (oI (tg t++j6 (nd t+q-(tg t).length))) none none none none)=.ok (.lst (iD (tg t++j6 (nd t+q-(tg t).length))),.mv [5]) from aX rfl rfl)) (rd 1 w1 (by rw[w2];omega));rw[w3] at e7;have c7:=sH e7 (aC (T:=T 8) (env:=E1 ns (sN m) (sT t) (sI d) (sN (nd t)) (oI (tg t++j6 (nd t+q-(tg t).length))) none none none none) (i:=2) (d:=.str (tx t)) (t:=.own) rfl rfl) (JZ 39 t);rw[LJ,Fp,aE,g1,aD,aE,g2,aD,aE,g3,aD,aE,g4,aD,aE,g5,aD,aE,g6,aD,aE,ite_ff c7,aD];exact rest 0 hG (by omega) d0 (by omega)
open Pc.Fr (iD fK)
theorem gs (k:Nat):Gs (T (k+6)) where
 g0:=fun l h6 hl o1 o2=>by
  refine⟨.mv [],?_⟩;obtain⟨R,v0⟩:∃R,ev (T (k+6)) Le (j4 [some (.lst (l.map .int)),o1,o2])=.ok (.lst (iD l),R):=⟨_,rfl⟩;exact fL v0 (bs (k+4) h6 (by omega))
 g1:=fun P o0 o2 hP hl=>by
  refine⟨.mv [],?_⟩;have he:(P.map pT).map CT=P.map pD:=by rw[df];rfl
  have QG:P.length<=((P.map (·.2)).flatten).length:=by
   clear hl he
   induction P with
   |nil=>exact au _
   |cons p P ih =>
    have:=ih fun q hq=>hP q (ai _ hq)
    have h1:=(hP p aj).c1;show P.length+1<=(p.2++(P.map (·.2)).flatten).length;rw[aa];omega
  rw[he];have hit:∃R,fU (T (k+6)) (.seq Lf) (j4 [o0,some (.lst (P.map pD)),o2])=.ok (P.map pD,R):=by
   have v1:∃R,ev (T (k+6)) Lf (j4 [o0,some (.lst (P.map pD)),o2])=.ok (.lst (P.map pD),R):=⟨_,rfl⟩;obtain⟨R,v1⟩:=v1;rw[fU,v1,aA];exact⟨_,rfl⟩
  obtain⟨R,hit⟩:=hit;have ec:=iM (own:=2) (pick:=[]) (t:=.tp [0,1]) (e:=.var 1) (r:=fun p:Pe=>D.str (tx p.2)) hit (by omega) (fun p hp=>by
   have hb:bK [] (.tp [0,1]) (pD p) (cN (j4 [o0,some (.lst (P.map pD)),o2]) 2 [])=some [sN p.1,sT p.2]:=rfl;rw[hb];exact pS (aC rfl rfl))
  have hm:(P.map fun p:Pe=>D.str (tx p.2))=(P.map (·.2)).map fun l=>D.str (tx l):=by rw[df];rfl
  rw[hm] at ec;exact Ba ec (by omega)
 g2:=fun l t o1 hl hG ht M1=>by
  refine⟨.mv [],?_⟩;obtain⟨R,v0⟩:∃R,ev (T (k+6)) Le (j4 [some (.lst (l.map .int)),o1,some (.str (tx t))])=.ok (.lst (iD l),R):=⟨_,rfl⟩;have v2:ev (T (k+6)) Lg (j4 [some (.lst (l.map .int)),o1,some (.str (tx t))])=.ok (.str (tx t),.mv []):=aC rfl rfl;have el:=eL v0;rw[bM] at el;have ec:=fM v2 el (tG k t l.length ht hG M1 (by omega));generalize tg t++j6 (l.length-(tg t).length)=X at *;unfold VF;rw[ev,ec,aA,uv v0,aA];show (eW ((D.L4 40 (.lst (iD X)) (.lst (iD l))).map (!·))).bind _=_;rw[show D.L4 40 (.lst (iD X)) (.lst (iD l))=some (X==l) from wg 38 X l];have:(X==l)=decide (X=l):=by
   by_cases z:X=l
   .subst z;rw[eo,bp rfl]
   .rw[ba z,gd];exact z
  rw[this];rfl
theorem Dq {T:Tb}:ret (aE T JG env)=.bad:=by
 have:ev T (.neg (.cst .LC)) env=.bad:=by rw[ev,aF];rfl
 unfold JG;rw[aE,aV,this];rfl
theorem AZ {T:Tb}{r:D×Bool}(h:ret (aE T E6 (aI [d0] 4))=.ok r):(∃q,T.cl 14 [.str ("0" : PySem.Str),.int 100]=.ok q)/\gR [d0]=some r.1:=by
 have LJ:aI [d0] 4=[some (d0,bE d0 []),none,none,none]:=rfl;rw[LJ] at h;unfold E6 at h;have es:aY T (Lu (.cst (.str ("0" : PySem.Str))) K8) [some (d0,bE d0 []),none,none,none]=.ok [(.str ("0" : PySem.Str),.mv []),(.int 100,.mv [])]:=by
  rw[aY,aF,aA,aY,aF,aA,aY];rfl
 cases hq:T.cl 14 [.str ("0" : PySem.Str),.int 100] with
 |ok q =>
  refine⟨⟨q,rfl⟩,?_⟩;have ec:∃R,ev T (.call 14 (Lu (.cst (.str ("0" : PySem.Str))) K8)) [some (d0,bE d0 []),none,none,none]=.ok (q.1,R):=by
   rw[ev,es,aA];show ∃R,(T.cl 14 [.str ("0" : PySem.Str),.int 100]).bind _=_;rw[hq];exact⟨_,rfl⟩
  obtain⟨R,ec⟩:=ec;have g1:aV T (.expr (.call 14 (Lu (.cst (.str ("0" : PySem.Str))) K8))) [some (d0,bE d0 []),none,none,none]=.nx [some (d0,bE d0 []),none,none,none]:=by
   rw[aV,ec,bA]
  obtain⟨R0,v0⟩:∃R,ev T Le [some (d0,bE d0 []),none,none,none]=.ok (d0,R):=by
   unfold ev bE;dsimp only[List.getElem?_cons_zero];split<;>exact⟨_,rfl⟩
  rw[aE,g1,aD,aE] at h;cases hg:gR [d0] with
  |none =>
   have e2:ev T (.app gR (Ls Le)) [some (d0,bE d0 []),none,none,none]=.bad:=by
    rw[ev,aY,v0,aA,aY,aA,aA];show (eW (gR [d0])).bind _=_;rw[hg];rfl
   rw[aV,e2] at h;cases h
  |some d =>
   have e2:ev T (.app gR (Ls Le)) [some (d0,bE d0 []),none,none,none]=.ok (d,.mv []):=by
    rw[ev,aY,v0,aA,aY,aA,aA];show (eW (gR [d0])).bind _=_;rw[hg];rfl
   rw[aV,e2,bA] at h;cases h;rfl
 |bad =>
  have ec:ev T (.call 14 (Lu (.cst (.str ("0" : PySem.Str))) K8)) [some (d0,bE d0 []),none,none,none]=.bad:=by
   rw[ev,es,aA];show (T.cl 14 [.str ("0" : PySem.Str),.int 100]).bind _=_;rw[hq];rfl
  rw[aE,aV,ec] at h;cases h
 |exc e =>
  have ec:ev T (.call 14 (Lu (.cst (.str ("0" : PySem.Str))) K8)) [some (d0,bE d0 []),none,none,none]=.exc e:=by
   rw[ev,es,aA];show (T.cl 14 [.str ("0" : PySem.Str),.int 100]).bind _=_;rw[hq];rfl
  rw[aE,aV,ec] at h;cases h
theorem Gd (h:gR [d0]=some d):∃l,d0=.lst (l.map .int)/\dZ l=true/\l.length<=133/\d=fJ l:=by
 cases d0 with
 |lst xs =>
  have h:(match iL xs with
   |some l=>if dZ l&&decide (l.length<=133) then some (fJ l) else none
   |none=>none)=some d:=h
  cases hk:iL xs with
  |none=>rw[hk] at h;cases h
  |some bs =>
   rw[hk] at h;dsimp only at h;by_cases hc:(dZ bs&&decide (bs.length<=133))=true
   .rw[if_pos hc] at h;cases h;rw[ao] at hc;exact⟨bs,by rw[jT hk],hc.1,dw hc.2,rfl⟩
   .rw[if_neg hc] at h;cases h
 |_=>cases h
theorem low {q:D×Bool}(h:Pc.run fns gl 1000 n 14 [.str ("0" : PySem.Str),.int 100]=.ok q):6<=n:=by
 match n with
 |0=>cases h
 |1=>exact absurd h (by rw[show Pc.run fns gl 1000 1 14 [.str ("0" : PySem.Str),.int 100]=.bad by kernel_rfl];intro z;cases z)
 |2=>exact absurd h (by rw[show Pc.run fns gl 1000 2 14 [.str ("0" : PySem.Str),.int 100]=.bad by kernel_rfl];intro z;cases z)
 |3=>exact absurd h (by rw[show Pc.run fns gl 1000 3 14 [.str ("0" : PySem.Str),.int 100]=.bad by kernel_rfl];intro z;cases z)
 |4=>exact absurd h (by rw[show Pc.run fns gl 1000 4 14 [.str ("0" : PySem.Str),.int 100]=.bad by kernel_rfl];intro z;cases z)
 |5=>exact absurd h (by rw[show Pc.run fns gl 1000 5 14 [.str ("0" : PySem.Str),.int 100]=.bad by kernel_rfl];intro z;cases z)
 |n+6=>omega
end K09
end
section
namespace K09
open PySem PySem.Spec PyProof.Rows L2 Pc
noncomputable def hV:List Str:=["range","len","isinstance","int","bool","list","min","str","enumerate","tuple","all","sum","ValueError"]
noncomputable def uz:List Str:=["FIGURES","CAPITALS","ANY","KIND_SIGNS","SIGN_BITS","KIND_BITS","COUNT_BITS","MOST_SIGNS","FIGURE_BITS","MOST_FIGURES","END","GRAIN_BITS","FILLING","FIGURE_GREATEST"]
noncomputable def df0:Df:=⟨"piece_length",st 28,["kind","count"],["kind","count","head"],b0⟩
noncomputable def df1:Df:=⟨"cut_text",st 36,["text"],["text","cuts","pieces","start","kind","end"],b1⟩
noncomputable def df2:Df:=⟨"refuse_strange_signs",st 37,["text"],["text","place","sign"],b2⟩
noncomputable def df3:Df:=⟨"best_cuts",st 38,["text"],["text","cuts","runs","start","choices","kind"],b3⟩
noncomputable def df4:Df:=⟨"cuts_of_kind",st 39,["cuts","start","kind","run"],["cuts","start","kind","run","choices","count","rest"],b4⟩
noncomputable def df5:Df:=⟨"_law_mix",st 50,["_law_script","_law_k","_law_prime"],["_law_script","_law_k","_law_prime","_law_cell"],b5⟩
noncomputable def df6:Df:=⟨"_law_signs",st 51,["_law_kind"],["_law_kind","_law_some"],b6⟩
noncomputable def df7:Df:=⟨"_law_run",st 52,["_law_d","_law_size"],["_law_d","_law_size","_law_some","_law_run_here","_law_k"],b7⟩
noncomputable def df8:Df:=⟨"_law_text",st 53,["_law_script","_law_most"],["_law_script","_law_most","_law_size","_law_text_here","_law_k","_law_d","_law_long"],b8⟩
noncomputable def df9:Df:=⟨"bits_of",st 1,["number","count"],["number","count"],b9⟩
noncomputable def Gg:Df:=⟨"number_of",st 2,["bits"],["bits","number","bit"],V7⟩
noncomputable def Vr:Df:=⟨"piece_bits",st 29,["piece"],["piece","kind","signs","head"],V6⟩
noncomputable def Vq:Df:=⟨"figures_bits",st 30,["signs"],["signs","bits","start","figures"],V5⟩
noncomputable def Vp:Df:=⟨"signs_bits",st 31,["kind","signs"],["kind","signs","bits","sign"],V4⟩
noncomputable def Vo:Df:=⟨"text_grains",st 43,["text","room"],["text","room"],V3⟩
noncomputable def Vn:Df:=⟨"bare_grains",st 44,["text"],["text","bits","piece"],V2⟩
noncomputable def Vm:Df:=⟨"grains_of_bits",st 45,["bits"],["bits"],V1⟩
noncomputable def Vl:Df:=⟨"filled_grains",st 47,["grains","room"],["grains","room","lacking"],V0⟩
noncomputable def Vk:Df:=⟨"bits_of_grains",st 46,["grains"],["grains","bits","grain"],RX⟩
noncomputable def JB:Df:=⟨"read_pieces",st 32,["bits"],["bits","reader","pieces","kind","count","signs"],JG⟩
noncomputable def Vj:Df:=⟨"_law_any_cut",st 54,["_law_text_here","_law_script"],["_law_text_here","_law_script","_law_pieces","_law_at","_law_d","_law_kind","_law_many","_law_most"],RW⟩
noncomputable def Vi:Df:=⟨"_law_cut_grains",st 55,["_law_pieces","_law_last","_law_room"],["_law_pieces","_law_last","_law_room","_law_bits","_law_piece","_law_row","_law_at","_law_fill"],RV⟩
noncomputable def Vh:Df:=⟨"_law_read",st 56,["_law_row"],["_law_row","_law_told","e","_law_others"],E6⟩
noncomputable def Vg:Df:=⟨"_law_right",st 57,["_law_row"],["_law_row","_law_handed","_law_told"],RU⟩
noncomputable def Ku:Df:=⟨"law",st 58,["_law_script"],["_law_script","_law_most","_law_text_here","_law_d","_law_need","_law_row","_law_at","_law_turned","_law_rows","_law_pieces"],Ko⟩
noncomputable def p:Pg:=⟨[df0,df1,df2,df3,df4,df5,df6,df7,df8,df9,Gg,Vr,Vq,Vp,Vo,Vn,Vm,Vl,Vk,JB,Vj,Vi,Vh,Vg,Ku],uz,hV,gl,1000⟩
noncomputable def U5:List Str:=["read_pieces","_law_read"]
theorem ok:tP (Df.Ph p U5) p.Nb:=by
 refine⟨?a0,?a1,?a2,?a3,?a4,?a5,?a6,?a7,?a8,?a9,?a10,?a11,?a12,?a13,?a14,?a15,?a16,?a17,?a18,?a19,?a20,?a21,?a22,?a23,?a24,trivial⟩
 case a0 | a7 | a8 | a9 | a13 | a14 | a17 | a20=>exact .inl (Df.MI (n:=60) (by decide +kernel) rfl (fun _ _ _ _ _ _ us hl=>@zw (fun us=>bindArgs _ ⟨us,[]⟩=pure (List.zip _ us)) us hl (fun _ _=>rfl)))
 case a1 | a2 | a3 | a6 | a10 | a11 | a12 | a15 | a16 | a18 | a23 | a24=>exact .inl (Df.MI (n:=60) (by decide +kernel) rfl (fun _ _ _ _ _ _ us hl=>@uD (fun us=>bindArgs _ ⟨us,[]⟩=pure (List.zip _ us)) us hl (fun _=>rfl)))
 case a4=>exact .inl (Df.MI (n:=60) (by decide +kernel) rfl (fun _ _ _ _ _ _ us hl=>@To (fun us=>bindArgs _ ⟨us,[]⟩=pure (List.zip _ us)) us hl (fun _ _ _ _=>rfl)))
 case a5 | a21=>exact .inl (Df.MI (n:=60) (by decide +kernel) rfl (fun _ _ _ _ _ _ us hl=>@HL (fun us=>bindArgs _ ⟨us,[]⟩=pure (List.zip _ us)) us hl (fun _ _ _=>rfl)))
 case a19=>exact .inr ⟨(fun _ _ _ _ _ _ us hl=>@uD (fun us=>bindArgs _ ⟨us,[]⟩=pure (List.zip _ us)) us hl (fun _=>rfl)),.head _⟩
 case a22=>exact .inr ⟨(fun _ _ _ _ _ _ us hl=>@uD (fun us=>bindArgs _ ⟨us,[]⟩=pure (List.zip _ us)) us hl (fun _=>rfl)),.tail _ (.head _)⟩
theorem S2 (ns:List Int)(hl:ns.length<=63):∃fr,p.run 9 24 [.lst (ns.map D.int)]=.ok (.bl true,fr):=Tq ns hl
noncomputable def dF:Df:=⟨"read_figures",st 33,["reader","count"],["reader","count","signs","together","number"],.nil⟩
noncomputable def dS:Df:=⟨"read_signs",st 34,["reader","kind","count"],["reader","kind","count","signs","number"],.nil⟩
noncomputable def dG:Df:=⟨"read_grains",st 48,["grains"],["grains","pieces","text"],.nil⟩
noncomputable def dR:Df:=⟨"_law_read",st 56,["_law_row"],["_law_row","_law_told","e","_law_others"],.nil⟩
section
open Pc.Gn Pc.Rd
variable {P:Program}{w:World}{K:Frag}{mg:Str->Option Value}{base h:Heap}
theorem U3 (c:Nat->List D->Rs (D×Bool)):wb ⟨c,p.gl,p.fuel⟩:=fun i hi=>by
 match i,hi with
 |0,_=>rfl
 |1,_=>rfl
 |2,_=>rfl
 |3,_=>rfl
 |4,_=>rfl
 |5,_=>rfl
 |6,_=>rfl
 |7,_=>rfl
 |8,_=>rfl
 |9,_=>rfl
 |10,_=>rfl
 |11,_=>rfl
 |12,_=>rfl
 |13,_=>rfl
theorem Gw:wM p P w K mg base 0:=by
 intro i d hd f fd F;refine⟨fun vs H Q E h=>lq h,fun A outer s H args us vs Q E hr he hb hv hs=>?_⟩;obtain⟨ds,G,_,_,r,h,_⟩:=hs;cases h
structure Rds (K:Frag)(mg:Str->Option Value)(C fI fN fF fS fP fG cS cT:Addr)(cs:List Addr)(MR MB OD OB OC QL:FuncData):Prop where
 k:Fz K mg C fI fN MR MB cT
 FF:L2.lI K "read_figures" "read_figures" (st 33) fF OD
 mF:mg "read_figures" = some (.ref fF)
 bF:Binds K OD ["reader","count"] []
 FS:L2.lI K "read_signs" "read_signs" (st 34) fS OB
 mS:mg "read_signs" = some (.ref fS)
 bS:Binds K OB ["reader","kind","count"] []
 FP:L2.lI K "read_pieces" "read_pieces" (st 32) fP OC
 mP:mg "read_pieces" = some (.ref fP)
 bP:Binds K OC ["bits"] []
 FG:L2.lI K "read_grains" "read_grains" (st 48) fG QL
 mG:mg "read_grains" = some (.ref fG)
 bG:Binds K QL ["grains"] []
 hh:Iz K mg cS cT cs
theorem foreign (KX:K.In h)(G:h.Ns mainGlobals mg)(I:p.In K mg)(hH:Bp w K)(hh:∃C fI fN fF fS fP fG cS cT cs MR MB OD OB OC QL,Rds K mg C fI fN fF fS fP fG cS cT cs MR MB OD OB OC QL):qV p U5 P w K mg base:=by
 obtain⟨C,fI,fN,fF,fS,fP,fG,cS,cT,cs,MR,MB,OD,OB,OC,QL,hh⟩:=hh;intro n i d hd hn ih f fd F;have e24:∀j,j<25->j≠19->j≠22->(p.Nb[j]?.all fun e=>e.nm != ("read_pieces" : Str)&&e.nm != ("_law_read" : Str))=true:=by decide +kernel
 have hi:i=19\/i=22:=Classical.byContradiction fun z=>by
  have y:=e24 i (List.getElem?_eq_some_iff.mp hd).1 (fun e=>z (.inl e)) (fun e=>z (.inr e));rw[hd] at y;have y:(d.nm != ("read_pieces" : Str)&&d.nm != ("_law_read" : Str))=true:=y;rw[ao,jh,jh] at y;rcases je.mp hn with e | e
  .exact y.1 e
  .exact y.2 (iq.mp e)
 rcases hi with rfl | rfl
 .cases hd;refine⟨fun vs H Q E h=>lq h,fun A outer s H args us vs Q E hr he hb hv hs=>?_⟩;obtain⟨ds,G,hl,_,r,LH,_⟩:=hs;have hl:ds.length=1:=hl
  match ds,hl with
  |[d0],_ =>
   have:=(bH (F:=⟨1,6,JG⟩) rfl rfl).symm.trans LH;rw[Dq] at this;cases this
 .cases hd;have inv:∀{m:Nat}{ds:List D}{r:D×Bool},ds.length=1->p.run (m+1) 22 ds=.ok r->6<=m/\∃l,ds=[.lst (l.map .int)]/\dZ l=true/\l.length<=133/\r.1=fJ l:=fun {m ds r} hl LH=>by
   match ds,hl with
   |[d0],_ =>
    obtain⟨⟨q,h1⟩,h2⟩:=AZ ((bH (F:=⟨1,4,E6⟩) rfl rfl).symm.trans LH);obtain⟨l,rfl,a1,a2,a3⟩:=Gd h2;exact⟨low h1,l,rfl,a1,a2,a3⟩
  by_cases h6:6<=n
  .obtain⟨k,rfl⟩:∃k,n=k+6:=⟨n-6,by omega⟩;obtain⟨f0,fd0,F0,M0⟩:=I.fn 10 Gg rfl;have B0:=F0.binds (dE ok Gg (List.mem_of_getElem? (i:=10) rfl)).bd;have FI:=CS (P:=P) (w:=w) (base:=base) hh.k (fY (p:=p) (d:=⟨"__init__",stM 0,["self","bits"],["self","bits"],.nil⟩) (n:=60) (by decide +kernel));have FN:=EL (P:=P) (w:=w) (base:=base) (n:=1) (r:=p0.run 1 0) hh.k (fY (p:=p) (d:=⟨"read_number",stM 1,["self","count"],["self","count","end","number"],.nil⟩) (n:=60) (by decide +kernel)) (S3 F0 M0 hH) F0.kp B0 M0 Aq (I.blt "len" (by decide));have SF:=fY (p:=p) (d:=dF) (n:=60) (by decide +kernel);have SS:=fY (p:=p) (d:=dS) (n:=60) (by decide +kernel);have SP:=fY (p:=p) (d:=JB) (n:=60) (by decide +kernel);have SG:=fY (p:=p) (d:=dG) (n:=60) (by decide +kernel);have FF:=By hh.k hh.FF SF FN (fun LD A outer s H E r=>rq (n:=0) (p:=p) (dE ok) I hH Gw SF (iA.room ((iA.mono r (a':=6) (b':=203) (by omega) (by omega)).deeper _))) (U3 _) (I.blt "str" (by decide));have FS:=BX hh.k hh.FS SS FN (fun LD A outer s H E r=>rq (n:=0) (p:=p) (dE ok) I hH Gw SS (iA.room ((iA.mono r (a':=6) (b':=203) (by omega) (by omega)).deeper _))) (U3 _);have FP:=xB (by omega) (by omega) hh.k hh.FP SP FI FN FF hh.FF.kp hh.bF hh.mF FS hh.FS.kp hh.bS hh.mS (fun LD A outer s H E r=>rq (n:=0) (p:=p) (dE ok) I hH Gw SP (iA.room ((iA.mono r (a':=6) (b':=203) (by omega) (by omega)).deeper _))) (U3 _);have FG:=xC (a:=3*(k+6)+6) (b:=16*(k+6)+203) hh.k hh.FG SG FP (fun A env r=>(iA.mono r (a':=12) (b':=228) (by omega) (by omega)).deeper env) hh.FP.kp hh.bP hh.mP (fun LD A outer s H E r=>rq (n:=k+6) (p:=p) (dE ok) I hH ih SG (iA.room (iA.deeper (a:=3*(k+6)+5) (b:=16*(k+6)+200) r _))) (gs k);refine reads KX G hh.hh F (fY (p:=p) (d:=dR) (n:=60) (by decide +kernel)) FG hh.FG.kp hh.bG hh.mG (I.blt "isinstance" (by decide)) (I.blt "ValueError" (by decide)) _ fun vs H Q E hs=>?_
   obtain⟨ds,G',hlen,rs,r,LH,kk⟩:=hs;obtain⟨_,l,rfl,a1,a2,a3⟩:=inv hlen LH;obtain⟨v,rfl,rp⟩:=rs.Mv;obtain⟨pl,vs,g,rfl,rfl,h1,h2⟩:=rp.lst_inv;rw[lY h2] at h1;refine⟨.ref pl,rfl,pl,l,rfl,h1,a1,a2,?_⟩;cases hr:yl l with
   |none =>
    have ha:fJ l=.tup [.bl true,.bl true,.bl false]:=by unfold fJ;rw[hr]
    exact fun H' sm=>⟨rfl,fun H2 tp s2 ht=>kk (.ref tp) H2 [] (sm.trans s2) (by rw[a3,ha];exact .tup (.inl ht) (.cons (G:=[]) (.bl _) (.cons (G:=[]) (.bl _) (.cons (G:=[]) (.bl _) .nil)))) (fun _ z=>(nomatch z)) fun _=>⟨cu,fun _ z=>(nomatch z)⟩⟩
   |some t =>
    have ha:fJ l=.str (Pc.Ct.tx t):=by unfold fJ;rw[hr]
    exact fun H' sm=>kk (.str (Pc.Ct.tx t)) H' [] sm (by rw[a3,ha];exact .str _) (fun _ z=>(nomatch z)) fun _=>⟨cu,fun _ z=>(nomatch z)⟩
  .refine⟨fun vs H Q E h=>lq h,fun A outer s H args us vs Q E hr he hb hv hs=>?_⟩;obtain⟨ds,G,hl,_,r,LH,_⟩:=hs;exact absurd (inv hl LH).1 h6
end
theorem bdI (kV doc pm:Value)(an:Option Addr)(LD ct:Value)(us:List Value)(hl:us.length=2):bindArgs (PySem.W.fnOf "__init__" "BitReader.__init__" (cH (stM 0)) (bD (stM 0)) (aG (stM 0)) .none kV doc pm an LD ct) ⟨us,[]⟩=pure ([("self" : Str),"bits"].zip us) :=
 @zw (fun us=>bindArgs _ ⟨us,[]⟩=pure (List.zip _ us)) us hl (fun _ _=>rfl)
theorem bdN (kV doc pm:Value)(an:Option Addr)(LD ct:Value)(us:List Value)(hl:us.length=2):bindArgs (PySem.W.fnOf "read_number" "BitReader.read_number" (cH (stM 1)) (bD (stM 1)) (aG (stM 1)) .none kV doc pm an LD ct) ⟨us,[]⟩=pure ([("self" : Str),"count"].zip us) :=
 @zw (fun us=>bindArgs _ ⟨us,[]⟩=pure (List.zip _ us)) us hl (fun _ _=>rfl)
theorem bdF (kV doc pm:Value)(an:Option Addr)(LD ct:Value)(us:List Value)(hl:us.length=2):bindArgs (PySem.W.fnOf "read_figures" "read_figures" (cH (st 33)) (bD (st 33)) (aG (st 33)) .none kV doc pm an LD ct) ⟨us,[]⟩=pure ([("reader" : Str),"count"].zip us) :=
 @zw (fun us=>bindArgs _ ⟨us,[]⟩=pure (List.zip _ us)) us hl (fun _ _=>rfl)
theorem bdS (kV doc pm:Value)(an:Option Addr)(LD ct:Value)(us:List Value)(hl:us.length=3):bindArgs (PySem.W.fnOf "read_signs" "read_signs" (cH (st 34)) (bD (st 34)) (aG (st 34)) .none kV doc pm an LD ct) ⟨us,[]⟩=pure ([("reader" : Str),"kind","count"].zip us) :=
 @HL (fun us=>bindArgs _ ⟨us,[]⟩=pure (List.zip _ us)) us hl (fun _ _ _=>rfl)
theorem bdP (kV doc pm:Value)(an:Option Addr)(LD ct:Value)(us:List Value)(hl:us.length=1):bindArgs (PySem.W.fnOf "read_pieces" "read_pieces" (cH (st 32)) (bD (st 32)) (aG (st 32)) .none kV doc pm an LD ct) ⟨us,[]⟩=pure ([("bits" : Str)].zip us) :=
 @uD (fun us=>bindArgs _ ⟨us,[]⟩=pure (List.zip _ us)) us hl (fun _=>rfl)
theorem bdG (kV doc pm:Value)(an:Option Addr)(LD ct:Value)(us:List Value)(hl:us.length=1):bindArgs (PySem.W.fnOf "read_grains" "read_grains" (cH (st 48)) (bD (st 48)) (aG (st 48)) .none kV doc pm an LD ct) ⟨us,[]⟩=pure ([("grains" : Str)].zip us) :=
 @uD (fun us=>bindArgs _ ⟨us,[]⟩=pure (List.zip _ us)) us hl (fun _=>rfl)
end K09
open PySem PySem.W PyProof.Rows
theorem PySem.Challenge.cw_patchsquare_k09_grains_read_holds : PySem.Challenge.rw_patchsquare_k09_grains_read.Holds := by
 refine holds_law (by decide +kernel) fun SI=>?_
 refine holds_open (q:=K09.Q) (loose:=[]) (XP:=XL K09.Q []) (YP:=Hook.says K09.H) K09.left (Hook.of K09.H) (Hook.keeps K09.H) (fun s e=>xl_of s (Bool.and_eq_true_iff.mp e).1) XL.keeps (by rfl) (by rfl) (by rfl) (fun s e=>recFacts_of (Bool.and_eq_true_iff.mp e).2) (by rfl) SI (by decide +kernel) ⟨rfl,rfl,rfl,rfl,rfl,by decide +kernel⟩ ?hw ?hc
 case hw=>w_witness2
 refine Pc.Kd (l:=PySem.Challenge.rw_patchsquare_k09_grains_read) K09.p K09.U5 9 24 "_law_script" K09.Ku rfl rfl (fun w h Y=>PySem.W.kIn_of Y) rfl rfl rfl ⟨rfl,by decide,by decide⟩ K09.ok ?st ?nl ?hh ?hf K09.S2
 case nl=>intro w;rfl
 case hh=>intro w;exact Pc.Eg rfl
 case hf =>
  intro w mg h base KX G I;have FI:L2.lI (K09.K w.params) "__init__" "BitReader.__init__" (K09.stM 0) 186 _:=⟨⟨_,_,_,_,_,_,_,_,_,rfl,rfl,rfl⟩,rfl⟩;have FN:L2.lI (K09.K w.params) "read_number" "BitReader.read_number" (K09.stM 1) 193 _:=⟨⟨_,_,_,_,_,_,_,_,_,rfl,rfl,rfl⟩,rfl⟩;have FF:L2.lI (K09.K w.params) "read_figures" "read_figures" (K09.st 33) 242 _:=⟨⟨_,_,_,_,_,_,_,_,_,rfl,rfl,rfl⟩,rfl⟩;have FS:L2.lI (K09.K w.params) "read_signs" "read_signs" (K09.st 34) 249 _:=⟨⟨_,_,_,_,_,_,_,_,_,rfl,rfl,rfl⟩,rfl⟩;have FP:L2.lI (K09.K w.params) "read_pieces" "read_pieces" (K09.st 32) 235 _:=⟨⟨_,_,_,_,_,_,_,_,_,rfl,rfl,rfl⟩,rfl⟩;have FG:L2.lI (K09.K w.params) "read_grains" "read_grains" (K09.st 48) 314 _:=⟨⟨_,_,_,_,_,_,_,_,_,rfl,rfl,rfl⟩,rfl⟩;exact K09.foreign KX G I (Pc.Eg rfl) ⟨196,186,193,242,249,235,314,36,49,[73,85,97,147,166,128,109,61],_,_,_,_,_,_,⟨⟨by kernel_rfl,by kernel_rfl,by kernel_rfl,by kernel_rfl⟩,by unfold L2.hZ;kernel_rfl,by unfold L2.hZ;kernel_rfl,⟨by kernel_rfl,by kernel_rfl,by kernel_rfl,by kernel_rfl⟩,⟨by kernel_rfl,by kernel_rfl,by kernel_rfl⟩,cz KX G rfl,FI,FN,FI.binds K09.bdI,FN.binds K09.bdN,cz KX G rfl,by kernel_rfl⟩,FF,cz KX G rfl,FF.binds K09.bdF,FS,cz KX G rfl,FS.binds K09.bdS,FP,cz KX G rfl,FP.binds K09.bdP,FG,cz KX G rfl,FG.binds K09.bdG,
   ⟨cz KX G rfl,by kernel_rfl,cz KX G rfl,by kernel_rfl,⟨⟨⟨rfl,rfl⟩,rfl⟩,⟨⟨rfl,rfl⟩,rfl⟩,⟨⟨rfl,rfl⟩,rfl⟩,⟨⟨rfl,rfl⟩,rfl⟩,⟨⟨rfl,rfl⟩,rfl⟩,⟨⟨rfl,rfl⟩,rfl⟩,⟨⟨rfl,rfl⟩,rfl⟩,⟨⟨rfl,rfl⟩,rfl⟩,trivial⟩,rfl,by kernel_rfl,by kernel_rfl,by kernel_rfl⟩⟩
 case st =>
  intro w;refine⟨⟨?d0,?d1,?d2,?d3,?d4,?d5,?d6,?d7,?d8,?d9,?d10,?d11,?d12,?d13,?d14,?d15,?d16,?d17,?d18,?d19,?d20,?d21,?d22,?d23,?d24,trivial⟩,Pc.Cn ⟨?US,?UR,?UQ,?UP,?UO,?UN,?UM,?UL,?UK,?UJ,?QK,?QJ,?QI,?QH,trivial⟩,⟨?e0,?e1,?e2,?e3,?e4,?e5,?e6,?e7,?e8,?e9,?Vd,?e11,?e12,trivial⟩⟩
  case d0 | d1 | d2 | d3 | d4 | d5 | d6 | d7 | d8 | d9 | d10 | d11 | d12 | d13 | d14 | d15 | d16 | d17 | d18 | d19 | d20 | d21 | d22 | d23 | d24=>refine' Pc.GV ?a ?l ?c ?k;(case a=>rfl);(case l=>rfl);(case c=>rfl);(case k=>rfl)
  case US=>refine' Pc.gl_int (i:=1) ?ga0;(case ga0=>rfl)
  case UR=>refine' Pc.gl_int (i:=2) ?ga1;(case ga1=>rfl)
  case UQ=>refine' Pc.gl_int (i:=3) ?ga2;(case ga2=>rfl)
  case UP=>refine' Pc.nh (ds:=[.str ("" : PySem.Str),.str ("0123456789" : PySem.Str),.str (" ABCDEFGHIJKLMNOPQRSTUVWXYZ.,-:/" : PySem.Str),.str (" !\"#$&'()*+,-./0123456789:;<=>?@ABCDEFGHIJKLMNOPQRSTUVWXYZ[\\]^_`abcdefghijklmnopqrstuvwxyz{|}~" : PySem.Str)]) (vs:=[.str ("" : PySem.Str),.str ("0123456789" : PySem.Str),.str (" ABCDEFGHIJKLMNOPQRSTUVWXYZ.,-:/" : PySem.Str),.str (" !\"#$&'()*+,-./0123456789:;<=>?@ABCDEFGHIJKLMNOPQRSTUVWXYZ[\\]^_`abcdefghijklmnopqrstuvwxyz{|}~" : PySem.Str)]) ?ga3 ?gl3 ?gc3 ?gz3 ?gv3 ?gr3;(case ga3=>rfl);(case gl3=>rfl);(case gc3=>rfl);(case gz3=>decide);(case gv3=>exact (.cons ⟨_,rfl⟩ (.cons ⟨_,rfl⟩ (.cons ⟨_,rfl⟩ (.cons ⟨_,rfl⟩ .nil)))));(case gr3=>exact fun H=>(.cons (.str _) (.cons (.str _) (.cons (.str _) (.cons (.str _) .nil)))))
  case UO=>refine' Pc.nh (ds:=[.int 0,.int 0,.int 5,.int 7]) (vs:=[.int 0,.int 0,.int 5,.int 7]) ?ga4 ?gl4 ?gc4 ?gz4 ?gv4 ?gr4;(case ga4=>rfl);(case gl4=>rfl);(case gc4=>rfl);(case gz4=>decide);(case gv4=>exact (.cons ⟨_,rfl⟩ (.cons ⟨_,rfl⟩ (.cons ⟨_,rfl⟩ (.cons ⟨_,rfl⟩ .nil)))));(case gr4=>exact fun H=>(.cons (.int _) (.cons (.int _) (.cons (.int _) (.cons (.int _) .nil)))))
  case UN=>refine' Pc.gl_int (i:=2) ?ga5;(case ga5=>rfl)
  case UM=>refine' Pc.gl_int (i:=6) ?ga6;(case ga6=>rfl)
  case UL=>refine' Pc.gl_int (i:=64) ?ga7;(case ga7=>rfl)
  case UK=>refine' Pc.nh (ds:=[.int 0,.int 4,.int 7,.int 10]) (vs:=[.int 0,.int 4,.int 7,.int 10]) ?ga8 ?gl8 ?gc8 ?gz8 ?gv8 ?gr8;(case ga8=>rfl);(case gl8=>rfl);(case gc8=>rfl);(case gz8=>decide);(case gv8=>exact (.cons ⟨_,rfl⟩ (.cons ⟨_,rfl⟩ (.cons ⟨_,rfl⟩ (.cons ⟨_,rfl⟩ .nil)))));(case gr8=>exact fun H=>(.cons (.int _) (.cons (.int _) (.cons (.int _) (.cons (.int _) .nil)))))
  case UJ=>refine' Pc.gl_int (i:=3) ?ga9;(case ga9=>rfl)
  case QK=>refine' Pc.gl_int (i:=0) ?U1;(case U1=>rfl)
  case QJ=>refine' Pc.gl_int (i:=6) ?U0;(case U0=>rfl)
  case QI=>refine' Pc.nh (ds:=[.int 42,.int 21]) (vs:=[.int 42,.int 21]) ?UZ ?UU ?UX ?UD ?UG ?UI;(case UZ=>rfl);(case UU=>rfl);(case UX=>rfl);(case UD=>decide);(case UG=>exact (.cons ⟨_,rfl⟩ (.cons ⟨_,rfl⟩ .nil)));(case UI=>exact fun H=>(.cons (.int _) (.cons (.int _) .nil)))
  case QH=>refine' Pc.nh (ds:=[.int 0,.int 9,.int 99,.int 999]) (vs:=[.int 0,.int 9,.int 99,.int 999]) ?UY ?UT ?UW ?UC ?UE ?UH;(case UY=>rfl);(case UT=>rfl);(case UW=>rfl);(case UC=>decide);(case UE=>exact (.cons ⟨_,rfl⟩ (.cons ⟨_,rfl⟩ (.cons ⟨_,rfl⟩ (.cons ⟨_,rfl⟩ .nil)))));(case UH=>exact fun H=>(.cons (.int _) (.cons (.int _) (.cons (.int _) (.cons (.int _) .nil)))))
  case e0 | e1 | e2 | e3 | e4 | e5 | e6 | e7 | e8 | e9 | Vd | e11 | e12=>dsimp only;rfl
end
