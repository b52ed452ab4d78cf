import PyProof.Rows.All
import Wide.All
import OpenK.AllK
import Wide.FinOn
import Lean
import PyProof.EqAt
import PyProof.EqKinds
import PyProof.TupleCall
import PySem.Syntax
import PySem.Str
import PySem.Sem
import PySem.Builtin.Int.W1All
import PySem.Builtin.Str.Common
import PySem.Builtin.Range.Common
import KE.IntText
import KE.KSortAsk
import PyProof.IsRules
import PyProof.NeKinds
import PyProof.DictWalks
import PyProof.EnumMake
import PyProof.EnumFor
import PyProof.ZipIter
import PyProof.Rows.EnumRows
import PyProof.Rows.FactsT2
import KE.KRevIter
import PyProof.CompFree
import PyProof.CompUse
import PyProof.Cells
import PyProof.ConsumeWalk
import PyProof.IsInstanceH
import PyProof.IsiNone
import PyProof.SumWalkG
import PyProof.Rows.SumGenD
import PyProof.ListRange
import PyProof.MinMaxWalk
import PyProof.WalkInts
import PyProof.Conv_int_bool
import PyProof.Rows.CallKwBuiltin
import KE.KSorted
import KE.KSort
import OpenK.KOwn
import PyProof.RulesAs
import PyProof.RulesDel
import PyProof.ExcArgsOwn
import PyProof.ExcAttrAll.ValueError
import PyProof.Rows.RuleN_isinstance
import PyProof.IsiTuple
import PyProof.ExcInit
import PyProof.InstStoreFacts
import PyProof.ExcBaseAll.ValueError
import PyProof.FString
import PyProof.AssignAttr
import OpenK.KMore
import PySem.Challenge.RW_patchsquare_k18_just_beyond
set_option Elab.async false
set_option linter.all false
set_option maxRecDepth 100000
set_option maxHeartbeats 0
abbrev aa:=@List.mem_cons_of_mem
abbrev ae:=@List.mem_cons_self
abbrev ag:=@Option.map_eq_some_iff
abbrev ah:=@Option.bind_eq_some_iff
abbrev ai:=@Bool.and_eq_true
abbrev aj:=@List.length_map
abbrev ak:=@List.mem_append_right
abbrev ao:=@List.size_toArray
abbrev aq:=@List.length_set
abbrev au:=@Nat.le_refl
abbrev av:=@Nat.lt_of_lt_of_le
abbrev aw:=@List.mem_append_left
abbrev ay:=@List.map_cons
abbrev az:=@Bool.false_ne_true
abbrev ba:=@Bool.false_eq_true
abbrev bc:=@List.length_replicate
abbrev bg:=@List.map_map
abbrev bh:=@List.mem_of_getElem
abbrev bj:=@List.length_range
abbrev bo:=@Int.toNat_natCast
abbrev bq:=@List.nodup_nil
abbrev br:=@Nat.le_trans
abbrev bt:=@Nat.xor_assoc
abbrev bu:=@Nat.ne_of_lt
abbrev bw:=@List.all_eq_true
abbrev bz:=@decide_eq_true_eq
abbrev cg:=@List.append_nil
abbrev cj:=@decide_eq_false
abbrev cm:=@Ne.symm
abbrev cq:=@decide_eq_true
abbrev cu:=@PySem.mem_of_lookup
abbrev cv:=@Option.map_some
abbrev cw:=@List.length_cons
abbrev cx:=@Nat.zero_xor
abbrev cy:=@if_true
abbrev cz:=@Option.some.injEq
abbrev c9:=@if_false
abbrev de:=@List.lookup_cons
abbrev df:=@List.length_append
abbrev dh:=@Option.some.inj
abbrev dk:=@List.all_cons
abbrev dm:=@List.not_mem_nil
abbrev dn:=@List.replicate_succ
abbrev dq:=@Nat.zero_le
abbrev dr:=@PyProof.Rows.callWith_type1
abbrev du:=@PySem.W.mg_of
abbrev dw:=@List.mem_cons
abbrev dz:=@of_decide_eq_true
abbrev eg:=@Nat.mod_two_eq_zero_or_one
abbrev eh:=@Bool.not_eq_true'
abbrev eo:=@Bool.eq_iff_iff
abbrev eu:=@List.length_take
abbrev ey:=@List.contains_cons
abbrev fb:=@List.flatten_cons
abbrev fe:=@List.append_assoc
abbrev fh:=@beq_eq_false_iff_ne
abbrev fi:=@List.map_congr_left
abbrev fk:=@Nat.zero_add
abbrev fm:=@Decidable.byContradiction
abbrev fq:=@Nat.lt_irrefl
abbrev fu:=@Nat.xor_self
abbrev fv:=@Int.natCast_nonneg
abbrev fw:=@List.of_mem_zip
abbrev f9:=@Prod.mk.injEq
abbrev gb:=@List.length_eraseIdx_of_lt
abbrev gi:=@List.length_drop
abbrev gj:=@Nat.shiftRight_eq_div_pow
abbrev gm:=@Nat.not_lt_zero
abbrev gn:=@List.mem_filter
abbrev gq:=@Bool.or_eq_true
abbrev gu:=@beq_iff_eq
abbrev gv:=@Nat.lt_of_le_of_lt
abbrev gx:=@List.lookup_append
abbrev h8:=@PySem.F.plainAttrs_list
abbrev ie:=@or_false
abbrev ig:=@PySem.W.cellsFrom_some
abbrev ij:=@Nat.xor_zero
abbrev ik:=@List.length_filter_le
abbrev il:=@Nat.le_of_not_lt
abbrev ip:=@List.getElem_mem
abbrev iq:=@List.ext_getElem
abbrev ir:=@Bool.not_eq_true
abbrev iu:=@List.any_cons
abbrev iw:=@Bool.true_and
abbrev iy:=@congrArg
abbrev iz:=@List.filterMap_cons
abbrev i4:=@bne_iff_ne
abbrev i5:=@PySem.W.codeRec_of
abbrev i7:=@PySem.W.callWith_K
abbrev i8:=@Nat.mod_lt
abbrev i9:=@List.mem_or_eq_of_mem_set
abbrev ja:=@List.drop_eq_getElem_cons
abbrev jb:=@List.pairwise_map
abbrev jc:=@List.nodup_append
abbrev jd:=@Option.bind_some
abbrev je:=@Nat.min_le_right
abbrev jf:=@List.length_eraseIdx_le
abbrev jg:=@Nat.sub_self
abbrev jh:=@Nat.pow_succ
abbrev ji:=@Nat.le_of_lt
abbrev jj:=@List.take_of_length_le
abbrev jk:=@List.nodup_cons
abbrev jm:=@List.map_append
abbrev jn:=@PySem.F.slot_list_pop
section
namespace L2
open PySem PySem.Spec PyProof.Rows
noncomputable def eU (s:Stmt):Arguments:=match s with
 |.FunctionDef _ a _ _ _ _ _ _ _ _=>a
 |_=>{posonlyargs:=[],args:=[],vararg:=none,kwonlyargs:=[],kw_defaults:=[],kwarg:=none,defaults:=[]}
noncomputable def bM (s:Stmt):List Stmt:=match s with
 |.FunctionDef _ _ b _ _ _ _ _ _ _=>b
 |_=>[]
noncomputable def aE (s:Stmt):Scope:=match s with
 |.FunctionDef _ _ _ _ _ _ sc _ _ _=>sc
 |_=>{kind:=.function,names:=[],isGenerator:=false,isCoroutine:=false}
end L2
end
section
namespace Pc.Hd
open PySem PySem.W L2
noncomputable def sv (x:String)(t:Tok):Value:=.str (Str.ofString x) t
noncomputable def kv (P:Params)(x:String)(t:Tok)(v:Value):DictEntry:=⟨PyData.keyHash P (Str.ofString x),sv x t,v⟩
noncomputable def Al:Stmt->Str
 |.FunctionDef n ..=>n
 |_=>Str.ofString ""
noncomputable def fo (a:Addr)(s:Stmt)(m c:Value):Addr×Obj:=(a,⟨.type "function",none,.func {name:=Al s,qualname:=Al s,params:=eU s,body:=.stmts (bM s),scope:=aE s,globals:=mainGlobals,closure:=[],defaults:=.none,kwdefaults:=.none,pyModule:=m,code:=c},#[]⟩)
noncomputable def co (a:Addr)(vs:Array Value):Addr×Obj:=(a,⟨.type "code",none,.fields vs,#[]⟩)
noncomputable def tu (a:Addr)(vs:Array Value):Addr×Obj:=(a,⟨.type "tuple",none,.seq vs 0,#[]⟩)
noncomputable def di (a:Addr)(es:Array DictEntry)(n:Nat):Addr×Obj:=(a,⟨.type "dict",none,.dict es n,#[]⟩)
end Pc.Hd
end
section
namespace K18
open PySem PySem.Spec PyProof.Rows L2
abbrev st (i:Nat):Stmt:=PySem.Challenge.pw_patchsquare_k18_just_beyond.main.body.getD i (.Pass ⟨0,0,0,0⟩)
end K18
namespace K18
open PySem PySem.W Pc.Hd
noncomputable def ca (a:Addr)(n:String)(t l k u:Nat):Addr×Obj:=co a #[sv n t,sv n (t+1),sv "/claim/cut.py" (t+2),.int l 0,.int k 0,.int 0 0,.int 0 0,.int 3 0,.ref (a-5),.bool true,.int 181 0,.ref (a-4),.none,.ref (a-3),.ref (a-2),.ref (a-1),.int u 0,.int l 0,sv "/claim/cut.py" (u+1)]
noncomputable def cb (a:Addr)(n:String)(t l k u:Nat):Addr×Obj:=co a #[sv n t,sv n (t+1),sv "/claim/cut.py" (t+2),.int l 0,.int k 0,.int 0 0,.int 0 0,.int 3 0,.ref (a-3),.bool true,.int 181 0,.ref (a-2),.none,.none,.none,.ref (a-1),.int u 0,.int l 0,sv "/claim/cut.py" (u+1)]
noncomputable def cl (a:Addr)(n:String)(r t:Nat):Addr×Obj:=(a,{cls:=Value.type "type",data:=Data.cls {name:=Str.ofString n,bases:=[Value.ref 24],mro:=[Value.ref a,Value.ref 24,Value.type "ValueError",Value.type "Exception",Value.type "BaseException",Value.type "object"],ns:=a-1,qualname:=Str.ofString n},slots:=#[some (Value.ref r),none,some (sv n t),some (sv n (t+8)),some (Value.builtin "ValueError.__new__"),some (Value.bool true)]})
noncomputable def lm:Value:=sv "law_patchsquare_k18_just_beyond" 542
noncomputable def K (P:Params):Frag:=[(2,{cls:=Value.none,data:=Data.dict #[]}),
 di 3 #[kv P "__name__" 165 lm,kv P "__doc__" 166 .none,kv P "__package__" 167 .none,kv P "__loader__" 168 (.builtin "__main__.__loader__#opaque"),kv P "__spec__" 169 .none,kv P "__annotations__" 170 (.ref 6),kv P "__builtins__" 171 (.ref 4),kv P "__file__" 173 (sv "/claim/cut.py" 172),kv P "__cached__" 174 .none,kv P "SquareError" 206 (.ref 24),kv P "NoText" 222 (.ref 37),kv P "TooLong" 238 (.ref 49),kv P "NoInverse" 254 (.ref 61),kv P "NoLabel" 270 (.ref 73),kv P "NoMarks" 286 (.ref 85),kv P "NoSquare" 302 (.ref 97),kv P "NoSign" 327 (.ref 116),kv P "NoMend" 352 (.ref 135),kv P "NoPicture" 377 (.ref 154),kv P "GRAINS" 381 (.int 64 380),kv P "FOLD" 383 (.int 67 382),kv P "times_of" 394 (.ref 163),kv P "inverse_of" 401 (.ref 170),kv P "power_of" 412 (.ref 177),kv P "worth_at" 422 (.ref 184),kv P "row_product" 437 (.ref 191),kv P "row_with_noughts" 446 (.ref 198),kv P "code_noughts" 454 (.ref 203),kv P "is_code" 460 (.ref 208),kv P "mended_row" 468 (.ref 213),kv P "locator_of" 476 (.ref 220),kv P "suspect_places" 482 (.ref 225),kv P "shortest_rule" 496 (.ref 232),kv P "gap_of_rule" 508 (.ref 239),kv P "scaled_row" 514 (.ref 244),kv P "added_rows" 525 (.ref 251),kv P "changed_row" 531 (.ref 256),kv P "distances_product" 541 (.ref 263),kv P "_law_whole" 550 (.ref 270),kv P "_law_times" 560 (.ref 277),kv P "_law_cell" 568 (.ref 284),kv P "_law_mixed" 577 (.ref 291),kv P "_law_row" 583 (.ref 296),kv P "_law_worth" 593 (.ref 303),kv P "_law_is_code" 603 (.ref 310),kv P "_law_made" 609 (.ref 315),kv P "_law_places" 623 (.ref 322),kv P "_law_spoilt" 636 (.ref 329),kv P "_law_grains" 645 (.ref 336),kv P "_law_refused" 657 (.ref 343),kv P "_law_asked" 667 (.ref 350),kv P "_law_near" 673 (.ref 355),kv P "law" 679 (.ref 360)] 53,
 di 23 #[kv P "__module__" 196 (sv "patchsquare.errors" 187),kv P "__firstlineno__" 200 (.int 2 199),kv P "__static_attributes__" 201 (.ref 22),kv P "__weakref__" 203 (.ref 25),kv P "__doc__" 204 .none] 3,
 (24,{cls:=Value.type "type",data:=Data.cls {name:=Str.ofString "SquareError",bases:=[Value.type "ValueError"],mro:=[Value.ref 24,Value.type "ValueError",Value.type "Exception",Value.type "BaseException",Value.type "object"],ns:=23,qualname:=Str.ofString "SquareError",subclasses:=[Value.ref 37,Value.ref 49,Value.ref 61,Value.ref 73,Value.ref 85,Value.ref 97,Value.ref 116,Value.ref 135,Value.ref 154]},slots:=#[some (Value.ref 15),none,some (Value.str (Str.ofString "SquareError") 189),some (Value.str (Str.ofString "SquareError") 197),some (Value.builtin "ValueError.__new__"),some (Value.bool true)]}),
 cl 37 "NoText" 28 207,
 cl 49 "TooLong" 40 223,
 cl 61 "NoInverse" 52 239,
 cl 73 "NoLabel" 64 255,
 cl 85 "NoMarks" 76 271,
 cl 97 "NoSquare" 88 287,
 cl 116 "NoSign" 100 303,
 co 131 #[(sv "__init__" 340),(sv "NoMend.__init__" 341),(sv "/claim/cut.py" 342),(.int 23 0),(.int 2 0),(.int 0 0),(.int 0 0),(.int 3 0),(.ref 126),(.bool true),(.int 181 0),(.ref 127),.none,(.ref 128),(.ref 129),(.ref 130),(.int 345 0),(.int 23 0),(sv "/claim/cut.py" 346)],
 (132,{cls:=Value.type "function",data:=Data.func {name:=Str.ofString "__init__",qualname:=Str.ofString "NoMend.__init__",params:={posonlyargs:=[],args:=[{arg:=Str.ofString "self",annotation:=none,pos:={line:=23,col:=17,endLine:=23,endCol:=21}},{arg:=Str.ofString "block",annotation:=none,pos:={line:=23,col:=23,endLine:=23,endCol:=28}}],vararg:=none,kwonlyargs:=[],kw_defaults:=[],kwarg:=none,defaults:=[]},body:=FuncBody.stmts [Stmt.Expr (((Expr.Name (Str.ofString "SquareError") {line:=24,col:=8,endLine:=24,endCol:=19}).Attribute (Str.ofString "__init__") {line:=24,col:=8,endLine:=24,endCol:=28}).Call [Expr.Name (Str.ofString "self") {line:=24,col:=29,endLine:=24,endCol:=33},Expr.JoinedStr [Expr.Constant (Const.str (Str.ofString "block ")) 0 {line:=24,col:=37,endLine:=24,endCol:=43},(Expr.Name (Str.ofString "block") {line:=24,col:=44,endLine:=24,endCol:=49}).FormattedValue (-1) none {line:=24,col:=43,endLine:=24,endCol:=50},Expr.Constant (Const.str (Str.ofString " can't be mended")) 0 {line:=24,col:=50,endLine:=24,endCol:=66}] {line:=24,col:=35,endLine:=24,endCol:=67}] [] {line:=24,col:=8,endLine:=24,endCol:=68}) {line:=24,col:=8,endLine:=24,endCol:=68},Stmt.Assign [(Expr.Name (Str.ofString "self") {line:=25,col:=8,endLine:=25,endCol:=12}).Attribute (Str.ofString "block") {line:=25,col:=8,endLine:=25,endCol:=18}] (Expr.Name (Str.ofString "block") {line:=25,col:=21,endLine:=25,endCol:=26}) {line:=25,col:=8,endLine:=25,endCol:=26}],scope:={kind:=ScopeKind.function,names:=[(Str.ofString "self",NameKind.local),(Str.ofString "block",NameKind.local),(Str.ofString "SquareError",NameKind.globalImplicit)],isGenerator:=false,isCoroutine:=false},globals:=3,closure:=[],defaults:=Value.none,kwdefaults:=Value.none,pyModule:=Value.str (Str.ofString "patchsquare.errors") 187,code:=Value.ref 131}}),
 di 134 #[kv P "__module__" 335 (sv "patchsquare.errors" 187),kv P "__firstlineno__" 339 (.int 21 338),kv P "__init__" 347 (.ref 132),kv P "__static_attributes__" 349 (.ref 133),kv P "__doc__" 350 .none] 2,
 cl 135 "NoMend" 119 328,
 cl 154 "NoPicture" 138 353,
 ca 162 "times_of" 384 34 2 392,
 fo 163 (st 14) (sv "patchsquare.field" 378) (.ref 162),
 ca 169 "inverse_of" 395 46 1 399,
 fo 170 (st 15) (sv "patchsquare.field" 378) (.ref 169),
 ca 176 "power_of" 402 50 2 410,
 fo 177 (st 16) (sv "patchsquare.field" 378) (.ref 176),
 ca 183 "worth_at" 413 60 2 420,
 fo 184 (st 17) (sv "patchsquare.field" 378) (.ref 183),
 ca 190 "row_product" 425 66 2 435,
 fo 191 (st 19) (sv "patchsquare.rows" 423) (.ref 190),
 ca 197 "row_with_noughts" 438 72 1 444,
 fo 198 (st 20) (sv "patchsquare.rows" 423) (.ref 197),
 cb 202 "code_noughts" 449 78 1 452,
 fo 203 (st 22) (sv "patchsquare.checks" 447) (.ref 202),
 cb 207 "is_code" 455 80 2 458,
 fo 208 (st 23) (sv "patchsquare.checks" 447) (.ref 207),
 cb 212 "mended_row" 463 83 3 466,
 fo 213 (st 25) (sv "patchsquare.mending" 461) (.ref 212),
 ca 219 "locator_of" 469 93 2 474,
 fo 220 (st 26) (sv "patchsquare.mending" 461) (.ref 219),
 cb 224 "suspect_places" 477 95 3 480,
 fo 225 (st 27) (sv "patchsquare.mending" 461) (.ref 224),
 ca 231 "shortest_rule" 483 101 1 494,
 fo 232 (st 28) (sv "patchsquare.mending" 461) (.ref 231),
 ca 238 "gap_of_rule" 497 118 3 506,
 fo 239 (st 29) (sv "patchsquare.mending" 461) (.ref 238),
 cb 243 "scaled_row" 509 123 2 512,
 fo 244 (st 30) (sv "patchsquare.mending" 461) (.ref 243),
 ca 250 "added_rows" 515 125 2 523,
 fo 251 (st 31) (sv "patchsquare.mending" 461) (.ref 250),
 cb 255 "changed_row" 526 130 3 529,
 fo 256 (st 32) (sv "patchsquare.mending" 461) (.ref 255),
 ca 262 "distances_product" 532 138 2 539,
 fo 263 (st 33) (sv "patchsquare.mending" 461) (.ref 262),
 ca 269 "_law_whole" 544 145 1 548,
 fo 270 (st 35) lm (.ref 269),
 ca 276 "_law_times" 551 147 2 558,
 fo 277 (st 36) lm (.ref 276),
 ca 283 "_law_cell" 561 156 2 566,
 fo 284 (st 37) lm (.ref 283),
 ca 290 "_law_mixed" 569 160 2 575,
 fo 291 (st 38) lm (.ref 290),
 cb 295 "_law_row" 578 163 2 581,
 fo 296 (st 39) lm (.ref 295),
 ca 302 "_law_worth" 584 168 2 591,
 fo 303 (st 40) lm (.ref 302),
 ca 309 "_law_is_code" 594 173 2 601,
 fo 310 (st 41) lm (.ref 309),
 cb 314 "_law_made" 604 180 2 607,
 fo 315 (st 42) lm (.ref 314),
 ca 321 "_law_places" 610 187 4 621,
 fo 322 (st 43) lm (.ref 321),
 ca 328 "_law_spoilt" 624 194 4 634,
 fo 329 (st 44) lm (.ref 328),
 ca 335 "_law_grains" 637 202 2 643,
 fo 336 (st 45) lm (.ref 335),
 ca 342 "_law_refused" 646 209 3 655,
 fo 343 (st 46) lm (.ref 342),
 ca 349 "_law_asked" 658 219 3 665,
 fo 350 (st 47) lm (.ref 349),
 cb 354 "_law_near" 668 226 4 671,
 fo 355 (st 48) lm (.ref 354),
 cb 359 "law" 674 233 1 677,
 fo 360 (st 49) lm (.ref 359)]
noncomputable def as:List Addr:=[2,3,23,24,37,49,61,73,85,97,116,131,132,134,135,154,162,163,169,170,176,177,183,184,190,191,197,198,202,203,207,208,212,213,219,220,224,225,231,232,238,239,243,244,250,251,255,256,262,263,269,270,276,277,283,284,290,291,295,296,302,303,309,310,314,315,321,322,328,329,335,336,342,343,349,350,354,355,359,360]
noncomputable def Q:Program:={PySem.Challenge.pw_patchsquare_k18_just_beyond with main:={PySem.Challenge.pw_patchsquare_k18_just_beyond.main with body:=[st 1,st 2,st 3,st 4,st 5,st 6,st 7,st 8,st 9,st 10,st 12,st 13,st 14,st 15,st 16,st 17,st 19,st 20,st 22,st 23,st 25,st 26,st 27,st 28,st 29,st 30,st 31,st 32,st 33,st 35,st 36,st 37,st 38,st 39,st 40,st 41,st 42,st 43,st 44,st 45,st 46,st 47,st 48,st 49]}}
noncomputable def H:Hook:=kHook K as (fun _=>rfl)
open PyProof.Rows
theorem leD {α β γ δ:Type}{o:Option α}{f:α->β×γ}{g:α->δ}{a:β×γ}{b:δ}(h:o.map (fun s=>(f s).1)=some a.1)(h':o.map (fun s=>(f s).2)=some a.2)(k:o.map g=some b):o.map (fun s=>(f s,g s))=some (a,b):=by
 cases o with
 |none=>cases h
 |some s=>exact congrArg some (Prod.ext (Prod.ext (Option.some.inj h) (Option.some.inj h')) (Option.some.inj k))
abbrev oeQ (w:World):=openEnds treeTable PySem.Challenge.pw_patchsquare_k18_just_beyond w 6612
noncomputable abbrev seQ (s:Shared):=openSeen Q [] (importedModules PySem.Challenge.pw_patchsquare_k18_just_beyond.main.body) (fun s=>xlAt K18.Q [] s&&recOk (RowW.records PySem.Challenge.rw_patchsquare_k18_just_beyond.row.toRowW) s) true s
theorem leA (w:World):(oeQ w).map (fun s=>(seQ s).1)=some (openGood Q []).1:=by kernel_rfl
theorem leB (w:World):(oeQ w).map (fun s=>(seQ s).2)=some (openGood Q []).2:=by kernel_rfl
theorem leC (w:World):(oeQ w).map (Hook.obs H)=some (Hook.val H w):=by kernel_rfl
theorem left:LeftO PySem.Challenge.pw_patchsquare_k18_just_beyond Q [] (fun s=>xlAt K18.Q [] s&&recOk (RowW.records PySem.Challenge.rw_patchsquare_k18_just_beyond.row.toRowW) s) (Hook.obs H) (Hook.val H) 6612:=fun w=>leD (leA w) (leB w) (leC w)
end K18
end
section
namespace L2
open PySem PySem.Spec PyProof.Rows
abbrev Key:=Sum Int Str
noncomputable def D5:Key->Value->Bool
 |.inl k,v=>Value.isInt k v
 |.inr x,v=>Value.isStrOf x v
noncomputable def keyH (w:World):Key->Int
 |.inl k=>hashInt k
 |.inr x=>hashStr w x
theorem bZ:∀{k:Key}{v:Value},D5 k v=true->(∃ i t,k=Sum.inl i/\v=Value.int i t)\/(∃ x t,k=Sum.inr x/\v=Value.str x t)
 | .inl i,v,h=>by
  obtain⟨t,e⟩:=Value.isInt_shape (k:=i) (v:=v) h;exact .inl ⟨i,t,rfl,e⟩
 | .inr x,v,h=>by
  obtain⟨t,e⟩:=Value.isStrOf_shape (x:=x) (v:=v) h;exact .inr ⟨x,t,rfl,e⟩
theorem GN (a b:Int):decide ((Sum.inl a:Key)=Sum.inl b)=(a==b):=by
 by_cases e:a=b
 ·subst e;simp
 ·have h:¬ (Sum.inl a:Key)=Sum.inl b:=fun q=>e (Sum.inl.inj q)
  rw[cj h];exact (fh.mpr e).symm
theorem Fb (a b:Str):decide ((Sum.inr a:Key)=Sum.inr b)=decide (a=b):=by
 by_cases e:a=b
 ·subst e;simp
 ·have h:¬ (Sum.inr a:Key)=Sum.inr b:=fun q=>e (Sum.inr.inj q)
  rw[cj h,cj e]
theorem E4 (a:Int)(b:Str):decide ((Sum.inl a:Key)=Sum.inr b)=false:=cj (fun q=>nomatch q)
theorem GF (a:Str)(b:Int):decide ((Sum.inr a:Key)=Sum.inl b)=false:=cj (fun q=>nomatch q)
noncomputable def sH (prog:Program)(w:World):PySem.KeyKind prog w Key where
 is:=D5
 hash:=keyH w
 inj:=fun v a b ha hb=>by
  rcases bZ ha with ⟨i,t,rfl,rfl⟩ | ⟨x,t,rfl,rfl⟩
  ·rcases bZ hb with ⟨j,u,rfl,e⟩ | ⟨y,u,rfl,e⟩
   ·injection e with e1 _;rw[e1]
   ·exact nomatch e
  ·rcases bZ hb with ⟨j,u,rfl,e⟩ | ⟨y,u,rfl,e⟩
   ·exact nomatch e
   ·injection e with e1 _;rw[e1]
 byValue:=fun k v h=>by
  rcases bZ h with ⟨i,t,rfl,rfl⟩ | ⟨x,t,rfl,rfl⟩<;>rfl
 pyHash:=fun hv h=>by
  rcases bZ hv with ⟨i,t,rfl,rfl⟩ | ⟨x,t,rfl,rfl⟩
  ·exact wpAny_pyHash_int h
  ·exact wpAny_pyHash_str h
 eqBool:=fun hu hv h=>by
  rcases bZ hu with ⟨i,t,rfl,rfl⟩ | ⟨x,t,rfl,rfl⟩
  ·rcases bZ hv with ⟨j,u,rfl,rfl⟩ | ⟨y,u,rfl,rfl⟩
   ·rw[GN] at h;exact wpAny_eqBool_int h
   ·rw[E4] at h;exact SeqAt.EqAt.int_str i t y u _ _ _ _ h
  ·rcases bZ hv with ⟨j,u,rfl,rfl⟩ | ⟨y,u,rfl,rfl⟩
   ·rw[GF] at h;exact SeqAt.EqAt.str_int x t j u _ _ _ _ h
   ·rw[Fb] at h;exact wpAny_eqBool_str h
 «strs»:=fun k x t v h=>by
  rcases bZ h with ⟨i,u,rfl,e⟩ | ⟨y,u,rfl,e⟩
  ·exact nomatch e
  ·injection e with e1 _
   subst e1;cases v<;>rfl
end L2
namespace L2
open PySem PySem.Spec PyProof.Rows
inductive V where
 | non | bl (b:Bool) | int (i:Int) | str (x:Str) | byt (b:Array UInt8) | flt (b:UInt64) | ref (a:Addr) | ty (n:String)
 deriving DecidableEq
def RelV:V->Value->Prop
 |.non,u=>u=Value.none
 |.bl b,u=>u=Value.bool b
 |.int i,u=>∃ t,u=Value.int i t
 |.str x,u=>∃ t,u=Value.str x t
 |.byt b,u=>∃ t,u=Value.bytes b t
 |.flt b,u=>∃ t,u=Value.float b t
 |.ref a,u=>u=Value.ref a
 |.ty n,u=>u=Value.type n
abbrev aR:List V->List Value->Prop:=Paired RelV
theorem aR.length {xs:List V}{us:List Value}(r:aR xs us):xs.length=us.length:=Paired.length r
theorem aR.get:∀{xs:List V}{us:List Value}{i:Nat}{x:V},aR xs us->xs[i]? = some x->∃ u,us[i]? = some u/\RelV x u
 |_,_,_,_,.nil,e=>by simp at e
 |_,_,0,_,.cons r _,e=>by simp at e;subst e;exact⟨_,rfl,r⟩
 | _,_,i+1,x,.cons _ t,e=>by
  obtain⟨u,h1,h2⟩:=aR.get (i:=i) (x:=x) t (by simpa using e);exact⟨u,by simpa using h1,h2⟩
theorem aR.set {x:V}{u:Value}(r:RelV x u):∀{xs:List V}{us:List Value}(i:Nat),aR xs us->aR (xs.set i x) (us.set i u)
 |_,_,_,.nil=>.nil
 |_,_,0,.cons _ t=>.cons r t
 |_,_,i+1,.cons q t=>.cons q (aR.set r i t)
theorem aR.append:∀{xs ys:List V}{us ws:List Value},aR xs us->aR ys ws->aR (xs++ys) (us++ws)
 |_,_,_,_,.nil,s=>s
 |_,_,_,_,.cons r t,s=>.cons r (aR.append t s)
theorem aR.take:∀{xs:List V}{us:List Value}(n:Nat),aR xs us->aR (xs.take n) (us.take n)
 |_,_,0,_=>.nil
 |_,_,_+1,.nil=>.nil
 |_,_,n+1,.cons r t=>.cons r (aR.take n t)
theorem aR.drop:∀{xs:List V}{us:List Value}(n:Nat),aR xs us->aR (xs.drop n) (us.drop n)
 |_,_,0,r=>r
 |_,_,_+1,.nil=>.nil
 |_,_,n+1,.cons _ t=>aR.drop n t
def Hw:Option V->Option Value->Prop
 |some v,some u=>RelV v u
 |none,none=>True
 |_,_=>False
def KV {κ:Type}:List (κ×V)->List (κ×Value)->Prop:=Paired fun (p:κ×V) (q:κ×Value)=>p.1=q.1/\RelV p.2 q.2
noncomputable def kV:Key->V
 |.inl i=>.int i
 |.inr x=>.str x
inductive HO where
 | lst (xs:List V)
 | tup (xs:List V)
 | dK (kvs:List (Key×V)) | dT (kvs:List (List Key×V))
 | set (S:Int->Bool) (n:Nat)
 | ins (C dx:Addr) (fs:List (Str×V))
 | own (x:Addr)
 | xd (fs:List (Str×V))
 | met (f x:Addr)
 | rng (lo hi:Int)
 | frz (o:Obj) (u:HO)
 | tbl (ps:Array Value)
 | ext (φ:Heap->Prop)
abbrev Hp:=Addr->Option HO
noncomputable def upd (H:Hp)(a:Addr)(o:HO):Hp:=fun b=>if b=a then some o else H b
theorem bG {H:Hp}{a:Addr}{o:HO}:upd H a o a=some o:=by unfold upd;rw[if_pos rfl]
theorem aP {H:Hp}{a b:Addr}{o:HO}(h:b≠a):upd H a o b=H b:=by unfold upd;rw[if_neg h]
theorem cC {H:Hp}{a b:Addr}{o:HO}(h:H a=some o)(h':H b=none):a≠b:=by
 intro e;subst e;rw[h] at h';cases h'
section
variable (P:Program)(w:World)
def eJ (H:Hp)(h:Heap)(a:Addr):HO->Prop
 |.lst xs=>xs.length<=sizeLine/\∃(its:List Value) (n:Nat),aR xs its/\h.get? a=some {cls:=.type "list",data:=.seq its.toArray n}
 |.tup xs=>xs.length<=sizeLine/\∃ its:List Value,aR xs its/\IsTup h a its.toArray
 |.dK kvs=>kvs.length<=sizeLine/\(a==sysModules)=false/\∃ vs,KV kvs vs/\h.DictOf (sH P w) a vs
 | .dT kvs=>kvs.length<=sizeLine/\(a==sysModules)=false/\∃ xs:List (List Key×Addr×Value),
   Paired (fun (p:List Key×V) (q:List Key×Addr×Value)=>p.1=q.1/\H q.2.1=some (.tup (p.1.map kV))/\RelV p.2 q.2.2) kvs xs /\
   ∃ o es ep,h.get? a=some o/\o.ExactDict/\o.data = .dict es ep/\es.toList=xs.map (entryOfKey (tupleKind (sH P w)))/\(xs.map (·.1)).Nodup
 |.set S n=>h.SetOf (intKind P w) a S n
 | .ins C dx fs=>H dx=some (.own a)/\fs.length<=1000/\dx≠a/\h.get? a=some (PySem.W.instObj C dx) /\
   ∃ mA,h.Ns1 dx mA/\(∀ f,Hw (fs.lookup f) (mA f))/\PySem.Within mA (fs.map (·.1))
 |.own _=>∃ o,h.get? a=some o
 |.xd fs=>∃ mA,h.Ns1 a mA/\∀ f,Hw (fs.lookup f) (mA f)
 |.rng lo hi=>∃ t u v,h.get? a=some {cls:=.type "range",data:=.fields #[.int lo t,.int hi u,.int 1 v]}
 |.frz o u=>h.get? a=some o/\eJ H h a u
 |.tbl ps=>h.get? a=some {cls:=.none,data:=.fields ps}
 |.met f x=>h.get? a=some (PySem.W.methodObj (.ref f) (.ref x))
 |.ext φ=>φ h/\(∃ o,h.get? a=some o)/\∀ h1 h2:Heap,φ h1->(∀ o,h1.get? a=some o->h2.get? a=some o)->φ h2
def lh (H:Hp)(h:Heap):Prop:=∀ a o,H a=some o->eJ P w H h a o
end
section
variable {P:Program}{w:World}{H H':Hp}{h h':Heap}{a:Addr}{o:HO}
theorem eJ.lt (x:eJ P w H h a o):a<h.objs.size:=by
 cases o with
 |lst xs=>obtain⟨_,_,_,_,e⟩:=x;exact Heap.lt_size e
 |tup xs=>obtain⟨_,_,_,p⟩:=x;exact p.lt
 |dK kvs=>obtain⟨_,_,_,_,o,_,_,e,_⟩:=x;exact Heap.lt_size e
 |dT kvs=>obtain⟨_,_,_,_,o,_,_,e,_⟩:=x;exact Heap.lt_size e
 |set S n=>obtain⟨o,_,_,_,e,_⟩:=x;exact Heap.lt_size e
 |ins C dx fs=>obtain⟨_,_,_,e,_⟩:=x;exact Heap.lt_size e
 |own y=>obtain⟨_,e⟩:=x;exact Heap.lt_size e
 |xd fs=>obtain⟨_,⟨_,_,_,e,_⟩,_⟩:=x;exact Heap.lt_size e
 |rng lo hi=>obtain⟨_,_,_,e⟩:=x;exact Heap.lt_size e
 |frz ob u=>obtain⟨e,_⟩:=x;exact Heap.lt_size e
 |tbl ps=>exact Heap.lt_size (show h.get? a=some _ from x)
 |met f y=>exact Heap.lt_size (show h.get? a=some _ from x)
 |ext φ=>obtain⟨_,⟨_,e⟩,_⟩:=x;exact Heap.lt_size e
theorem Paired.mapP {α β:Type}{F G:α->β->Prop}:∀{l₁:List α}{l₂:List β},Paired F l₁ l₂->(∀ a b,F a b->G a b)->Paired G l₁ l₂
 |_,_,.nil,_=>.nil
 |_,_,.cons r t,f=>.cons (f _ _ r) (Paired.mapP t f)
theorem eJ.stay (x:eJ P w H h a o)(k:∀ b u,(b=a\/H b=some (.own a))->h.get? b=some u->h'.get? b=some u)
  (ho:∀ b,H b=some (.own a)->H' b=some (.own a)) (ht:∀ b xs,H b=some (.tup xs)->H' b=some (.tup xs)):eJ P w H' h' a o:=by
 induction o with
 |lst xs=>obtain⟨z,its,n,r,e⟩:=x;exact⟨z,its,n,r,k _ _ (.inl rfl) e⟩
 |tup xs=>obtain⟨z,its,r,ob,e,c⟩:=x;exact⟨z,its,r,ob,k _ _ (.inl rfl) e,c⟩
 |dK kvs=>obtain⟨z,y,vs,r,ob,es,ep,e,c⟩:=x;exact⟨z,y,vs,r,ob,es,ep,k _ _ (.inl rfl) e,c⟩
 |dT kvs =>
  obtain⟨z,y,xs,r,ob,es,ep,e,c⟩:=x;exact⟨z,y,xs,Paired.mapP r fun p q z=>⟨z.1,ht _ _ z.2.1,z.2.2⟩,ob,es,ep,k _ _ (.inl rfl) e,c⟩
 |set S n=>obtain⟨ob,es,ep,t,e,c⟩:=x;exact⟨ob,es,ep,t,k _ _ (.inl rfl) e,c⟩
 |ins C dx fs =>
  obtain⟨d,z,ne,e,mA,⟨od,es,ep,e2,c⟩,r⟩:=x;exact⟨ho _ d,z,ne,k _ _ (.inl rfl) e,mA,⟨od,es,ep,k _ _ (.inr d) e2,c⟩,r⟩
 |own y=>obtain⟨ob,e⟩:=x;exact⟨ob,k _ _ (.inl rfl) e⟩
 |xd fs=>obtain⟨mA,⟨od,es,ep,e,c⟩,r⟩:=x;exact⟨mA,⟨od,es,ep,k _ _ (.inl rfl) e,c⟩,r⟩
 |rng lo hi=>obtain⟨t,u,v,e⟩:=x;exact⟨t,u,v,k _ _ (.inl rfl) e⟩
 |frz ob u ih=>obtain⟨e,q⟩:=x;exact⟨k _ _ (.inl rfl) e,ih q⟩
 |tbl ps =>
  have e:h.get? a=some {cls:=.none,data:=.fields ps}:=x;show h'.get? a=some {cls:=.none,data:=.fields ps};exact k a _ (.inl rfl) e
 |met f y =>
  have e:h.get? a=some (PySem.W.methodObj (.ref f) (.ref y)):=x;show h'.get? a=some (PySem.W.methodObj (.ref f) (.ref y));exact k a _ (.inl rfl) e
 |ext φ=>obtain⟨p,⟨o,e⟩,st⟩:=x;exact⟨st _ _ p fun o q=>k _ _ (.inl rfl) q,⟨o,k _ _ (.inl rfl) e⟩,st⟩
theorem lh.lt (x:lh P w H h)(e:H a=some o):a<h.objs.size:=(x a o e).lt
theorem lh.fresh (x:lh P w H h)(e:h.objs.size<=a):H a=none:=by
 cases q:H a with
 |none=>rfl
 |some u=>exact absurd (av (x.lt q) e) (fq _)
theorem lh.kept (x:lh P w H h)(k:∀ b u,h.get? b=some u->h'.get? b=some u):lh P w H h':=fun a o e =>
 (x a o e).stay (fun b u _ q=>k b u q) (fun _ q=>q) fun _ _ q=>q
theorem lh.laid (x:lh P w H h)(k:∀ b u,h.get? b=some u->h'.get? b=some u)(hp:h.objs.size<=a)(new:eJ P w (upd H a o) h' a o):lh P w (upd H a o) h':=fun b u e=>by
 have hn:=x.fresh hp;by_cases hb:b=a
 ·subst hb;rw[bG] at e;cases e;exact new
 ·rw[aP hb] at e;exact (x b u e).stay (fun c v _ q=>k c v q) (fun c q=>by rw[aP (cC q hn)];exact q) fun c xs q=>by rw[aP (cC q hn)];exact q
end
def Rd (H:Hp)(a:Addr)(u:HO):Prop:=H a=some u\/∃ o,H a=some (.frz o u)
theorem Rd.ok {P:Program}{w:World}{H:Hp}{h:Heap}{a:Addr}{u:HO}(r:Rd H a u)(x:lh P w H h):eJ P w H h a u:=by
 rcases r with r | ⟨o,r⟩
 ·exact x a u r
 ·obtain⟨_,q⟩:=x a _ r;exact q
def Dp:Option HO->Prop
 | some (.lst _)=>True
 | some (.dK _)=>True
 | some (.dT _)=>True
 | some (.set _ _)=>True
 | some (.ins _ _ _)=>True
 | some (.ext _)=>True
 |_=>False
section
variable {P:Program}{w:World}{H:Hp}{h h':Heap}{x e:Addr}{o':HO}
theorem lh.write (ok:lh P w H h)(mu:Dp (H x))(he:e=x\/H e=some (.own x))(k:∀ b u,b≠e->h.get? b=some u->h'.get? b=some u)(heo:∃ u,h'.get? e=some u)
  (new:eJ P w (upd H x o') h' x o'):lh P w (upd H x o') h':=fun b u q=>by
 have nown:∀ c y,H c=some (.own y)->c≠x:=fun c y r z=>by subst z;rw[r] at mu;exact mu
 have ntup:∀ c xs,H c=some (.tup xs)->c≠x:=fun c xs r z=>by subst z;rw[r] at mu;exact mu
 by_cases hb:b=x
 ·subst hb;rw[bG] at q;cases q;exact new
 ·rw[aP hb] at q;by_cases hbe:b=e
  ·have q':H b=some (.own x):=by
    rcases he with z | z
    ·exact absurd (hbe.trans z) hb
    ·rw[hbe];exact z
   rw[q] at q';cases q';obtain⟨v,hv⟩:=heo;exact⟨v,by rw[hbe];exact hv⟩
  ·refine (ok b u q).stay (fun c v hc r=>k c v ?_ r) (fun c r=>by rw[aP (nown c b r)];exact r) fun c xs r=>by rw[aP (ntup c xs r)];exact r
   rcases hc with rfl | hc
   ·exact hbe
   ·rintro rfl;rcases he with z | z
    ·exact nown c b hc z
    ·rw[hc] at z;cases z;exact hb rfl
end
structure Un (fs ex:List Addr)(H H':Hp)(h h':Heap):Prop where
 keep:∀ b o,h.get? b=some o->H b=none->b∉fs->b∉ex->h'.get? b=some o
 slot:∀ b o,h.get? b=some o->H b=none->b∈fs->b∉ex->∃ sl,h'.get? b=some {o with slots:=sl}
 free:∀ b o,h.get? b=some o->H b=none->b∉ex->H' b=none
 there:∀ b o,h.get? b=some o->b∉ex->∃ o',h'.get? b=some o'
 tups:∀ b xs,H b=some (.tup xs)->H' b=some (.tup xs)
 frzs:∀ b o u,H b=some (.frz o u)->H' b=some (.frz o u)
 tbls:∀ b ps,H b=some (.tbl ps)->∃ more,H' b=some (.tbl (ps++more))
section
variable {fs fs' ex ex':List Addr}{H H1 H2:Hp}{h h1 h2 h':Heap}{a x e:Addr}{o:HO}
theorem Un.any (u:Un fs ex H H1 h h1){b:Addr}{ob:Obj}(q:h.get? b=some ob)(n:H b=none)(hx:b∉ex):∃ sl,h1.get? b=some {ob with slots:=sl}:=by
 by_cases hb:b∈fs
 ·exact u.slot b ob q n hb hx
 ·exact⟨ob.slots,u.keep b ob q n hb hx⟩
theorem Un.kept (k:∀ b u,h.get? b=some u->h'.get? b=some u):Un fs ex H H h h' :=
 ⟨fun b ob q _ _ _=>k b ob q,fun b ob q _ _ _=>⟨ob.slots,k b ob q⟩,fun _ _ _ n _=>n,fun b ob q _=>⟨ob,k b ob q⟩,fun _ _ q=>q,fun _ _ _ q=>q,fun _ ps q=>⟨#[],by rw[q];simp⟩⟩
theorem Un.refl:Un fs ex H H h h:=Un.kept fun _ _ q=>q
theorem Un.laid (k:∀ b u,h.get? b=some u->h'.get? b=some u)(hp:h.objs.size<=a)(hn:H a=none):Un fs ex H (upd H a o) h h' where
 keep:=fun b u q _ _ _=>k b u q
 slot:=fun b u q _ _ _=>⟨u.slots,k b u q⟩
 free:=fun b u q n _=>by rw[aP (bu (av (Heap.lt_size q) hp))];exact n
 there:=fun b u q _=>⟨u,k b u q⟩
 tups:=fun b xs q=>by rw[aP (cC q hn)];exact q
 frzs:=fun b u xs q=>by rw[aP (cC q hn)];exact q
 tbls:=fun b ps q=>⟨#[],by rw[aP (cC q hn),q];simp⟩
theorem Un.write (mu:Dp (H x))(he:e=x\/H e=some (.own x))(k:∀ b u,b≠e->h.get? b=some u->h'.get? b=some u)(heo:∃ u,h'.get? e=some u):Un fs ex H (upd H x o) h h':=by
 have hx:∀ b,H b=none->b≠x:=fun b n z=>by subst z;rw[n] at mu;exact mu
 have hb:∀ b,H b=none->b≠e:=fun b n z=>by
  subst z;rcases he with r | r
  ·exact hx b n r
  ·rw[n] at r;cases r
 have hm:∀ b u,H b=some u->¬ Dp (some u)->b≠x:=fun b u q nm z=>by subst z;rw[q] at mu;exact nm mu
 refine⟨fun b u q n _ _=>k b u (hb b n) q,fun b u q n _ _=>⟨u.slots,k b u (hb b n) q⟩,fun b u q n _=>by rw[aP (hx b n)];exact n,fun b u q _=>?_,
  fun b xs q=>by rw[aP (hm b _ q fun z=>z)];exact q,fun b u xs q=>by rw[aP (hm b _ q fun z=>z)];exact q,fun b ps q=>⟨#[],by rw[aP (hm b _ q fun z=>z),q];simp⟩⟩
 by_cases hbe:b=e
 ·subst hbe;exact heo
 ·exact⟨u,k b u hbe q⟩
end
noncomputable def trk (h:Heap)(H:Hp):List Addr:=(List.range h.objs.size).filter fun a=>(H a).isSome
noncomputable def rD (h:Heap)(H:Hp):Heap:=PySem.W.hideAll h (trk h H)
theorem ym (h:Heap)(H:Hp):(rD h H).objs.size=h.objs.size:=PySem.W.hideAll_size _ _
theorem A0 {h:Heap}{H:Hp}{b:Addr}{o:Obj}(e:h.get? b=some o)(n:H b=none):(rD h H).get? b=some o :=
 PySem.W.hideAll_get _ e fun hm=>by
  have q:(H b).isSome=true:=(gn.mp hm).2;rw[n] at q;simp at q
theorem BJ {h:Heap}{H:Hp}{b:Addr}{o:Obj}(e:(rD h H).get? b=some o):h.get? b=some o/\H b=none:=by
 have e':h.get? b=some o:=PySem.W.of_hideAll (trk h H) e;refine⟨e',?_⟩;cases q:H b with
 |none=>rfl
 |some x =>
  have hm:b∈trk h H:=List.mem_filter.mpr ⟨List.mem_range.mpr (Heap.lt_size e'),by simp[q]⟩;have z:(rD h H).get? b=none:=PySem.W.hideAll_none (trk h H) hm;rw[z] at e;cases e
noncomputable def Cq (g h:Heap)(L:Addr):List (Addr×Obj):=(List.range h.objs.size).filterMap fun a=>if a=L\/(g.get? a).isSome=true then none else (h.get? a).map fun o=>(a,o)
noncomputable def rest (g h:Heap)(L d:Addr):List (Addr×Obj):=(Cq g h L).filter fun p=>decide (p.1≠d)
end L2
namespace L2
open PySem PySem.Spec PyProof.Rows
structure Mod (K:PySem.W.Frag)(mg:Str->Option Value)(base:Heap):Prop where
 kin:K.In base
 glob:base.Ns mainGlobals mg
 blt:∃ mb,base.Ns builtinsNs mb/\∀ x:Str,x≠"__name__"->mb x=bootBuiltins x
 nolimit:base.NoLimit
structure Cx where
 prog:Program
 w:World
 K:PySem.W.Frag
 mg:Str->Option Value
 base:Heap
 A:Around
 N:List Str
 s₀:Shared
 H₀:Hp
 env:Env
 outer:List Env
 stack:List Env
 ex:List Addr
 fn:Str->Bool
 calm:Bool
 pn:List (Addr×Obj)
 xe:Value->Shared->Prop
noncomputable def gT (l:List Env):List Addr:=l.filterMap (·.frame)
noncomputable abbrev Cx.fs (X:Cx):List Addr:=gT X.outer
def D2 (sc:Scope)(x:Str):Prop:=sc.names.lookup x=some .local\/sc.names.lookup x=some .cell\/sc.names.lookup x=some .free
def Loc (sc:Scope)(x:Str):Prop:=sc.names.lookup x=some .local\/sc.names.lookup x=some .cell
def Look (env:Env)(h:Heap)(m:Str->Option Value)(x:Str)(u:Value):Prop :=
 (env.kindOf x=some .local/\m x=some u)\/((env.kindOf x=some .cell\/env.kindOf x=some .free)/\∃ c,env.cells.lookup x=some c/\h.IsCell c (some u))
structure Cx.Ok (X:Cx):Prop where
 mod:Mod X.K X.mg X.base
 kind:X.env.scope.kind = .function
 glob:X.env.globals=mainGlobals
 blt:X.env.builtins=builtinsNs
 above:X.s₀.heap.objs.size<=X.env.locals
 inj:∀ x y c,X.env.cells.lookup x=some c->X.env.cells.lookup y=some c->x=y
 has:∀ x,(X.env.kindOf x=some .cell\/X.env.kindOf x=some .free)->∃ c,X.env.cells.lookup x=some c
 cab:∀ x c,X.fn x=true->X.env.cells.lookup x=some c->X.s₀.heap.objs.size<=c
 hd:X.calm=true->X.A.handled=none
 frames:X.A.frames=some X.stack
 stk:X.stack=X.outer\/(X.stack=X.env::X.outer/\X.env.frame=some X.env.locals)
 exf:∀ b∈X.ex,b≠X.env.locals/\∀ x c,X.env.cells.lookup x=some c->c≠b
 bs:∀ b o,X.base.get? b=some o->X.s₀.heap.get? b=some o/\X.H₀ b=none
 bsz:X.base.objs.size<=X.s₀.heap.objs.size
 noex:∀ b o,X.base.get? b=some o->b∉X.ex
 exfs:∀ b∈X.ex,b∉X.fs
 funs:X.s₀.heap.FunFrames X.base X.outer
 frf:∀ b∈X.fs,X.H₀ b=none
structure Inv (X:Cx)(pins:List (Addr×Obj))(σ:List (Option V))(H:Hp)(s:Shared):Prop where
 ok:X.Ok
 os:s.os=X.s₀.os
 bare:AllBare s.gens
 base:Un X.fs X.ex X.H₀ H X.s₀.heap s.heap
 loc:∃ m,s.heap.Ns X.env.locals m/\∀(i:Nat) (x:Str) (v:V),X.N[i]? = some x->σ[i]? = some (some v)->D2 X.env.scope x->∃ u,RelV v u/\Look X.env s.heap m x u
 cell:∀ x c,X.env.cells.lookup x=some c->∃ v,s.heap.IsCell c v
 free:H X.env.locals=none
 freeC:∀ x c,X.env.cells.lookup x=some c->H c=none
 pin:∀ p∈X.pn++pins,s.heap.get? p.1=some p.2/\H p.1=none/\p.1≠X.env.locals/\p.1∉X.fs/\∀ v,p.2.data≠.cell v
 hok:lh X.prog X.w H s.heap
 len:σ.length=X.N.length
section
variable {X:Cx}{pins:List (Addr×Obj)}{σ:List (Option V)}{H H':Hp}{s:Shared}{h':Heap}
theorem Cx.Ok.nofr (ok:X.Ok){b:Addr}{o:Obj}(e:X.base.get? b=some o):b∉X.fs:=fun hb=>by
 have:=(ok.funs.mem hb).1;rw[e] at this;cases this
theorem Inv.bs (I:Inv X pins σ H s):∀ b o,X.base.get? b=some o->s.heap.get? b=some o/\H b=none:=fun b o e =>
 ⟨I.base.keep b o (I.ok.bs b o e).1 (I.ok.bs b o e).2 (I.ok.nofr e) (I.ok.noex b o e),I.base.free b o (I.ok.bs b o e).1 (I.ok.bs b o e).2 (I.ok.noex b o e)⟩
theorem Inv.bk (I:Inv X pins σ H s):∀ b o,X.base.get? b=some o->s.heap.get? b=some o:=fun b o e=>(I.bs b o e).1
theorem Inv.mod (I:Inv X pins σ H s):Mod X.K X.mg X.base:=I.ok.mod
theorem Inv.kIn (I:Inv X pins σ H s):X.K.In s.heap:=I.ok.mod.kin.keeps I.bk
theorem Inv.lt (I:Inv X pins σ H s):X.env.locals<s.heap.objs.size:=let ⟨_,hn,_⟩:=I.loc;hn.lt
theorem Inv.sz (I:Inv X pins σ H s):X.s₀.heap.objs.size<=s.heap.objs.size:=br I.ok.above (ji I.lt)
theorem Inv.nofs (I:Inv X pins σ H s){a:Addr}(h:s.heap.objs.size<=a):a∉X.fs:=fun hb=>by
 obtain⟨_,o,ho,_⟩:=I.ok.funs.mem hb;exact absurd (av (Heap.lt_size ho) (br I.sz h)) (fq _)
theorem Inv.cne (I:Inv X pins σ H s):∀ x c,X.env.cells.lookup x=some c->c≠X.env.locals:=fun x c e z=>by
 obtain⟨v,o,ho,hd⟩:=I.cell x c e;obtain⟨m,⟨o',es,ep,ho',hd',_⟩,_⟩:=I.loc;rw[z,ho'] at ho;cases ho;rw[hd'] at hd;cases hd
theorem Inv.funs (I:Inv X pins σ H s):s.heap.FunFrames X.base X.outer:=by
 have all:∀(l:List Env),(∀ b∈gT l,b∈X.fs)->X.s₀.heap.FunFrames X.base l->s.heap.FunFrames X.base l:=by
  intro l
  induction l with
  |nil=>intro _ _;trivial
  |cons env r ih =>
   intro hs hl;obtain⟨hk,⟨L,o,hf,hn,ho,hd⟩,hr⟩:=hl;have hL:L∈X.fs:=hs L (by unfold gT;rw[iz,hf];exact ae);obtain⟨sl,e⟩:=I.base.slot L o ho (I.ok.frf L hL) hL fun z=>I.ok.exfs L z hL
   exact⟨hk,⟨L,_,hf,hn,e,hd⟩,ih (fun b hb=>hs b (by unfold gT;rw[iz,hf];exact aa _ hb)) hr⟩
 exact all X.outer (fun _ hb=>hb) I.ok.funs
theorem Inv.stack (I:Inv X pins σ H s):s.heap.FunFrames X.base X.stack:=by
 rcases I.ok.stk with e | ⟨e,hf⟩
 ·rw[e];exact I.funs
 ·rw[e];obtain⟨m,hn,_⟩:=I.loc;refine .cons (by rw[I.ok.kind];decide) hf hn ?_ I.funs;exact Heap.get?_none_of_le (br I.ok.bsz I.ok.above)
theorem Inv.stkSub (I:Inv X pins σ H s):∀ b∈gT X.stack,b∈X.env.locals::X.fs:=fun b hb=>by
 rcases I.ok.stk with e | ⟨e,hf⟩
 ·rw[e] at hb;exact aa _ hb
 ·rw[e] at hb;unfold gT at hb;rw[iz,hf] at hb;exact hb
theorem Inv.stkFree (I:Inv X pins σ H s):∀ b∈gT X.stack,H b=none:=fun b hb=>by
 rcases dw.mp (I.stkSub b hb) with e | hb
 ·rw[e];exact I.free
 ·obtain⟨_,o,ho,_⟩:=I.ok.funs.mem hb;exact I.base.free b o ho (I.ok.frf b hb) fun z=>I.ok.exfs b z hb
theorem Inv.step {g':Array GenState}{t':Nat}{d':Drawn}{ch:List Addr}(I:Inv X pins σ H s)
  (hch:∀ b∈ch,(b∈X.ex\/X.s₀.heap.objs.size<=b)/\b≠X.env.locals/\(∀ x c,X.env.cells.lookup x=some c->c≠b)/\∀ p∈X.pn++pins,p.1≠b)
  (keep:∀ b o,b≠X.env.locals->b∉X.fs->b∉ch->s.heap.get? b=some o->H b=none->h'.get? b=some o)
  (slot:∀ b o,b≠X.env.locals->b∈X.fs->b∉ch->s.heap.get? b=some o->H b=none->∃ sl,h'.get? b=some {o with slots:=sl}) (free:∀ b o,b∉ch->s.heap.get? b=some o->H b=none->H' b=none)
  (there:∀ b o,b∉ch->s.heap.get? b=some o->∃ o',h'.get? b=some o')
  (tups:∀ b xs,H b=some (.tup xs)->H' b=some (.tup xs)) (frzs:∀ b o u,H b=some (.frz o u)->H' b=some (.frz o u)) (tbls:∀ b ps,H b=some (.tbl ps)->∃ more,H' b=some (.tbl (ps++more)))
  (ns:∀ m,s.heap.Ns X.env.locals m->h'.Ns X.env.locals m) (hok:lh X.prog X.w H' h') (hg:AllBare g') :
  Inv X pins σ H' {s with heap:=h',gens:=g',drawn:=d',toks:=t'}:=by
 have neL:∀ b o,X.s₀.heap.get? b=some o->b≠X.env.locals:=fun b o e=>bu (av (Heap.lt_size e) I.ok.above)
 have neC:∀ b o,X.s₀.heap.get? b=some o->b∉X.ex->b∉ch:=fun b o e hx hb=>by
  rcases (hch b hb).1 with z | z
  ·exact hx z
  ·exact absurd (av (Heap.lt_size e) z) (fq _)
 have cellK:∀ x c,X.env.cells.lookup x=some c->∀ v,s.heap.IsCell c v->h'.IsCell c v:=fun x c e v ⟨o,ho,hd⟩=>by
  have nch:c∉ch:=fun z=>(hch c z).2.2.1 x c e rfl
  by_cases hc:c∈X.fs
  ·obtain⟨sl,q⟩:=slot c o (I.cne x c e) hc nch ho (I.freeC x c e);exact⟨_,q,hd⟩
  ·exact⟨o,keep c o (I.cne x c e) hc nch ho (I.freeC x c e),hd⟩
 refine⟨I.ok,I.os,hg,⟨fun b o e n hb hx=>?_,fun b o e n hb hx=>?_,fun b o e n hx=>?_,fun b o e hx=>?_,fun b xs e=>tups b xs (I.base.tups b xs e),fun b o xs e=>frzs b o xs (I.base.frzs b o xs e),fun b ps e=>?_⟩,?_,fun x c e=>?_,?_,fun x c e=>?_,fun p hp=>?_,hok,I.len⟩
 ·exact keep b o (neL b o e) hb (neC b o e hx) (I.base.keep b o e n hb hx) (I.base.free b o e n hx)
 ·obtain⟨sl,e1⟩:=I.base.slot b o e n hb hx;obtain⟨sl',e2⟩:=slot b _ (neL b o e) hb (neC b o e hx) e1 (I.base.free b o e n hx);exact⟨sl',e2⟩
 ·obtain⟨o',e1⟩:=I.base.there b o e hx;exact free b o' (neC b o e hx) e1 (I.base.free b o e n hx)
 ·obtain⟨o',e1⟩:=I.base.there b o e hx;exact there b o' (neC b o e hx) e1
 ·obtain⟨m1,e1⟩:=I.base.tbls b ps e;obtain⟨m2,e2⟩:=tbls b _ e1;exact⟨m1++m2,by rw[e2,Array.append_assoc]⟩
 ·obtain⟨m,hn,hl⟩:=I.loc;refine⟨m,ns m hn,fun i x v e1 e2 e3=>?_⟩;obtain⟨u,r,l⟩:=hl i x v e1 e2 e3;refine⟨u,r,?_⟩;rcases l with l | ⟨k,c,e,z⟩
  ·exact .inl l
  ·exact .inr ⟨k,c,e,cellK x c e _ z⟩
 ·obtain⟨v,z⟩:=I.cell x c e;exact⟨v,cellK x c e v z⟩
 ·obtain⟨m,⟨o,_,_,ho,_⟩,_⟩:=I.loc;exact free _ o (fun z=>(hch _ z).2.1 rfl) ho I.free
 ·obtain⟨v,o,ho,hd⟩:=I.cell x c e;exact free c o (fun z=>(hch c z).2.2.1 x c e rfl) ho (I.freeC x c e)
 ·obtain⟨e,n,ne,nf,d⟩:=I.pin p hp;have nch:p.1∉ch:=fun z=>(hch p.1 z).2.2.2 p hp rfl
  exact⟨keep p.1 p.2 ne nf nch e n,free p.1 p.2 nch e n,ne,nf,d⟩
theorem Inv.un {t':Nat}(I:Inv X pins σ H s)(u:Un X.fs [] H H' s.heap h')(hok:lh X.prog X.w H' h'):Inv X pins σ H' {s with heap:=h',toks:=t'}:=by
 obtain⟨m,⟨o,es,ep,ho,r⟩,_⟩:=id I.loc;obtain⟨sl,hL⟩:=u.any ho I.free (by simp);exact I.step (g':=s.gens) (d':=s.drawn) (ch:=[]) (fun _ z=>nomatch z) (fun b o _ hb _ e n=>u.keep b o e n hb (by simp)) (fun b o _ hb _ e n=>u.slot b o e n hb (by simp)) (fun b o _ e n=>u.free b o e n (by simp)) (fun b o _ e=>u.there b o e (by simp)) u.tups u.frzs u.tbls (fun m' hm=>by
  obtain⟨o',es',ep',ho',r'⟩:=hm;rw[ho] at ho';cases ho';exact⟨_,es',ep',hL,r'⟩) hok I.bare
theorem Inv.call {g':Array GenState}{t':Nat}{d':Drawn}{ch:List Addr}(I:Inv X pins σ H s)(u:Un (gT X.stack) ch H H' s.heap h')(hok:lh X.prog X.w H' h')(hg:AllBare g')
  (hch:∀ b∈ch,(b∈X.ex\/X.s₀.heap.objs.size<=b)/\b≠X.env.locals/\(∀ x c,X.env.cells.lookup x=some c->c≠b)/\∀ p∈X.pn++pins,p.1≠b) :
  Inv X pins σ H' {s with heap:=h',gens:=g',drawn:=d',toks:=t'}:=by
 obtain⟨m,⟨o,es,ep,ho,r⟩,_⟩:=id I.loc;obtain⟨sl,hL⟩:=u.any ho I.free fun z=>(hch _ z).2.1 rfl
 exact I.step (ch:=ch) hch (fun b o hL hb hc e n=>u.keep b o e n (fun z=>(dw.mp (I.stkSub b z)).elim hL hb) hc) (fun b o _ _ hc e n=>u.any e n hc) (fun b o hc e n=>u.free b o e n hc) (fun b o hc e=>u.there b o e hc) u.tups u.frzs u.tbls (fun m' hm=>by
  obtain⟨o',es',ep',ho',r'⟩:=hm;rw[ho] at ho';cases ho';exact⟨_,es',ep',hL,r'⟩) hok hg
theorem Inv.turned {t':Nat}{it:Addr}(I:Inv X pins σ H s)(k:∀ b o,b≠it->s.heap.get? b=some o->h'.get? b=some o)(hn:H it=none)(hL:it≠X.env.locals)
  (h1:it∈X.ex\/X.s₀.heap.objs.size<=it) (h2:∀ x c,X.env.cells.lookup x=some c->c≠it) (h3:∀ p∈X.pn++pins,p.1≠it):Inv X pins σ H {s with heap:=h',toks:=t'}:=by
 have nit:∀ b u,H b=some u->b≠it:=fun b u e z=>by rw[z,hn] at e;cases e
 refine I.step (g':=s.gens) (d':=s.drawn) (ch:=[it]) (fun b hb=>?_) (fun b o _ _ hc e _=>k b o (fun z=>hc (by simp[z])) e) (fun b o _ _ hc e _=>⟨o.slots,k b o (fun z=>hc (by simp[z])) e⟩) (fun _ _ _ _ n=>n)
  (fun b o hc e=>⟨o,k b o (fun z=>hc (by simp[z])) e⟩) (fun _ _ e=>e) (fun _ _ _ e=>e) (fun b ps e=>⟨#[],by rw[e];simp⟩) (fun m hm=>?_) (fun b u e=>?_) I.bare
 ·have e:b=it:=by simpa using hb
  subst e;exact⟨h1,hL,h2,h3⟩
 ·obtain⟨o,es,ep,ho,r⟩:=hm;exact⟨o,es,ep,k _ o (cm hL) ho,r⟩
 ·refine (I.hok b u e).stay (fun c v hc q=>k c v ?_ q) (fun _ q=>q) fun _ _ q=>q
  rcases hc with z | z
  ·rw[z];exact nit b u e
  ·exact nit c _ z
theorem Inv.tok (I:Inv X pins σ H s)(t:Nat):Inv X pins σ H {s with toks:=t}:=I.un (h':=s.heap) (t':=t) Un.refl I.hok
theorem Inv.kept {t':Nat}(I:Inv X pins σ H s)(k:∀ b u,s.heap.get? b=some u->h'.get? b=some u):Inv X pins σ H {s with heap:=h',toks:=t'}:=I.un (Un.kept k) (I.hok.kept k)
theorem Inv.laid {a:Addr}{o:HO}{t':Nat}(I:Inv X pins σ H s)(k:∀ b u,s.heap.get? b=some u->h'.get? b=some u)(hp:s.heap.objs.size<=a)(new:eJ X.prog X.w (upd H a o) h' a o) :
  Inv X pins σ (upd H a o) {s with heap:=h',toks:=t'}:=I.un (Un.laid k hp (I.hok.fresh hp)) (I.hok.laid k hp new)
theorem Inv.write {x e:Addr}{o:HO}{t':Nat}(I:Inv X pins σ H s)(mu:Dp (H x))(he:e=x\/H e=some (.own x))(k:∀ b u,b≠e->s.heap.get? b=some u->h'.get? b=some u)(heo:∃ u,h'.get? e=some u)
  (new:eJ X.prog X.w (upd H x o) h' x o):Inv X pins σ (upd H x o) {s with heap:=h',toks:=t'}:=I.un (Un.write mu he k heo) (I.hok.write mu he k heo new)
theorem Inv.weak {σ':List (Option V)}(I:Inv X pins σ H s)(hl:σ'.length=σ.length)(w:∀(i:Nat) v,σ'[i]? = some (some v)->σ[i]? = some (some v)):Inv X pins σ' H s :=
 ⟨I.ok,I.os,I.bare,I.base,let ⟨m,hn,hl'⟩:=I.loc;⟨m,hn,fun i x v e1 e2 e3=>hl' i x v e1 (w i v e2) e3⟩,I.cell,I.free,I.freeC,I.pin,I.hok,hl.trans I.len⟩
theorem Inv.pins_of {pins':List (Addr×Obj)}(I:Inv X pins σ H s)(h:∀ p∈pins',s.heap.get? p.1=some p.2/\H p.1=none/\p.1≠X.env.locals/\p.1∉X.fs/\∀ v,p.2.data≠.cell v):Inv X pins' σ H s :=
 ⟨I.ok,I.os,I.bare,I.base,I.loc,I.cell,I.free,I.freeC,fun p hp=>(List.mem_append.mp hp).elim (fun z=>I.pin p (aw _ z)) (h p),I.hok,I.len⟩
theorem oJ {N:List Str}(hN:N.Nodup){i j:Nat}{x:Str}(a:N[i]? = some x)(b:N[j]? = some x):i=j:=by
 obtain⟨h1,e1⟩:=List.getElem?_eq_some_iff.mp a;obtain⟨h2,e2⟩:=List.getElem?_eq_some_iff.mp b;exact (List.getElem_inj hN).mp (e1.trans e2.symm)
theorem xV {M:Model}{A:Around}{E:Value->Shared->Prop}{i:Nat}{x:Str}{v:V}{u:Value}{Q:Unit->Shared->Prop}(I:Inv X pins σ H s)(hN:X.N.Nodup)(hi:X.N[i]? = some x)(hx:Loc X.env.scope x)(r:RelV v u)
  (h:∀ s',Inv X pins (σ.set i (some v)) H s'->(∃ a,Heap.SameBut a s.heap s'.heap/\(a=X.env.locals\/X.env.cells.lookup x=some a))->Q () s') (hf:X.fn x=true\/X.env.scope.names.lookup x=some .local:=by first | exact .inl rfl | exact .inr rfl | assumption):wpAny M A (storeName X.env x u) Q E s:=by
 obtain⟨m,hn,hl⟩:=id I.loc;have hcls:(X.env.scope.kind == .class || (X.env.scope.kind == .module&&X.env.locals != X.env.globals))=false:=by rw[I.ok.kind];rfl
 have hiσ:i<σ.length:=by rw[I.len];exact (List.getElem?_eq_some_iff.mp hi).1
 have cne:=I.cne;have tracked:∀{a:Addr}{h':Heap},(∃ o,s.heap.get? a=some o/\H a=none)->Heap.SameBut a s.heap h'->lh X.prog X.w H h':=fun {a h'} ha hs b ob e=>by
  obtain⟨_,_,hfree⟩:=ha;refine (I.hok b ob e).stay (fun c w' hc q=>(hs.2 c ?_).trans q) (fun _ q=>q) fun _ _ q=>q
  rintro rfl;rcases hc with rfl | hc
  ·rw[hfree] at e;cases e
  ·rw[hfree] at hc;cases hc
 rcases hx with hk | hk
 ·refine wpAny_storeName_local hk hn (fun h' hn' hs=>?_) hcls;obtain⟨oL,_,_,hoL,_⟩:=id hn;refine h _ ⟨I.ok,I.os,I.bare,⟨fun b o e n hb hx=>?_,fun b o e n hb hx=>?_,I.base.free,fun b o e hx=>?_,I.base.tups,I.base.frzs,I.base.tbls⟩,⟨_,hn',fun j y v' e1 e2 e3=>?_⟩,fun y c e=>?_,I.free,I.freeC,fun p hp=>?_,tracked ⟨oL,hoL,I.free⟩ hs,by simpa using I.len⟩ ⟨_,hs,.inl rfl⟩
  ·exact (hs.2 b (bu (av (Heap.lt_size e) I.ok.above))).trans (I.base.keep b o e n hb hx)
  ·obtain⟨sl,e1⟩:=I.base.slot b o e n hb hx;exact⟨sl,(hs.2 b (bu (av (Heap.lt_size e) I.ok.above))).trans e1⟩
  ·obtain⟨o',e1⟩:=I.base.there b o e hx;exact⟨o',(hs.2 b (bu (av (Heap.lt_size e) I.ok.above))).trans e1⟩
  ·by_cases hj:j=i
   ·subst hj;rw[hi] at e1;cases e1;rw[List.getElem?_set_self hiσ] at e2;cases e2;exact⟨u,r,.inl ⟨hk,by simp⟩⟩
   ·rw[List.getElem?_set_ne (cm hj)] at e2;obtain⟨u',r',q⟩:=hl j y v' e1 e2 e3;refine⟨u',r',?_⟩;rcases q with ⟨k,e⟩ | ⟨k,c,e,z⟩
    ·refine .inl ⟨k,?_⟩;have:y≠x:=fun e=>hj (oJ hN e1 (e ▸ hi))
     simp[this,e]
    ·exact .inr ⟨k,c,e,z.sameBut hs (cne y c e)⟩
  ·obtain⟨w',z⟩:=I.cell y c e;exact⟨w',z.sameBut hs (cne y c e)⟩
  ·obtain⟨e,n,ne,nf,d⟩:=I.pin p hp;exact⟨(hs.2 p.1 ne).trans e,n,ne,nf,d⟩
 ·have hfn:X.fn x=true:=by
   rcases hf with z | z
   ·exact z
   ·rw[z] at hk;cases hk
  obtain⟨c,hc⟩:=I.ok.has x (.inl hk);obtain⟨w',z⟩:=I.cell x c hc;refine wpAny_storeName_cell I.ok.kind hk hc z (fun h' hc' hs=>?_);obtain⟨oc,hoc,hocd⟩:=id z;refine h {s with heap:=h'} ⟨I.ok,I.os,I.bare,⟨fun b o e n hb hx=>?_,fun b o e n hb hx=>?_,I.base.free,fun b o e hx=>?_,I.base.tups,I.base.frzs,I.base.tbls⟩,⟨m,hn.sameBut hs (Ne.symm (cne x c hc)),fun j y v' e1 e2 e3=>?_⟩,fun y c' e=>?_,I.free,I.freeC,fun p hp=>?_,tracked ⟨oc,hoc,I.freeC x c hc⟩ hs,by simpa using I.len⟩ ⟨c,hs,.inr hc⟩
  ·exact (hs.2 b (bu (av (Heap.lt_size e) (I.ok.cab x c hfn hc)))).trans (I.base.keep b o e n hb hx)
  ·obtain⟨sl,e1⟩:=I.base.slot b o e n hb hx;exact⟨sl,(hs.2 b (bu (av (Heap.lt_size e) (I.ok.cab x c hfn hc)))).trans e1⟩
  ·obtain⟨o',e1⟩:=I.base.there b o e hx;exact⟨o',(hs.2 b (bu (av (Heap.lt_size e) (I.ok.cab x c hfn hc)))).trans e1⟩
  ·by_cases hj:j=i
   ·subst hj;rw[hi] at e1;cases e1;rw[List.getElem?_set_self hiσ] at e2;cases e2;exact⟨u,r,.inr ⟨.inl hk,c,hc,hc'⟩⟩
   ·rw[List.getElem?_set_ne (cm hj)] at e2;obtain⟨u',r',q⟩:=hl j y v' e1 e2 e3;refine⟨u',r',?_⟩;rcases q with q | ⟨k,c',e,z'⟩
    ·exact .inl q
    ·refine .inr ⟨k,c',e,z'.sameBut hs ?_⟩;rintro rfl;exact hj (oJ hN e1 (I.ok.inj _ _ _ e hc ▸ hi))
  ·by_cases hcc:c'=c
   ·subst hcc;exact⟨_,hc'⟩
   ·obtain⟨w2,z2⟩:=I.cell y c' e;exact⟨w2,z2.sameBut hs hcc⟩
  ·obtain⟨e,n,ne,nf,d⟩:=I.pin p hp;refine⟨(hs.2 p.1 ?_).trans e,n,ne,nf,d⟩;intro q;rw[q,hoc] at e;have q':oc=p.2:=dh e;exact d w' (by rw[<-q'];exact hocd)
theorem iW {M:Model}{A:Around}{E:Value->Shared->Prop}{i:Nat}{x:Str}{v:V}{u:Value}{Q:Unit->Shared->Prop}(I:Inv X pins σ H s)(hN:X.N.Nodup)(hi:X.N[i]? = some x)(hx:Loc X.env.scope x)(r:RelV v u)
  (h:∀ s',Inv X pins (σ.set i (some v)) H s'->Q () s') (hf:X.fn x=true\/X.env.scope.names.lookup x=some .local:=by first | exact .inl rfl | exact .inr rfl | assumption):wpAny M A (storeName X.env x u) Q E s :=
 xV I hN hi hx r (fun s' I' _=>h s' I') hf
theorem Inv.call' {s':Shared}{ch:List Addr}(I:Inv X pins σ H s)(ho:s'.os=s.os)(u:Un (gT X.stack) ch H H' s.heap s'.heap)(hok:lh X.prog X.w H' s'.heap)(hg:AllBare s'.gens)
  (hch:∀ b∈ch,(b∈X.ex\/X.s₀.heap.objs.size<=b)/\b≠X.env.locals/\(∀ x c,X.env.cells.lookup x=some c->c≠b)/\∀ p∈X.pn++pins,p.1≠b):Inv X pins σ H' s':=by
 obtain⟨h',g',d',t',o'⟩:=s';have e:o'=s.os:=ho;subst e;exact I.call (g':=g') (t':=t') (d':=d') u hok hg hch
end
abbrev XK:=Value->Option Addr->Hp->Prop
abbrev St:=List (Option V)
abbrev VK:=V->Hp->Prop
abbrev TE:=St->Hp->VK->Prop
abbrev TT:=St->Hp->(Bool->Hp->Prop)->Prop
abbrev TA:=St->Hp->(List V->Hp->Prop)->Prop
structure Ends where
 nx:St->Hp->Prop
 rt:VK
 bk:St->Hp->Prop:=fun _ _=>False
 ct:St->Hp->Prop:=fun _ _=>False
abbrev TS:=Ends->St->Hp->Prop
def EP (X:Cx)(pins:List (Addr×Obj))(σ:St)(Q:VK)(u:Value)(s':Shared):Prop:=∃ v H',Inv X pins σ H' s'/\RelV v u/\Q v H'
def TP (X:Cx)(pins:List (Addr×Obj))(σ:St)(Q:Bool->Hp->Prop)(b:Bool)(s':Shared):Prop:=∃ H',Inv X pins σ H' s'/\Q b H'
def AP (X:Cx)(pins:List (Addr×Obj))(σ:St)(Q:List V->Hp->Prop)(us:List Value)(s':Shared):Prop:=∃ vs H',Inv X pins σ H' s'/\aR vs us/\Q vs H'
def SP (X:Cx)(pins:List (Addr×Obj))(D:Ends)(f:Flow)(s':Shared):Prop :=
 match f with
 |.next=>∃ σ' H',Inv X pins σ' H' s'/\D.nx σ' H'
 |.brk=>∃ σ' H',Inv X pins σ' H' s'/\D.bk σ' H'
 |.cont=>∃ σ' H',Inv X pins σ' H' s'/\D.ct σ' H'
 |.ret u=>∃ v σ' H',Inv X pins σ' H' s'/\RelV v u/\D.rt v H'
def PE (X:Cx)(e:Expr)(t:TE):Prop :=
 ∀(pins:List (Addr×Obj)) (s:Shared) (σ:St) (H:Hp) (Q:VK),Inv X pins σ H s->t σ H Q->wpAny (model X.prog X.w) X.A (eval e X.env) (EP X pins σ Q) X.xe s
def PT (X:Cx)(e:Expr)(t:TT):Prop :=
 ∀(pins:List (Addr×Obj)) (s:Shared) (σ:St) (H:Hp) (Q:Bool->Hp->Prop),Inv X pins σ H s->t σ H Q->wpAny (model X.prog X.w) X.A (isTrue e X.env (eval e X.env)) (TP X pins σ Q) X.xe s
def PW (X:Cx)(e:Expr)(t:TT):Prop :=
 ∀(whole:Sem Value) (pins:List (Addr×Obj)) (s:Shared) (σ:St) (H:Hp) (Q:Bool->Hp->Prop),Inv X pins σ H s->t σ H Q->wpAny (model X.prog X.w) X.A (isTrue e X.env whole) (TP X pins σ Q) X.xe s
theorem PW.pt {X:Cx}{e:Expr}{t:TT}(h:PW X e t):PT X e t:=h _
def PA (X:Cx)(es:List Expr)(t:TA):Prop :=
 ∀(pos:Pos) (pins:List (Addr×Obj)) (s:Shared) (σ:St) (H:Hp) (Q:List V->Hp->Prop),Inv X pins σ H s->t σ H Q->wpAny (model X.prog X.w) X.A (spliced (backTo pos (starEach es X.env))) (AP X pins σ Q) X.xe s
def PS (X:Cx)(st:Stmt)(t:TS):Prop :=
 ∀(pins:List (Addr×Obj)) (s:Shared) (σ:St) (H:Hp) (D:Ends),Inv X pins σ H s->t D σ H->wpAny (model X.prog X.w) X.A (exec st X.env) (SP X pins D) X.xe s
def j6 (X:Cx)(st:List Stmt)(t:TS):Prop :=
 ∀(pins:List (Addr×Obj)) (s:Shared) (σ:St) (H:Hp) (D:Ends),Inv X pins σ H s->t D σ H->wpAny (model X.prog X.w) X.A (execs st X.env) (SP X pins D) X.xe s
theorem dB {α:Type}{t:Sem α}{Q Q':α->Shared->Prop}{M:Model}{A:Around}{E:Value->Shared->Prop}{s:Shared}(h:wpAny M A t Q E s)(hQ:∀ a s,Q a s->Q' a s):wpAny M A t Q' E s:=wpAny_mono h hQ fun _ _ x=>x
end L2
namespace L2
open PySem PySem.Spec PyProof.Rows
section
variable {X:Cx}
theorem bin {a b:Expr}{ta tb:TE}(ha:PE X a ta)(hb:PE X b tb){pins:List (Addr×Obj)}{s:Shared}{σ:St}{H:Hp}{R:V->V->Hp->Prop}(I:Inv X pins σ H s)(h:ta σ H fun x H1=>tb σ H1 fun y H2=>R x y H2)
  {α:Type}{Q:α->Shared->Prop}{f:Value->Value->Sem α}
  (hf:∀ v u s2 x y H2,Inv X pins σ H2 s2->RelV x v->RelV y u->R x y H2->wpAny (model X.prog X.w) X.A (f v u) Q X.xe s2) :
  wpAny (model X.prog X.w) X.A (eval a X.env) (fun v s₁=>wpAny (model X.prog X.w) X.A (eval b X.env) (fun u s₂=>wpAny (model X.prog X.w) X.A (f v u) Q X.xe s₂) X.xe s₁) X.xe s:=by
 refine dB (ha pins s σ H _ I h) fun v s1 ⟨x,H1,I1,r1,q1⟩=>?_
 refine dB (hb pins s1 σ H1 _ I1 q1) fun u s2 ⟨y,H2,I2,r2,q2⟩=>?_
 exact hf v u s2 x y H2 I2 r1 r2 q2
def nR (i:Nat):TE:=fun σ H Q=>∃ v,σ[i]? = some (some v)/\Q v H
def tC (v:V):TE:=fun _ H Q=>Q v H
theorem kf {i:Nat}{x:Str}{pos:Pos}(hN:X.N[i]? = some x)(hv:D2 X.env.scope x)(hd:(x==("__debug__" : Str))=false:=by decide) (hcd:(x==("__classdict__" : Str))=false:=by decide):PE X (.Name x pos) (nR i):=by
 intro pins s σ H Q I h;obtain⟨v,e,h⟩:=h;obtain⟨m,hn,hl⟩:=I.loc;obtain⟨u,r,l⟩:=hl i x v hN e hv;have fin:EP X pins σ Q u s:=⟨v,H,I,r,h⟩;rcases l with ⟨hk,hm⟩ | ⟨hk,c,hc,hcell⟩
 ·exact wpAny_Name (wpAny_loadName_local I.ok.kind hk hn hm fin) hd
 ·rcases hk with hk | hk
  ·exact wpAny_Name (wpAny_loadName_cell I.ok.kind hk hc hcell fin) hd
  ·exact wpAny_Name (wpAny_loadName_free I.ok.kind hk hc hcell fin hcd) hd
theorem sg {i j pos}:PE X (.Constant (.int i) j pos) (tC (.int i)):=fun _ _ _ H _ I h=>wpAny_Constant_int ⟨.int i,H,I.tok _,⟨_,rfl⟩,h⟩
theorem A6 {b j pos}:PE X (.Constant (.bool b) j pos) (tC (.bl b)):=fun _ _ _ H _ I h=>Constant_bool ⟨.bl b,H,I,rfl,h⟩
theorem sD {j pos}:PE X (.Constant .none j pos) (tC .non):=fun _ _ _ H _ I h=>Constant_none ⟨.non,H,I,rfl,h⟩
def Gl (X:Cx)(x:Str):Prop:=X.env.kindOf x=some .globalImplicit
theorem hU {E:Value->Shared->Prop}{pins:List (Addr×Obj)}{s:Shared}{σ:St}{H:Hp}{x:Str}{u:Value}{pos:Pos}{Q:Value->Shared->Prop}(I:Inv X pins σ H s)(hg:Gl X x)(hm:X.mg x=some u)(h:Q u s)
  (hd:(x==("__debug__" : Str))=false:=by decide):wpAny (model X.prog X.w) X.A (eval (.Name x pos) X.env) Q E s :=
 Calls.Name_function_global I.ok.kind hg (Calls.loadGlobal_global (by rw[I.ok.glob];exact I.mod.glob.keeps I.bk) hm h) hd
theorem j7 {E:Value->Shared->Prop}{pins:List (Addr×Obj)}{s:Shared}{σ:St}{H:Hp}{x:Str}{u:Value}{pos:Pos}{Q:Value->Shared->Prop}(I:Inv X pins σ H s)(hg:Gl X x)(hm:X.mg x=none)(hv:bootBuiltins x=some u)(h:Q u s)
  (hn:x≠"__name__":=by decide) (hd:(x==("__debug__" : Str))=false:=by decide):wpAny (model X.prog X.w) X.A (eval (.Name x pos) X.env) Q E s:=by
 obtain⟨mb,h1,h2⟩:=I.mod.blt;exact Calls.Name_function_global I.ok.kind hg (Calls.loadGlobal_builtin (by rw[I.ok.glob];exact I.mod.glob.keeps I.bk) hm (by rw[I.ok.blt];exact h1.keeps I.bk) ((h2 x hn).trans hv) h) hd
theorem fK {x:Str}{v:V}{u:Value}{pos:Pos}(hg:Gl X x)(hm:X.mg x=some u)(r:RelV v u)(hd:(x==("__debug__" : Str))=false:=by decide):PE X (.Name x pos) (tC v) :=
 fun _ _ _ H _ I h=>hU I hg hm ⟨v,H,I,r,h⟩ hd
theorem nz {x:Str}{v:V}{u:Value}{pos:Pos}(hg:Gl X x)(hm:X.mg x=none)(hv:bootBuiltins x=some u)(r:RelV v u)(hn:x≠"__name__":=by decide) (hd:(x==("__debug__" : Str))=false:=by decide):PE X (.Name x pos) (tC v) :=
 fun _ _ _ H _ I h=>j7 I hg hm hv ⟨v,H,I,r,h⟩ hn hd
def t2I (ta tb:TE)(k:Int->Int->Hp->Prop):St->Hp->Prop:=fun σ H=>ta σ H fun x H1=>tb σ H1 fun y H2=>∃ i j,x = .int i/\y = .int j/\k i j H2
variable {a b:Expr}{ta tb:TE}{pos:Pos}
def PC (X:Cx)(op:CmpOp)(a b:Expr)(t:TE):Prop :=
 ∀(pins:List (Addr×Obj)) (s:Shared) (σ:St) (H:Hp) (Q:VK),Inv X pins σ H s->t σ H Q ->
  wpAny (model X.prog X.w) X.A (eval a X.env) (fun v s₁=>wpAny (model X.prog X.w) X.A (eval b X.env) (fun u s₂=>wpAny (model X.prog X.w) X.A (compareOp op v u) (EP X pins σ Q) X.xe s₂) X.xe s₁) X.xe s
theorem zK (b:Expr){op:CmpOp}(h:op≠.In)(h2:op≠.NotIn):behindInMarks op b=false:=by
 have e1:(op==CmpOp.In)=false:=by cases op<;>first | rfl | exact absurd rfl h
 have e2:(op==CmpOp.NotIn)=false:=by cases op<;>first | rfl | exact absurd rfl h2
 cases b<;>simp[behindInMarks,e1,e2]
def Ht (p:Int->Int->Bool)(ta tb:TE):TE:=fun σ H Q=>t2I ta tb (fun i j H2=>Q (.bl (p i j)) H2) σ H
abbrev Iv:TE->TE->TE:=Ht fun i j=>decide (i=j)
theorem Fy {op:CmpOp}{p:Int->Int->Bool}(ha:PE X a ta)(hb:PE X b tb)
  (rule:∀(i j:Int) (t u:Tok) (Q:Value->Shared->Prop) (s:Shared),Q (.bool (p i j)) s->wpAny (model X.prog X.w) X.A (compareOp op (.int i t) (.int j u)) Q X.xe s):PC X op a b (Ht p ta tb):=by
 intro pins s σ H Q I h;refine bin ha hb I h fun v u s2 x y H2 I2 rx ry q=>?_
 obtain⟨i,j,rfl,rfl,q⟩:=q;obtain⟨t,rfl⟩:=rx;obtain⟨t',rfl⟩:=ry;exact rule i j t t' _ s2 ⟨.bl _,H2,I2,rfl,q⟩
theorem GO (ha:PE X a ta)(hb:PE X b tb):PC X .Eq a b (Iv ta tb):=Fy ha hb fun _ _ _ _ _ _ h=>eq_int (by rw[Bool.beq_eq_decide_eq];exact h)
def tB (t:TE):TT:=fun σ H Q=>t σ H fun x H1=>∃ c,x = .bl c/\Q c H1
theorem FG {op:CmpOp}{t:TE}(h:PC X op a b t)(h1:behindInMarks op b=false:=by first | exact zK _ (by decide) (by decide) | rfl):PE X (.Compare a [op] [b] pos) t:=fun pins s σ H Q I hw=>wpAny_Compare1 (h pins s σ H Q I hw) h1
theorem ET {e:Expr}{t:TE}(h:PE X e t)(he:∀ whole,isTrue e X.env whole=(do let v <- whole;standAt e.pos;holding [v] (truthy v)):=by intro _;rfl):PT X e (tB t):=by
 intro pins s σ H Q I hw;refine isTrue_plain (dB (h pins s σ H _ I hw) fun v s1 ⟨x,H1,I1,r1,q1⟩=>?_) (he _);obtain⟨d,rfl,q⟩:=q1;cases r1;exact wpAny_truthy_bool ⟨H1,I1,q⟩
variable {tA tB':TT}{rest:List Expr}
def tAnd (t u:TT):TT:=fun σ H Q=>t σ H fun c H1=>if c=true then u σ H1 Q else Q false H1
def tOr (t u:TT):TT:=fun σ H Q=>t σ H fun c H1=>if c=true then Q true H1 else u σ H1 Q
def tNot (t:TT):TT:=fun σ H Q=>t σ H fun c H1=>Q (!c) H1
theorem Dk (ha:PT X a tA):PW X (.BoolOp .And [a] pos) tA:=by
 intro wh pins s σ H Q I h;refine isTrue_and (dB (ha pins s σ H Q I h) fun c s1 e=>?_);cases c with
 |true=>exact isTrue_and_nil e
 |false=>exact e
theorem FU (ha:PT X a tA):PW X (.BoolOp .Or [a] pos) tA:=by
 intro wh pins s σ H Q I h;refine isTrue_or (dB (ha pins s σ H Q I h) fun c s1 e=>?_);cases c with
 |false=>exact isTrue_or_nil e
 |true=>exact e
theorem El (ha:PT X a tA)(hb:PW X (.BoolOp .And (b::rest) pos) tB'):PW X (.BoolOp .And (a::b::rest) pos) (tAnd tA tB'):=by
 intro wh pins s σ H Q I h;refine isTrue_and (dB (ha pins s σ H _ I h) fun c s1 ⟨H1,I1,q1⟩=>?_);cases c with
 |true=>exact hb wh pins s1 σ H1 Q I1 q1
 |false=>exact⟨H1,I1,q1⟩
theorem Hl (ha:PT X a tA)(hb:PW X (.BoolOp .Or (b::rest) pos) tB'):PW X (.BoolOp .Or (a::b::rest) pos) (tOr tA tB'):=by
 intro wh pins s σ H Q I h;refine isTrue_or (dB (ha pins s σ H _ I h) fun c s1 ⟨H1,I1,q1⟩=>?_);cases c with
 |true=>exact⟨H1,I1,q1⟩
 |false=>exact hb wh pins s1 σ H1 Q I1 q1
theorem FA (ha:PT X a tA):PT X (.UnaryOp .Not a pos) (tNot tA):=by
 intro pins s σ H Q I h;exact isTrue_not (ha pins s σ H (fun c H1=>Q (!c) H1) I h)
def xl (ta tb:TE):TE:=fun σ H Q=>ta σ H fun x H1=>∃ c,x = .bl c/\if c=true then tb σ H1 Q else Q (.bl false) H1
def tOrV (ta tb:TE):TE:=fun σ H Q=>ta σ H fun x H1=>∃ c,x = .bl c/\if c=true then Q (.bl true) H1 else tb σ H1 Q
def DZ (ta:TE):TE:=fun σ H Q=>ta σ H fun x H1=>∃ c,x = .bl c/\Q (.bl (!c)) H1
theorem rQ {op}{t:TE}(h:PE X a t):PE X (.BoolOp op [a] pos) t:=fun pins s σ H Q I hw=>BoolOp_one (h pins s σ H Q I hw)
theorem ph (ha:PE X a ta)(hb:PE X (.BoolOp .And (b::rest) pos) tb):PE X (.BoolOp .And (a::b::rest) pos) (xl ta tb):=by
 intro pins s σ H Q I h;refine BoolOp_and (dB (ha pins s σ H _ I h) fun v s1 ⟨x,H1,I1,r1,q1⟩=>?_);obtain⟨c,rfl,q1⟩:=q1;cases r1;refine wpAny_truthy_bool ?_;cases c with
 |true=>exact hb pins s1 σ H1 Q I1 q1
 |false=>exact⟨.bl false,H1,I1,rfl,q1⟩
theorem Il (ha:PE X a ta)(hb:PE X (.BoolOp .Or (b::rest) pos) tb):PE X (.BoolOp .Or (a::b::rest) pos) (tOrV ta tb):=by
 intro pins s σ H Q I h;refine BoolOp_or (dB (ha pins s σ H _ I h) fun v s1 ⟨x,H1,I1,r1,q1⟩=>?_);obtain⟨c,rfl,q1⟩:=q1;cases r1;refine wpAny_truthy_bool ?_;cases c with
 |false=>exact hb pins s1 σ H1 Q I1 q1
 |true=>exact⟨.bl true,H1,I1,rfl,q1⟩
theorem uY (ha:PE X a ta):PE X (.UnaryOp .Not a pos) (DZ ta):=by
 intro pins s σ H Q I h;refine UnaryOp_ (dB (ha pins s σ H _ I h) fun v s1 ⟨x,H1,I1,r1,q1⟩=>?_);obtain⟨c,rfl,q1⟩:=q1;cases r1;exact not_of (wpAny_truthy_bool ⟨.bl (!c),H1,I1,rfl,q1⟩)
def tIf (t:TT)(ta tb:TE):TE:=fun σ H Q=>t σ H fun c H1=>if c=true then ta σ H1 Q else tb σ H1 Q
theorem zR {c:Expr}(hc:PT X c tA)(ha:PE X a ta)(hb:PE X b tb):PE X (.IfExp c a b pos) (tIf tA ta tb):=by
 intro pins s σ H Q I h;refine wpAny_IfExp (dB (hc pins s σ H _ I h) fun d s1 ⟨H1,I1,q1⟩=>?_);cases d with
 |true=>exact ha pins s1 σ H1 Q I1 q1
 |false=>exact hb pins s1 σ H1 Q I1 q1
end
end L2
namespace L2
open PySem PySem.Spec PyProof.Rows
def mo (K:PySem.W.Frag)(H:Hp)(a:Addr)(xs:List V):Prop :=
 Rd H a (.lst xs) \/
  ∃(o:Obj) (its:Array Value) (n:Nat),K.lookup a=some o/\o.cls = .type "list"/\o.dict=none/\o.data = .seq its n/\its.size<=sizeLine/\aR xs its.toList
def sQ (K:PySem.W.Frag)(H:Hp)(a:Addr)(xs:List V):Prop :=
 Rd H a (.tup xs) \/
  ∃(o:Obj) (its:Array Value) (n:Nat),K.lookup a=some o/\o.cls = .type "tuple"/\o.data = .seq its n/\its.size<=sizeLine/\aR xs its.toList
noncomputable def absV:Value->Option V
 |.none=>some .non
 |.bool b=>some (.bl b)
 |.int i _=>some (.int i)
 |.str x _=>some (.str x)
 |.bytes b _=>some (.byt b)
 |.float b _=>some (.flt b)
 |.ref a=>some (.ref a)
 |.type n=>some (.ty n)
 |_=>none
theorem RelV.abs {x:V}{u:Value}(r:RelV x u):absV u=some x:=by
 cases x with
 |non=>cases r;rfl
 |bl _=>cases r;rfl
 |int _=>obtain⟨t,rfl⟩:=r;rfl
 |str _=>obtain⟨t,rfl⟩:=r;rfl
 |byt _=>obtain⟨t,rfl⟩:=r;rfl
 |flt _=>obtain⟨t,rfl⟩:=r;rfl
 |ref _=>cases r;rfl
 |ty _=>cases r;rfl
theorem RelV.inj {x y:V}{u:Value}(r:RelV x u)(q:RelV y u):x=y:=dh (r.abs.symm.trans q.abs)
theorem aR.inj:∀{xs ys:List V}{us:List Value},aR xs us->aR ys us->xs=ys
 |_,_,_,.nil,.nil=>rfl
 |_,_,_,.cons r t,.cons r' t'=>by rw[r.inj r',aR.inj t t']
section
variable {X:Cx}{pins:List (Addr×Obj)}{σ:St}{H:Hp}{s:Shared}{a:Addr}{xs ys:List V}
theorem Inv.list (I:Inv X pins σ H s)(h:mo X.K H a xs):∃ its:List Value,aR xs its/\PlainL s.heap a its.toArray/\xs.length<=sizeLine:=by
 rcases h with h | ⟨o,its,n,hk,hc,hd,hs,hz,r⟩
 ·obtain⟨z,its,n,r,e⟩:=h.ok I.hok;exact⟨its,r,⟨_,n,e,rfl,rfl,rfl⟩,z⟩
 ·refine⟨its.toList,r,⟨o,n,I.kIn a o hk,hc,hd,by simpa using hs⟩,?_⟩;have e:=r.length;simp only[Array.length_toList] at e;omega
theorem Inv.tuple (I:Inv X pins σ H s)(h:sQ X.K H a xs):∃ its:List Value,aR xs its/\IsTup s.heap a its.toArray/\xs.length<=sizeLine:=by
 rcases h with h | ⟨o,its,n,hk,hc,hs,hz,r⟩
 ·obtain⟨z,its,r,p⟩:=h.ok I.hok;exact⟨its,r,p,z⟩
 ·refine⟨its.toList,r,⟨o,I.kIn a o hk,hc,n,by simpa using hs⟩,?_⟩;have e:=r.length;simp only[Array.length_toList] at e;omega
theorem Inv.list_inj (I:Inv X pins σ H s)(h:mo X.K H a xs)(h':mo X.K H a ys):xs=ys:=by
 obtain⟨its,r,⟨o,n,e,_,_,d⟩,_⟩:=I.list h;obtain⟨its',r',⟨o',n',e',_,_,d'⟩,_⟩:=I.list h';rw[e] at e';cases e';rw[d] at d';injection d' with d1 _
 have:its=its':=by simpa using congrArg Array.toList d1
 subst this;exact r.inj r'
theorem Inv.tuple_inj (I:Inv X pins σ H s)(h:sQ X.K H a xs)(h':sQ X.K H a ys):xs=ys:=by
 obtain⟨its,r,⟨o,e,_,n,d⟩,_⟩:=I.tuple h;obtain⟨its',r',⟨o',e',_,n',d'⟩,_⟩:=I.tuple h';rw[e] at e';cases e';rw[d] at d';injection d' with d1 _
 have:its=its':=by simpa using congrArg Array.toList d1
 subst this;exact r.inj r'
end
abbrev Cx.wish (X:Cx)(E:Value->Shared->Prop):Cx:={X with xe:=E}
abbrev Cx.nox (X:Cx):Cx:=X.wish fun _ _=>False
theorem Cx.Ok.wish {X:Cx}(ok:X.Ok)(E:Value->Shared->Prop):(X.wish E).Ok :=
 ⟨ok.mod,ok.kind,ok.glob,ok.blt,ok.above,ok.inj,ok.has,ok.cab,ok.hd,ok.frames,ok.stk,ok.exf,ok.bs,ok.bsz,ok.noex,ok.exfs,ok.funs,ok.frf⟩
theorem Cx.Ok.unwish {X:Cx}{E:Value->Shared->Prop}(ok:(X.wish E).Ok):X.Ok :=
 ⟨ok.mod,ok.kind,ok.glob,ok.blt,ok.above,ok.inj,ok.has,ok.cab,ok.hd,ok.frames,ok.stk,ok.exf,ok.bs,ok.bsz,ok.noex,ok.exfs,ok.funs,ok.frf⟩
section
variable {X:Cx}{pins:List (Addr×Obj)}{σ:St}{H:Hp}{s:Shared}{E:Value->Shared->Prop}
theorem Inv.wish (I:Inv X pins σ H s)(E:Value->Shared->Prop):Inv (X.wish E) pins σ H s:=⟨I.ok.wish E,I.os,I.bare,I.base,I.loc,I.cell,I.free,I.freeC,I.pin,I.hok,I.len⟩
theorem Inv.unwish (I:Inv (X.wish E) pins σ H s):Inv X pins σ H s:=⟨I.ok.unwish,I.os,I.bare,I.base,I.loc,I.cell,I.free,I.freeC,I.pin,I.hok,I.len⟩
theorem SP.unwish {D:Ends}{f:Flow}{s':Shared}(h:SP (X.wish E) pins D f s'):SP X pins D f s':=by
 cases f with
 |next=>obtain⟨σ',H',I,q⟩:=h;exact⟨σ',H',I.unwish,q⟩
 |brk=>obtain⟨σ',H',I,q⟩:=h;exact⟨σ',H',I.unwish,q⟩
 |cont=>obtain⟨σ',H',I,q⟩:=h;exact⟨σ',H',I.unwish,q⟩
 |ret u=>obtain⟨v,σ',H',I,r,q⟩:=h;exact⟨v,σ',H',I.unwish,r,q⟩
theorem PT.nox {e:Expr}{t:TT}(h:PT X.nox e t):PT X e t:=fun pins s σ H Q I hw =>
 wpAny_mono (h pins s σ H Q (I.wish _) hw) (fun _ _ ⟨H',I',q⟩=>⟨H',I'.unwish,q⟩) fun _ _ z=>False.elim z
theorem j6.nox {st:List Stmt}{t:TS}(h:j6 X.nox st t):j6 X st t:=fun pins s σ H D I hw =>
 wpAny_mono (h pins s σ H D (I.wish _) hw) (fun _ _ q=>q.unwish) fun _ _ z=>False.elim z
end
section
variable {X:Cx}{st:Stmt}{rest:List Stmt}{t u:TS}{e:Expr}{te:TE}{pos:Pos}
def y9:TS:=fun D σ H=>D.nx σ H
def F8 (t u:TS):TS:=fun D σ H=>t {D with nx:=u D} σ H
theorem r8:j6 X [] y9:=fun _ _ σ H _ I h=>wpAny_execs_nil ⟨σ,H,I,h⟩
theorem gL (h1:PS X st t)(h2:j6 X rest u):j6 X (st::rest) (F8 t u):=by
 intro pins s σ H D I h;refine wpAny_execs_cons (dB (h1 pins s σ H {D with nx:=u D} I h) fun f s1 q=>?_);cases f with
 |next =>
  obtain⟨σ',H',I',q⟩:=q;exact h2 pins s1 σ' H' D I' q
 |ret v=>exact q
 |brk=>exact q
 |cont=>exact q
theorem jv (h1:PS X st t):j6 X [st] t:=by
 intro pins s σ H D I h;refine wpAny_execs_cons (dB (h1 pins s σ H D I h) fun f s1 q=>?_);cases f with
 |next=>exact wpAny_execs_nil q
 |ret v=>exact q
 |brk=>exact q
 |cont=>exact q
def Fh:TS:=fun D σ H=>D.bk σ H
def HV:TS:=fun D σ H=>D.ct σ H
theorem Dg:PS X (.Pass pos) y9:=fun _ _ σ H _ I h=>wpAny_Pass ⟨σ,H,I,h⟩
theorem AK:PS X (.Break pos) Fh:=fun _ _ σ H _ I h=>wpAny_Break ⟨σ,H,I,h⟩
theorem t9:PS X (.Continue pos) HV:=fun _ _ σ H _ I h=>wpAny_Continue ⟨σ,H,I,h⟩
theorem Inv.quiet {pins:List (Addr×Obj)}{σ:St}{H:Hp}{s:Shared}(I:Inv X pins σ H s):interactive X.env=false:=by simp[interactive,I.ok.kind]
theorem Ff {x j pos pos'}:PS X (.Expr (.Constant (.str x) j pos) pos') y9:=fun _ s σ H _ I h=>wpAny_Expr (Calls.Constant_str (show SP X _ _ .next {s with toks:=s.toks+1} from ⟨σ,H,I.tok _,h⟩)) I.quiet
def DF (te:TE):TS:=fun D σ H=>te σ H fun _ H1=>D.nx σ H1
theorem wt (he:PE X e te)(hs:swapsWith e none pos.line X.env=pure false:=by rfl):PS X (.Expr e pos) (DF te):=by
 intro pins s σ H D I h;exact wpAny_Expr_any (dB (he pins s σ H _ I h) fun v s1 ⟨x,H1,I1,r1,q1⟩=>⟨σ,H1,I1,q1⟩) I.quiet hs
def tRet (te:TE):TS:=fun D σ H=>te σ H D.rt
theorem rO (he:PE X e te):PS X (.Return (some e) pos) (tRet te):=by
 intro pins s σ H D I h;exact wpAny_Return_some (dB (he pins s σ H _ I h) fun v s1 ⟨x,H1,I1,r1,q1⟩=>⟨x,σ,H1,I1,r1,q1⟩)
def IU:TS:=fun D _ H=>D.rt .non H
theorem CK:PS X (.Return none pos) IU:=fun _ _ σ H _ I h=>wpAny_Return_none ⟨.non,σ,H,I,rfl,h⟩
def HD (c:TT)(t u:TS):TS:=fun D σ H=>c σ H fun b H1=>if b=true then t D σ H1 else u D σ H1
theorem Ax {c:Expr}{a b:List Stmt}{tc:TT}(hc:PT X c tc)(ha:j6 X a t)(hb:j6 X b u):PS X (.If c a b pos) (HD tc t u):=by
 intro pins s σ H D I h;refine wpAny_If (dB (hc pins s σ H _ I h) fun d s1 ⟨H1,I1,q1⟩=>?_);cases d with
 |true=>exact ha pins s1 σ H1 D I1 q1
 |false=>exact hb pins s1 σ H1 D I1 q1
end
abbrev TG:=V->St->Hp->(St->Hp->Prop)->Prop
abbrev Eb:=List V->St->Hp->(St->Hp->Prop)->Prop
def PG (X:Cx)(target:Expr)(t:TG):Prop :=
 ∀(pins:List (Addr×Obj)) (s:Shared) (σ:St) (H:Hp) (v:V) (u:Value) (Q:St->Hp->Prop),Inv X pins σ H s->RelV v u->t v σ H Q ->
  wpAny (model X.prog X.w) X.A (assign target X.env u) (fun _ s'=>∃ σ' H',Inv X pins σ' H' s'/\Q σ' H') X.xe s
def IB (X:Cx)(ts:List Expr)(t:Eb):Prop :=
 ∀(pins:List (Addr×Obj)) (s:Shared) (σ:St) (H:Hp) (vs:List V) (us:List Value) (Q:St->Hp->Prop),Inv X pins σ H s->aR vs us->t vs σ H Q ->
  wpAny (model X.prog X.w) X.A (assignInOrder ((assignEach ts X.env).map (·.2)) us) (fun _ s'=>∃ σ' H',Inv X pins σ' H' s'/\Q σ' H') X.xe s
abbrev Fg:=V->V->V->Hp->(Hp->Prop)->Prop
def Io (X:Cx)(t:Fg):Prop :=
 ∀(pins:List (Addr×Obj)) (s:Shared) (σ:St) (H:Hp) (o i v:V) (ov iv u:Value) (Q:Hp->Prop),Inv X pins σ H s->RelV o ov->RelV i iv->RelV v u->t o i v H Q ->
  wpAny (model X.prog X.w) X.A (setItem ov iv u) (fun _ s'=>∃ H',Inv X pins σ H' s'/\Q H') X.xe s
section
variable {X:Cx}{pos:Pos}
def jI (i:Nat):TG:=fun v σ H Q=>Q (σ.set i (some v)) H
theorem vY {i:Nat}{x:Str}(hN:X.N.Nodup)(hi:X.N[i]? = some x)(hx:Loc X.env.scope x)(hf:X.fn x=true\/X.env.scope.names.lookup x=some .local:=by first | exact .inl rfl | exact .inr rfl | assumption):PG X (.Name x pos) (jI i):=by
 intro pins s σ H v u Q I r h;exact wpAny_assign_Name (iW I hN hi hx r (fun s' I'=>⟨_,H,I',h⟩) hf)
noncomputable def IF:Eb:=fun vs σ H Q=>vs=[]/\Q σ H
noncomputable def D1 (t:TG)(u:Eb):Eb:=fun vs σ H Q=>∃ v r,vs=v::r/\t v σ H fun σ' H'=>u r σ' H' Q
theorem CU:IB X [] IF:=by
 intro pins s σ H vs us Q I r h;obtain⟨e,h⟩:=h;subst e;cases r;exact assignInOrder_nil ⟨σ,H,I,h⟩
theorem Aw {e:Expr}{es:List Expr}{t:TG}{u:Eb}(h1:PG X e t)(h2:IB X es u)
  (hs:(assignEach (e::es) X.env).map (·.2)=assign e X.env::(assignEach es X.env).map (·.2):=by rfl):IB X (e::es) (D1 t u):=by
 intro pins s σ H vs us Q I r h;obtain⟨v,vr,e1,h⟩:=h;subst e1;cases r with
 |cons r rr =>
  rw[hs];refine assignInOrder_cons (dB (h1 pins s σ H _ _ _ I r h) fun _ s1 ⟨σ1,H1,I1,q1⟩=>?_);exact h2 pins s1 σ1 H1 _ _ Q I1 rr q1
def zD (K:PySem.W.Frag)(n:Nat)(t:Eb):TG:=fun v σ H Q=>∃ a xs,v = .ref a/\sQ K H a xs/\xs.length=n/\t xs σ H Q
theorem zL {es:List Expr}{k:Nat}{t:Eb}{n:Nat}(hc:X.calm=true)(h:IB X es t)
  (hn:(assignEach es X.env).length=n:=by rfl) (hst:(assignEach es X.env).findIdx? (·.1)=none:=by rfl):PG X (.Tuple es k pos) (zD X.K n t):=by
 intro pins s σ H v u Q I r hw;obtain⟨a,xs,e1,hq,hl,hw⟩:=hw;subst e1;cases r;obtain⟨its,rv,ht,hz⟩:=I.tuple hq;refine assign_Tuple_tuple (I.ok.hd hc) ht (by simp[hn,<-hl,rv.length]) hst fun h' hx=>?_
 have I1:Inv X pins σ H {s with heap:=h'}:=I.kept (t':=s.toks) fun b o e=>hx b o (bu (Heap.lt_size e)) e
 exact h pins _ σ H xs _ Q I1 (by simpa using rv) hw
def HB (to ti:TE)(t:Fg):TG:=fun v σ H Q=>to σ H fun o H1=>ti σ H1 fun i H2=>t o i v H2 fun H3=>Q σ H3
theorem Fz {o i:Expr}{to ti:TE}{t:Fg}(ho:PE X o to)(hi:PE X i ti)(hs:Io X t)
  (ha:∀ v,assign (.Subscript o i pos) X.env v=(do
   let ov <- holding [v] (eval o X.env);let iv <- holding [v,ov] (eval i X.env)
   standAt pos
   holding [v,ov,iv] (setItem ov iv v)
   release [v,ov,iv] []):=by intro _;rfl):PG X (.Subscript o i pos) (HB to ti t):=by
 intro pins s σ H v u Q I r h;rw[ha];refine wpAny_bind (wpAny_holding (dB (ho pins s σ H _ I h) fun ov s1 ⟨x,H1,I1,r1,q1⟩=>?_));refine wpAny_bind (wpAny_holding (dB (hi pins s1 σ H1 _ I1 q1) fun iv s2 ⟨y,H2,I2,r2,q2⟩=>?_));refine wpAny_bind (wpAny_standAt (wpAny_bind (wpAny_holding (dB (hs pins s2 σ H2 x y v ov iv u _ I2 r1 r2 r q2) fun _ s3 ⟨H3,I3,q3⟩=>?_))));exact wpAny_release ⟨σ,H3,I3,q3⟩
def pO (te:TE)(g:TG):TS:=fun D σ H=>te σ H fun x H1=>g x σ H1 D.nx
theorem zd {tg e:Expr}{te:TE}{g:TG}(he:PE X e te)(hg:PG X tg g)(hs:swapsWithSole [tg] e pos.line X.env=pure false:=by rfl)(hw:swappedStores [tg] e X.env=pure none:=by rfl)
  (h1:(assignEach [tg] X.env).map (·.2)=[assign tg X.env]:=by rfl):PS X (.Assign [tg] e pos) (pO te g):=by
 intro pins s σ H D I h;refine wpAny_Assign_stores (dB (he pins s σ H _ I h) fun v s1 ⟨x,H1,I1,r1,q1⟩=>?_) hs hw;rw[h1];exact dB (hg pins s1 σ H1 x v _ I1 r1 q1) fun _ s2 q=>q
theorem jo {i:Nat}{x:Str}{e:Expr}{te:TE}{pos':Pos}(hN:X.N.Nodup)(hi:X.N[i]? = some x)(hx:Loc X.env.scope x)(he:PE X e te)(hs:swapsWith e (some (.Name x pos')) pos.line X.env=pure false:=by rfl)(hf:X.fn x=true\/X.env.scope.names.lookup x=some .local:=by first | exact .inl rfl | exact .inr rfl | assumption) :
  PS X (.Assign [.Name x pos'] e pos) (pO te (jI i)):=by
 intro pins s σ H D I h;refine wpAny_Assign_Name (dB (he pins s σ H _ I h) fun v s1 ⟨y,H1,I1,r1,q1⟩=>?_) hs;exact iW I1 hN hi hx r1 (fun s2 I2=>⟨_,H1,I2,q1⟩) hf
end
section
variable {X:Cx}{pos:Pos}
def Gw (c:TT)(tb:TS):TS:=fun D σ H=>∃ W:Nat->St->Hp->Prop,(∃ m,W m σ H)/\∀ m σ H,W m σ H ->
 c σ H fun b H1=>if b=true then ∃ N:St->Hp->Prop,(∀ σ' H',N σ' H'->∃ m',m'<m/\W m' σ' H')/\tb {D with nx:=N,ct:=N,bk:=D.nx} σ H1 else D.nx σ H1
theorem Ae {c:Expr}{body:List Stmt}{tc:TT}{tb:TS}(hp:PassesOwn (model X.prog X.w) X.A X.env X.xe)(hc:PT X c tc)(hb:j6 X body tb):PS X (.While c body [] pos) (Gw tc tb):=by
 intro pins s σ H D I h;obtain⟨W,⟨m0,w0⟩,turn⟩:=h;refine wpAny_While (codeAny_whileLoop (fun n s'=>∃ σ' H',Inv X pins σ' H' s'/\W n σ' H') ?_ m0 ⟨σ,H,I,w0⟩);rintro n s1 ⟨σ1,H1,I1,w1⟩;refine wpAny_passesOwn hp (dB (hc pins s1 σ1 H1 _ I1 (turn n σ1 H1 w1)) fun b s2 ⟨H2,I2,q2⟩=>?_);cases b with
 |true =>
  obtain⟨N,hN,q2⟩:=q2;rw[if_pos rfl];refine wpAny_passesOwn hp (dB (hb pins s2 σ1 H2 _ I2 q2) fun f s3 q3=>?_);cases f with
  |next =>
   obtain⟨σ3,H3,I3,n3⟩:=q3;obtain⟨m',hm,w3⟩:=hN σ3 H3 n3;exact⟨m',hm,σ3,H3,I3,w3⟩
  |cont =>
   obtain⟨σ3,H3,I3,n3⟩:=q3;obtain⟨m',hm,w3⟩:=hN σ3 H3 n3;exact⟨m',hm,σ3,H3,I3,w3⟩
  |brk=>exact q3
  |ret v=>exact q3
 |false =>
  rw[if_neg az];exact wpAny_execs_nil ⟨σ1,H2,I2,q2⟩
end
structure It where
 go:Nat->Hp->Prop
 yld:Nat->Hp->V->Hp->Prop
 stop:Nat->Hp->Prop
def kE (X:Cx)(pins:List (Addr×Obj))(H:Hp)(b:Addr):Prop :=
 H b=none/\b≠X.env.locals/\b∉X.fs/\(b∈X.ex\/X.s₀.heap.objs.size<=b)/\(∀ x c,X.env.cells.lookup x=some c->c≠b)/\∀ p∈X.pn++pins,p.1≠b
theorem Inv.fpOk {X:Cx}{pins:List (Addr×Obj)}{σ:St}{H H':Hp}{s:Shared}{b:Addr}(I:Inv X pins σ H s)(hb:s.heap.objs.size<=b)(hn:H' b=none):kE X pins H' b:=by
 refine⟨hn,Nat.ne_of_gt (av I.lt hb),I.nofs hb,.inr (br I.sz hb),fun x c e z=>?_,fun p hp z=>?_⟩
 ·obtain⟨v,q⟩:=I.cell x c e;exact absurd (av q.lt (by rw[z];exact hb)) (fq _)
 ·exact absurd (av (Heap.lt_size (I.pin p hp).1) (by rw[z];exact hb)) (fq _)
structure Turn (P:Program)(w:World)(K:PySem.W.Frag)(tg:Expr)(J:It)(fp:List Addr)(it:Addr)(tn:Nat->Heap->Prop):Prop where
 mem:it∈fp
 obj:∀ i h,tn i h->∀ b∈fp,∃ o,h.get? b=some o/\∀ v,o.data≠.cell v
 keep:∀ i h h',tn i h->(∀ b∈fp,∀ o,h.get? b=some o->h'.get? b=some o)->tn i h'
 item:∀(X:Cx),X.prog=P->X.w=w->X.K=K->X.calm=true->∀(i:Nat) (pins:List (Addr×Obj)) (s:Shared) (σ:St) (H:Hp) (E:Value->Shared->Prop),Inv X pins σ H s->(∀ b∈fp,kE X pins H b)->tn i s.heap->J.go i H ->
  wpAny (model P w) X.A (pyNext (.ref it)) (fun r s1=>∃ u,r=some u /\
   wpAny (model P w) X.A (letOwnedTupleGo tg (.ref it) u) (fun _ s2=>∃ x H',Inv X pins σ H' s2/\RelV x u/\J.yld i H x H'/\tn (i+1) s2.heap/\∀ b∈fp,H' b=none) E s1) E s
 done:∀(X:Cx),X.prog=P->X.w=w->X.K=K->X.calm=true->∀(i:Nat) (pins:List (Addr×Obj)) (s:Shared) (σ:St) (H:Hp) (E:Value->Shared->Prop),Inv X pins σ H s->(∀ b∈fp,kE X pins H b)->tn i s.heap->J.stop i H ->
  wpAny (model P w) X.A (pyNext (.ref it)) (fun r s1=>r=none/\Inv X pins σ H s1) E s
 self:∀(A:Around) (i:Nat) (s:Shared) (Q:Value->Shared->Prop) (E:Value->Shared->Prop),tn i s.heap->Q (.ref it) s->wpAny (model P w) A (pyIter (.ref it)) Q E s
abbrev TI:=St->Hp->(It->Hp->Prop)->Prop
def PIE (X:Cx)(pins:List (Addr×Obj))(σ:St)(tg:Expr)(R:It->Hp->Prop)(itv:Value)(s2:Shared):Prop :=
 ∃(it:Addr) (fp:List Addr) (tn:Nat->Heap->Prop) (J:It) (H':Hp),itv = .ref it/\Inv X pins σ H' s2/\Turn X.prog X.w X.K tg J fp it tn/\tn 0 s2.heap/\(∀ b∈fp,kE X pins H' b)/\R J H'
def PI (X:Cx)(tg iter:Expr)(wi:TI):Prop :=
 ∀(pins:List (Addr×Obj)) (s:Shared) (σ:St) (H:Hp) (R:It->Hp->Prop),Inv X pins σ H s->wi σ H R ->
  wpAny (model X.prog X.w) X.A (eval iter X.env) (fun v s1=>wpAny (model X.prog X.w) X.A (pyIter v) (PIE X pins σ tg R) X.xe s1) X.xe s
theorem Bp {M:Model}{A:Around}{E:Value->Shared->Prop}{s:Shared}{tg:Expr}{it:Addr}{u:Value}{o:Obj}{n:String}{vs:Array Value}{Q:Unit->Shared->Prop}(ho:s.heap.get? it=some o)(hc:o.cls = .type n)(hd:o.data = .fields vs)
  (hn:["enumerate","zip","dict_itemiterator","dict_reverseitemiterator","odict_iterator","itertools.zip_longest","itertools.pairwise"].contains n=false) (hQ:Q () s):wpAny M A (letOwnedTupleGo tg (.ref it) u) Q E s:=by
 unfold letOwnedTupleGo;cases tg<;>first
  | exact wpAny_pure hQ
  | (cases u<;>first
    | exact wpAny_pure hQ
    | (refine wpAny_bind (wpAny_load ho ?_)
       rw[hc,hd];show wpAny M A (if (["enumerate","zip","dict_itemiterator","dict_reverseitemiterator","odict_iterator","itertools.zip_longest","itertools.pairwise"].contains n&&vs[0]?==some (rawInt _))=true then _ else _) Q E s;rw[if_neg (by intro h;rw[hn,Bool.false_and] at h;cases h)];exact wpAny_pure hQ))
noncomputable def Itl (K:PySem.W.Frag)(a:Addr):It :=
 ⟨fun i H=>∃ xs x,mo K H a xs/\xs[i]? = some x,fun i H x H'=>H'=H/\∀ xs,mo K H a xs->xs[i]? = some x,fun i H=>∃ xs,mo K H a xs/\xs.length<=i⟩
noncomputable def Itt (K:PySem.W.Frag)(a:Addr):It :=
 ⟨fun i H=>∃ xs x,sQ K H a xs/\xs[i]? = some x,fun i H x H'=>H'=H/\∀ xs,sQ K H a xs->xs[i]? = some x,fun i H=>∃ xs,sQ K H a xs/\xs.length<=i⟩
theorem yj {P:Program}{w:World}{K:PySem.W.Frag}{tg:Expr}(a it:Addr):Turn P w K tg (Itl K a) [it] it (fun i h=>h.IsListIter it a i) where
 mem:=by simp
 obj:=fun i h st b hb=>by
  have e:b=it:=by simpa using hb
  subst e;obtain⟨o,e,c,d⟩:=st;exact⟨o,e,fun v z=>by rw[d] at z;cases z⟩
 keep:=fun i h h' st k=>st.at fun o e=>k it (by simp) o e
 item:=by
  intro X hP hw hK hc i pins s σ H E I hf st hg;subst hP hw hK;obtain⟨xs,x,hq,hx⟩:=hg;obtain⟨its,rv,p,hz⟩:=I.list hq;obtain⟨u,hu,ru⟩:=rv.get hx;obtain⟨f0,f1,f2,f3,f4,f5⟩:=hf it (by simp);refine wpAny_pyNext_list_item st p.isList (x:=u) (by simpa using hu) fun h' st' sb=>?_
  have I1:Inv X pins σ H {s with heap:=h'}:=I.turned (t':=s.toks) (fun b o hb e=>(sb.2 b hb).trans e) f0 f1 f3 f4 f5;obtain⟨o,e,c,d⟩:=id st';exact⟨u,rfl,Bp (s:={s with heap:=h'}) e c d (by decide) ⟨x,H,I1,ru,⟨rfl,fun ys hy=>by rw[I.list_inj hy hq];exact hx⟩,st',fun b hb=>(hf b hb).1⟩⟩
 done:=by
  intro X hP hw hK hc i pins s σ H E I hf st hg;subst hP hw hK;obtain⟨xs,hq,hx⟩:=hg;obtain⟨its,rv,p,hz⟩:=I.list hq;obtain⟨f0,f1,f2,f3,f4,f5⟩:=hf it (by simp);have hl:=rv.length;exact wpAny_pyNext_list_end (I.ok.hd hc) st p.isList (by simp;omega) fun h' eb=>⟨rfl,I.turned (t':=s.toks) (fun b o hb e=>eb b o hb e) f0 f1 f3 f4 f5⟩
 self:=fun _ _ _ _ _ st h=>wpAny_pyIter_listiter st h
theorem vF {P:Program}{w:World}{K:PySem.W.Frag}{tg:Expr}(a it:Addr):Turn P w K tg (Itt K a) [it] it (fun i h=>h.IsTupleIter it a i) where
 mem:=by simp
 obj:=fun i h st b hb=>by
  have e:b=it:=by simpa using hb
  subst e;obtain⟨o,e,c,d⟩:=st;exact⟨o,e,fun v z=>by rw[d] at z;cases z⟩
 keep:=fun i h h' st k=>st.at fun o e=>k it (by simp) o e
 item:=by
  intro X hP hw hK hc i pins s σ H E I hf st hg;subst hP hw hK;obtain⟨xs,x,hq,hx⟩:=hg;obtain⟨its,rv,p,hz⟩:=I.tuple hq;obtain⟨u,hu,ru⟩:=rv.get hx;obtain⟨f0,f1,f2,f3,f4,f5⟩:=hf it (by simp);refine wpAny_pyNext_tuple_item st (show s.heap.IsTuple a its.toArray from p) (x:=u) (by simpa using hu) fun h' st' sb=>?_
  have I1:Inv X pins σ H {s with heap:=h'}:=I.turned (t':=s.toks) (fun b o hb e=>(sb.2 b hb).trans e) f0 f1 f3 f4 f5;obtain⟨o,e,c,d⟩:=id st';exact⟨u,rfl,Bp (s:={s with heap:=h'}) e c d (by decide) ⟨x,H,I1,ru,⟨rfl,fun ys hy=>by rw[I.tuple_inj hy hq];exact hx⟩,st',fun b hb=>(hf b hb).1⟩⟩
 done:=by
  intro X hP hw hK hc i pins s σ H E I hf st hg;subst hP hw hK;obtain⟨xs,hq,hx⟩:=hg;obtain⟨its,rv,p,hz⟩:=I.tuple hq;obtain⟨f0,f1,f2,f3,f4,f5⟩:=hf it (by simp);have hl:=rv.length;exact wpAny_pyNext_tuple_end (I.ok.hd hc) st (show s.heap.IsTuple a its.toArray from p) (by simp;omega) fun h' eb=>⟨rfl,I.turned (t':=s.toks) (fun b o hb e=>eb b o hb e) f0 f1 f3 f4 f5⟩
 self:=fun _ _ _ _ _ st h=>wpAny_pyIter_tupleiter st h
end L2
namespace L2
open PySem PySem.Spec PyProof.Rows
section
variable {X:Cx}{tg:Expr}
def tFor (wi:TI)(g:TG)(tb:TS):TS:=fun D σ H=>wi σ H fun J H1=>∃ W:Nat->Nat->St->Hp->Prop,(∃ m,W 0 m σ H1)/\∀ i m σ H,W i m σ H ->
 (J.stop i H/\D.nx σ H)\/(J.go i H/\∃ N:St->Hp->Prop,(∀ σ' H',N σ' H'->∃ m',m'<m/\W (i+1) m' σ' H')/\∀ x H',J.yld i H x H'->g x σ H' fun σ2 H2=>tb {D with nx:=N,ct:=N,bk:=D.nx} σ2 H2)
noncomputable def oA (fp:List Addr)(h:Heap):List (Addr×Obj):=fp.filterMap fun b=>(h.get? b).map fun o=>(b,o)
theorem gH {fp:List Addr}{h:Heap}{b:Addr}{o:Obj}(hb:b∈fp)(e:h.get? b=some o):(b,o)∈oA fp h:=List.mem_filterMap.mpr ⟨b,hb,by rw[e];rfl⟩
theorem xR {fp:List Addr}{h:Heap}{p:Addr×Obj}(hp:p∈oA fp h):p.1∈fp/\h.get? p.1=some p.2:=by
 obtain⟨b,hb,e⟩:=List.mem_filterMap.mp hp;cases q:h.get? b with
 |none=>rw[q] at e;cases e
 |some o =>
  rw[q] at e;have e':(b,o)=p:=dh e;subst e';exact⟨hb,q⟩
theorem Inv.pinned {pins:List (Addr×Obj)}{σ:St}{H:Hp}{s:Shared}{fp:List Addr}(I:Inv X pins σ H s)(hf:∀ b∈fp,kE X pins H b)(ho:∀ b∈fp,∃ o,s.heap.get? b=some o/\∀ v,o.data≠.cell v):Inv X (pins++oA fp s.heap) σ H s :=
 I.pins_of fun p hp=>(List.mem_append.mp hp).elim (fun z=>I.pin p (ak _ z)) fun z=>by
  obtain⟨hb,e⟩:=xR z;obtain⟨f0,f1,f2,_⟩:=hf p.1 hb;obtain⟨o,e',d⟩:=ho p.1 hb;rw[e] at e';cases e';exact⟨e,f0,f1,f2,d⟩
theorem Inv.unpinned {pins pl:List (Addr×Obj)}{σ:St}{H:Hp}{s:Shared}(I:Inv X (pins++pl) σ H s):Inv X pins σ H s:=I.pins_of fun p hp=>I.pin p (ak _ (aw _ hp))
theorem FH {iter:Expr}{body:List Stmt}{wi:TI}{g:TG}{tb:TS}{pos:Pos}(hp:PassesOwn (model X.prog X.w) X.A X.env X.xe)(hc:X.calm=true)(hi:PI X tg iter wi)(hg:PG X tg g)(hb:j6 X body tb)
  (hs:∀ x,foldedSetIterable iter X.env x=pure x:=by intro _;rfl):PS X (.For tg iter body [] pos) (tFor wi g tb):=by
 intro pins s σ H D I h;refine wpAny_For (dB (hi pins s σ H _ I h) fun v s1 h1=>dB h1 fun itv s2 h2=>?_) hs;obtain⟨it,fp,tn,J,H2,e,I2,T,st2,f2,W,⟨m0,w0⟩,turn⟩:=h2;subst e;have stat:∀{H':Hp},(∀ b∈fp,H' b=none)->∀ b∈fp,kE X pins H' b:=fun hn b hb=>⟨hn b hb,(f2 b hb).2⟩
 refine codeAny_forLoop_any (fun n s'=>∃ i σ' H',Inv X pins σ' H' s'/\tn i s'.heap/\(∀ b∈fp,H' b=none)/\W i n σ' H') ?_ m0 ⟨0,σ,H2,I2,st2,fun b hb=>(f2 b hb).1,w0⟩;rintro n s3 ⟨i,σ3,H3,I3,st3,fr3,w3⟩;rcases turn i n σ3 H3 w3 with ⟨stop,qn⟩ | ⟨go,N,hN,step⟩
 ·refine wpAny_passesOwn hp (dB (T.done X rfl rfl rfl hc i pins s3 σ3 H3 X.xe I3 (stat fr3) st3 stop) fun r s4 ⟨hr,I4⟩=>?_);subst hr;exact wpAny_execs_nil ⟨σ3,H3,I4,qn⟩
 ·refine wpAny_passesOwn hp (dB (T.item X rfl rfl rfl hc i pins s3 σ3 H3 X.xe I3 (stat fr3) st3 go) fun r s4 ⟨u,hr,h4⟩=>?_);subst hr;refine wpAny_passesOwn hp (dB h4 fun _ s5 ⟨x,H5,I5,r5,y5,st5,fr5⟩=>?_);have I5':=I5.pinned (stat fr5) (T.obj _ _ st5);refine wpAny_passesOwn hp (dB (hg _ s5 σ3 H5 x u _ I5' r5 (step x H5 y5)) fun _ s6 ⟨σ6,H6,I6,q6⟩=>?_);refine wpAny_passesOwn hp (dB (hb _ s6 σ6 H6 _ I6 q6) fun f s7 q7=>?_);have again:∀{σ7:St}{H7:Hp},Inv X (pins++oA fp s5.heap) σ7 H7 s7->N σ7 H7->∃ m,m<n/\∃ i σ' H',Inv X pins σ' H' s7/\tn i s7.heap/\(∀ b∈fp,H' b=none)/\W i m σ' H':=fun {σ7 H7} I7 n7=>by
   obtain⟨m',hm,w7⟩:=hN σ7 H7 n7;refine⟨m',hm,i+1,σ7,H7,I7.unpinned,T.keep _ _ _ st5 fun b hb o e=>(I7.pin (b,o) (ak _ (ak _ (gH hb e)))).1,fun b hb=>?_,w7⟩;obtain⟨o,e,d⟩:=T.obj _ _ st5 b hb;exact (I7.pin (b,o) (ak _ (ak _ (gH hb e)))).2.1
  cases f with
  |next=>obtain⟨σ7,H7,I7,n7⟩:=q7;exact again I7 n7
  |cont=>obtain⟨σ7,H7,I7,n7⟩:=q7;exact again I7 n7
  |brk=>obtain⟨σ7,H7,I7,q7⟩:=q7;exact⟨σ7,H7,I7.unpinned,q7⟩
  |ret v=>obtain⟨x7,σ7,H7,I7,r7,q7⟩:=q7;exact⟨x7,σ7,H7,I7.unpinned,r7,q7⟩
end
end L2
namespace L2
open PySem PySem.Spec PyProof.Rows
abbrev R2:=V->V->Hp->VK->Prop
def kD (X:Cx)(f:Value->Value->Sem Value)(r:R2):Prop :=
 ∀(pins:List (Addr×Obj)) (s:Shared) (σ:St) (H:Hp) (x y:V) (v u:Value) (Q:VK),Inv X pins σ H s->RelV x v->RelV y u->r x y H Q ->
  wpAny (model X.prog X.w) X.A (f v u) (EP X pins σ Q) X.xe s
def UnR (X:Cx)(f:Value->Sem Value)(r:V->Hp->VK->Prop):Prop :=
 ∀(pins:List (Addr×Obj)) (s:Shared) (σ:St) (H:Hp) (x:V) (v:Value) (Q:VK),Inv X pins σ H s->RelV x v->r x H Q ->
  wpAny (model X.prog X.w) X.A (f v) (EP X pins σ Q) X.xe s
def jK (X:Cx)(f:Value)(r:List V->Hp->VK->Prop):Prop :=
 ∀(pins:List (Addr×Obj)) (s:Shared) (σ:St) (H:Hp) (xs:List V) (us:List Value) (Q:VK),Inv X pins σ H s->aR xs us->r xs H Q ->
  wpAny (model X.prog X.w) X.A (call f us) (EP X pins σ Q) X.xe s
def TruR (X:Cx)(r:V->Hp->(Bool->Hp->Prop)->Prop):Prop :=
 ∀(pins:List (Addr×Obj)) (s:Shared) (σ:St) (H:Hp) (x:V) (v:Value) (Q:Bool->Hp->Prop),Inv X pins σ H s->RelV x v->r x H Q ->
  wpAny (model X.prog X.w) X.A (truthy v) (TP X pins σ Q) X.xe s
def Hv (r:R2)(ta tb:TE):TE:=fun σ H Q=>ta σ H fun x H1=>tb σ H1 fun y H2=>r x y H2 Q
def tUn (r:V->Hp->VK->Prop)(ta:TE):TE:=fun σ H Q=>ta σ H fun x H1=>r x H1 Q
def rI (C:Int->Int->Prop)(g:Int->Int->V):R2:=fun x y H Q=>∃ i j,x = .int i/\y = .int j/\C i j/\Q (g i j) H
def yU (g:Int->Int->V):R2:=fun x y H Q=>∃ i j,x = .int i/\y = .int j/\Q (g i j) H
def rU (g:Int->V):V->Hp->VK->Prop:=fun x H Q=>∃ i,x = .int i/\Q (g i) H
section
variable {X:Cx}{a b c:Expr}{ta tb tc:TE}{pos:Pos}
theorem F5 (ha:PE X a ta)(hb:PE X b tb){pins:List (Addr×Obj)}{s:Shared}{σ:St}{H:Hp}{R:V->V->Hp->Prop}(I:Inv X pins σ H s)
  (h:ta σ H fun x H1=>tb σ H1 fun y H2=>R x y H2) {Q:Value->Shared->Prop}{f:Value->Value->Sem Value}
  (hf:∀ v u s2 x y H2,Inv X pins σ H2 s2->RelV x v->RelV y u->R x y H2->wpAny (model X.prog X.w) X.A (f v u) Q X.xe s2) :
  wpAny (model X.prog X.w) X.A (eval a X.env) (fun v s₁=>wpAny (model X.prog X.w) X.A (eval b X.env) (fun u s₂=>wpAny (model X.prog X.w) X.A (f v u) Q X.xe s₂) X.xe s₁) X.xe s:=by
 refine dB (ha pins s σ H _ I h) fun v s1 ⟨x,H1,I1,r1,q1⟩=>?_
 refine dB (hb pins s1 σ H1 _ I1 q1) fun u s2 ⟨y,H2,I2,r2,q2⟩=>?_
 exact hf v u s2 x y H2 I2 r1 r2 q2
theorem Iu {op:Operator}{r:R2}(ho:kD X (binaryOp op) r)(ha:PE X a ta)(hb:PE X b tb):PE X (.BinOp a op b pos) (Hv r ta tb):=by
 intro pins s σ H Q I h;exact wpAny_BinOp (F5 ha hb I h fun v u s2 x y H2 I2 rx ry q=>ho pins s2 σ H2 x y v u Q I2 rx ry q)
theorem HS {op:UnaryOp}{r:V->Hp->VK->Prop}(ho:UnR X (unaryOp op) r)(ha:PE X a ta):PE X (.UnaryOp op a pos) (tUn r ta):=by
 intro pins s σ H Q I h;exact UnaryOp_ (dB (ha pins s σ H _ I h) fun v s1 ⟨x,H1,I1,r1,q1⟩=>ho pins s1 σ H1 x v Q I1 r1 q1)
theorem G9 {f:Value->Value->Sem Value}{C:Int->Int->Prop}{g:Int->Int->Int}
  (rule:∀(i j:Int) (t u:Tok) (s:Shared) (Q:Value->Shared->Prop) (E:Value->Shared->Prop),C i j->Q (.int (g i j) s.toks) {s with toks:=s.toks+1}->wpAny (model X.prog X.w) X.A (f (.int i t) (.int j u)) Q E s) :
  kD X f (rI C fun i j=>.int (g i j)):=by
 intro pins s σ H x y v u Q I rx ry h;obtain⟨i,j,rfl,rfl,hc,q⟩:=h;obtain⟨t,rfl⟩:=rx;obtain⟨t',rfl⟩:=ry;exact rule i j t t' s _ _ hc ⟨.int (g i j),H,I.tok _,⟨_,rfl⟩,q⟩
theorem Bc {f:Value->Value->Sem Value}{g:Int->Int->Int}
  (rule:∀(i j:Int) (t u:Tok) (s:Shared) (Q:Value->Shared->Prop) (E:Value->Shared->Prop),Q (.int (g i j) s.toks) {s with toks:=s.toks+1}->wpAny (model X.prog X.w) X.A (f (.int i t) (.int j u)) Q E s) :
  kD X f (yU fun i j=>.int (g i j)):=by
 intro pins s σ H x y v u Q I rx ry h;obtain⟨i,j,rfl,rfl,q⟩:=h;obtain⟨t,rfl⟩:=rx;obtain⟨t',rfl⟩:=ry;exact rule i j t t' s _ _ ⟨.int (g i j),H,I.tok _,⟨_,rfl⟩,q⟩
theorem CP {f:Value->Value->Sem Value}{g:Int->Int->Bool}
  (rule:∀(i j:Int) (t u:Tok) (s:Shared) (Q:Value->Shared->Prop) (E:Value->Shared->Prop),Q (.bool (g i j)) s->wpAny (model X.prog X.w) X.A (f (.int i t) (.int j u)) Q E s) :
  kD X f (yU fun i j=>.bl (g i j)):=by
 intro pins s σ H x y v u Q I rx ry h;obtain⟨i,j,rfl,rfl,q⟩:=h;obtain⟨t,rfl⟩:=rx;obtain⟨t',rfl⟩:=ry;exact rule i j t t' s _ _ ⟨.bl (g i j),H,I,rfl,q⟩
def CDiv (i j:Int):Prop:=0<j/\j<1073741824
def Iw (i j:Int):Prop:=0<=j/\j<=1000000/\i.natAbs<2 ^ 64
def Ee (i j:Int):Prop:=(-(2 ^ 64)<i/\i<2 ^ 64)\/(-(2 ^ 64)<j/\j<2 ^ 64)
theorem Ee.ok {i j:Int}(h:Ee i j):IntMulOk i j:=by
 rcases h with ⟨h1,h2⟩ | ⟨h1,h2⟩
 ·exact .of_left (intBits_le_64 h1 h2)
 ·exact .of_right (intBits_le_64 h1 h2)
theorem vT (k:Nat):(0:Int)<=2 ^ k:=by
 rw[two_pow_cast];exact fv _
theorem EB:kD X (binaryOp .Add) (yU fun i j=>.int (i+j)):=Bc fun _ _ _ _ _ _ _ q=>add_int q
theorem GR:kD X (binaryOp .Sub) (yU fun i j=>.int (i - j)):=Bc fun _ _ _ _ _ _ _ q=>sub_int q
theorem GU:kD X (binaryOp .Mult) (rI Ee fun i j=>.int (i*j)):=G9 fun _ _ _ _ _ _ _ hc q=>mul_int q hc.ok
theorem B4:kD X (binaryOp .FloorDiv) (rI CDiv fun i j=>.int (i / j)):=G9 fun i j _ _ _ _ _ hc q=>by
 have h1:(0:Int)<j:=hc.1;have h2:j<1073741824:=hc.2;exact floordiv_int (by omega) (by rw[Int.fdiv_eq_ediv_of_nonneg i (by omega)];exact q) (.inl (PyProof.noPylong_small (by omega)))
theorem Gf:kD X (binaryOp .Mod) (rI (fun _ j=>0<j) fun i j=>.int (i%j)):=G9 fun i j _ _ _ _ _ hc q=>by
 have h1:(0:Int)<j:=hc;exact mod_int' (by omega) (by rw[Int.fmod_eq_emod_of_nonneg i (by omega)];exact q)
theorem EV:kD X (binaryOp .Pow) (rI Iw fun i j=>.int (i ^ j.toNat)):=G9 fun _ _ _ _ _ _ _ hc q=>pow_int_small hc.1 hc.2.1 hc.2.2 q
theorem Fm:kD X (binaryOp .LShift) (rI Iw fun i j=>.int (i*2 ^ j.toNat)):=G9 fun _ _ _ _ _ _ _ hc q=>lshift_int_small hc.1 hc.2.1 hc.2.2 q
theorem FP:kD X (binaryOp .RShift) (rI (fun _ j=>0<=j) fun i j=>.int (i / 2 ^ j.toNat)):=G9 fun i j _ _ _ _ _ hc q =>
 rshift_int hc (by rw[Int.fdiv_eq_ediv_of_nonneg i (vT _)];exact q)
theorem FV:kD X (binaryOp .BitAnd) (yU fun i j=>.int (Builtin.bitAnd i j)):=Bc fun _ _ _ _ _ _ _ q=>and_int q
theorem Hc:kD X (binaryOp .BitOr) (yU fun i j=>.int (Builtin.bitOr i j)):=Bc fun _ _ _ _ _ _ _ q=>or_int q
theorem Fk:kD X (binaryOp .BitXor) (yU fun i j=>.int (Builtin.bitXor i j)):=Bc fun _ _ _ _ _ _ _ q=>xor_int q
theorem unI {f:Value->Sem Value}{g:Int->Int}
  (rule:∀(i:Int) (t:Tok) (s:Shared) (Q:Value->Shared->Prop) (E:Value->Shared->Prop),Q (.int (g i) s.toks) {s with toks:=s.toks+1}->wpAny (model X.prog X.w) X.A (f (.int i t)) Q E s) :
  UnR X f (rU fun i=>.int (g i)):=by
 intro pins s σ H x v Q I rx h;obtain⟨i,rfl,q⟩:=h;obtain⟨t,rfl⟩:=rx;exact rule i t s _ _ ⟨.int (g i),H,I.tok _,⟨_,rfl⟩,q⟩
theorem F9:UnR X (unaryOp .USub) (rU fun i=>.int (-i)):=unI fun _ _ _ _ _ q=>neg_int q
end
noncomputable def jT:V->V->Bool
 |.non,.non=>true | .non,.int _=>true | .int _,.non=>true | .non,.bl _=>true | .bl _,.non=>true | .non,.str _=>true | .str _,.non=>true
 |.int _,.int _=>true | .bl _,.bl _=>true | .str _,.str _=>true | .byt _,.byt _=>true
 |.int _,.str _=>true | .str _,.int _=>true | .bl _,.str _=>true | .str _,.bl _=>true
 |_,_=>false
section
variable {X:Cx}{a b c:Expr}{ta tb tc:TE}{pos:Pos}
theorem z9 {pins:List (Addr×Obj)}{σ:St}{H:Hp}{s:Shared}{Q:VK}{k k':Bool}(I:Inv X pins σ H s)(q:Q (.bl k) H)(e:k=k'):EP X pins σ Q (.bool k') s:=by
 subst e;exact⟨.bl k,H,I,rfl,q⟩
theorem IP:kD X (compareOp .Lt) (yU fun i j=>.bl (decide (i<j))):=CP fun _ _ _ _ _ _ _ q=>lt_int q
theorem Ic:kD X (compareOp .LtE) (yU fun i j=>.bl (decide (i<=j))):=CP fun _ _ _ _ _ _ _ q=>le_int q
theorem Hn:kD X (compareOp .Gt) (yU fun i j=>.bl (decide (j<i))):=CP fun _ _ _ _ _ _ _ q=>gt_int q
theorem Ii:kD X (compareOp .GtE) (yU fun i j=>.bl (decide (j<=i))):=CP fun _ _ _ _ _ _ _ q=>ge_int q
theorem FJ:kD X (compareOp .Is) (fun x y H Q=>y = .non/\Q (.bl (decide (x = .non))) H):=by
 intro pins s σ H x y v u Q I rx ry h;obtain⟨rfl,q⟩:=h;cases ry;refine is_none_gen (z9 I q ?_);cases x<;>first
  | (cases rx;rfl)
  | (obtain⟨t,rfl⟩:=rx;rfl)
theorem C4:kD X (compareOp .IsNot) (fun x y H Q=>y = .non/\Q (.bl (!decide (x = .non))) H):=by
 intro pins s σ H x y v u Q I rx ry h;obtain⟨rfl,q⟩:=h;cases ry;refine isnot_none_gen (z9 I q ?_);cases x<;>first
  | (cases rx;rfl)
  | (obtain⟨t,rfl⟩:=rx;rfl)
theorem Ce {op:CmpOp}{r:R2}(ho:kD X (compareOp op) r)(ha:PE X a ta)(hb:PE X b tb)(hm:behindInMarks op b=false):PE X (.Compare a [op] [b] pos) (Hv r ta tb):=by
 intro pins s σ H Q I h;exact wpAny_Compare1 (F5 ha hb I h fun v u s2 x y H2 I2 rx ry q=>ho pins s2 σ H2 x y v u Q I2 rx ry q) hm
def Hb (t:TE):TT:=fun σ H Q=>t σ H fun x H'=>∃ k,x = .bl k/\Q k H'
theorem Cv {op:CmpOp}{r:R2}(ho:kD X (compareOp op) r)(ha:PE X a ta)(hb:PE X b tb)(hm:behindInMarks op b=false):PT X (.Compare a [op] [b] pos) (Hb (Hv r ta tb)):=by
 intro pins s σ H Q I h;refine wpAny_isTrue_Compare1 (dB (ha pins s σ H _ I h) fun v s1 ⟨x,H1,I1,r1,q1⟩=>dB (hb pins s1 σ H1 _ I1 q1) fun u s2 ⟨y,H2,I2,r2,q2⟩ =>
  dB (ho pins s2 σ H2 x y v u _ I2 r1 r2 q2) fun c s3 ⟨z,H3,I3,r3,k,e,q3⟩=>?_) hm
 subst e;cases r3;exact wpAny_truthy_bool ⟨H3,I3,q3⟩
def FX (K:PySem.W.Frag)(x:V)(H:Hp)(k:Bool):Prop :=
 match x with
 |.non=>k=false
 |.bl b=>k=b
 |.int i=>k=(i != 0)
 |.str y=>y.length<=sizeLine/\k=((y.length:Int) != 0)
 |.byt y=>y.size<=sizeLine/\k=((y.size:Int) != 0)
 |.ref p=>(∃ xs,mo K H p xs/\k = !xs.isEmpty)\/(∃ xs,sQ K H p xs/\k = !xs.isEmpty)\/∃ kvs,H p=some (.dK kvs)/\k = !kvs.isEmpty
 |_=>False
theorem vh {κ:Type}{kvs:List (κ×V)}{vs:List (κ×Value)}(r:KV kvs vs):(!vs.isEmpty) = !kvs.isEmpty:=by
 cases r<;>rfl
theorem om {xs:List V}{its:List Value}(r:aR xs its):(!its.toArray.isEmpty) = !xs.isEmpty:=by
 cases r<;>simp
theorem oS:(sizeLine:Nat)<2 ^ 63:=by rw[sizeLine_eq];decide
theorem Gb:TruR X (fun x H Q=>∃ k,FX X.K x H k/\Q k H):=by
 intro pins s σ H x v Q I rx h;obtain⟨k,e,q⟩:=h;have hl:=oS;have hs:sizeLine=16777216:=sizeLine_eq;cases x with
 |non =>
  cases rx;have e':k=false:=e;subst e';exact truthy_none ⟨H,I,q⟩
 |bl b =>
  cases rx;have e':k=b:=e;subst e';exact wpAny_truthy_bool ⟨H,I,q⟩
 |int i =>
  obtain⟨t,rfl⟩:=rx;have e':k=(i != 0):=e;subst e';exact PySem.P.truthy_int ⟨H,I,q⟩
 |str y =>
  obtain⟨t,rfl⟩:=rx;obtain⟨hy,e'⟩:y.length<=sizeLine/\k=((y.length:Int) != 0):=e;subst e';exact PySem.P.truthy_str (by omega) ⟨H,I.tok _,q⟩
 |byt y =>
  obtain⟨t,rfl⟩:=rx;obtain⟨hy,e'⟩:y.size<=sizeLine/\k=((y.size:Int) != 0):=e;subst e';exact PySem.W.truthy_bytes (by omega) ⟨H,I.tok _,q⟩
 |ref p =>
  cases rx;have e':(∃ xs,mo X.K H p xs/\k = !xs.isEmpty)\/(∃ xs,sQ X.K H p xs/\k = !xs.isEmpty)\/∃ kvs,H p=some (.dK kvs)/\k = !kvs.isEmpty:=e;rcases e' with ⟨xs,hx,e'⟩ | ⟨xs,hx,e'⟩ | ⟨kvs,hx,e'⟩
  ·subst e';obtain⟨its,r,pl,hz⟩:=I.list hx;have hlen:=r.length;exact wpAny_truthy_list pl.isList (by simp only[List.size_toArray];omega) ⟨H,I.tok _,by rw[om r];exact q⟩
  ·subst e';obtain⟨its,r,pl,hz⟩:=I.tuple hx;have hlen:=r.length;exact truthy_tuple pl (by simp only[List.size_toArray];omega) ⟨H,I.tok _,by rw[om r];exact q⟩
  ·subst e';obtain⟨hz,hS,vs,r,m⟩:kvs.length<=sizeLine/\(p==sysModules)=false/\∃ vs,KV kvs vs/\s.heap.DictOf (sH X.prog X.w) p vs:=I.hok p _ hx;have hlen:kvs.length=vs.length:=Paired.length r;exact wpAny_truthy_dict hS m (by omega) ⟨H,I.tok _,by rw[vh r];exact q⟩
 |_=>exact (show False from e).elim
theorem AL (ha:PE X a ta)(he:∀ whole,isTrue a X.env whole=(do let v <- whole;standAt a.pos;holding [v] (truthy v))) :
  PT X a (fun σ H Q=>ta σ H fun x H'=>∃ k,FX X.K x H' k/\Q k H'):=by
 intro pins s σ H Q I h;exact isTrue_plain (dB (ha pins s σ H _ I h) fun v s1 ⟨x,H1,I1,r1,q1⟩=>Gb pins s1 σ H1 x v Q I1 r1 q1) (he _)
theorem vals1 {x:V}{us:List Value}(r:aR [x] us):∃ u,us=[u]/\RelV x u:=by
 cases r with
 |cons r1 r2=>cases r2;exact⟨_,rfl,r1⟩
end
end L2
namespace L2
open PySem PySem.Spec PyProof.Rows
structure ObjM (h:Heap)(x dx C:Addr)(mA:Str->Option Value):Prop where
 obj:h.get? x=some (PySem.W.instObj C dx)
 ns:h.Ns1 dx mA
 ne:dx≠x
section
variable {prog:Program}{w:World}{A:Around}{E:Value->Shared->Prop}{s:Shared}{K:PySem.W.Frag}{x dx C f:Addr}{mA:Str->Option Value}{name:Str}{v:Value}
end
section
variable {P:Program}{w:World}{H H':Hp}{h h':Heap}{a C dx:Addr}{fs fs':List (Str×V)}
end
structure Cls (K:PySem.W.Frag)(C:Addr):Prop where
 pg:PySem.W.plainGet K C Str.empty=true
 hd:PySem.W.hasDictIn K C=true
 po:PySem.W.plainOver K C=true
 sa:PySem.W.findIn K (.ref C) "__setattr__" = some (some (.builtin "object.__setattr__"))
structure Con (K:PySem.W.Frag)(C:Addr)(f:Str)(v:V)(u:Value):Prop where
 at_:PySem.W.findIn K (.ref C) f=some (some u)
 rel:RelV v u
 get:PySem.W.specialIn K u "__get__" = some none
 cp:PySem.W.copiedNames.contains f=false
structure Meth (K:PySem.W.Frag)(C:Addr)(m:Str)(f:Addr):Prop where
 at_:PySem.W.findIn K (.ref C) m=some (some (.ref f))
 fn:PySem.W.isFn K (.ref f)=true
 kp:PySem.W.keepIn K (.ref f)=true
section
variable {X:Cx}{pins:List (Addr×Obj)}{σ:St}{H:Hp}{s:Shared}{a C dx:Addr}{fs:List (Str×V)}{f:Str}{v:V}{A:Around}{E:Value->Shared->Prop}
end
section
variable {X:Cx}{o e value:Expr}{f:Str}{pos pos' tpos:Pos}{ta tv:TE}
end
section
variable {X:Cx}{pins:List (Addr×Obj)}{σ:St}{H:Hp}{s:Shared}{A:Around}{E:Value->Shared->Prop}{Q:Value->Shared->Prop}{c:Value}{b:Bool}
inductive nO (K:PySem.W.Frag) (H:Hp):V->Value->Prop where
 | non:nO K H .non (.type "NoneType")
 | bl (x:Bool):nO K H (.bl x) (.type "bool")
 | int (i:Int):nO K H (.int i) (.type "int")
 | str (x:Str):nO K H (.str x) (.type "str")
 | flt (x:UInt64):nO K H (.flt x) (.type "float")
 | lst {a:Addr}{xs:List V}(e:H a=some (.lst xs)):nO K H (.ref a) (.type "list")
 | frz {a:Addr}{o:Obj}{xs:List V}(e:H a=some (.frz o (.lst xs))):nO K H (.ref a) (.type "list")
 | tup {a:Addr}{xs:List V}(e:H a=some (.tup xs)):nO K H (.ref a) (.type "tuple")
 | dK {a:Addr}{kvs:List (Key×V)}(e:H a=some (.dK kvs)):nO K H (.ref a) (.type "dict")
 | dT {a:Addr}{kvs:List (List Key×V)}(e:H a=some (.dT kvs)):nO K H (.ref a) (.type "dict")
 | ins {a C dx:Addr}{fs:List (Str×V)}(e:H a=some (.ins C dx fs)) (cl:Cls K C) (ha:PySem.W.findIn K (.ref C) "__class__" = some (some (.builtin "object.__class__")))
   (hn:PySem.W.specialIn K (.builtin "object.__class__") "__get__" = some (some (.builtin "getset_descriptor.__get__"))) (htk:PySem.W.takesIn K (.builtin "object.__class__")=some true)
   (hm:PySem.W.mroIn K C (.type "object")=some true):nO K H (.ref a) (.ref C)
end
end L2
namespace L2
open PySem PySem.Spec PyProof.Rows
structure gS (k:Nat)(A:Around):Prop where
 hd:A.handled=none
 dp:A.depth+3*k+5<recursionLimit
 un:A.units+16*k+200<cLine
theorem gS.deeper {k:Nat}{A:Around}(r:gS (k+1) A)(env:Env):gS k (A.deeper env) :=
 ⟨r.hd,by have:=r.dp;show A.depth+1+3*k+5<_;omega,by have:=r.un;show A.units+3+16*k+200<_;omega⟩
theorem gS.depth {k:Nat}{A:Around}(r:gS k A):A.depth<recursionLimit:=by have:=r.dp;omega
theorem gS.units {k:Nat}{A:Around}(r:gS k A):A.units+64<cLine:=by have:=r.un;omega
def pJ:TA:=fun _ H Q=>Q [] H
def dI (ta:TE)(tr:TA):TA:=fun σ H Q=>ta σ H fun x H1=>tr σ H1 fun xs H2=>Q (x::xs) H2
section
variable {X:Cx}{e:Expr}{es:List Expr}{te:TE}{t:TA}{pos:Pos}
theorem fE:PA X [] pJ:=fun _ _ _ _ H Q I h=>Calls.spliced_nil ⟨[],H,I,.nil,h⟩
theorem aW (ha:PE X e te)(hr:PA X es t)(hs:starEach (e::es) X.env=(false,eval e X.env)::starEach es X.env:=by rfl):PA X (e::es) (dI te t):=by
 intro pos pins s σ H Q I h;rw[hs];show wpAny _ _ (spliced ((false,eval e X.env)::backTo pos (starEach es X.env))) _ _ s;refine Calls.spliced_cons (dB (ha pins s σ H _ I h) fun u s1 ⟨x,H1,I1,r1,q1⟩=>?_);exact dB (hr pos pins s1 σ H1 _ I1 q1) fun us s2 ⟨xs,H2,I2,r2,q2⟩=>⟨x::xs,H2,I2,.cons r1 r2,q2⟩
def IL (t:TA):TE:=fun σ H Q=>t σ H fun xs H1=>xs.length<=sizeLine/\∀ p,H1 p=none->Q (.ref p) (upd H1 p (.tup xs))
def tLst (t:TA):TE:=fun σ H Q=>t σ H fun xs H1=>xs.length<=sizeLine/\∀ p,H1 p=none->Q (.ref p) (upd H1 p (.lst xs))
theorem AG {x1}(h:PA X es t):PE X (.Tuple es x1 pos) (IL t):=by
 intro pins s σ H Q I hq;refine wpAny_Tuple_spliced (dB (h pos pins s σ H _ I hq) fun us s1 ⟨xs,H1,I1,r,z,q⟩=>⟨by rw[<-r.length];exact z,?_⟩);have hf:H1 s1.heap.objs.size=none:=I1.hok.fresh (au _);refine⟨.ref s1.heap.objs.size,upd H1 s1.heap.objs.size (.tup xs),I1.laid (t':=s1.toks) (fun b u e=>Heap.get?_push_of_some _ e) (au _) ?_,rfl,q _ hf⟩;exact⟨z,us,r,⟨_,Heap.get?_push_size _ rfl,rfl,_,rfl⟩⟩
theorem EF (h:PA X es t):PE X (.List es pos) (tLst t):=by
 intro pins s σ H Q I hq;refine wpAny_List_spliced (dB (h pos pins s σ H _ I hq) fun us s1 ⟨xs,H1,I1,r,z,q⟩=>⟨by rw[<-r.length];exact z,?_⟩);have hf:H1 s1.heap.objs.size=none:=I1.hok.fresh (au _);refine⟨.ref s1.heap.objs.size,upd H1 s1.heap.objs.size (.lst xs),I1.laid (t':=s1.toks) (fun b u e=>Heap.get?_push_of_some _ e) (au _) ?_,rfl,q _ hf⟩;exact⟨z,us,0,r,Heap.get?_push_size _ rfl⟩
end
abbrev Sp:=List V->Hp->VK->XK->Prop
abbrev sP:=List Env->Hp->Shared->XK->Value->Shared->Prop
structure yh (P:Program)(w:World)(K:PySem.W.Frag)(mg:Str->Option Value)(base:Heap)(A:Around)(outer:List Env)(s:Shared)(H:Hp):Prop where
 frames:A.frames=some outer
 mod:Mod K mg base
 bs:∀ b o,base.get? b=some o->s.heap.get? b=some o/\H b=none
 bsz:base.objs.size<=s.heap.objs.size
 funs:s.heap.FunFrames base outer
 frf:∀ b∈gT outer,H b=none
 hok:lh P w H s.heap
 bare:AllBare s.gens
def CE (outer:List Env)(P:Program)(w:World)(H:Hp)(s:Shared)(Q:VK)(u:Value)(s':Shared):Prop :=
 ∃ v H',s'.os=s.os/\AllBare s'.gens/\Un (gT outer) [] H H' s.heap s'.heap/\lh P w H' s'.heap/\RelV v u/\Q v H'
def CR (CX:sP)(outer:List Env)(P:Program)(w:World)(H:Hp)(s:Shared)(Q:VK)(E:XK)(r:Result)(s':Shared):Prop :=
 match r with
 | .ok (.ret u)=>CE outer P w H s Q u s'
 |.ok _=>False
 |.error e=>CX outer H s E e s'
structure lX (P:Program)(w:World)(K:PySem.W.Frag)(mg:Str->Option Value)(base:Heap)(CX:sP)(k:Nat)(f:Addr)(fd:FuncData)(ps:List Str)(sp:Sp):Prop where
 len:∀ vs H Q E,sp vs H Q E->vs.length=ps.length
 run:∀(A:Around) (outer:List Env) (s:Shared) (H:Hp) (args:Args) (us:List Value) (vs:List V) (Q:VK) (E:XK),gS k A->yh P w K mg base A outer s H->BindsTo s fd args (ps.zip us)->aR vs us->sp vs H Q E ->
  codeAny (model P w) A (.call (.ref f) args) (CR CX outer P w H s Q E) s
section
variable {X:Cx}{pins:List (Addr×Obj)}{σ:St}{H:Hp}{s s':Shared}
theorem Inv.env0 (I:Inv X pins σ H s):yh X.prog X.w X.K X.mg X.base X.A X.stack s H :=
 ⟨I.ok.frames,I.ok.mod,I.bs,br I.ok.bsz I.sz,I.stack,I.stkFree,I.hok,I.bare⟩
theorem Inv.after {Q:VK}{u:Value}(I:Inv X pins σ H s)(h:CE X.stack X.prog X.w H s Q u s'):EP X pins σ Q u s':=by
 obtain⟨v,H',os,bare,un,hok,r,q⟩:=h;obtain⟨hh,g,d,t,os'⟩:=s';obtain rfl:os'=s.os:=os;exact⟨v,H',I.call (h':=hh) (g':=g) (d':=d) (t':=t) (ch:=[]) un hok bare (fun b z=>absurd z (by simp)),r,q⟩
end
def Bi (sp:Sp)(dvs:List V)(E:XK)(t:TA):TE:=fun σ H Q=>t σ H fun vs H1=>sp (vs++dvs) H1 Q E
def Binds (K:PySem.W.Frag)(fd:FuncData)(ps:List Str)(ds:List Value):Prop :=
 ∀(s:Shared) (us:List Value),K.In s.heap->(us++ds).length=ps.length->BindsTo s fd ⟨us,[]⟩ (ps.zip (us++ds))
theorem Binds.all {K:PySem.W.Frag}{fd:FuncData}{ps:List Str}(h:∀ us:List Value,us.length=ps.length->bindArgs fd ⟨us,[]⟩=pure (ps.zip us)):Binds K fd ps []:=fun s us _ hl=>by
 rw[cg] at hl ⊢;exact .of_eq (h us hl)
def rX (CX:sP)(X:Cx)(E:XK):Prop:=∀(pins:List (Addr×Obj)) (σ:St) (H:Hp) (s:Shared) (e:Value) (s':Shared),Inv X pins σ H s->CX X.stack H s E e s'->X.xe e s'
section
variable {X:Cx}{CX:sP}{k:Nat}{f C:Addr}{fd:FuncData}{ps:List Str}{sp:Sp}{dvs:List V}{ds:List Value}{E:XK}{x m:Str}{p pos apos:Pos}{e o:Expr}{es:List Expr}{ta:TE}{t:TA}
theorem zy {pins:List (Addr×Obj)}{σ:St}{H:Hp}{s:Shared}{Q:VK}{us:List Value}{vs:List V}(F:lX X.prog X.w X.K X.mg X.base CX k f fd ps sp)(hr:gS k X.A)(hb:Binds X.K fd ps ds)(hd:aR dvs ds)(hx:rX CX X E)
  (I:Inv X pins σ H s) (r:aR vs us) (h:sp (vs++dvs) H Q E):wpAny (model X.prog X.w) X.A (call (.ref f) us) (EP X pins σ Q) X.xe s:=by
 have r2:aR (vs++dvs) (us++ds):=r.append hd;have hl:(us++ds).length=ps.length:=by rw[<-r2.length];exact F.len _ _ _ _ h
 refine wpAny_call (codeAny_mono (F.run X.A X.stack s H ⟨us,[]⟩ (us++ds) (vs++dvs) Q E hr I.env0 (hb s us I.kIn hl) r2 h) fun r s' hq=>?_);cases r with
 |error e=>exact hx pins σ H s e s' I hq
 |ok fl =>
  cases fl with
  |ret u=>exact I.after hq
  |next=>exact False.elim hq
  |brk=>exact False.elim hq
  |cont=>exact False.elim hq
theorem B1 (F:lX X.prog X.w X.K X.mg X.base CX k f fd ps sp)(hr:gS k X.A)(hg:Gl X x)(hm:X.mg x=some (.ref f))(hk:PySem.W.keepIn X.K (.ref f)=true)(hb:Binds X.K fd ps ds)(hd:aR dvs ds)(hx:rX CX X E)
  (ha:PA X (e::es) t) (hdb:(x==("__debug__" : Str))=false:=by decide) (he:starEach (e::es) X.env=(false,eval e X.env)::starEach es X.env:=by rfl) (hpl:(backTo pos (starEach es X.env)).any (·.1)=false:=by rfl) :
  PE X (.Call (.Name x p) (e::es) [] pos) (Bi sp dvs E t):=by
 intro pins s σ H Q I h;refine wpAny_Call_Name_kw (hU I hg hm ?_ hdb);refine i7 (h₀:=X.base) I.ok.mod.kin hk (dB (ha pos pins s σ H _ I h) fun us s1 ⟨vs,H1,I1,r,q⟩=>⟨I1.kIn,?_⟩) he hpl;exact zy F hr hb hd hx I1 r q
theorem y8 (F:lX X.prog X.w X.K X.mg X.base CX k f fd ps sp)(hr:gS k X.A)(hg:Gl X x)(hm:X.mg x=some (.ref f))(hk:PySem.W.keepIn X.K (.ref f)=true)(hb:Binds X.K fd ps ds)(hd:aR dvs ds)(hx:rX CX X E)
  (hdb:(x==("__debug__" : Str))=false:=by decide):PE X (.Call (.Name x p) [] [] pos) (Bi sp dvs E pJ):=by
 intro pins s σ H Q I h;refine wpAny_Call_Name_kw (hU I hg hm ?_ hdb);exact PySem.W.callWith_K0 I.kIn hk (zy (us:=[]) F hr hb hd hx I .nil h)
structure Mk (K:PySem.W.Frag)(C f:Addr):Prop where
 makes:PySem.W.makesIn K C=true
 init:PySem.W.findIn K (.ref C) "__init__" = some (some (.ref f))
 fn:PySem.W.isFn K (.ref f)=true
 kp:PySem.W.keepIn K (.ref C)=true
end
section
variable {X:Cx}{CX:sP}{k:Nat}{f C:Addr}{fd:FuncData}{ps ks:List Str}{sp:Sp}{E:XK}{x m:Str}{p pos apos kpos:Pos}{e o:Expr}{es:List Expr}{kws:List Keyword}{te ta:TE}{t tk:TA}{nm:Option Str}
structure KBinds (K:PySem.W.Frag)(fd:FuncData)(ps ks:List Str)(g:List Value->List Value->List Value)(gV:List V->List V->List V):Prop where
 to:∀(s:Shared) (us ws:List Value),K.In s.heap->(g us ws).length=ps.length->BindsTo s fd ⟨us,ks.zip ws⟩ (ps.zip (g us ws))
 rel:∀{vs:List V}{us:List Value}{zs:List V}{ws:List Value},aR vs us->aR zs ws->aR (gV vs zs) (g us ws)
variable {g:List Value->List Value->List Value}{gV:List V->List V->List V}
end
structure cL (N P:List Str)(sc:Scope):Prop where
 kind:sc.kind = .function
 co:sc.isCoroutine=false
 gen:sc.isGenerator=false
 nd:N.Nodup
 pre:N.take P.length=P
 par:∀ x∈P,sc.names.lookup x=some .local\/sc.names.lookup x=some .cell
 nofree:∀ y∈sc.names,y.2≠.free
theorem qm {kindOf:Str->Option NameKind}{x:Str}:∀{binds:List (Str×Value)}{m:Str->Option Value},(∀ v,(x,v)∉binds)->bindL kindOf binds m x=m x
 |[],_,_=>rfl
 | (n,v)::r,m,h=>by
  unfold bindL;rw[qm fun w hw=>h w (aa _ hw)];split
  ·have:x≠n:=by rintro rfl;exact h v ae
   simp[this]
  ·rfl
theorem qU {kindOf:Str->Option NameKind}{x:Str}:∀{binds:List (Str×Value)}{m:Str->Option Value},(∀ v,(x,v)∉binds)->bindC kindOf binds m x=m x
 |[],_,_=>rfl
 | (n,v)::r,m,h=>by
  unfold bindC;rw[qU fun w hw=>h w (aa _ hw)];split
  ·rfl
  ·have:x≠n:=by rintro rfl;exact h v ae
   simp[this]
theorem kj {kindOf:Str->Option NameKind}{x:Str}{v:Value}:∀{P:List Str}{vs:List Value}{i:Nat}{m:Str->Option Value},P.Nodup->P[i]? = some x->vs[i]? = some v->kindOf x=some .local ->
  bindL kindOf (P.zip vs) m x=some v
 |[],_,_,_,_,h,_,_=>by simp at h
 |_::_,[],_,_,_,_,h,_=>by simp at h
 | p::P,w::vs,0,m,nd,h1,h2,hk=>by
  simp at h1 h2;subst h1;subst h2;show bindL kindOf ((p,w)::P.zip vs) m p=_;unfold bindL;rw[qm fun v hv=>(jk.mp nd).1 (fw hv).1,if_pos hk];simp
 | p::P,w::vs,i+1,m,nd,h1,h2,hk=>by
  show bindL kindOf ((p,w)::P.zip vs) m x=_;unfold bindL;exact kj (i:=i) (List.nodup_cons.mp nd).2 (by simpa using h1) (by simpa using h2) hk
theorem rg {kindOf:Str->Option NameKind}{x:Str}{v:Value}:∀{P:List Str}{vs:List Value}{i:Nat}{m:Str->Option Value},P.Nodup->P[i]? = some x->vs[i]? = some v->kindOf x≠some .local ->
  bindC kindOf (P.zip vs) m x=some v
 |[],_,_,_,_,h,_,_=>by simp at h
 |_::_,[],_,_,_,_,h,_=>by simp at h
 | p::P,w::vs,0,m,nd,h1,h2,hk=>by
  simp at h1 h2;subst h1;subst h2;show bindC kindOf ((p,w)::P.zip vs) m p=_;unfold bindC;rw[qU fun v hv=>(jk.mp nd).1 (fw hv).1,if_neg hk];simp
 | p::P,w::vs,i+1,m,nd,h1,h2,hk=>by
  show bindC kindOf ((p,w)::P.zip vs) m x=_;unfold bindC;exact rg (i:=i) (List.nodup_cons.mp nd).2 (by simpa using h1) (by simpa using h2) hk
noncomputable def start (N:List Str)(vs:List V):St:=vs.map some++List.replicate (N.length - vs.length) none
noncomputable def eW (CX:sP)(P:Program)(w:World)(K:PySem.W.Frag)(mg:Str->Option Value)(base:Heap)(N:List Str)(qual:Str)(scope:Scope)(f:Addr)(cd:Value)(A:Around)(outer:List Env)(s:Shared)(H:Hp)(E:XK):Cx where
 prog:=P
 w:=w
 K:=K
 mg:=mg
 base:=base
 A:=A.deeper (envOfC qual scope s.heap.objs.size f cd)
 N:=N
 s₀:=s
 H₀:=H
 env:=envOfC qual scope s.heap.objs.size f cd
 outer:=outer
 stack:=envOfC qual scope s.heap.objs.size f cd::outer
 ex:=[]
 calm:=true
 fn:=fun _=>true
 pn:=[]
 xe:=fun e s'=>wpAny (model P w) (A.deeper (envOfC qual scope s.heap.objs.size f cd)) (leaving (envOfC qual scope s.heap.objs.size f cd) e) (fun _ s''=>CX outer H s E e s'') (fun e' s''=>CX outer H s E e' s'') s'
theorem sV {sc:Scope}{n:Nat}{x:Str}(h:sc.names.lookup x=some .cell):∃ c,(cellsFrom n sc.names []).lookup x=some c:=by
 have q:=ig sc.names n [] (.inl h);exact Option.isSome_iff_exists.mp q
theorem mw {CX:sP}{P:Program}{w:World}{K:PySem.W.Frag}{mg:Str->Option Value}{base:Heap}{N ps:List Str}{qual:Str}{scope:Scope}{f:Addr}{cd:Value}{A:Around}{outer:List Env}{s s1:Shared}{H:Hp}{E:XK}{us:List Value}{vs:List V}
  (S:cL N ps scope) (hd:A.handled=none) (e0:yh P w K mg base A outer s H) (hl:vs.length=ps.length) (r:aR vs us)
  (x:InCallC s s.heap.objs.size (bindL (envOfC qual scope s.heap.objs.size f cd).kindOf (ps.zip us) fun _=>none) (cellsFrom (s.heap.objs.size+1) scope.names []) (bindC (envOfC qual scope s.heap.objs.size f cd).kindOf (ps.zip us) fun _=>none) s1) :
  Inv (eW CX P w K mg base N qual scope f cd A outer s H E) [] (start N vs) H s1:=by
 have hpl:ps.length<=N.length:=by have:=iy List.length S.pre;rw[eu] at this;omega
 obtain⟨h1,tk,rfl,hk⟩:=x.done;have noA:∀ b:Addr,b∉(eW CX P w K mg base N qual scope f cd A outer s H E).ex:=fun b z=>absurd (show b∈([]:List Addr) from z) (by simp)
 refine⟨⟨e0.mod,S.kind,rfl,rfl,au _,fun y z c h1 h2=>?_,fun y hy=>?_,fun y c _ h=>?_,fun _=>hd,Around.frames_deeper e0.frames,.inr ⟨rfl,rfl⟩,fun b z=>absurd z (noA b),e0.bs,e0.bsz,fun b _ _=>noA b,fun b z=>absurd z (noA b),e0.funs,e0.frf⟩,
  rfl,e0.bare,Un.kept hk,⟨_,x.toInCall.ns,fun i y v h1 h2 h3=>?_⟩,fun y c h=>⟨_,x.cell y c h⟩,e0.hok.fresh (Nat.le_refl _),fun y c h=>?_,fun p hp=>absurd (show p∈([]:List (Addr×Obj)) from hp) (by simp),e0.hok.kept hk,?_⟩
 ·exact name_of_addr x.apart (cu h1) (cu h2)
 ·have hy:scope.names.lookup y=some .cell\/scope.names.lookup y=some .free:=hy;rcases hy with hy | hy
  ·exact sV hy
  ·exact absurd rfl (S.nofree _ (cu hy))
 ·exact ji (x.above y c (cu h))
 ·have hi:i<vs.length:=by
   unfold start at h2;by_cases hi:i<vs.length
   ·exact hi
   ·rw[List.getElem?_append_right (by simpa using hi)] at h2;rw[List.getElem?_replicate] at h2;split at h2<;>cases h2
  have ha:vs[i]? = some v:=by
   unfold start at h2;rw[List.getElem?_append_left (by simpa using hi),List.getElem?_map] at h2;cases e:vs[i]? with
   |none=>rw[e] at h2;cases h2
   |some a=>rw[e] at h2;cases h2;rfl
  obtain⟨u,hu,rv⟩:=r.get ha;have hp:ps[i]? = some y:=by
   rw[<-S.pre,List.getElem?_take_of_lt (by omega)];exact h1
  have ndP:ps.Nodup:=by rw[<-S.pre];exact S.nd.sublist (List.take_sublist _ _)
  refine⟨u,rv,?_⟩;rcases S.par y (List.mem_of_getElem? hp) with k | k
  ·exact .inl ⟨k,kj ndP hp hu k⟩
  ·obtain⟨c,e⟩:=sV (n:=s.heap.objs.size+1) k;refine .inr ⟨.inl k,c,e,?_⟩;have q:=x.cell y c e;rw[rg ndP hp hu (by show scope.names.lookup y≠_;rw[k];decide)] at q;exact q
 ·exact e0.hok.fresh (ji (x.above y c (cu h)))
 ·unfold start;show _=N.length;rw[df,aj,bc];omega
theorem HN {CX:sP}{P:Program}{w:World}{K:PySem.W.Frag}{mg:Str->Option Value}{base:Heap}{k:Nat}{f:Addr}{name qual:Str}{params:Arguments}{body:List Stmt}{scope:Scope}{dV kV doc pm cdv ct oc:Value}{an od:Option Addr}
  {osl:Array (Option Value)}{N ps:List Str}{sp:Sp}(lk:K.lookup f=some ⟨oc,od,.func (PySem.W.fnOf name qual params body scope dV kV doc pm an cdv ct),osl⟩) (hcd:PySem.W.codeIn K cdv qual=true) (S:cL N ps scope)
  (len:∀ vs H Q E,sp vs H Q E->vs.length=ps.length)
  (hbody:∀(A:Around) (outer:List Env) (s:Shared) (H:Hp) (vs:List V) (Q:VK) (E:XK),gS k (A.deeper (envOfC qual scope s.heap.objs.size f cdv))->sp vs H Q E ->
   ∃ t,j6 (eW CX P w K mg base N qual scope f cdv A outer s H E) body t/\t {nx:=fun _ H'=>Q .non H',rt:=Q} (start N vs) H) :
  lX P w K mg base CX (k+1) f (PySem.W.fnOf name qual params body scope dV kV doc pm an cdv ct) ps sp:=by
 refine⟨len,fun A outer s H args us vs Q E hr e0 hb r hsp=>?_⟩;have hl:=len _ _ _ _ hsp;have KX:K.In s.heap:=e0.mod.kin.keeps fun b o e=>(e0.bs b o e).1
 have lim:s.heap.NoLimit:=e0.mod.nolimit.keeps fun b o e=>(e0.bs b o e).1
 have hkind:∀ y∈ps.zip us,scope.names.lookup y.1=some .local\/(scope.names.lookup y.1=some .cell/\((cellsFrom (s.heap.objs.size+1) scope.names []).lookup y.1).isSome=true):=fun ⟨n,v⟩ hy=>by
  rcases S.par n (fw hy).1 with q | q
  ·exact .inl q
  ·exact .inr ⟨q,ig _ _ _ (.inl q)⟩
 refine codeAny_call_function hr.depth (KX _ _ lk) rfl S.co S.gen rfl (i5 KX hcd) (hb _ _ _ _ ?_);refine wpAny_newFunctionEnv_cells S.kind hkind fun env he s1 x=>?_
 subst he;refine⟨lim.keeps x.toInCall.keep,codeAny_func ?_⟩;obtain⟨t,ht,hq⟩:=hbody A outer s H vs Q E (hr.deeper _) hsp;have I:Inv (eW CX P w K mg base N qual scope f cdv A outer s H E) [] (start N vs) H s1:=mw S hr.hd e0 hl r x;refine wpAny_mono (ht [] s1 (start N vs) H _ I hq) (fun fl s' hs=>?_) fun e s' hs=>hs
 have fin:∀{σ':St}{H':Hp}{v:V}{u:Value},Inv (eW CX P w K mg base N qual scope f cdv A outer s H E) [] σ' H' s'->RelV v u->Q v H'->CE outer P w H s Q u s' :=
  fun {σ' H' v u} J rv q=>⟨v,H',J.os,J.bare,J.base,J.hok,rv,q⟩
 cases fl with
 |ret u =>
  obtain⟨v,σ',H',J,rv,q⟩:=hs;exact fin J rv q
 |next =>
  obtain⟨σ',H',J,q⟩:=hs;exact fin (v:=V.non) (u:=Value.none) J rfl q
 |brk =>
  obtain⟨_,_,_,q⟩:=hs;exact False.elim q
 |cont =>
  obtain⟨_,_,_,q⟩:=hs;exact False.elim q
end L2
namespace L2
open PySem PySem.Spec PyProof.Rows
section
variable {X:Cx}{x:Str}{p pos:Pos}{e:Expr}{es:List Expr}{t:TA}{id T:String}{r:List V->Hp->VK->Prop}
def E9 (r:List V->Hp->VK->Prop)(t:TA):TE:=fun σ H Q=>t σ H fun vs H1=>r vs H1 Q
theorem gF (hc:jK X (.builtin id) r)(hg:Gl X x)(hm:X.mg x=none)(hv:bootBuiltins x=some (.builtin id))(ha:PA X (e::es) t)(hn:x≠"__name__":=by decide) (hdb:(x==("__debug__" : Str))=false:=by decide)
  (he:starEach (e::es) X.env=(false,eval e X.env)::starEach es X.env:=by rfl) (hpl:(backTo pos (starEach es X.env)).any (·.1)=false:=by rfl):PE X (.Call (.Name x p) (e::es) [] pos) (E9 r t):=by
 intro pins s σ H Q I h;refine wpAny_Call_Name_kw (j7 I hg hm hv ?_ hn hdb);exact PyProof.Rows.callWith_builtin1 (dB (ha pos pins s σ H _ I h) fun us s1 ⟨vs,H1,I1,r1,q1⟩=>hc pins s1 σ H1 vs us Q I1 r1 q1) he hpl
theorem xS (hc:jK X (.type T) r)(hg:Gl X x)(hm:X.mg x=none)(hv:bootBuiltins x=some (.type T))(ha:PA X (e::es) t)(hn:x≠"__name__":=by decide) (hdb:(x==("__debug__" : Str))=false:=by decide)
  (he:starEach (e::es) X.env=(false,eval e X.env)::starEach es X.env:=by rfl) (hpl:(backTo pos (starEach es X.env)).any (·.1)=false:=by rfl):PE X (.Call (.Name x p) (e::es) [] pos) (E9 r t):=by
 intro pins s σ H Q I h;refine wpAny_Call_Name_kw (j7 I hg hm hv ?_ hn hdb);exact dr (dB (ha pos pins s σ H _ I h) fun us s1 ⟨vs,H1,I1,r1,q1⟩=>hc pins s1 σ H1 vs us Q I1 r1 q1) he hpl
end
end L2
namespace HT
open PySem PyProof.Rows
section
open PySem.SeqAt
open PySem.AutoSeq1 (wpAny_loadPart')
open PySem.MeetsSeq PySem.MeetsSeq2 PySem.MeetsSeq3
end
section
variable {prog:Program}{w:World}{A:Around}{E:Value->Shared->Prop}{s:Shared}
noncomputable def cP (n d:Nat):Option Int->Nat
 |none=>d
 |some v=>if v<0 then (v+(n:Int)).toNat else min v.toNat n
theorem rj (n d:Nat)(hd:d<=n)(o:Option Int):cP n d o<=n:=by
 cases o with
 |none=>exact hd
 |some v =>
  show (if v<0 then (v+(n:Int)).toNat else min v.toNat n)<=n;by_cases hv:v<0
  ·rw[if_pos hv];omega
  ·rw[if_neg hv];exact je _ _
theorem wu (v:Int)(n d:Nat):(if v<0 then max (v+(n:Int)) 0 else min v (n:Int))=((cP n d (some v):Nat):Int):=by
 show (if v<0 then max (v+(n:Int)) 0 else min v (n:Int))=(((if v<0 then (v+(n:Int)).toNat else min v.toNat n):Nat):Int);by_cases hv:v<0
 ·simp only[if_pos hv];omega
 ·simp only[if_neg hv];omega
theorem vb (lo hi:Option Int)(n:Nat):Builtin.Slice.sliceAdjust lo hi 1 (n:Int)=(((cP n 0 lo:Nat):Int),((cP n n hi:Nat):Int)):=by
 have h1:¬ ((1:Int)<0):=by omega
 unfold Builtin.Slice.sliceAdjust;simp only[h1,if_false];refine Prod.ext ?_ ?_
 ·cases lo with
  |none=>rfl
  |some v=>exact wu v n 0
 ·cases hi with
  |none=>rfl
  |some v=>exact wu v n n
theorem vM (i j:Nat):Builtin.Slice.slicePlaces (i:Int) (j:Int) 1=j - i:=by
 unfold Builtin.Slice.slicePlaces;have h1:(1:Int) > 0:=by omega
 simp only[h1,if_true,Int.ediv_one];split<;>omega
theorem n0 {v:Value}{o:Option Int}{Q:Option Int->Shared->Prop}(p:IsPart v o)(h:Q o s):wpAny (model prog w) A (Builtin.Slice.slicePartIndex v) Q E s:=by
 cases p with
 |none=>exact slicePart_none h
 |int i t=>exact slicePart_int h
theorem mO {sl:Addr}{vl vu:Value}{lo hi:Option Int}{n:Nat}{Q:Int×Int×Nat->Shared->Prop}(hs:s.heap.IsSliceOf sl vl vu .none)(pl:IsPart vl lo)(pu:IsPart vu hi)
  (h:Q (((cP n 0 lo:Nat):Int),1,cP n n hi - cP n 0 lo) s):wpAny (model prog w) A (Builtin.Slice.sliceApplied (.ref sl) (pure (n:Int))) Q E s:=by
 obtain⟨os,hos,hcs,hds⟩:=id hs;unfold Builtin.Slice.sliceApplied Builtin.Slice.sliceFields;refine wpAny_bind (wpAny_bind (wpAny_field hos hds (x:=vl) rfl (wpAny_bind (wpAny_field hos hds (x:=vu) rfl (wpAny_bind (wpAny_field hos hds (x:=.none) rfl (wpAny_pure ?_)))))));refine wpAny_bind (slicePart_none ?_);show wpAny _ _ (if ((1:Int)==0)=true then _ else _) _ _ s;rw[if_neg (by decide)];refine wpAny_bind (n0 pl (wpAny_bind (n0 pu (wpAny_bind (wpAny_pure ?_)))));show wpAny _ _ (match Builtin.Slice.sliceAdjust lo hi 1 (n:Int) with | (lo,hi)=>pure (lo,(1:Int),Builtin.Slice.slicePlaces lo hi 1)) _ _ s;rw[vb lo hi n];show wpAny _ _ (pure (((cP n 0 lo:Nat):Int),(1:Int),Builtin.Slice.slicePlaces ((cP n 0 lo:Nat):Int) ((cP n n hi:Nat):Int) 1)) _ _ s;rw[vM];exact wpAny_pure h
theorem zh (xs:Array Value)(i k:Nat):((List.range k).filterMap fun (m:Nat)=>xs[((i:Int)+(m:Int)*1).toNat]?).toArray=((xs.toList.drop i).take k).toArray:=by
 have e:(fun (m:Nat)=>xs[((i:Int)+(m:Int)*1).toNat]?)=fun m=>xs[i+m]?:=by
  funext m;have:((i:Int)+(m:Int)*1).toNat=i+m:=by omega
  rw[this]
 rw[e];have:=pick_run xs i k;rw[List.filterMap_map] at this;have e2:((fun x=>xs[x]?)∘fun x=>i+x)=fun m=>xs[i+m]?:=rfl
 rw[e2] at this;rw[this]
theorem lZ {t sl:Addr}{items:Array Value}{vl vu:Value}{lo hi:Option Int}{Q:Value->Shared->Prop}(ht:IsTup s.heap t items)(hs:s.heap.IsSliceOf sl vl vu .none)(pl:IsPart vl lo)(pu:IsPart vu hi)
  (hw:¬ (cP items.size 0 lo=0/\cP items.size items.size hi=items.size))
  (h:Q (.ref s.heap.objs.size) {s with heap:=s.heap.push {cls:=.type "tuple",data:=.seq ((items.toList.drop (cP items.size 0 lo)).take (cP items.size items.size hi - cP items.size 0 lo)).toArray}})
  (hsz:items.size<=sizeLine):wpAny (model prog w) A (getItem (.ref t) (.ref sl)) Q E s:=by
 have htake:sizeOk (.seq ((items.toList.drop (cP items.size 0 lo)).take (cP items.size items.size hi - cP items.size 0 lo)).toArray):=by
  show ((items.toList.drop (cP items.size 0 lo)).take (cP items.size items.size hi - cP items.size 0 lo)).toArray.size<=sizeLine;rw[ao,eu,gi,Array.length_toList];omega
 have hj:cP items.size items.size hi<=items.size:=rj _ _ (au _) hi;obtain⟨os,hos,hcs,hds⟩:=id hs;have hTs:s.TypeIs (.ref sl) "slice":=⟨os,hos,hcs⟩;unfold getItem
 try with_reducible refine wpAny_holding ?_
 first | refine wpAny_bind (wpAny_pure ?_) | skip
 refine wpAny_bind (wpAny_sequenceKey ht.typeIs (by decide) ?_);refine wpAny_bind (wpAny_callSpecial?_slot (name:=Str.ofString "__getitem__") ht.typeIs PyProof.Rows.slot_tuple_getitem
  (wpAny_call_entry PyProof.Rows.slot_tuple_getitem ht.typeIs entry_tuple_getitem ?_ (args_tuple_getitem _ _)))
 show wpAny _ _ (Builtin.Tuple.tupleItemsOf (.ref t) >>= _) _ _ s;refine wpAny_bind (tupleItemsOf_ ht ?_);refine wpAny_bind (wpAny_typeOf hTs ?_);rw[if_pos (by decide)];refine wpAny_bind (mO hs pl pu ?_);have hno:¬ ((((cP items.size 0 lo:Nat):Int)==0&&(1:Int)==1&&(cP items.size items.size hi - cP items.size 0 lo)==items.size)=true):=by
  intro q;rw[ai,ai] at q;have q1:((cP items.size 0 lo:Nat):Int)=0:=eq_of_beq q.1.1;have q2:cP items.size items.size hi - cP items.size 0 lo=items.size:=eq_of_beq q.2;exact hw ⟨by omega,by omega⟩
 show wpAny _ _ (if (((cP items.size 0 lo:Nat):Int)==0&&(1:Int)==1&&(cP items.size items.size hi - cP items.size 0 lo)==items.size)=true then _ else _) _ _ s;rw[if_neg hno,zh]
 first
  | exact wpAny_bind (m:=Builtin.Tuple.tupleExact _) (wpAny_newObj_type (wpAny_pure ⟨_,rfl,wpAny_pure h⟩) htake)
  | exact wpAny_bind (m:=Builtin.Tuple.tupleExact _) (wpAny_newObj_type (wpAny_bind (wpAny_pure (wpAny_pure ⟨_,rfl,wpAny_pure h⟩))) htake)
  | exact wpAny_bind (wpAny_bind (m:=Builtin.Tuple.tupleExact _) (wpAny_newObj_type (wpAny_pure (wpAny_pure ⟨_,rfl,wpAny_pure h⟩)) htake))
  | exact wpAny_bind (wpAny_bind (m:=Builtin.Tuple.tupleExact _) (wpAny_newObj_type (wpAny_pure ⟨_,rfl,wpAny_pure h⟩) htake))
end
end HT
namespace L2
open PySem PySem.Spec PyProof.Rows
abbrev TO:=St->Hp->(Option Int->Hp->Prop)->Prop
def PO (X:Cx)(e:Option Expr)(t:TO):Prop :=
 ∀(pins:List (Addr×Obj)) (s:Shared) (σ:St) (H:Hp) (Q:Option Int->Hp->Prop),Inv X pins σ H s->t σ H Q ->
  wpAny (model X.prog X.w) X.A (evalPart e X.env) (fun u s'=>∃ o H',Inv X pins σ H' s'/\IsPart u o/\Q o H') X.xe s
noncomputable def De:TO:=fun _ H Q=>Q none H
noncomputable def IT (t:TE):TO:=fun σ H Q=>t σ H fun x H1=>∃ i,x = .int i/\Q (some i) H1
section
variable {X:Cx}{e:Expr}{te:TE}{lo hi:Option Expr}{tl th:TO}{pos p2:Pos}
theorem CV:PO X none De:=by
 intro pins s σ H Q I h;rw[evalPart_none];exact wpAny_pure ⟨none,H,I,.none,h⟩
theorem C5 (h:PE X e te):PO X (some e) (IT te):=by
 intro pins s σ H Q I hw;rw[evalPart_some];refine dB (h pins s σ H _ I hw) fun u s1 ⟨x,H1,I1,r1,q1⟩=>?_
 obtain⟨i,rfl,q⟩:=q1;obtain⟨t,rfl⟩:=r1;exact⟨some i,H1,I1,.int i t,q⟩
def DE (X:Cx)(r:V->Option Int->Option Int->Hp->VK->Prop):Prop :=
 ∀(pins:List (Addr×Obj)) (s:Shared) (σ:St) (H:Hp) (x:V) (v vl vu:Value) (lo hi:Option Int) (sl:Addr) (Q:VK),Inv X pins σ H s->RelV x v->s.heap.IsSliceOf sl vl vu .none->IsPart vl lo->IsPart vu hi->r x lo hi H Q ->
  ∃ T id,typeLookup (.type T) "__getitem__" = pure (some (.builtin id))/\s.TypeIs v T/\wpAny (model X.prog X.w) X.A (getItem v (.ref sl)) (EP X pins σ Q) X.xe s
theorem DE.or {r r':V->Option Int->Option Int->Hp->VK->Prop}(h:DE X r)(h':DE X r'):DE X (fun x lo hi H Q=>r x lo hi H Q\/r' x lo hi H Q):=by
 intro pins s σ H x v vl vu lo hi sl Q I rx hs pl pu q;rcases q with q | q
 ·exact h pins s σ H x v vl vu lo hi sl Q I rx hs pl pu q
 ·exact h' pins s σ H x v vl vu lo hi sl Q I rx hs pl pu q
def tSl (r:V->Option Int->Option Int->Hp->VK->Prop)(te:TE)(tl th:TO):TE:=fun σ H Q=>te σ H fun x H1=>tl σ H1 fun l H2=>th σ H2 fun u H3=>r x l u H3 Q
theorem A5 {r:V->Option Int->Option Int->Hp->VK->Prop}(hr:DE X r)(he:PE X e te)(hl:PO X lo tl)(hu:PO X hi th):PE X (.Subscript e (.Slice lo hi none p2) pos) (tSl r te tl th):=by
 intro pins s σ H Q I h;refine Subscript_ (dB (he pins s σ H _ I h) fun v s1 ⟨x,H1,I1,r1,q1⟩=>?_);refine wpAny_Slice (dB (hl pins s1 σ H1 _ I1 q1) fun vl s2 ⟨l,H2,I2,pl,q2⟩=>dB (hu pins s2 σ H2 _ I2 q2) fun vu s3 ⟨u,H3,I3,pu,q3⟩=>?_);rw[evalPart_none];refine wpAny_pure ?_;have I4:Inv X pins σ H3 {s3 with heap:=s3.heap.push {cls:=.type "slice",data:=.fields #[vl,vu,.none]}}:=I3.kept (t':=s3.toks) fun b ob q=>Heap.get?_push_of_some _ q
 obtain⟨T,id,hT,ht,hg⟩:=hr pins {s3 with heap:=s3.heap.push {cls:=.type "slice",data:=.fields #[vl,vu,.none]}} σ H3 x v vl vu l u s3.heap.objs.size Q I4 r1 (Heap.IsSliceOf.new ..) pl pu q3;show wpAny (model X.prog X.w) X.A (subscriptTail e (.Slice lo hi none p2) v (.ref s3.heap.objs.size)) (EP X pins σ Q) X.xe {s3 with heap:=s3.heap.push {cls:=.type "slice",data:=.fields #[vl,vu,.none]}};exact tail_any (ops:=[.ref s3.heap.objs.size,v]) ht hT hg (by with_unfolding_all rfl)
noncomputable def ud (xs:List V)(lo hi:Option Int):List V:=(xs.drop (HT.cP xs.length 0 lo)).take (HT.cP xs.length xs.length hi - HT.cP xs.length 0 lo)
theorem m4 (xs:List V)(lo hi:Option Int):(ud xs lo hi).length<=xs.length:=by
 unfold ud;rw[eu,gi];omega
def rSlT (K:PySem.W.Frag):V->Option Int->Option Int->Hp->VK->Prop:=fun x lo hi H Q=>∃ a xs,x = .ref a/\sQ K H a xs /\
 ¬ (HT.cP xs.length 0 lo=0/\HT.cP xs.length xs.length hi=xs.length)/\∀ p,H p=none->Q (.ref p) (upd H p (.tup (ud xs lo hi)))
theorem GD:DE X (rSlT X.K):=by
 intro pins s σ H x v vl vu lo hi sl Q I rx hs pl pu h;obtain⟨a,xs,rfl,hx,hw,q⟩:=h;cases rx;obtain⟨its,r,ht,hz⟩:=I.tuple hx;have hlen:its.toArray.size=xs.length:=by rw[ao];exact r.length.symm
 refine⟨"tuple",_,PyProof.Rows.slot_tuple_getitem.lookup,ht.typeIs,?_⟩;refine HT.lZ ht hs pl pu (by rw[hlen];exact hw) ?_ (by rw[hlen];exact hz);rw[hlen];refine⟨.ref s.heap.objs.size,_,I.laid (t':=s.toks) (o:=.tup (ud xs lo hi)) (fun b ob q=>Heap.get?_push_of_some _ q) (au _) ?_,rfl,q _ (I.hok.fresh (au _))⟩;exact⟨br (m4 xs lo hi) hz,_,(r.drop (HT.cP xs.length 0 lo)).take (HT.cP xs.length xs.length hi - HT.cP xs.length 0 lo),IsTup.new _ _⟩
end
end L2
namespace L2
open PySem PySem.Spec PyProof.Rows
noncomputable def nt (n:Nat)(i:Int):Option Nat:=if 0<=i then (if i<n then some i.toNat else none) else if -(n:Int)<=i then some (i+n).toNat else none
noncomputable def G8 {α:Type}(xs:List α)(i:Int):Option α:=(nt xs.length i).bind fun j=>xs[j]?
theorem xj {n:Nat}{i:Int}{j:Nat}(h:nt n i=some j):seqIndex? i n=some j/\j<n/\-(n:Int)<=i/\i<n:=by
 unfold nt at h;by_cases h0:0<=i
 ·rw[if_pos h0] at h;by_cases h1:i<n
  ·rw[if_pos h1] at h;have e:i.toNat=j:=dh h;exact⟨by rw[seqIndex_of h0 h1,e],by omega,by omega,h1⟩
  ·rw[if_neg h1] at h;cases h
 ·rw[if_neg h0] at h;by_cases h1 : -(n:Int)<=i
  ·rw[if_pos h1] at h;have e:(i+n).toNat=j:=dh h;exact⟨by rw[seqIndex_neg (by omega) h1,e],by omega,h1,by omega⟩
  ·rw[if_neg h1] at h;cases h
theorem wN {α:Type}{xs:List α}{i:Int}{v:α}(h:G8 xs i=some v):∃ j,seqIndex? i xs.length=some j/\xs[j]? = some v/\j<xs.length/\-(xs.length:Int)<=i/\i<xs.length:=by
 unfold G8 at h;cases e:nt xs.length i with
 |none=>rw[e] at h;cases h
 |some j =>
  rw[e] at h;obtain⟨h1,h2,h3,h4⟩:=xj e;exact⟨j,h1,h,h2,h3,h4⟩
def rC (b:Expr):Prop:=∀ o i,subscripted b false o i=operate [o,i] (getItem o i)
def HC (X:Cx)(r:R2):Prop :=
 ∀(value slice:Expr) (pins:List (Addr×Obj)) (s:Shared) (σ:St) (H:Hp) (x y:V) (v u:Value) (Q:VK),Inv X pins σ H s->RelV x v->RelV y u->r x y H Q ->
  subscripted slice false v u=operate [v,u] (getItem v u)->wpAny (model X.prog X.w) X.A (subscriptTail value slice v u) (EP X pins σ Q) X.xe s
def MtR (X:Cx)(id:String)(r:V->List V->Hp->VK->Prop):Prop :=
 ∀(pins:List (Addr×Obj)) (s:Shared) (σ:St) (H:Hp) (x:V) (xs:List V) (v:Value) (us:List Value) (Q:VK),Inv X pins σ H s->RelV x v->aR xs us->r x xs H Q ->
  wpAny (model X.prog X.w) X.A (call (.builtin id) (v::us)) (EP X pins σ Q) X.xe s
section
variable {X:Cx}{a b:Expr}{ta tb:TE}{pos:Pos}
theorem IQ {r:R2}(hr:HC X r)(ha:PE X a ta)(hb:PE X b tb)(hs:rC b):PE X (.Subscript a b pos) (Hv r ta tb):=by
 intro pins s σ H Q I h;exact Subscript_ (F5 ha hb I h fun v u s2 x y H2 I2 rx ry q=>hr a b pins s2 σ H2 x y v u Q I2 rx ry q (hs _ _))
def rIxL (K:PySem.W.Frag):R2:=fun x y H Q=>∃ p xs i v,x = .ref p/\y = .int i/\mo K H p xs/\G8 xs i=some v/\Q v H
def rIxT (K:PySem.W.Frag):R2:=fun x y H Q=>∃ p xs i v,x = .ref p/\y = .int i/\sQ K H p xs/\G8 xs i=some v/\Q v H
theorem BN:HC X (rIxL X.K):=by
 intro value slice pins s σ H x y v u Q I rx ry h hs;obtain⟨p,xs,i,z,rfl,rfl,hq,he,q⟩:=h;cases rx;obtain⟨t,rfl⟩:=ry;obtain⟨its,r,pl,hz⟩:=I.list hq;obtain⟨j,h1,h2,h3,h4,h5⟩:=wN he;obtain⟨w,ew,eY⟩:=r.get h2;have hl:=r.length;have hn:=oS;have fin:EP X pins σ Q w s:=⟨z,H,I,eY,q⟩;by_cases h0:0<=i
 ·have hj:i.toNat=j:=by
   rw[seqIndex_of h0 h5] at h1;exact dh h1
  exact item_listR pl.isList h0 (by omega) (by rw[hj];simpa using ew) fin hs
 ·have hj:(i+(its.toArray.size:Int)).toNat=j:=by
   rw[seqIndex_neg (by omega) h4] at h1;rw[ao,<-hl];exact dh h1
  exact subscriptTail_builtinR (x:=w) pl.isList.typeIs slot_list_getitem.lookup
   (wpAny_getItem_list_neg (Q:=fun r s'=>r=w/\EP X pins σ Q r s') pl.isList (by omega) (by rw[List.size_toArray]<;>omega) (by omega) (by rw[hj];simpa using ew) ⟨rfl,fin⟩) hs
theorem GX:HC X (rIxT X.K):=by
 intro value slice pins s σ H x y v u Q I rx ry h hs;obtain⟨p,xs,i,z,rfl,rfl,hq,he,q⟩:=h;cases rx;obtain⟨t,rfl⟩:=ry;obtain⟨its,r,pl,hz⟩:=I.tuple hq;obtain⟨j,h1,h2,h3,h4,h5⟩:=wN he;obtain⟨w,ew,eY⟩:=r.get h2;have hl:=r.length;have hn:=oS;have fin:EP X pins σ Q w s:=⟨z,H,I,eY,q⟩;exact subscriptTail_builtinR (x:=w) pl.typeIs slot_tuple_getitem.lookup
  (getItem_tuple (j:=j) (Q:=fun r s'=>r=w/\EP X pins σ Q r s') pl (by omega) (by omega) (by rw[List.size_toArray,<-hl];exact h1) (by simpa using ew) ⟨rfl,fin⟩) hs
theorem vd (its:List Value)(n j:Nat)(u:Value):Obj.mapSeq (·.setIfInBounds j u) {cls:=.type "list",data:=.seq its.toArray n}={cls:=.type "list",data:=.seq (its.set j u).toArray n}:=by
 simp[Obj.mapSeq]
theorem Inv.lst {pins:List (Addr×Obj)}{σ:St}{H:Hp}{s:Shared}{p:Addr}{xs:List V}(I:Inv X pins σ H s)(h:H p=some (.lst xs)) :
  ∃(its:List Value) (n:Nat),aR xs its/\s.heap.get? p=some {cls:=.type "list",data:=.seq its.toArray n}/\xs.length<=sizeLine:=by
 obtain⟨z,its,n,r,e⟩:=I.hok p _ h;exact⟨its,n,r,e,z⟩
theorem Inv.lstUpd {pins:List (Addr×Obj)}{σ:St}{H:Hp}{s:Shared}{p:Addr}{xs ys:List V}{its its':List Value}{n n':Nat}{f:Obj->Obj}(I:Inv X pins σ H s)(h:H p=some (.lst xs))
  (ho:s.heap.get? p=some {cls:=.type "list",data:=.seq its.toArray n}) (hf:f {cls:=.type "list",data:=.seq its.toArray n}={cls:=.type "list",data:=.seq its'.toArray n'}) (r:aR ys its') (hz:ys.length<=sizeLine) (t:Nat) :
  Inv X pins σ (upd H p (.lst ys)) {s with heap:=s.heap.update p f,toks:=t}:=by
 have e:(s.heap.update p f).get? p=some {cls:=.type "list",data:=.seq its'.toArray n'}:=by
  rw[Heap.get?_update_self f ho (by rw[hf]<;>rfl),hf]
 refine I.write (x:=p) (e:=p) (by rw[h];trivial) (.inl rfl) (fun b u hb q=>(Heap.get?_update_other _ _ (cm hb)).trans q) ⟨_,e⟩ ?_;exact⟨hz,its',n',r,e⟩
def DO:V->V->V->Hp->(Hp->Prop)->Prop:=fun o i v H Q=>∃ p xs k j,o = .ref p/\i = .int k/\H p=some (.lst xs)/\nt xs.length k=some j/\Q (upd H p (.lst (xs.set j v)))
theorem set_list:Io X DO:=by
 intro pins s σ H o i v ov iv u Q I ro ri rv h;obtain⟨p,xs,k,j,rfl,rfl,hp,hj,q⟩:=h;cases ro;obtain⟨t,rfl⟩:=ri;obtain⟨its,n,r,ho,hz⟩:=I.lst hp;obtain⟨h1,h2,h3,h4⟩:=xj hj;have hl:=r.length;have hn:=oS;have I':Inv X pins σ (upd H p (.lst (xs.set j v))) {s with heap:=s.heap.update p (Obj.mapSeq (·.setIfInBounds j u))} :=
  I.lstUpd hp ho (vd its n j u) (r.set rv j) (by rw[aq];exact hz) s.toks
 by_cases h0:0<=k
 ·have hk:k.toNat=j:=by
   rw[seqIndex_of h0 h4] at h1;exact dh h1
  exact PySem.W.ki_setAt ho h0 (by omega) (by rw[ao,<-hl];exact h4) (by rw[hk];exact⟨_,I',q⟩)
 ·have hk:(k+(its.toArray.size:Int)).toNat=j:=by
   rw[seqIndex_neg (by omega) h3] at h1;rw[ao,<-hl];exact dh h1
  exact PySem.W.ki_setBack ho (by omega) (by rw[ao,<-hl];exact h3) (by omega) (by rw[hk];exact⟨_,I',q⟩)
theorem rL (lo hi:Option Int)(n:Nat):(sliceBounds lo hi none n).1=((HT.cP n 0 lo:Nat):Int)/\(sliceBounds lo hi none n).2.1=((HT.cP n n hi:Nat):Int)/\(sliceBounds lo hi none n).2.2=1:=by
 refine⟨?_,?_,rfl⟩
 ·cases lo with
  |none=>simp[sliceBounds,HT.cP]
  |some i =>
   simp only[sliceBounds,HT.cP,Option.getD_none,show (1:Int) > 0 by decide,if_true];by_cases h:i<0
   ·simp only[h,if_true]<;>omega
   ·simp only[h,if_false]<;>omega
 ·cases hi with
  |none=>simp[sliceBounds,HT.cP]
  |some i =>
   simp only[sliceBounds,HT.cP,Option.getD_none,show (1:Int) > 0 by decide,if_true];by_cases h:i<0
   ·simp only[h,if_true]<;>omega
   ·simp only[h,if_false]<;>omega
theorem pF (its:List Value)(lo hi:Option Int):slicePick its.toArray lo hi none=((its.drop (HT.cP its.length 0 lo)).take (HT.cP its.length its.length hi - HT.cP its.length 0 lo)).toArray:=by
 obtain⟨h1,h2,h3⟩:=rL lo hi its.toArray.size;unfold slicePick;rw[h1,h2,h3];simp only[sliceRange_one,pick_run,List.size_toArray]<;>rfl
def rSlL (K:PySem.W.Frag):V->Option Int->Option Int->Hp->VK->Prop:=fun x lo hi H Q=>∃ a xs,x = .ref a/\mo K H a xs/\∀ p,H p=none->Q (.ref p) (upd H p (.lst (ud xs lo hi)))
theorem BL:DE X (rSlL X.K):=by
 intro pins s σ H x v vl vu lo hi sl Q I rx hs pl pu h;obtain⟨a,xs,rfl,hx,q⟩:=h;cases rx;obtain⟨its,r,ht,hz⟩:=I.list hx;have hlen:=r.length;refine⟨"list",_,slot_list_getitem.lookup,ht.isList.typeIs,?_⟩;refine wpAny_getItem_list_slice ht.isList hs pl pu .none (by simp) ?_ (by rw[List.size_toArray]<;>omega);rw[pF,<-hlen];refine⟨.ref s.heap.objs.size,_,I.laid (t':=s.toks) (o:=.lst (ud xs lo hi)) (fun b ob q=>Heap.get?_push_of_some _ q) (au _) ?_,rfl,q _ (I.hok.fresh (au _))⟩;exact⟨br (m4 xs lo hi) hz,_,0,(r.drop (HT.cP xs.length 0 lo)).take (HT.cP xs.length xs.length hi - HT.cP xs.length 0 lo),Heap.get?_push_size _ rfl⟩
noncomputable def jP:V->Bool
 |.non=>true
 |.bl _=>true
 |.int _=>true
 |.str _=>true
 |_=>false
noncomputable def BE:V->V->Bool
 |.non,.non=>true
 |.bl a,.bl b=>a==b
 |.bl a,.int b=>(if a then 1 else 0)==b
 |.int a,.bl b=>a==(if b then 1 else 0)
 |.int a,.int b=>a==b
 |.str a,.str b=>a==b
 |_,_=>false
theorem Fd {A:Around}{s:Shared}{y x:V}{u v:Value}(ry:RelV y u)(rx:RelV x v)(fy:jP y=true)(fx:jP x=true):SeqAt.EqAt A s u v (BE y x):=by
 cases y with
 |non =>
  cases ry;cases x with
  |non=>cases rx;exact SeqAt.EqAt.same _
  |bl b=>cases rx;exact SeqAt.EqAt.none_bool b
  |int b=>obtain⟨t,rfl⟩:=rx;exact SeqAt.EqAt.none_int b t
  |str b=>obtain⟨t,rfl⟩:=rx;exact SeqAt.EqAt.none_str b t
  |_=>exact absurd (show false=true from fx) az
 |bl a =>
  cases ry;cases x with
  |non=>cases rx;exact SeqAt.EqAt.bool_none a
  |bl b=>cases rx;exact SeqAt.EqAt.bool_bool a b
  |int b=>obtain⟨t,rfl⟩:=rx;exact SeqAt.EqAt.bool_int a b t
  |str b=>obtain⟨t,rfl⟩:=rx;exact SeqAt.EqAt.bool_str a b t
  |_=>exact absurd (show false=true from fx) az
 |int a =>
  obtain⟨t',rfl⟩:=ry;cases x with
  |non=>cases rx;exact SeqAt.EqAt.int_none a t'
  |bl b=>cases rx;exact SeqAt.EqAt.int_bool a t' b
  |int b=>obtain⟨t,rfl⟩:=rx;exact SeqAt.EqAt.int_int a t' b t
  |str b=>obtain⟨t,rfl⟩:=rx;exact SeqAt.EqAt.int_str a t' b t
  |_=>exact absurd (show false=true from fx) az
 |str a =>
  obtain⟨t',rfl⟩:=ry;cases x with
  |non=>cases rx;exact SeqAt.EqAt.str_none a t'
  |bl b=>cases rx;exact SeqAt.EqAt.str_bool a t' b
  |int b=>obtain⟨t,rfl⟩:=rx;exact SeqAt.EqAt.str_int a t' b t
  |str b=>obtain⟨t,rfl⟩:=rx;exact SeqAt.EqAt.str_str a t' b t
  |_=>exact absurd (show false=true from fx) az
 |_=>exact absurd (show false=true from fy) az
noncomputable def vc (x:V)(u:Value):Bool:=match u with
 |.none=>BE .non x
 |.bool b=>BE (.bl b) x
 |.int i _=>BE (.int i) x
 |.str z _=>BE (.str z) x
 |_=>false
theorem AH {x y:V}{u:Value}(r:RelV y u)(f:jP y=true):vc x u=BE y x:=by
 cases y with
 |non=>cases r;rfl
 |bl b=>cases r;rfl
 |int i=>obtain⟨t,rfl⟩:=r;rfl
 |str z=>obtain⟨t,rfl⟩:=r;rfl
 |_=>exact absurd (show false=true from f) az
theorem lN {x:V}:∀{xs:List V}{us:List Value},aR xs us->xs.all jP=true->us.any (vc x)=xs.any fun y=>BE y x
 |_,_,.nil,_=>rfl
 | y::xs,u::us,.cons r t,f=>by
  rw[dk,ai] at f;rw[iu,iu,AH r f.1,lN t f.2]
theorem j4 {A:Around}{s:Shared}{x:V}{v:Value}(rx:RelV x v)(fx:jP x=true):∀{xs:List V}{us:List Value},aR xs us->xs.all jP=true->∀ u∈us,SeqAt.EqAt A s u v (vc x u)
 |_,_,.nil,_=>fun u hu=>by cases hu
 | y::xs,u::us,.cons r t,f=>fun u' hu=>by
  rw[dk,ai] at f;rcases dw.mp hu with rfl | hu
  ·rw[AH r f.1];exact Fd r rx f.1 fx
  ·exact j4 rx fx t f.2 u' hu
noncomputable def inV (x:V)(xs:List V):Bool:=xs.any fun y=>BE y x
def rIn (K:PySem.W.Frag)(neg:Bool):R2:=fun x y H Q=>∃ p xs,y = .ref p/\(mo K H p xs\/sQ K H p xs)/\jP x=true/\xs.all jP=true/\Q (.bl (if neg then !inV x xs else inV x xs)) H
theorem x8:kD X (compareOp .In) (rIn X.K false):=by
 intro pins s σ H x y v u Q I rx ry h;obtain⟨p,xs,rfl,hq,fx,fs,q⟩:=h;cases ry;rcases hq with hq | hq
 ·obtain⟨its,r,pl,hz⟩:=I.list hq;refine SeqAt.in_listAt (vc x) pl.isList (fun w hw=>j4 rx fx r fs w (by simpa using hw)) ⟨.bl _,H,I,rfl,?_⟩;rw[show its.toArray.any (vc x)=its.any (vc x) by simp,lN r fs];exact q
 ·obtain⟨its,r,pl,hz⟩:=I.tuple hq;refine SeqAt.in_tupleAt (vc x) pl (fun w hw=>j4 rx fx r fs w (by simpa using hw)) ⟨.bl _,H,I,rfl,?_⟩;rw[show its.toArray.any (vc x)=its.any (vc x) by simp,lN r fs];exact q
theorem sL:kD X (compareOp .NotIn) (rIn X.K true):=by
 intro pins s σ H x y v u Q I rx ry h;obtain⟨p,xs,rfl,hq,fx,fs,q⟩:=h;cases ry;rcases hq with hq | hq
 ·obtain⟨its,r,pl,hz⟩:=I.list hq;refine SeqAt.notIn_listAt (vc x) pl.isList (fun w hw=>j4 rx fx r fs w (by simpa using hw)) ⟨.bl _,H,I,rfl,?_⟩;rw[show its.toArray.any (vc x)=its.any (vc x) by simp,lN r fs];exact q
 ·obtain⟨its,r,pl,hz⟩:=I.tuple hq;refine SeqAt.notIn_tupleAt (vc x) pl (fun w hw=>j4 rx fx r fs w (by simpa using hw)) ⟨.bl _,H,I,rfl,?_⟩;rw[show its.toArray.any (vc x)=its.any (vc x) by simp,lN r fs];exact q
theorem lI:jK X (.builtin "len") (fun xs H Q=>∃ p ys,xs=[.ref p]/\(mo X.K H p ys\/sQ X.K H p ys)/\Q (.int ys.length) H):=by
 intro pins s σ H xs us Q I r h;obtain⟨p,ys,rfl,hq,q⟩:=h;obtain⟨u,rfl,rx⟩:=vals1 r;cases rx;have hn:=oS;rcases hq with hq | hq
 ·obtain⟨its,r',pl,hz⟩:=I.list hq;have hlen:=r'.length;exact Calls.call_len_list pl.isList (by simp only[List.size_toArray]<;>omega) ⟨.int ys.length,H,I.tok _,⟨s.toks+1,by rw[List.size_toArray,hlen]⟩,q⟩
 ·obtain⟨its,r',pl,hz⟩:=I.tuple hq;have hlen:=r'.length;exact len_tuple pl (by simp only[List.size_toArray]<;>omega) ⟨.int ys.length,H,I.tok _,⟨s.toks+1,by rw[List.size_toArray,hlen]⟩,q⟩
theorem lL:jK X (.type "list") (fun xs H Q=>∃ p ys,xs=[.ref p]/\(mo X.K H p ys\/sQ X.K H p ys)/\∀ l,H l=none->Q (.ref l) (upd H l (.lst ys))):=by
 intro pins s σ H xs us Q I r h;obtain⟨p,ys,rfl,hq,q⟩:=h;obtain⟨u,rfl,rx⟩:=vals1 r;cases rx;have fin:∀(its:List Value),aR ys its->ys.length<=sizeLine->∀(h':Heap) (c':Nat),(∀ b o',s.heap.get? b=some o'->h'.get? b=some o') ->
   h'.get? s.heap.objs.size=some {cls:=.type "list",dict:=none,data:=.seq its.toArray c',slots:=#[]}->EP X pins σ Q (.ref s.heap.objs.size) {s with heap:=h'}:=fun its r' hz h' c' kp e =>
  ⟨.ref s.heap.objs.size,_,I.laid (t':=s.toks) kp (au _) (show eJ X.prog X.w _ h' _ (.lst ys) from ⟨hz,its,c',r',e⟩),rfl,q _ (I.hok.fresh (au _))⟩
 rcases hq with hq | hq
 ·obtain⟨its,r',pl,hz⟩:=I.list hq;have hlen:=r'.length;obtain⟨o,ho,hc,n,hd⟩:=pl.isList;exact call_list_seq p (.inl rfl) ho hc hd (fun h' c' kp e=>fin its r' hz h' c' kp e) (by simp only[List.size_toArray]<;>omega)
 ·obtain⟨its,r',pl,hz⟩:=I.tuple hq;have hlen:=r'.length;obtain⟨o,ho,hc,n,hd⟩:=pl;exact call_list_seq p (.inr rfl) ho hc hd (fun h' c' kp e=>fin its r' hz h' c' kp e) (by simp only[List.size_toArray]<;>omega)
def tyV (K:PySem.W.Frag)(T:String)(x:V)(H:Hp):Prop:=match x with
 |.str _=>T = "str"
 |.int _=>T = "int"
 | .ref p=>(T = "list"/\∃ xs,mo K H p xs)\/(T = "tuple"/\∃ o,K.lookup p=some o/\o.cls = .type "tuple"/\o.dict=none) \/
   (T = "dict"/\((∃ kvs,H p=some (.dK kvs))\/∃ kvs,H p=some (.dT kvs)))\/(T = "set"/\∃ S n,H p=some (.set S n))
 |_=>False
theorem E6 {pins:List (Addr×Obj)}{σ:St}{H:Hp}{s:Shared}{T:String}{x:V}{v:Value}(I:Inv X pins σ H s)(r:RelV x v)(ty:tyV X.K T x H) :
  s.TypeIs v T/\∀ a,v = .ref a->∃ ob,s.heap.get? a=some ob/\ob.dict=none:=by
 cases x with
 |str z =>
  obtain⟨t,rfl⟩:=r;cases (show T = "str" from ty);exact⟨typeIs_str s z t,fun _ e=>nomatch e⟩
 |int i =>
  obtain⟨t,rfl⟩:=r;cases (show T = "int" from ty);exact⟨typeIs_int s i t,fun _ e=>nomatch e⟩
 |ref p =>
  cases r;rcases ty with ⟨rfl,xs,hq⟩ | ⟨rfl,o,hk,hc,hd⟩ | ⟨rfl,hk⟩ | ⟨rfl,S,n,hk⟩
  ·obtain⟨its,_,pl,_⟩:=I.list hq;refine⟨pl.isList.typeIs,fun a e=>?_⟩;cases e;obtain⟨o,n,e,c,hd,_⟩:=pl;exact⟨o,e,hd⟩
  ·refine⟨⟨o,I.kIn p o hk,hc⟩,fun a e=>?_⟩;cases e;exact⟨o,I.kIn _ o hk,hd⟩
  ·have z:∃ o,s.heap.get? p=some o/\o.ExactDict:=by
    rcases hk with ⟨kvs,hk⟩ | ⟨kvs,hk⟩
    ·obtain⟨_,_,_,_,o,_,_,e,ex,_⟩:=I.hok p _ hk;exact⟨o,e,ex⟩
    ·obtain⟨_,_,_,_,o,_,_,e,ex,_⟩:=I.hok p _ hk;exact⟨o,e,ex⟩
   obtain⟨o,e,ex⟩:=z;refine⟨⟨o,e,ex.1⟩,fun a e2=>?_⟩;cases e2;exact⟨o,e,ex.2.1⟩
  ·obtain⟨o,_,_,_,e,ex,_⟩:=I.hok p _ hk;refine⟨⟨o,e,ex.1⟩,fun a e2=>?_⟩;cases e2;exact⟨o,e,ex.2.1⟩
 |_=>exact False.elim ty
def GS (K:PySem.W.Frag)(T:String)(r:V->List V->Hp->VK->Prop)(to:TE)(t:TA):TE:=fun σ H Q=>to σ H fun x H1=>tyV K T x H1/\t σ H1 fun xs H2=>r x xs H2 Q
variable {o e:Expr}{es:List Expr}{to:TE}{t:TA}{name:Str}{apos cpos:Pos}{T id:String}{r:V->List V->Hp->VK->Prop}
theorem wZ (pa:PlainAttrs T)(slot:Slot T name id)(hty:typeOf (.builtin id)=pure (.type "method_descriptor")) (hm:MtR X id r) (ho:PE X o to) (ha:PA X (e::es) t)
  (hbase:attributeBase o name X.env (eval o X.env)=eval o X.env:=by rfl)
  (hfew:((backTo cpos (starEach (e::es) X.env)).all (fun x=>!x.1)&&(backToKw cpos (keywordEach [] X.env)).all (fun x=>x.1.isSome)
   && decide ((e::es).length+([]:List Keyword).length+(if ([]:List Keyword).isEmpty then 0 else 1)<30))=true:=by rfl)
  (hline:(apos.endLine==cpos.line)=true:=by rfl) (hs:starEach (e::es) X.env=(false,eval e X.env)::starEach es X.env:=by rfl) (hplain:(backTo cpos (starEach es X.env)).any (·.1)=false:=by rfl) :
  PE X (.Call (.Attribute o name apos) (e::es) [] cpos) (GS X.K T r to t):=by
 intro pins s σ H Q I h;refine wpAny_Call_method_late hbase hfew hline rfl (dB (ho pins s σ H _ I h) fun v s1 ⟨x,H1,I1,r1,ty,q1⟩=>?_);obtain⟨h1,h2⟩:=E6 I1 r1 ty;refine⟨T,id,pa,slot,hty,h1,h2,?_⟩;have hA:=ha cpos pins s1 σ H1 _ I1 q1;rw[hs] at hA ⊢;refine Calls.callWith_builtin (by show (false || (backTo cpos (starEach es X.env)).any (·.1))=false;rw[hplain]<;>rfl) (Calls.evalArgs_plain ?_);exact dB hA fun us s2 ⟨vs,H2,I2,r2,q2⟩=>hm pins s2 σ H2 x vs v us Q I2 r1 r2 q2
end
end L2
namespace L2
open PySem PySem.Spec PyProof.Rows
def HI (X:Cx)(id:String)(r:V->List V->Hp->VK->Prop):Prop :=
 ∀(pins:List (Addr×Obj)) (s:Shared) (σ:St) (H:Hp) (x:V) (xs:List V) (v:Value) (us:List Value) (Q:VK),Inv X pins σ H s->RelV x v->aR xs us->r x xs H Q ->
  wpAny (model X.prog X.w) X.A (call (.builtin id) (v::us)) (EP X pins σ Q) X.xe s
theorem aR.one:∀{x:V}{us:List Value},aR [x] us->∃ u,us=[u]/\RelV x u
 |_,_,.cons r .nil=>⟨_,rfl,r⟩
theorem aR.two:∀{x y:V}{us:List Value},aR [x,y] us->∃ u v,us=[u,v]/\RelV x u/\RelV y v
 | _,_,_,.cons r (.cons q .nil)=>⟨_,_,rfl,r,q⟩
theorem aR.zero:∀{us:List Value},aR [] us->us=[]
 |_,.nil=>rfl
theorem aR.dropLast {xs:List V}{us:List Value}(h:aR xs us):aR xs.dropLast us.dropLast:=by
 induction h with
 |nil=>exact .nil
 |cons r t ih =>
  cases t with
  |nil=>exact .nil
  |cons q t'=>exact .cons r ih
theorem aR.eraseIdx:∀{xs:List V}{us:List Value}(i:Nat),aR xs us->aR (xs.eraseIdx i) (us.eraseIdx i)
 |_,_,_,.nil=>.nil
 |_,_,0,.cons _ t=>t
 |_,_,i+1,.cons r t=>.cons r (aR.eraseIdx i t)
theorem aR.rep {xs:List V}{us:List Value}(h:aR xs us):∀ k:Nat,aR (List.replicate k xs).flatten (List.replicate k us).flatten
 |0=>.nil
 | k+1=>by
  rw[dn,dn,fb,fb];exact aR.append h (aR.rep h k)
theorem oE {α:Type}(l:List α):l.eraseIdx (l.length - 1)=l.dropLast:=by
 induction l with
 |nil=>rfl
 |cons a r ih =>
  cases r with
  |nil=>rfl
  |cons b r =>
   have e:(a::b::r).length - 1=((b::r).length - 1)+1:=by
    have h1:(a::b::r).length=r.length+2:=rfl;have h2:(b::r).length=r.length+1:=rfl;omega
   rw[e,List.eraseIdx_cons_succ,ih]
   all_goals rfl
theorem rh {α:Type}:∀(l:List α) (i:Nat),(l.eraseIdx i).length<=l.length
 |[],_=>au _
 |_::_,0=>Nat.le_succ _
 |_::r,i+1=>Nat.succ_le_succ (rh r i)
theorem foldl_rep (its:List Value):∀(k:Nat) (acc:List Value),
  List.foldl (fun x1 x2=>x1++x2) acc.toArray (List.replicate k its.toArray)=(acc++(List.replicate k its).flatten).toArray
 |0,acc=>by simp
 | k+1,acc=>by
  have e:acc.toArray++its.toArray=(acc++its).toArray:=by simp
  have e2:(acc++its)++(List.replicate k its).flatten=acc++(List.replicate (k+1) its).flatten:=by
   rw[dn,fb,fe]
  rw[<-e2,<-foldl_rep its k (acc++its),<-e,dn,List.foldl_cons]
section
variable {X:Cx}{pins:List (Addr×Obj)}{σ:St}{H:Hp}{s:Shared}{l b:Addr}{xs ys zs:List V}
theorem Inv.lset {its its':List Value}{n:Nat}{f:Array Value->Array Value}{t':Nat}(I:Inv X pins σ H s)(hH:H l=some (.lst xs))
  (e:s.heap.get? l=some {cls:=.type "list",data:=.seq its.toArray n}) (hf:f its.toArray=its'.toArray) (hv:aR ys its') (hz:ys.length<=sizeLine) :
  Inv X pins σ (upd H l (.lst ys)) {s with heap:=s.heap.update l (Obj.mapSeq f),toks:=t'}:=by
 have q:=PySem.IsL.update e f;rw[hf] at q;refine I.write (x:=l) (e:=l) (by rw[hH];exact trivial) (.inl rfl) (fun b' u hb hu=>(Heap.get?_update_other s.heap (Obj.mapSeq f) (cm hb)).trans hu) ⟨_,q⟩ ?_;exact⟨hz,its',_,hv,q⟩
theorem Inv.lnew {its:List Value}{t':Nat}(I:Inv X pins σ H s)(hv:aR ys its)(hz:ys.length<=sizeLine) :
  Inv X pins σ (upd H s.heap.objs.size (.lst ys)) {s with heap:=s.heap.push {cls:=.type "list",data:=.seq its.toArray},toks:=t'} :=
 I.laid (fun _ _ q=>Heap.get?_push_of_some _ q) (au _) ⟨hz,its,0,hv,Heap.get?_push_size _ rfl⟩
theorem Inv.fresh (I:Inv X pins σ H s):H s.heap.objs.size=none:=I.hok.fresh (au _)
theorem Inv.lstM (I:Inv X pins σ H s)(hH:H l=some (.lst xs)):xs.length<=sizeLine/\∃(its:List Value) (n:Nat),aR xs its/\xs.length=its.length/\s.heap.get? l=some {cls:=.type "list",data:=.seq its.toArray n}:=by
 obtain⟨z,its,n,r,e⟩:=I.hok l _ hH;exact⟨z,its,n,r,r.length,e⟩
theorem zA {n:Nat}(h:n<=sizeLine):Builtin.List.listTooLong n=false:=by
 unfold Builtin.List.listTooLong;exact cj (by omega)
end
section
variable {X:Cx}
def CM:V->List V->Hp->VK->Prop:=fun x vs H Q=>∃ l xs y,x = .ref l/\vs=[y]/\H l=some (.lst xs)/\xs.length<sizeLine/\Q .non (upd H l (.lst (xs ++ [y])))
theorem qq:HI X "list.append" CM:=by
 intro pins s σ H x vs v us Q I rx rv h;obtain⟨l,xs,y,rfl,rfl,hH,hz,q⟩:=h;cases rx;obtain⟨u,rfl,ru⟩:=rv.one;obtain⟨z,its,n,r,hl,e⟩:=I.lstM hH;refine call_meets F.slot_list_append ⟨_,e,rfl⟩ F.entry_list_append (F.args_list_append_2 _ _) (PySem.list_append l its.toArray n u (by rw[ao];omega)) ⟨e,?_⟩;refine⟨.non,_,I.lset (its':=its ++ [u]) hH e (by simp) (r.append (.cons ru .nil)) ?_,rfl,q⟩;rw[df,List.length_singleton];omega
def rPop:V->List V->Hp->VK->Prop:=fun x vs H Q=>∃ l xs y,x = .ref l/\vs=[]/\H l=some (.lst xs)/\xs[xs.length - 1]? = some y/\Q y (upd H l (.lst xs.dropLast))
theorem Er:HI X "list.pop" rPop:=by
 intro pins s σ H x vs v us Q I rx rv h;obtain⟨l,xs,y,rfl,rfl,hH,hy,q⟩:=h;cases rx;have hus:=rv.zero;subst hus;obtain⟨z,its,n,r,hl,e⟩:=I.lstM hH;obtain⟨u,hu,ru⟩:=r.get hy;have hy':its.toArray[its.toArray.size - 1]? = some u:=by
  show its.toArray[its.length - 1]? = some u;rw[<-Array.getElem?_toList,<-hl];exact hu
 refine call_meets F.slot_list_pop ⟨_,e,rfl⟩ F.entry_list_pop (F.args_list_pop_1 _) (MeetsSeq.list_pop_last l its.toArray n u hy' (by rw[ao];omega)) ⟨e,?_⟩;refine⟨y,_,I.lset (its':=its.dropLast) hH e ?_ r.dropLast ?_,ru,q⟩
 ·show its.toArray.eraseIdxIfInBounds (its.toArray.size - 1)=its.dropLast.toArray;rw[ao,List.eraseIdxIfInBounds_toArray,oE]
 ·rw[List.length_dropLast];omega
def EE:V->List V->Hp->VK->Prop:=fun x vs H Q=>∃ l xs i k y,x = .ref l/\vs=[.int i]/\H l=some (.lst xs)/\-(2 ^ 63)<=i/\i<2 ^ 63/\seqIndex? i xs.length=some k/\xs[k]? = some y/\Q y (upd H l (.lst (xs.eraseIdx k)))
theorem AW:HI X "list.pop" EE:=by
 intro pins s σ H x vs v us Q I rx rv h;obtain⟨l,xs,i,k,y,rfl,rfl,hH,h1,h2,hk,hy,q⟩:=h;cases rx;obtain⟨u,rfl,ru⟩:=rv.one;obtain⟨t,rfl⟩:=ru;obtain⟨z,its,n,r,hl,e⟩:=I.lstM hH;obtain⟨w,hw,eY⟩:=r.get hy;refine call_meets F.slot_list_pop ⟨_,e,rfl⟩ F.entry_list_pop (F.args_list_pop_2 _ _)
  (MeetsSeq.list_pop_at l its.toArray n i t k w (fitsIndex_both h1 h2) (by rw[ao,<-hl];exact hk) (by rw[<-Array.getElem?_toList];exact hw) (by rw[ao];omega)) ⟨e,?_⟩
 refine⟨y,_,I.lset (its':=its.eraseIdx k) hH e ?_ (r.eraseIdx k) ?_,eY,q⟩
 ·show its.toArray.eraseIdxIfInBounds k=(its.eraseIdx k).toArray;rw[List.eraseIdxIfInBounds_toArray]
 ·have:=rh xs k;omega
theorem len_rep {α:Type}(xs:List α)(k:Nat):(List.replicate k xs).flatten.length=k*xs.length:=by
 induction k with
 |zero=>simp
 |succ k ih=>rw[dn,fb,df,ih,Nat.succ_mul,Nat.add_comm]
end
section
variable {prog:Program}{w:World}{A:Around}{E:Value->Shared->Prop}{s:Shared}
end
section
variable {X:Cx}
end
end L2
namespace BD
open PySem PySem.W PySem.Calls PyProof.Rows
theorem m7 {P:Params}{h:Heap}:∀(ns:List Int) (vs:List Value),WellAll P h vs (ns.map WData.int)->IntsAre vs ns:=by
 intro ns
 induction ns with
 |nil =>
  intro vs w;rw[List.map_nil] at w;cases w;exact .nil
 |cons n ns ih =>
  intro vs w;rw[ay] at w;cases w with
  |cons a b =>
   cases a;exact .cons _ _ (ih _ b)
theorem yI {l:OpenLaw}{n:Nat}(hn:l.most=some n){P:Params}{h:Heap}{args:List WData}{vals:List Value}
  (hpre:l.row.toRowW.claim.pre args=true) (hwl:WellAll P h vals args) :
  ∃ a vs ns,vals=[Value.ref a]/\args=[WData.list (ns.map WData.int)]/\h.get? a=some {cls:=.type "list",data:=.seq vs.toArray}/\IntsAre vs ns/\ns.length<=n:=by
 have hsh:WShape.hasAll [] args [.list .int]=true:=(pre_splitW hpre).1;have hc:l.pre.holds [] {args:=args}=true:=(pre_splitW hpre).2;obtain⟨d,r,rfl,h1,h2⟩:=hasAllW_cons hsh;obtain rfl:=hasAllW_nil h2;obtain⟨xs,rfl,h3⟩:=hasW_list h1;obtain⟨ns,rfl⟩:=items_int h3;have hlen:ns.length<=n:=by
  unfold OpenLaw.pre at hc;have h4:(WTm.not (.lt (.lit (.int (n:Int))) (.len (.arg 0)))).holds [] {args:=[.list (ns.map .int)]}=true:=by
   have h4:=(holds_andW hc).1;rw[hn] at h4;exact h4
  have h5:=condW_of h4 (w_not (w_lt w_lit (w_len_list (w_arg rfl))));rw[aj] at h5;refine il fun q=>?_
  have q':(n:Int)<((ns.length:Nat):Int):=by omega
  first
   | (rw[cq q'] at h5;exact absurd h5 (by decide))
   | (simp at h5;omega)
 cases hwl with
 |cons w1 w2 =>
  cases w2;cases w1 with
  |list ho hall=>exact⟨_,_,ns,rfl,rfl,ho,m7 ns _ hall,hlen⟩
theorem yk (l:OpenLaw)(args:List WData):l.row.toRowW.claim.post args (.bool true) args=true :=
 postW_of (r:=l.row.toRowW) (X:=(true==true))
  (show WShape.has [] (.bool true) .bool=true by first | rfl | decide | simp[WShape.has,WShape.arms,WShape.armsAll])
  (show (WTm.eq .res (.lit (.bool true))).value [] {args:=args,res:=some (.bool true),after:=args}=some (.bool (true==true)) from w_eq_bool (w_res rfl) w_lit) rfl
theorem tq {l:OpenLaw}{n:Nat}{q:Program}{loose:List Str}{XP:(Str->Option Value)->Heap->Prop}{YP:World->Heap->Prop}{d:DefRec}
  (hn:l.most=some n) (hdf:d.params.defaults=[])
  (call:∀(w:World) (s₀ s₁:Shared) (mg mb:Str->Option Value) (fa:Addr) (o:Obj) (pm cd doc:Value) (a:Addr) (vs:List Value) (ns:List Int),
   Ground q loose [] XP w s₀ mg mb s₁.heap->YP w s₁.heap ->
   s₁.heap.get? fa=some o->o.data = .func (docDef d.name d.params d.body d.scope pm cd doc)->s₁.heap.CodeRec cd d.name->mg d.name=some (.ref fa) ->
   s₁.heap.get? a=some {cls:=.type "list",data:=.seq vs.toArray}->IntsAre vs ns->ns.length<=n->s₁.gens = #[] ->
   codeAny (model l.prog w) callerA (.call (.ref fa) ⟨[.ref a],[]⟩) (fun r s'=>r = .ok (.ret (.bool true))/\OldK s₁.heap s'.heap/\s'.os=s₁.os/\AllBare s'.gens) s₁) :
  WalkO q loose XP YP l.row.toRowW d [] (fun f vs=>PySem.call f vs):=by
 intro w s₀ s₁ mg mb G Y fa o pm cd doc dV kV ho hd hcd hD hmg hg args vals as hpre hlay hrd hwl hlo;obtain rfl:dV = .none:=Dflts.none hD hdf;obtain rfl:kV = .none:=Dflts.noKw hD;obtain⟨a,vs,ns,rfl,rfl,hobj,hints,hlen⟩:=yI hn hpre hwl;refine enter_call (codeAny_mono (call w s₀ s₁ mg mb fa o pm cd doc a vs ns G Y ho (fd_plain hd) hcd hmg hobj hints hlen hg) fun r s' hq=>?_);obtain⟨rfl,h2,h3,h4⟩:=hq;exact⟨.inl ⟨.bool true,.bool true,[],rfl,fun _=>rfl,.bool true,yk l _,fun _=>⟨List.Pairwise.nil,fun _ hm=>(nomatch hm)⟩⟩,h2,h3,h4⟩
section
variable {prog:Program}{w:World}{A:Around}{E:Value->Shared->Prop}{s:Shared}{K:Frag}
noncomputable def rN (h:Heap):Heap:={h with objs:=#[]}
theorem nW (h:Heap)(b:Addr):(rN h).get? b=none:=by
 cases e:(rN h).get? b with
 |none=>rfl
 |some o=>exact absurd (Heap.lt_size e) (gm _)
noncomputable def ledger (h:Heap)(L d:Addr):List (Addr×Obj):=(List.range h.objs.size).filterMap fun a=>if a=L\/a=d then none else (h.get? a).map fun o=>(a,o)
theorem kO {h:Heap}{L d a:Addr}{o:Obj}:(a,o)∈ledger h L d↔a≠L/\a≠d/\h.get? a=some o:=by
 unfold ledger;rw[List.mem_filterMap];constructor
 ·rintro⟨b,_,e⟩;split at e
  ·cases e
  ·rename_i hb;obtain⟨o',ho,e'⟩:=ag.mp e;cases e';exact⟨fun q=>hb (.inl q),fun q=>hb (.inr q),ho⟩
 ·rintro⟨n1,n2,ho⟩;refine⟨a,List.mem_range.mpr (Heap.lt_size ho),?_⟩;rw[if_neg (show ¬ (a=L\/a=d) from fun q=>q.elim n1 n2),ho]<;>rfl
theorem Em {h:Heap}{L:Addr}{m:Str->Option Value}(n:h.Ns L m):Fr (rN h) L h m :=
 ⟨n,fun b o e=>(by rw[nW] at e;cases e),dq _⟩
end
end BD
namespace L2
open PySem PySem.Spec PyProof.Rows
theorem iS:∀{vs:List Value}{ns:List Int},IntsAre vs ns->aR (ns.map V.int) vs
 |_,_,.nil=>.nil
 |_,_,.cons n t h=>.cons ⟨t,rfl⟩ (iS h)
def GB (H:Hp):Prop:=∀ b,H b=none\/∃ o xs,H b=some (.frz o (.lst xs))
theorem Bn {P:Program}{w:World}{K:PySem.W.Frag}{mg mb:Str->Option Value}{CX:sP}{k:Nat}{fa a:Addr}{fd:FuncData}{x:Str}{sp:Sp}{s₁:Shared}{vs:List Value}{ns:List Int}
  (KX:K.In s₁.heap) (hns:s₁.heap.Ns mainGlobals mg) (hb:s₁.heap.Ns builtinsNs mb) (hbb:∀ x:Str,x≠"__name__"->mb x=bootBuiltins x) (hlim:s₁.heap.NoLimit) (hg:s₁.gens = #[])
  (ha:s₁.heap.get? a=some {cls:=.type "list",data:=.seq vs.toArray}) (hi:IntsAre vs ns) (hl:ns.length<=sizeLine) (hr:gS k callerA)
  (F:∀ base:Heap,K.In base->base.Ns mainGlobals mg->lX P w K mg base CX k fa fd [x] sp) (hbind:∀(s:Shared) (u:Value),BindsTo s fd ⟨[u],[]⟩ [(x,u)])
  (hsp:∀ H:Hp,GB H->mo K H a (ns.map V.int)->sp [.ref a] H (fun v _=>v = .bl true) fun _ _ _=>False)
  (hCX:∀ H e s',CX [] H s₁ (fun _ _ _=>False) e s'->False) :
  codeAny (model P w) callerA (.call (.ref fa) ⟨[.ref a],[]⟩) (fun r s'=>r = .ok (.ret (.bool true))/\OldK s₁.heap s'.heap/\s'.os=s₁.os/\AllBare s'.gens) s₁:=by
 have rv:=iS hi;have lenV:=hi.length;have core:∀ H:Hp,GB H->mo K H a (ns.map V.int)->lh P w H s₁.heap->(∀ b,H b≠none->b=a)->(H a≠none->K.lookup a=none) ->
   codeAny (model P w) callerA (.call (.ref fa) ⟨[.ref a],[]⟩) (fun r s'=>r = .ok (.ret (.bool true))/\OldK s₁.heap s'.heap/\s'.os=s₁.os/\AllBare s'.gens) s₁:=by
  intro H hO hS hok hA hK;have base_of:∀{b:Addr}{o:Obj},s₁.heap.get? b=some o->H b=none->(rD s₁.heap H).get? b=some o:=fun e n=>A0 e n
  have noA:∀{b:Addr}{o:Obj}{es:Array DictEntry}{ep:Nat},s₁.heap.get? b=some o->o.data = .dict es ep->H b=none:=fun {b o es ep} e d=>by
   cases q:H b with
   |none=>rfl
   |some u =>
    have e':b=a:=hA b (by rw[q];simp);subst e';rw[ha] at e;cases e;have d':Data.seq vs.toArray _=Data.dict es ep:=d;cases d'
  have nsK:∀{b:Addr}{m:Str->Option Value},s₁.heap.Ns b m->(rD s₁.heap H).Ns b m:=fun {b m} ⟨o,es,ep,e,d,r⟩=>⟨o,es,ep,base_of e (noA e d),d,r⟩
  have hKb:K.In (rD s₁.heap H):=fun b o e=>base_of (KX b o e) (by
   cases q:H b with
   |none=>rfl
   |some u =>
    have e':b=a:=hA b (by rw[q];simp);subst e';rw[hK (by rw[q];simp)] at e;cases e)
  have hM:Mod K mg (rD s₁.heap H):=⟨hKb,nsK hns,⟨mb,nsK hb,hbb⟩,let ⟨mc,h1,h2⟩:=hlim;⟨mc,nsK h1,h2⟩⟩;have e0:yh P w K mg (rD s₁.heap H) callerA [] s₁ H:=⟨rfl,hM,fun b o e=>BJ e,Nat.le_of_eq (ym _ _),trivial,fun b hb=>absurd (show b∈([]:List Addr) from hb) (by simp),hok,.of_eq hg⟩;refine codeAny_mono ((F _ hKb (nsK hns)).run callerA [] s₁ H ⟨[.ref a],[]⟩ [.ref a] [.ref a] _ _ hr e0 (hbind s₁ (.ref a)) (.cons rfl .nil) (hsp H hO hS)) fun r s' h=>?_
  cases r with
  |error e=>exact (hCX H e s' h).elim
  |ok fl =>
   cases fl with
   |next=>exact False.elim h
   |brk=>exact False.elim h
   |cont=>exact False.elim h
   |ret u =>
    obtain⟨v,H',os,bare,un,hok',r',q⟩:=h;have q':v = .bl true:=q;subst q';obtain rfl:u=Value.bool true:=r';refine⟨rfl,OldK.of_keep fun b o e=>?_,os,bare⟩;cases q:H b with
    |none=>exact un.keep b o e q (by intro z;exact absurd (show b∈([]:List Addr) from z) (by simp)) (by simp)
    |some u =>
     rcases hO b with z | ⟨ob,xs,z⟩
     ·rw[q] at z;cases z
     ·have z2:=un.frzs b ob _ z;obtain⟨e1,_⟩:=hok b _ z;obtain⟨e2,_⟩:=hok' b _ z2;rw[e] at e1;cases e1;exact e2
 cases hk:K.lookup a with
 |some o =>
  have e:=KX a o hk;rw[ha] at e;cases e;refine core (fun _=>none) (fun _=>.inl rfl) (.inr ⟨_,vs.toArray,_,hk,rfl,rfl,rfl,by rw[List.size_toArray,lenV];exact hl,by simpa using rv⟩) (fun b u z=>by have z':(none:Option HO)=some u:=z;cases z') (fun b z=>absurd rfl z) fun z=>absurd rfl z
 |none =>
  refine core (fun b=>if b=a then some (.frz {cls:=.type "list",data:=.seq vs.toArray} (.lst (ns.map V.int))) else none) (fun b=>?_) (.inl (.inr ⟨{cls:=.type "list",data:=.seq vs.toArray},if_pos rfl⟩)) (fun b u z=>?_) (fun b z=>?_) fun _=>hk
  ·by_cases hb:b=a
   ·exact .inr ⟨_,_,if_pos hb⟩
   ·exact .inl (if_neg hb)
  ·by_cases hb:b=a
   ·have z':=(if_pos hb).symm.trans z;cases z';subst hb;exact⟨ha,by rw[aj];exact hl,vs,_,rv,ha⟩
   ·have z':=(if_neg hb).symm.trans z;cases z'
  ·by_cases hb:b=a
   ·exact hb
   ·exact absurd (if_neg hb) z
end L2
namespace L2
open PySem PySem.Spec PyProof.Rows
theorem Ck {l:PySem.W.OpenLaw}{n k:Nat}{q:Program}{loose:List Str}{XP:(Str->Option Value)->Heap->Prop}{YP:World->Heap->Prop}{d:DefRec}{K:Params->PySem.W.Frag}{CX:World->sP}{sp:World->Sp}{x:Str}
  (hn:l.most=some n) (hn2:n<=sizeLine) (hdf:d.params.defaults=[]) (hr:gS k callerA)
  (hY:∀(w:World) (h:Heap),YP w h->(K w.params).In h)
  (F:∀(w:World) (mg:Str->Option Value) (fa:Addr) (h:Heap),(K w.params).In h->h.Ns mainGlobals mg->mg d.name=some (.ref fa) ->
   ∃ fd:FuncData,(∀(s:Shared) (u:Value),BindsTo s fd ⟨[u],[]⟩ [(x,u)]) /\
    ∀ base:Heap,(K w.params).In base->base.Ns mainGlobals mg->lX l.prog w (K w.params) mg base (CX w) k fa fd [x] (sp w))
  (hsp:∀(w:World) (H:Hp) (a:Addr) (ns:List Int),ns.length<=n->GB H->mo (K w.params) H a (ns.map V.int)->sp w [.ref a] H (fun v _=>v = .bl true) fun _ _ _=>False)
  (hCX:∀(w:World) (H:Hp) (s:Shared) (e:Value) (s':Shared),CX w [] H s (fun _ _ _=>False) e s'->False) :
  PySem.W.WalkO q loose XP YP l.row.toRowW d [] (fun f vs=>PySem.call f vs):=by
 refine BD.tq hn hdf fun w s₀ s₁ mg mb fa o pm cd doc a vs ns G Y ho hd hcd hmg hobj hints hlen hg=>?_
 have KX:=hY w _ Y;obtain⟨fd,hb,hF⟩:=F w mg fa _ KX G.T.g hmg;exact Bn KX G.T.g G.T.b G.T.builtins G.T.nolimit hg hobj hints (br hlen hn2) hr hF hb (fun H hO hS=>hsp w H a ns hlen hO hS) fun H e s'=>hCX w H s₁ e s'
end L2
namespace L2
open PySem PySem.Spec PyProof.Rows
abbrev sj:sP:=fun _ _ _ _ _ _=>False
abbrev E0:XK:=fun _ _ _=>False
theorem DY {X:Cx}:rX sj X E0:=fun _ _ _ _ _ _ _ h=>h.elim
structure sR (K:PySem.W.Frag)(x qual:Str)(st:Stmt)(f:Addr)(fd:FuncData):Prop where
 ex:∃(oc:Value) (od:Option Addr) (kV doc pm:Value) (an:Option Addr) (cdv ct:Value) (osl:Array (Option Value)),
  fd=PySem.W.fnOf x qual (eU st) (bM st) (aE st) .none kV doc pm an cdv ct/\K.lookup f=some ⟨oc,od,.func fd,osl⟩/\PySem.W.codeIn K cdv qual=true
 kp:PySem.W.keepIn K (.ref f)=true
section
variable {P:Program}{w:World}{K:PySem.W.Frag}{mg:Str->Option Value}{base:Heap}
theorem sR.ok {x qual:Str}{st:Stmt}{f:Addr}{fd:FuncData}{N ps:List Str}{k:Nat}{sp:Sp}(F:sR K x qual st f fd)(S:cL N ps (aE st))(len:∀ vs H Q E,sp vs H Q E->vs.length=ps.length)
  (hbody:∀(cdv:Value) (A:Around) (outer:List Env) (s:Shared) (H:Hp) (vs:List V) (Q:VK) (E:XK),gS k (A.deeper (envOfC qual (aE st) s.heap.objs.size f cdv))->sp vs H Q E ->
   ∃ t,j6 (eW sj P w K mg base N qual (aE st) f cdv A outer s H E).nox (bM st) t/\t {nx:=fun _ H'=>Q .non H',rt:=Q} (start N vs) H):lX P w K mg base sj (k+1) f fd ps sp:=by
 obtain⟨oc,od,kV,doc,pm,an,cdv,ct,osl,rfl,lk,hcd⟩:=F.ex;refine HN lk hcd S len fun A outer s H vs Q E hr hsp=>?_
 obtain⟨t,h,q⟩:=hbody cdv A outer s H vs Q E hr hsp;exact⟨t,h.nox,q⟩
theorem sR.binds {x qual:Str}{st:Stmt}{f:Addr}{fd:FuncData}{ps:List Str}(F:sR K x qual st f fd)
  (h:∀(kV doc pm:Value) (an:Option Addr) (cdv ct:Value) (us:List Value),us.length=ps.length->bindArgs (PySem.W.fnOf x qual (eU st) (bM st) (aE st) .none kV doc pm an cdv ct) ⟨us,[]⟩=pure (ps.zip us)):Binds K fd ps []:=by
 obtain⟨oc,od,kV,doc,pm,an,cdv,ct,osl,rfl,lk,hcd⟩:=F.ex;exact .all (h kV doc pm an cdv ct)
theorem EU {x qual:Str}{st:Stmt}{f:Addr}{oc:Value}{od an:Option Addr}{osl:Array (Option Value)}{kV doc pm cdv ct:Value}(l:K.lookup f=some ⟨oc,od,.func (PySem.W.fnOf x qual (eU st) (bM st) (aE st) .none kV doc pm an cdv ct),osl⟩)
  (c:PySem.W.codeIn K cdv qual=true) (k:PySem.W.keepIn K (.ref f)=true):sR K x qual st f (PySem.W.fnOf x qual (eU st) (bM st) (aE st) .none kV doc pm an cdv ct):=⟨⟨oc,od,kV,doc,pm,an,cdv,ct,osl,rfl,l,c⟩,k⟩
end
section
variable {X:Cx}
theorem pv (i:Nat){x:Str}{pos:Pos}(hN:X.N[i]? = some x:=by rfl)(hv:D2 X.env.scope x:=by first | exact Or.inl rfl | exact Or.inr (Or.inl rfl) | exact Or.inr (Or.inr rfl))(hd:(x==("__debug__" : Str))=false:=by decide)
  (hcd:(x==("__classdict__" : Str))=false:=by decide):PE X (.Name x pos) (nR i):=kf hN hv hd hcd
end
def aN (H H':Hp):Prop:=∀ b o,H b=some o->H' b=some o
theorem aN.refl (H:Hp):aN H H:=fun _ _ h=>h
theorem aN.trans {H H1 H2:Hp}(a:aN H H1)(b:aN H1 H2):aN H H2:=fun c o h=>b c o (a c o h)
section
variable {κ:Type}[DecidableEq κ]
end
section
variable {P:Program}{w:World}{H:Hp}{h:Heap}{a:Addr}
end
section
variable {X:Cx}{pins:List (Addr×Obj)}{σ:St}{H:Hp}{s:Shared}{a:Addr}{y v:V}{u r:Value}{o:Option V}{A:Around}{E:Value->Shared->Prop}
end
section
variable {X:Cx}{pins:List (Addr×Obj)}{σ:St}{H:Hp}{s:Shared}{a:Addr}{kvs:List (Key×V)}{k:Key}{u:Value}{A:Around}{E:Value->Shared->Prop}
end
section
variable {X:Cx}{o i e value:Expr}{pos pos' tpos:Pos}{td ty tv:TE}
end
section
variable {X:Cx}{pos:Pos}
end
end L2
end
section
namespace Pc
open PySem
inductive D where
 | non | bl (b:Bool) | int (i:Int) | lst (xs:List D) | tup (xs:List D)
deriving Inhabited
mutual
noncomputable def D.flat:D->Bool
 |.lst _=>false
 |.tup xs=>D.flats xs
 |.non=>true
 |.bl _=>true
 |.int _=>true
noncomputable def D.flats:List D->Bool
 |[]=>true
 |x::xs=>D.flat x&&D.flats xs
end
noncomputable def Cg (f:D->D->Option Bool):List D->List D->Option Bool
 |[],[]=>some true
 |x::xs,y::ys=>(f x y).bind fun a=>(Cg f xs ys).map fun b=>a&&b
 |_,_=>none
noncomputable def D.eqf:Nat->D->D->Option Bool
 |0,_,_=>none
 |_+1,.non,.non=>some true
 |_+1,.bl a,.bl b=>some (a==b)
 |_+1,.int a,.int b=>some (a==b)
 |_+1,.bl a,.int b=>some ((if a then (1:Int) else 0)==b)
 |_+1,.int a,.bl b=>some (a==(if b then (1:Int) else 0))
 |n+1,.lst a,.lst b=>if a.length=b.length then Cg (D.eqf n) a b else some false
 |n+1,.tup a,.tup b=>if a.length=b.length then Cg (D.eqf n) a b else none
 |_+1,_,_=>some false
noncomputable def D.jT:D->Bool
 |.lst _=>false
 |.tup _=>false
 |_=>true
noncomputable def D.eqs:D->D->Bool
 |.non,.non=>true
 |.bl a,.bl b=>a==b
 |.int a,.int b=>a==b
 |.bl a,.int b=>(if a then (1:Int) else 0)==b
 |.int a,.bl b=>a==(if b then (1:Int) else 0)
 |_,_=>false
structure Exc where
 cls:Str
 fs:List (Str×D)
deriving Inhabited
inductive Rs (α:Type) where
 | ok (a:α) | exc (e:Exc) | bad
noncomputable def Rs.bind {α β:Type}(x:Rs α)(f:α->Rs β):Rs β:=match x with
 |.ok a=>f a
 |.exc e=>.exc e
 |.bad=>.bad
inductive Rt where
 | mv (R:List Nat)
 | sh (R:List Nat)
noncomputable def Rt.roots:Rt->List Nat
 |.mv R=>R
 |.sh R=>R
inductive Tg where
 | own | lk | sh (R:List Nat)
abbrev Slot:=Option (D×Tg)
abbrev En:=List Slot
noncomputable def lim:Nat:=1000000
inductive pE where
 | nm (i:Nat) | tp (is:List Nat)
inductive Dm where
 | len | list | all | isi (T:String) | sorted | lrng
inductive Dp where
 | append | extend | insert | pop | kF | reverse | clear
mutual
inductive Ex where
 | var (i:Nat)
 | cst (d:D)
 | glb (k:Nat)
 | bin (op:Operator) (a b:Ex)
 | neg (a:Ex)
 | cmp (op:CmpOp) (a b:Ex)
 | and (a b:Ex)
 | or (a b:Ex)
 | not (a:Ex)
 | ite (c a b:Ex)
 | lst (es:nJ)
 | tup (es:nJ)
 | ix (a i:Ex)
 | sl (a:Ex) (lo hi:rk)
 | call (f:Nat) (es:nJ)
 | blt (b:Dm) (es:nJ)
 | comp (own:Nat) (pick:List Nat) (t:pE) (it:sO) (c:rk) (e:Ex)
inductive nJ where
 | nil | cons (e:Ex) (es:nJ)
inductive rk where
 | none | some (e:Ex)
inductive sO where
 | seq (e:Ex) | rng1 (a:Ex) | rng2 (a b:Ex) | rng3 (a b c:Ex) | enum (e:Ex) | zip (a b:Ex) | rev (e:Ex)
end
mutual
inductive St where
 | asg (t:pE) (e:Ex) (mv:Bool)
 | setix (x:Nat) (path:rk) (i:Ex) (e:Ex)
 | popa (y x:Nat) (es:nJ)
 | apop (y x:Nat) (es:nJ)
 | popc (y x:Nat) (it:sO) (es:nJ)
 | expr (e:Ex)
 | ite (c:Ex) (a b:bJ)
 | forr (t:pE) (it:sO) (b:bJ)
 | whl (c:Ex) (b:bJ)
 | ret (e:Ex)
 | retN | brk | cnt | pass
inductive bJ where
 | nil | cons (s:St) (r:bJ)
end
noncomputable def ck (n:Nat)(d:D):Option D:=if n<=lim then some d else none
noncomputable def small (i:Int):Bool:=decide (-(2 ^ 64)<i/\i<2 ^ 64)
noncomputable def binI:Operator->Int->Int->Option Int
 |.Add,i,j=>some (i+j)
 |.Sub,i,j=>some (i - j)
 |.Mult,i,j=>if small i || small j then some (i*j) else none
 |.FloorDiv,i,j=>if 0<j/\j<1073741824 then some (i / j) else none
 |.Mod,i,j=>if 0<j then some (i%j) else none
 |.Pow,i,j=>if 0<=j/\j<=1000000/\i.natAbs<2 ^ 64 then some (i ^ j.toNat) else none
 |.LShift,i,j=>if 0<=j/\j<=1000000/\i.natAbs<2 ^ 64 then some (i*2 ^ j.toNat) else none
 |.RShift,i,j=>if 0<=j then some (i / 2 ^ j.toNat) else none
 |.BitAnd,i,j=>some (Builtin.bitAnd i j)
 |.BitOr,i,j=>some (Builtin.bitOr i j)
 |.BitXor,i,j=>some (Builtin.bitXor i j)
 |_,_,_=>none
noncomputable def Hy (op:Operator)(a:List D):D->Option D
 |.lst b=>(match op with
  |.Add=>ck (a.length+b.length) (.lst (a++b))
  |_=>none)
 |.int k=>(match op with
  |.Mult=>if -(2 ^ 63)<=k/\k<2 ^ 63 then (if D.flats a then ck (a.length*k.toNat) (.lst (List.replicate k.toNat a).flatten) else none) else none
  |_=>none)
 |_=>none
noncomputable def pQ (op:Operator):D->D->Option D
 |.int i,y=>(match y with
  |.int j=>(binI op i j).map .int
  |_=>none)
 |.lst a,y=>Hy op a y
 |_,_=>none
noncomputable def sE:List D->Option (List Int)
 |[]=>some []
 |.int i::r=>(sE r).map (i :: ·)
 |_::_=>none
noncomputable def inD (x:D):D->Option Bool
 |.lst ys=>if x.jT&&ys.all D.jT then some (ys.any fun y=>D.eqs y x) else none
 |_=>none
noncomputable def DG:D->Bool
 |.non=>true
 |_=>false
noncomputable def m6 (f:Int->Int->Bool):D->D->Option Bool
 |.int i,y=>(match y with
  |.int j=>some (f i j)
  |_=>none)
 |_,_=>none
noncomputable def isD (x:D):D->Option Bool
 |.non=>some (DG x)
 |_=>none
noncomputable def ni:CmpOp->D->D->Option Bool
 |.Lt,x,y=>m6 (fun i j=>decide (i<j)) x y
 |.LtE,x,y=>m6 (fun i j=>decide (i<=j)) x y
 |.Gt,x,y=>m6 (fun i j=>decide (j<i)) x y
 |.GtE,x,y=>m6 (fun i j=>decide (j<=i)) x y
 |.Eq,x,y=>D.eqf 40 x y
 |.NotEq,x,y=>(D.eqf 40 x y).map (!·)
 |.In,x,y=>inD x y
 |.NotIn,x,y=>(inD x y).map (!·)
 |.Is,x,y=>isD x y
 |.IsNot,x,y=>(isD x y).map (!·)
noncomputable def truth:D->Option Bool
 |.bl b=>some b
 |.int i=>some (i != 0)
 |.lst xs=>some (!xs.isEmpty)
 |.tup xs=>some (!xs.isEmpty)
 |.non=>some false
noncomputable def nt (n:Nat)(i:Int):Option Nat:=if 0<=i then (if i<n then some i.toNat else none) else if -(n:Int)<=i then some (i+n).toNat else none
noncomputable def cP (n d:Nat):Option Int->Nat
 |none=>d
 |some v=>if v<0 then (v+(n:Int)).toNat else min v.toNat n
noncomputable def cut {α:Type}(xs:List α)(lo hi:Option Int):List α :=
 let a:=cP xs.length 0 lo
 (xs.drop a).take (cP xs.length xs.length hi - a)
noncomputable def GZ:D->D->Option D
 |.lst xs,.int i=>(nt xs.length i).bind fun j=>xs[j]?
 |.tup xs,.int i=>(nt xs.length i).bind fun j=>xs[j]?
 |_,_=>none
noncomputable def slD:D->Option Int->Option Int->Option D
 |.lst xs,lo,hi=>some (.lst (cut xs lo hi))
 |_,_,_=>none
noncomputable def D.inner:D->Bool
 |.lst xs=>D.flats xs
 |.tup xs=>D.flats xs
 |_=>true
noncomputable def kJ (d:D)(R:List Nat):Rt:=if d.inner then .mv [] else .sh R
noncomputable def uN (d:D)(r:Rt):Rt:=if d.flat then .mv [] else .sh r.roots
noncomputable def fA:List Rt->Option (List Nat)
 |[]=>some []
 |.mv R::r=>(fA r).map (R ++ ·)
 |.sh _::_=>none
noncomputable def bX (l:List Rt):List Nat:=(l.map Rt.roots).flatten
noncomputable def rY (l:List Rt):Rt:=match fA l with
 |some R=>if R.Nodup then .mv R else .sh R
 |none=>.sh (bX l)
noncomputable def AR (T:String):D->Bool
 |.non=>T == "NoneType"
 |.bl _=>T == "bool" || T == "int"
 |.int _=>T == "int"
 |.lst _=>T == "list"
 |.tup _=>T == "tuple"
noncomputable def D.isBl:D->Bool
 |.bl _=>true
 |_=>false
noncomputable def allB:List D->Option Bool
 |[]=>some true
 |.bl b::r=>if b then allB r else some false
 |_::_=>none
noncomputable def bB:Int->Int->Nat->List D
 |_,_,0=>[]
 |a,s,n+1=>.int a::bB (a+s) s n
noncomputable def gM (i:Int):Bool:=decide (-(2 ^ 62)<=i/\i<2 ^ 62)
noncomputable def insI (a:Int):List Int->List Int
 |[]=>[a]
 |b::l=>if a<=b then a::b::l else b::insI a l
noncomputable def fB:List Int->List Int
 |[]=>[]
 |a::l=>insI a (fB l)
noncomputable def zm:List D->Option D
 |[.lst xs]=>match sE xs with
  |some ns=>if ns.length<64 then some (.lst ((fB ns).map .int)) else none
  |none=>none
 |_=>none
noncomputable def HL:List D->Option D
 |[.lst xs]=>some (.int xs.length)
 |[.tup xs]=>some (.int xs.length)
 |_=>none
noncomputable def F6:List D->Option D
 |[.lst xs]=>some (.lst xs)
 |[.tup xs]=>some (.lst xs)
 |_=>none
noncomputable def DW:List D->Option D
 |[.lst xs]=>if xs.all D.isBl then (allB xs).map .bl else none
 |_=>none
noncomputable def II (T:String):List D->Option D
 |[d]=>some (.bl (AR T d))
 |_=>none
noncomputable def vE:List D->Option D
 |[.int n]=>if gM n=true/\n<=1000000 then some (.lst (bB 0 1 n.toNat)) else none
 |[.int a,.int b]=>if gM a=true/\gM b=true/\b - a<=1000000 then some (.lst (bB a 1 (b - a).toNat)) else none
 |_=>none
noncomputable def nj:Dm->List D->Option D
 |.sorted,ds=>zm ds
 |.len,ds=>HL ds
 |.list,ds=>F6 ds
 |.all,ds=>DW ds
 |.isi T,ds=>II T ds
 |.lrng,ds=>vE ds
noncomputable def Tg.drop (i:Nat):Tg->Tg
 |.sh R=>.sh (R.filter (· != i))
 |t=>t
noncomputable def cI (d:D)(R:List Nat):Tg:=if d.flat then .own else .sh R
noncomputable def put (env:En)(i:Nat)(d:D)(t:Tg):En:=(env.map fun (s:Slot)=>s.map fun (p:D×Tg)=>(p.1,p.2.drop i)).set i (some (d,t))
noncomputable def kr (R:List Nat):Tg->Bool
 |.sh Q=>Q.any fun q=>R.contains q
 |_=>false
noncomputable def kill (R:List Nat)(env:En):En:=env.mapIdx fun i (s:Slot)=>match s with
 | some (d,t)=>if R.contains i || kr R t then none else some (d,t)
 |none=>none
noncomputable def bV (env:En)(R:List Nat):Bool:=R.all fun i=>match env[i]? with
 | some (some (_,.own))=>true
 |_=>false
noncomputable def bindM (f:D->Tg):List Nat->List D->En->Option En
 |[],[],env=>some env
 |i::is,d::ds,env=>if i<env.length then bindM f is ds (put env i d (f d)) else none
 |_,_,_=>none
noncomputable def aX (R:List Nat):pE->D->En->Option En
 |.nm i,d,env=>if i<env.length then some (put env i d (cI d R)) else none
 |.tp is,.tup ds,env=>bindM (fun d=>cI d R) is ds env
 |_,_,_=>none
structure Tb where
 cl:Nat->List D->Rs (D×Bool)
 gl:Nat->D
 fuel:Nat
noncomputable def iG {α:Type}:Option α->Rs α
 |some a=>.ok a
 |none=>.bad
noncomputable def EW:D->Option (List D)
 |.lst xs=>some xs
 |.tup xs=>some xs
 |_=>none
noncomputable def qK:D->Option (List D)
 |.lst xs=>some xs
 |_=>none
noncomputable def dY (f:D->Rs (Option (D×Rt))):List D->Rs (List (D×Rt))
 |[]=>.ok []
 |d::r=>(f d).bind fun o=>(dY f r).bind fun l=>.ok (match o with
  |some p=>p::l
  |none=>l)
noncomputable def bH (o:Option En)(c:En->Rs Bool)(e:En->Rs (D×Rt)):Rs (Option (D×Rt)):=match o with
 |none=>.bad
 |some env=>(c env).bind fun k=>if k then (e env).bind fun q=>.ok (some q) else .ok none
noncomputable def fJ:Rt->Bool
 |.mv []=>true
 |_=>false
noncomputable def bN (i:Nat):Tg->List Nat
 |.own=>[i]
 |.lk=>[i]
 |.sh R=>R
noncomputable def qZ (env:En)(pick:List Nat):List Nat:=(pick.map fun j=>match env[j]? with
 | some (some (_,t))=>bN j t
 |_=>[]).flatten
noncomputable def aL (env:En)(own:Nat)(pick:List Nat):En:=List.replicate own none++pick.map fun i=>match env[i]? with
 | some (some (d,_))=>some (d,.sh [])
 |_=>none
mutual
noncomputable def ev (T:Tb):Ex->En->Rs (D×Rt)
 |.var i,env=>match env[i]? with
  | some (some (d,t))=>.ok (d,if d.flat then .mv [] else match t with
   |.own=>.mv [i]
   |.lk=>.mv [i]
   |.sh R=>.sh R)
  |_=>.bad
 |.cst d,_=>.ok (d,.mv [])
 |.glb k,_=>.ok (T.gl k,.mv [])
 |.bin op a b,env=>(ev T a env).bind fun p=>(ev T b env).bind fun q=>(iG (pQ op p.1 q.1)).bind fun d=>.ok (d,kJ d (p.2.roots++q.2.roots))
 |.neg a,env=>(ev T a env).bind fun p=>match p.1 with
  |.int i=>.ok (.int (-i),.mv [])
  |_=>.bad
 |.cmp op a b,env=>(ev T a env).bind fun p=>(ev T b env).bind fun q=>(iG (ni op p.1 q.1)).bind fun c=>.ok (.bl c,.mv [])
 |.and a b,env=>(ev T a env).bind fun p=>match p.1 with
  |.bl true=>ev T b env
  |.bl false=>.ok (.bl false,.mv [])
  |_=>.bad
 |.or a b,env=>(ev T a env).bind fun p=>match p.1 with
  |.bl true=>.ok (.bl true,.mv [])
  |.bl false=>ev T b env
  |_=>.bad
 |.not a,env=>(ev T a env).bind fun p=>match p.1 with
  |.bl k=>.ok (.bl (!k),.mv [])
  |_=>.bad
 |.ite c a b,env=>(ev T c env).bind fun p=>(iG (truth p.1)).bind fun k=>if k then ev T a env else ev T b env
 |.lst es,env=>(bQ T es env).bind fun l=>if l.length<=lim then .ok (.lst (l.map (·.1)),rY (l.map (·.2))) else .bad
 |.tup es,env=>(bQ T es env).bind fun l=>if l.length<=lim then .ok (.tup (l.map (·.1)),rY (l.map (·.2))) else .bad
 |.ix a i,env=>(ev T a env).bind fun p=>(ev T i env).bind fun q=>(iG (GZ p.1 q.1)).bind fun d=>.ok (d,uN d p.2)
 |.sl a lo hi,env=>(ev T a env).bind fun p=>(pK T lo env).bind fun l=>(pK T hi env).bind fun h=>(iG (slD p.1 l h)).bind fun d=>.ok (d,kJ d p.2.roots)
 |.call f es,env=>(bQ T es env).bind fun l=>(T.cl f (l.map (·.1))).bind fun r=>.ok (r.1,if r.2 then .mv [] else .sh (bX (l.map (·.2))))
 |.blt b es,env=>(bQ T es env).bind fun l=>(iG (nj b (l.map (·.1)))).bind fun d=>.ok (d,kJ d (bX (l.map (·.2))))
 |.comp own pick t it c e,env=>(fS T it env).bind fun p=>(dY (fun d=>bH (aX [] t d (aL env own pick)) (nX T c) (ev T e)) p.1).bind fun l =>
    if p.1.length<=lim then .ok (.lst (l.map (·.1)),if l.all (fun q=>q.1.flat || fJ q.2) then .mv [] else .sh (p.2++qZ env pick)) else .bad
noncomputable def bQ (T:Tb):nJ->En->Rs (List (D×Rt))
 |.nil,_=>.ok []
 |.cons e es,env=>(ev T e env).bind fun p=>(bQ T es env).bind fun l=>.ok (p::l)
noncomputable def pK (T:Tb):rk->En->Rs (Option Int)
 |.none,_=>.ok none
 |.some e,env=>(ev T e env).bind fun p=>match p.1 with
  |.int i=>.ok (some i)
  |_=>.bad
noncomputable def nX (T:Tb):rk->En->Rs Bool
 |.none,_=>.ok true
 |.some e,env=>(ev T e env).bind fun p=>iG (truth p.1)
noncomputable def fS (T:Tb):sO->En->Rs (List D×List Nat)
 |.seq e,env=>(ev T e env).bind fun p=>(iG (EW p.1)).bind fun l=>.ok (l,p.2.roots)
 |.rng1 a,env=>(ev T a env).bind fun p=>match p.1 with
  |.int j=>if gM j then .ok (bB 0 1 j.toNat,[]) else .bad
  |_=>.bad
 |.rng2 a b,env=>(ev T a env).bind fun p=>(ev T b env).bind fun q=>match p.1,q.1 with
  |.int i,.int j=>if gM i&&gM j then .ok (bB i 1 (j - i).toNat,[]) else .bad
  |_,_=>.bad
 |.rng3 a b c,env=>(ev T a env).bind fun p=>(ev T b env).bind fun q=>(ev T c env).bind fun r=>match p.1,q.1,r.1 with
  |.int i,.int j,.int k=>if gM i&&gM j&&k != 0&&decide (k.natAbs<1073741824) then .ok (bB i k (Builtin.Range.rangeSize i j k).toNat,[]) else .bad
  |_,_,_=>.bad
 |.enum e,env=>(ev T e env).bind fun p=>(iG (qK p.1)).bind fun l=>.ok (l.zipIdx.map fun q=>.tup [.int q.2,q.1],p.2.roots)
 |.zip a b,env=>(ev T a env).bind fun p=>(ev T b env).bind fun q=>(iG (qK p.1)).bind fun l=>(iG (qK q.1)).bind fun m=>.ok ((l.zip m).map fun z=>.tup [z.1,z.2],p.2.roots++q.2.roots)
 |.rev e,env=>(ev T e env).bind fun p=>(iG (qK p.1)).bind fun l=>.ok (l.reverse,p.2.roots)
end
noncomputable def D.at1:D->Option Int->Option (List D)
 |.lst xs,none=>some xs
 |_,_=>none
noncomputable def D.set1:D->Option Int->List D->D
 |.lst _,none,n=>.lst n
 |d,_,_=>d
noncomputable def mutD:Dp->List D->List D->Option (List D)
 |.append,xs,[d]=>some (xs ++ [d])
 |_,_,_=>none
noncomputable def kF (xs:List D)(j:Nat):Option (D×List D):=match xs[j]? with
 |some r=>if r.flat then some (r,xs.eraseIdx j) else none
 |none=>none
noncomputable def kZ (xs:List D):List D->Option (D×List D)
 |[]=>kF xs (xs.length - 1)
 |[.int i]=>if -(2 ^ 63)<=i/\i<2 ^ 63 then (nt xs.length i).bind (kF xs) else none
 |_=>none
noncomputable def yT:D->Bool
 |.int _=>true
 |_=>false
noncomputable def oW (f:D->List D->Rs (List (D×Rt))):List D->List D->Option (List D×List D)
 |[],xs=>some ([],xs)
 |k::r,xs=>(match f k xs with
  |.ok l=>(kZ xs (l.map (·.1))).bind fun q=>(oW f r q.2).map fun z=>(q.1::z.1,z.2)
  |_=>none)
inductive Fl where
 | nx (env:En) | rt (d:D) (fr:Bool) | bk (env:En) | ct (env:En) | xc (e:Exc) (env:En) | bad
noncomputable def CF:Option En->Fl
 |some env=>.nx env
 |none=>.bad
noncomputable def jM (t:pE)(mv:Bool)(env:En)(p:D×Rt):Fl:=match t with
 |.nm i=>if i<env.length then (match p.2 with
  |.mv []=>.nx (put env i p.1 .own)
  |.mv R=>if mv then (if bV env R then .nx (put (kill R env) i p.1 .own) else .bad) else .nx (put env i p.1 (.sh (R.filter (· != i))))
  |.sh R=>.nx (put env i p.1 (.sh (R.filter (· != i))))) else .bad
 |.tp is=>match p.1 with
  |.tup ds=>match p.2 with
   |.mv []=>CF (bindM (fun _=>.own) is ds env)
   |r=>if is.all (fun i=>!r.roots.contains i) then CF (bindM (fun d=>cI d r.roots) is ds env) else .bad
  |_=>.bad
noncomputable def Fl.andThen (f:Fl)(k:En->Fl):Fl:=match f with
 |.nx env=>k env
 |x=>x
noncomputable def eZ {α:Type}(env:En)(x:Rs α)(k:α->Fl):Fl:=match x with
 |.ok a=>k a
 |.exc e=>.xc e env
 |.bad=>.bad
noncomputable def bC (t:pE)(R:List Nat)(b:En->Fl):List D->En->Fl
 |[],env=>.nx env
 |d::r,env=>match aX R t d env with
  |none=>.bad
  |some env'=>match b env' with
   |.nx e=>bC t R b r e
   |.ct e=>bC t R b r e
   |.bk e=>.nx e
   |x=>x
noncomputable def jL (c:En->Rs Bool)(b:En->Fl):Nat->En->Fl
 |0,_=>.bad
 |n+1,env=>eZ env (c env) fun k=>if k then (match b env with
   |.nx e=>jL c b n e
   |.ct e=>jL c b n e
   |.bk e=>.nx e
   |x=>x) else .nx env
noncomputable def lock (R:List Nat)(env:En):En:=env.mapIdx fun i (s:Slot)=>match s with
 | some (d,.own)=>if R.contains i then some (d,.lk) else some (d,.own)
 |s=>s
noncomputable def unlock (R:List Nat)(env0 env:En):En:=env.mapIdx fun i (s:Slot)=>match s with
 | some (d,.lk)=>match env0[i]? with
  | some (some (_,.own))=>if R.contains i then some (d,.own) else some (d,.lk)
  |_=>some (d,.lk)
 |s=>s
noncomputable def Dp.copies:Dp->Bool
 |.extend=>true
 |_=>false
noncomputable def cH (x:Nat)(path:Option Int)(env:En)(d:D)(ys:List D)(rs:List Rt):Fl:=match fA rs with
 |none=>.bad
 |some R=>if R.Nodup&&bV env R && !R.contains x&&decide (ys.length<=lim) then .nx ((kill (x::R) env).set x (some (d.set1 path ys,.own))) else .bad
noncomputable def ownAt (env:En)(x:Nat):Option D:=match env[x]? with
 | some (some (d,.own))=>some d
 |_=>none
mutual
noncomputable def bI (T:Tb):St->En->Fl
 |.asg t e mv,env=>eZ env (ev T e env) (jM t mv env)
 |.setix x path i e,env=>match ownAt env x with
  |none=>.bad
  |some d=>eZ env (ev T e env) fun v=>eZ env (pK T path env) fun p=>match d.at1 p with
   |none=>.bad
   |some xs=>eZ env (ev T i env) fun q=>match q.1 with
    |.int i=>(match nt xs.length i with
     |none=>.bad
     |some j=>cH x p env d (xs.set j v.1) [v.2])
    |_=>.bad
 |.popa y x es,env=>match ownAt env x with
  |none=>.bad
  |some d=>(match d.at1 none with
   |none=>.bad
   |some xs=>eZ env (bQ T es env) fun l=>match kZ xs (l.map (·.1)) with
    |none=>.bad
    |some q=>(cH x none env d q.2 []).andThen fun e=>jM (.nm y) false e (q.1,.mv []))
 |.apop y x es,env=>if y=x then .bad else match ownAt env x with
  |none=>.bad
  |some d=>(match d.at1 none with
   |none=>.bad
   |some xs=>eZ env (bQ T es env) fun l=>match kZ xs (l.map (·.1)) with
    |none=>.bad
    |some q=>(cH x none env d q.2 []).andThen fun e=>match ownAt e y with
     |none=>.bad
     |some dy=>(match dy.at1 none with
      |none=>.bad
      |some ys=>cH y none e dy (ys ++ [q.1]) []))
 |.popc y x it es,env=>match ownAt env x with
  |none=>.bad
  |some d=>(match d.at1 none with
   |none=>.bad
   |some xs=>eZ env (fS T it env) fun p=>if p.2=[]/\p.1.all yT=true/\xs.all yT=true/\p.1.length<=lim then (match oW (fun k cur=>bQ T es [some (k,.sh []),some (.lst cur,.sh [])]) p.1 xs with
    |none=>.bad
    |some q=>(cH x none env d q.2 []).andThen fun e=>jM (.nm y) false e (.lst q.1,.mv [])) else .bad)
 |.expr e,env=>eZ env (ev T e env) fun _=>.nx env
 |.ite c a b,env=>eZ env (ev T c env) fun p=>match truth p.1 with
  |some true=>aC T a env
  |some false=>aC T b env
  |none=>.bad
 |.forr t it b,env=>eZ env (fS T it env) fun p=>(match bC t p.2 (aC T b) p.1 (lock p.2 env) with
  |.nx e=>.nx (unlock p.2 env e)
  |x=>x)
 |.whl c b,env=>jL (fun env=>(ev T c env).bind fun p=>iG (truth p.1)) (aC T b) T.fuel env
 |.ret e,env=>eZ env (ev T e env) fun p=>.rt p.1 (match p.2 with
  |.mv R=>bV env R
  |.sh _=>false)
 |.retN,_=>.rt .non true
 |.brk,env=>.bk env
 |.cnt,env=>.ct env
 |.pass,env=>.nx env
noncomputable def aC (T:Tb):bJ->En->Fl
 |.nil,env=>.nx env
 |.cons s r,env=>(bI T s env).andThen (aC T r)
end
structure Fn where
 ps:Nat
 slots:Nat
 body:bJ
noncomputable def aF (ds:List D)(n:Nat):En:=ds.map (fun d=>some (d,cI d []))++List.replicate (n - ds.length) none
noncomputable def run (fns:List Fn)(gl:Nat->D)(fuel:Nat):Nat->Nat->List D->Rs (D×Bool)
 |0,_,_=>.bad
 |n+1,f,ds=>match fns[f]? with
  |none=>.bad
  |some F=>if ds.length=F.ps then (match aC ⟨run fns gl fuel n,gl,fuel⟩ F.body (aF ds F.slots) with
   |.rt d fr=>.ok (d,fr)
   |.nx _=>.ok (.non,true)
   |.xc e _=>.exc e
   |_=>.bad) else .bad
end Pc
end
section
namespace Pc
open PySem L2
abbrev Frag:=PySem.W.Frag
inductive pN:List DictEntry->List (Key×Option Int)->Prop where
 | nil:pN [] []
 | cons {e:DictEntry}{es:List DictEntry}{k v:Int}{kvs:List (Key×Option Int)}{t u:Tok}(hh:e.hash=hashInt k) (hk:e.key = .int k t) (hv:e.val = .int v u) (r:pN es kvs):pN (e::es) ((.inl k,some v)::kvs)
 | si {e:DictEntry}{es:List DictEntry}{k:Str}{v:Int}{kvs:List (Key×Option Int)}{t u:Tok}(hk:e.key = .str k t) (hv:e.val = .int v u) (r:pN es kvs):pN (e::es) ((.inr k,some v)::kvs)
 | sn {e:DictEntry}{es:List DictEntry}{k:Str}{kvs:List (Key×Option Int)}{t:Tok}(hk:e.key = .str k t) (hv:e.val = .none) (r:pN es kvs):pN (e::es) ((.inr k,none)::kvs)
def yR (w:World)(K:Frag):Prop:=∀ a o es ep,K.lookup a=some o->o.data = .dict es ep->∀ kvs,pN es.toList kvs->∀ e∈es.toList,∀ s t,e.key = .str s t->(a==sysModules)=false/\e.hash=hashStr w s
inductive ML where
 | l (vs:List V) | k (kvs:List (Key×V)) | t (kvs:List (List Key×V))
noncomputable def ML.o:ML->HO
 |.l vs=>.lst vs
 |.k kvs=>.dK kvs
 |.t kvs=>.dT kvs
noncomputable def E7:List V->Bool
 |[.int _,.int _]=>true
 |_=>false
def rW (K:Frag)(H:Hp)(a:Addr)(xs:List V):Prop :=
 H a=some (.tup xs) \/
  E7 xs=false/\∃(o:Obj) (its:Array Value) (n:Nat),K.lookup a=some o/\o.cls = .type "tuple"/\o.data = .seq its n/\its.size<=sizeLine/\aR xs its.toList
theorem rW.sq {K:Frag}{H:Hp}{a:Addr}{xs:List V}(h:rW K H a xs):sQ K H a xs:=h.imp .inl And.right
mutual
inductive Rep (K:Frag) (H:Hp):D->V->List Addr->Prop where
 | non:Rep K H .non .non []
 | bl (b:Bool):Rep K H (.bl b) (.bl b) []
 | int (i:Int):Rep K H (.int i) (.int i) []
 | lst {p:Addr}{vs:List V}{ds:List D}{G:List Addr}(h:Rd H p (.lst vs)) (r:aK K H ds vs G):Rep K H (.lst ds) (.ref p) (p::G)
 | tup {p:Addr}{vs:List V}{ds:List D}{G:List Addr}(h:rW K H p vs) (r:aK K H ds vs G):Rep K H (.tup ds) (.ref p) G
inductive aK (K:Frag) (H:Hp):List D->List V->List Addr->Prop where
 | nil:aK K H [] [] []
 | cons {d:D}{v:V}{ds:List D}{vs:List V}{G G':List Addr}(h:Rep K H d v G) (r:aK K H ds vs G'):aK K H (d::ds) (v::vs) (G++G')
end
theorem BH {H H':Hp}{b:Addr}(k:∀ u:HO,H b=some u->H' b=some u){o:HO}(h:Rd H b o):Rd H' b o:=by
 rcases h with h | ⟨u,h⟩
 ·exact .inl (k _ h)
 ·exact .inr ⟨u,k _ h⟩
def HY (H H':Hp):Prop:=∀ b o u,H b=some (.frz o u)->H' b=some (.frz o u)
section
variable {K:Frag}{H H':Hp}
theorem Rep.keep (t:∀ b vs,rW K H b vs->rW K H' b vs)(z:HY H H'){d:D}{v:V}{G:List Addr}(h:Rep K H d v G):(∀ b∈G,∀ u:HO,H b=some u->H' b=some u)->Rep K H' d v G :=
 Rep.rec (motive_1:=fun d v G _=>(∀ b∈G,∀ u:HO,H b=some u->H' b=some u)->Rep K H' d v G) (motive_2:=fun ds vs G _=>(∀ b∈G,∀ u:HO,H b=some u->H' b=some u)->aK K H' ds vs G)
  (fun _=>.non) (fun b _=>.bl b) (fun i _=>.int i) (fun h _ ih k=>.lst (BH (k _ ae) h) (ih fun b hb=>k b (aa _ hb)))
  (fun h _ ih k=>.tup (t _ _ h) (ih k))
  (fun _=>.nil) (fun _ _ i1 i2 k=>.cons (i1 fun b hb=>k b (aw _ hb)) (i2 fun b hb=>k b (ak _ hb))) h
theorem aK.keep (t:∀ b vs,rW K H b vs->rW K H' b vs)(z:HY H H'){ds:List D}{vs:List V}{G:List Addr}(h:aK K H ds vs G):(∀ b∈G,∀ u:HO,H b=some u->H' b=some u)->aK K H' ds vs G :=
 aK.rec (motive_1:=fun d v G _=>True) (motive_2:=fun ds vs G _=>(∀ b∈G,∀ u:HO,H b=some u->H' b=some u)->aK K H' ds vs G)
  trivial (fun _=>trivial) (fun _=>trivial) (fun _ _ _=>trivial) (fun _ _ _=>trivial)
  (fun _=>.nil) (fun h _ _ i2 k=>.cons (Rep.keep t z h fun b hb=>k b (aw _ hb)) (i2 fun b hb=>k b (ak _ hb))) h
theorem aN.rd (e:aN H H'){b:Addr}{o:HO}(h:Rd H b o):Rd H' b o:=by
 rcases h with h | ⟨u,h⟩
 ·exact .inl (e _ _ h)
 ·exact .inr ⟨u,e _ _ h⟩
theorem aN.tqT (e:aN H H'){b:Addr}{vs:List V}(h:rW K H b vs):rW K H' b vs:=by
 rcases h with h | h
 ·exact .inl (e _ _ h)
 ·exact .inr h
theorem Rep.same (e:aN H H'){d:D}{v:V}{G:List Addr}(h:Rep K H d v G):Rep K H' d v G:=h.keep (fun _ _=>aN.tqT e) (fun _ _ _ h=>e _ _ h) fun _ _ _ h=>e _ _ h
theorem aK.same (e:aN H H'){d:List D}{v:List V}{G:List Addr}(h:aK K H d v G):aK K H' d v G:=h.keep (fun _ _=>aN.tqT e) (fun _ _ _ h=>e _ _ h) fun _ _ _ h=>e _ _ h
theorem Rep.flat {d:D}{v:V}{G:List Addr}(h:Rep K H d v G):d.flat=true->G=[] :=
 Rep.rec (motive_1:=fun d v G _=>d.flat=true->G=[]) (motive_2:=fun ds vs G _=>D.flats ds=true->G=[])
  (fun _=>rfl) (fun _ _=>rfl) (fun _ _=>rfl) (fun _ _ _ f=>by simp[D.flat] at f) (fun _ _ ih f=>ih (by simpa[D.flat] using f))
  (fun _=>rfl) (fun _ _ i1 i2 f=>by
   simp only[D.flats,Bool.and_eq_true] at f;rw[i1 f.1,i2 f.2];rfl) h
theorem aK.flat {ds:List D}{vs:List V}{G:List Addr}(h:aK K H ds vs G):D.flats ds=true->G=[] :=
 aK.rec (motive_1:=fun d v G _=>True) (motive_2:=fun ds vs G _=>D.flats ds=true->G=[])
  trivial (fun _=>trivial) (fun _=>trivial) (fun _ _ _=>trivial) (fun _ _ _=>trivial)
  (fun _=>rfl) (fun h _ _ i2 f=>by
   simp only[D.flats,Bool.and_eq_true] at f;rw[Rep.flat h f.1,i2 f.2];rfl) h
theorem Rep.live {d:D}{v:V}{G:List Addr}(h:Rep K H d v G):∀ a∈G,∃ vs:ML,Rd H a vs.o :=
 Rep.rec (motive_1:=fun d v G _=>∀ a∈G,∃ vs:ML,Rd H a vs.o) (motive_2:=fun ds vs G _=>∀ a∈G,∃ vs:ML,Rd H a vs.o)
  (fun _ h=>(nomatch h)) (fun _ _ h=>(nomatch h)) (fun _ _ h=>(nomatch h)) (fun h _ ih a m=>(dw.mp m).elim (fun e=>e ▸ ⟨.l _,h⟩) (ih a)) (fun _ _ ih=>ih)
  (fun _ h=>(nomatch h)) (fun _ _ i1 i2 a m=>(List.mem_append.mp m).elim (i1 a) (i2 a)) h
theorem aK.live {ds:List D}{vs:List V}{G:List Addr}(h:aK K H ds vs G):∀ a∈G,∃ vs:ML,Rd H a vs.o :=
 aK.rec (motive_1:=fun d v G _=>True) (motive_2:=fun ds vs G _=>∀ a∈G,∃ vs:ML,Rd H a vs.o)
  trivial (fun _=>trivial) (fun _=>trivial) (fun _ _ _=>trivial) (fun _ _ _=>trivial)
  (fun _ h=>(nomatch h)) (fun h _ _ i2 a m=>(List.mem_append.mp m).elim (Rep.live h a) (i2 a)) h
theorem Rd.ne_none {a:Addr}{u:HO}(h:Rd H a u):H a≠none:=by
 rcases h with h | ⟨o,h⟩<;>rw[h]<;>simp
theorem Rep.nn {d:D}{v:V}{G:List Addr}(h:Rep K H d v G){a:Addr}(m:a∈G):H a≠none:=let ⟨_,q⟩:=h.live a m;Rd.ne_none q
theorem aK.nn {d:List D}{v:List V}{G:List Addr}(h:aK K H d v G){a:Addr}(m:a∈G):H a≠none:=let ⟨_,q⟩:=h.live a m;Rd.ne_none q
theorem aK.len:∀{ds:List D}{vs:List V}{G:List Addr},aK K H ds vs G->ds.length=vs.length
 |_,_,_,.nil=>rfl
 |_,_,_,.cons _ r=>by simp[aK.len r]
theorem aK.get:∀{ds:List D}{vs:List V}{G:List Addr}{i:Nat}{d:D},aK K H ds vs G->ds[i]? = some d->∃ v G',vs[i]? = some v/\Rep K H d v G'/\G'.Sublist G
 |_,_,_,_,_,.nil,e=>by simp at e
 | _,_,_,0,_,.cons h r,e=>by
  simp at e;subst e;exact⟨_,_,rfl,h,List.sublist_append_left _ _⟩
 | _,_,_,i+1,d,.cons h r,e=>by
  obtain⟨v,G',a,b,c⟩:=aK.get (i:=i) (d:=d) r (by simpa using e);exact⟨v,G',by simpa using a,b,c.trans (List.sublist_append_right _ _)⟩
theorem aK.append:∀{ds es:List D}{vs us:List V}{G G':List Addr},aK K H ds vs G->aK K H es us G'->aK K H (ds++es) (vs++us) (G++G')
 |_,_,_,_,_,_,.nil,s=>s
 | _,_,_,_,_,_,.cons h r,s=>by
  rw[fe];exact .cons h (aK.append r s)
theorem aK.take:∀{ds:List D}{vs:List V}{G:List Addr}(n:Nat),aK K H ds vs G->∃ G',aK K H (ds.take n) (vs.take n) G'/\G'.Sublist G
 |_,_,_,0,_=>⟨[],by simpa using .nil,by simp⟩
 |_,_,_,_+1,.nil=>⟨[],by simpa using .nil,by simp⟩
 | _,_,_,n+1,.cons h r=>by
  obtain⟨G',a,b⟩:=aK.take n r;exact⟨_,by simpa using .cons h a,List.Sublist.append (List.Sublist.refl _) b⟩
theorem aK.drop:∀{ds:List D}{vs:List V}{G:List Addr}(n:Nat),aK K H ds vs G->∃ G',aK K H (ds.drop n) (vs.drop n) G'/\G'.Sublist G
 |_,_,_,0,r=>⟨_,by simpa using r,List.Sublist.refl _⟩
 |_,_,_,_+1,.nil=>⟨[],by simpa using .nil,by simp⟩
 | _,_,_,n+1,.cons h r=>by
  obtain⟨G',a,b⟩:=aK.drop n r;exact⟨_,by simpa using a,b.trans (List.sublist_append_right _ _)⟩
theorem aK.split:∀{ds:List D}{vs:List V}{G:List Addr}{i:Nat}{d:D},aK K H ds vs G->ds[i]? = some d->∃ v G1 G' G2,vs[i]? = some v/\G=G1++(G'++G2)/\Rep K H d v G' /\
  ∀(H':Hp) (d':D) (v':V) (N:List Addr),(∀ b vs,rW K H b vs->rW K H' b vs)->HY H H'->(∀ b∈G1++G2,∀ u:HO,H b=some u->H' b=some u)->Rep K H' d' v' N->aK K H' (ds.set i d') (vs.set i v') (G1++(N++G2))
 |_,_,_,_,_,.nil,e=>by simp at e
 | _,_,_,0,_,.cons (G:=G) (G':=G') h r,e=>by
  simp at e;subst e;refine⟨_,[],_,_,rfl,rfl,h,fun H' d' v' N t z k n=>?_⟩;show aK K H' (_::_) (_::_) (N++G');exact .cons n (r.keep t z fun b hb=>k b (by simpa using hb))
 | _,_,_,i+1,d,.cons (G:=G) (G':=G') h r,e=>by
  obtain⟨v,G1,Gi,G2,a,b,c,f⟩:=aK.split (i:=i) (d:=d) r (by simpa using e);refine⟨v,G++G1,Gi,G2,by simpa using a,by rw[b];simp,c,fun H' d' v' N t z k n=>?_⟩;have q:=aK.cons (h.keep t z fun b hb=>k b (by simp[hb])) (f H' d' v' N t z (fun b hb=>k b (by simp at hb ⊢;exact Or.inr hb)) n);rw[<-fe] at q;exact q
end
noncomputable def bO:Tg->Bool
 |.own=>true
 |.lk=>true
 |.sh _=>false
structure RE (K:Frag)(P:Addr->Prop)(env:En)(σ:L2.St)(H:Hp)(F:Nat->List Addr):Prop where
 len:env.length=σ.length
 val:∀ i d t,env[i]? = some (some (d,t))->∃ v,σ[i]? = some (some v)/\Rep K H d v (F i)
 emp:∀ i,(∀ d t,env[i]?≠some (some (d,t)))->F i=[]
 one:∀ i d t,env[i]? = some (some (d,t))->bO t=true->(F i).Nodup/\(∀ a∈F i,∃ vs:ML,H a=some vs.o) /\
  ∀ a∈F i,∀ j d' t',env[j]? = some (some (d',t'))->a∈F j->i∈bN j t'
 wr:∀ i d,env[i]? = some (some (d,.own))->∀ a∈F i,¬ P a
 pl:∀ a,P a->H a≠none
structure bY (env:En)(F:Nat->List Addr)(H:Hp)(r:Rt)(H':Hp)(G:List Addr):Prop where
 cont:∀ a∈G,H a=none\/∃ i d t,a∈F i/\env[i]? = some (some (d,t))/\∀ q∈bN i t,q∈r.roots
 mv:∀ R,r = .mv R->G.Nodup/\(∀ a∈G,∃ vs:ML,H' a=some vs.o)/\∀ a∈G,H a=none\/∃ i d t,i∈R/\a∈F i/\env[i]? = some (some (d,t))/\bO t=true
theorem bY.nil {env:En}{F:Nat->List Addr}{H H':Hp}{r:Rt}:bY env F H r H' []:=⟨fun _ h=>(nomatch h),fun _ _=>⟨bq,fun _ h=>(nomatch h),fun _ h=>(nomatch h)⟩⟩
theorem RE.same {K:Frag}{P:Addr->Prop}{env:En}{σ:L2.St}{H H':Hp}{F:Nat->List Addr}(r:RE K P env σ H F)(e:aN H H'):RE K P env σ H' F where
 len:=r.len
 val:=fun i d t h=>let ⟨v,a,b⟩:=r.val i d t h;⟨v,a,b.same e⟩
 emp:=r.emp
 one:=fun i d t h o=>let ⟨a,b,c⟩:=r.one i d t h o;⟨a,fun x hx=>let ⟨vs,q⟩:=b x hx;⟨vs,e _ _ q⟩,c⟩
 wr:=r.wr
 pl:=fun a h z=>by
  cases q:H a with
  |none=>exact r.pl a h q
  |some o=>rw[e _ _ q] at z;cases z
theorem aN.no {H H':Hp}(e:aN H H'){a:Addr}(h:H' a=none):H a=none:=by
 cases q:H a with
 |none=>rfl
 |some o=>rw[e _ _ q] at h;cases h
theorem bY.back {env:En}{F:Nat->List Addr}{H H1 H':Hp}{r:Rt}{G:List Addr}(h:bY env F H1 r H' G)(e:aN H H1):bY env F H r H' G where
 cont:=fun a ha=>(h.cont a ha).imp (aN.no e) id
 mv:=fun R hr=>let ⟨a,b,c⟩:=h.mv R hr;⟨a,b,fun x hx=>(c x hx).imp (aN.no e) id⟩
theorem bY.later {env:En}{F:Nat->List Addr}{H H1 H':Hp}{r:Rt}{G:List Addr}(h:bY env F H r H1 G)(e:aN H1 H'):bY env F H r H' G where
 cont:=h.cont
 mv:=fun R hr=>let ⟨a,b,c⟩:=h.mv R hr;⟨a,fun x hx=>let ⟨vs,q⟩:=b x hx;⟨vs,e _ _ q⟩,c⟩
theorem bY.part {env:En}{F:Nat->List Addr}{H H':Hp}{r r':Rt}{G G':List Addr}(h:bY env F H r H' G)(hs:∀ a∈G',a∈G)(hr:∀ q∈r.roots,q∈r'.roots)(hn:∀ R,r'≠.mv R):bY env F H r' H' G' where
 cont:=fun a ha=>(h.cont a (hs a ha)).imp id fun ⟨i,d,t,x,y,z⟩=>⟨i,d,t,x,y,fun q hq=>hr q (z q hq)⟩
 mv:=fun R e=>absurd e (hn R)
noncomputable def tV (F:Nat->List Addr)(i:Nat)(G:List Addr):Nat->List Addr:=fun j=>if j=i then G else F j
theorem fD {F:Nat->List Addr}{i:Nat}{G:List Addr}:tV F i G i=G:=if_pos rfl
theorem eS {F:Nat->List Addr}{i j:Nat}{G:List Addr}(h:j≠i):tV F i G j=F j:=if_neg h
theorem vz (env:En)(i:Nat)(d:D)(t:Tg):(put env i d t).length=env.length:=by simp[put]
theorem eX {env:En}{i:Nat}{d:D}{t:Tg}(h:i<env.length):(put env i d t)[i]? = some (some (d,t)):=by
 unfold put;rw[List.getElem?_set_self (by simpa using h)]
theorem BB {env:En}{i j:Nat}{d:D}{t:Tg}(h:j≠i):(put env i d t)[j]? = (env[j]?).map fun s=>s.map fun p=>(p.1,p.2.drop i):=by
 unfold put;rw[List.getElem?_set_ne (cm h),List.getElem?_map]
theorem iZ {env:En}{i j:Nat}{d d':D}{t t':Tg}(h:j≠i)(e:(put env i d t)[j]? = some (some (d',t'))):∃ t0,env[j]? = some (some (d',t0))/\t'=t0.drop i:=by
 rw[BB h] at e;cases q:env[j]? with
 |none=>rw[q] at e;cases e
 |some s =>
  rw[q] at e;cases s with
  |none=>cases e
  |some p =>
   obtain⟨a,b⟩:=p;simp only[Option.map_some,Option.some.injEq,Prod.mk.injEq] at e;obtain⟨rfl,rfl⟩:=e;exact⟨b,rfl,rfl⟩
theorem mZ (t:Tg)(i:Nat):bO (t.drop i)=bO t:=by cases t<;>rfl
theorem nh {t:Tg}{i j k:Nat}(h:k∈bN j t)(hk:k≠i):k∈bN j (t.drop i):=by
 cases t with
 |own=>exact h
 |lk=>exact h
 |sh R =>
  simp only[bN,Tg.drop,List.mem_filter] at h ⊢;exact⟨h,by simpa using hk⟩
section
variable {K:Frag}{P:Addr->Prop}{env:En}{σ:L2.St}{H:Hp}{F:Nat->List Addr}
theorem RE.nn (re:RE K P env σ H F){j:Nat}{d:D}{t:Tg}(h:env[j]? = some (some (d,t))){a:Addr}(m:a∈F j):H a≠none:=let ⟨_,_,r⟩:=re.val j d t h;r.nn m
theorem RE.at' (re:RE K P env σ H F){j:Nat}{a:Addr}(m:a∈F j):∃ d t,env[j]? = some (some (d,t)):=by
 by_cases h:∃ d t,env[j]? = some (some (d,t))
 ·exact h
 ·rw[re.emp j fun d t e=>h ⟨d,t,e⟩] at m;cases m
theorem RE.put (re:RE K P env σ H F){i:Nat}{d:D}{v:V}{G:List Addr}{t:Tg}(hi:i<env.length)(rp:Rep K H d v G)
  (ho:bO t=true->G.Nodup/\(∀ a∈G,∃ vs:ML,H a=some vs.o)/\∀ a∈G,∀ j,j≠i->a∉F j) (hw:t = .own->∀ a∈G,¬ P a)
  (hs:∀ a∈G,∀ j d' t',j≠i->env[j]? = some (some (d',t'))->bO t'=true->a∈F j->j∈bN i t):RE K P (put env i d t) (σ.set i (some v)) H (tV F i G) where
 len:=by rw[vz,aq];exact re.len
 val:=fun j d' t' e=>by
  by_cases h:j=i
  ·subst h;rw[eX hi] at e;cases e;exact⟨v,List.getElem?_set_self (by rw[<-re.len];exact hi),by rw[fD];exact rp⟩
  ·obtain⟨t0,e0,rfl⟩:=iZ h e;obtain⟨u,a,b⟩:=re.val j d' t0 e0;exact⟨u,by rw[List.getElem?_set_ne (cm h)];exact a,by rw[eS h];exact b⟩
 emp:=fun j h=>by
  by_cases hj:j=i
  ·subst hj;exact absurd (eX hi) (h d t)
  ·rw[eS hj];refine re.emp j fun d' t' e=>h d' (t'.drop i) ?_
   rw[BB hj,e];rfl
 one:=fun j d' t' e o=>by
  by_cases h:j=i
  ·subst h;rw[eX hi] at e;cases e;obtain⟨a,b,c⟩:=ho o;rw[fD];refine⟨a,b,fun x hx k d2 t2 e2 m=>?_⟩;by_cases hk:k=j
   ·subst hk;rw[eX hi] at e2;cases e2;cases t<;>simp_all [bN,bO]
   ·rw[eS hk] at m;exact absurd m (c x hx k hk)
  ·obtain⟨t0,e0,rfl⟩:=iZ h e;rw[mZ] at o;obtain⟨a,b,c⟩:=re.one j d' t0 e0 o;rw[eS h];refine⟨a,b,fun x hx k d2 t2 e2 m=>?_⟩;by_cases hk:k=i
   ·subst hk;rw[eX hi] at e2;cases e2;rw[fD] at m;exact hs x m j d' t0 h e0 o hx
   ·rw[eS hk] at m;obtain⟨t3,e3,rfl⟩:=iZ hk e2;exact nh (c x hx k d2 t3 e3 m) h
 wr:=fun j d' e=>by
  by_cases h:j=i
  ·subst h;rw[eX hi] at e;cases e;rw[fD];exact hw rfl
  ·obtain⟨t0,e0,q⟩:=iZ h e;rw[eS h];cases t0 with
   |own=>exact re.wr j d' e0
   |lk=>cases q
   |sh R=>cases q
 pl:=re.pl
theorem RE.forget (re:RE K P env σ H F){env':En}(hl:env'.length=env.length)(he:∀(i:Nat) (d:D) (t:Tg),env'[i]? = some (some (d,t))->env[i]? = some (some (d,t))) :
  RE K P env' σ H (fun i=>match env'[i]? with | some (some _)=>F i | _=>[]) where
 len:=hl.trans re.len
 val:=fun i d t e=>by rw[e];exact re.val i d t (he i d t e)
 emp:=fun i h=>by
  split
  ·rename_i p q;exact absurd q (h p.1 p.2)
  ·rfl
 one:=fun i d t e o=>by
  rw[e];obtain⟨a,b,c⟩:=re.one i d t (he i d t e) o;refine⟨a,b,fun x hx k d2 t2 e2 m=>?_⟩;rw[e2] at m;exact c x hx k d2 t2 (he k d2 t2 e2) m
 wr:=fun i d e=>by rw[e];exact re.wr i d (he i d _ e)
 pl:=re.pl
end
theorem eH (R:List Nat)(env:En):(kill R env).length=env.length:=by simp[kill]
theorem cQ {R:List Nat}{env:En}{i:Nat}{d:D}{t:Tg}(e:(kill R env)[i]? = some (some (d,t))):env[i]? = some (some (d,t))/\i∉R/\∀ q∈R,q∉bN i t:=by
 unfold kill at e;rw[List.getElem?_mapIdx] at e;cases q:env[i]? with
 |none=>rw[q] at e;cases e
 |some s =>
  rw[q] at e;cases s with
  |none=>cases e
  |some p =>
   obtain⟨a,b⟩:=p;simp only[Option.map_some,Option.some.injEq] at e;by_cases h:(R.contains i || kr R b)=true
   ·rw[if_pos h] at e;cases e
   ·rw[if_neg h] at e;cases e;rw[gq,not_or] at h;have h1:i∉R:=fun z=>h.1 (by simpa using z)
    refine⟨rfl,h1,fun r hq z=>?_⟩;cases t with
    |own=>simp only[bN,List.mem_singleton] at z;subst z;exact h1 hq
    |lk=>simp only[bN,List.mem_singleton] at z;subst z;exact h1 hq
    |sh Q =>
     apply h.2;simp only[kr,List.any_eq_true];exact⟨r,z,by simpa using hq⟩
section
variable {K:Frag}{P:Addr->Prop}{env:En}{σ:L2.St}{H:Hp}{F:Nat->List Addr}
theorem sk {p b:Addr}{ws vs:List V}{o:HO}(hp:H p=some (.lst ws))(h:rW K H b vs):rW K (upd H p o) b vs:=by
 rcases h with h | h
 ·exact .inl (by rw[aP];exact h;intro z;subst z;rw[hp] at h;cases h)
 ·exact .inr h
theorem zT {p b:Addr}{ws:ML}{vs:List V}{o:HO}(hp:H p=some ws.o)(h:rW K H b vs):rW K (upd H p o) b vs:=by
 rcases h with h | h
 ·exact .inl (by rw[aP];exact h;intro z;subst z;rw[hp] at h;cases ws<;>cases h)
 ·exact .inr h
theorem oY {H:Hp}{p:Addr}{ws:ML}{o:HO}(hp:H p=some ws.o):HY H (L2.upd H p o):=fun b ob u h=>by
 rw[aP fun e=>?_]
 ·exact h
 ·subst e;rw[hp] at h;cases ws<;>cases h
theorem Rep.upd {p:Addr}{ws:List V}{o:HO}{d:D}{v:V}{G:List Addr}(hp:H p=some (.lst ws))(h:Rep K H d v G)(hn:p∉G):Rep K (upd H p o) d v G :=
 h.keep (fun _ _=>sk hp) (oY (ws:=.l _) hp) fun b hb _ h=>(aP (fun (z:b=p)=>hn (z ▸ hb))).trans h
theorem Rep.updM {p:Addr}{ws:ML}{o:HO}{d:D}{v:V}{G:List Addr}(hp:H p=some ws.o)(h:Rep K H d v G)(hn:p∉G):Rep K (L2.upd H p o) d v G :=
 h.keep (fun _ _=>zT hp) (oY hp) fun b hb _ h=>(aP (fun (z:b=p)=>hn (z ▸ hb))).trans h
theorem aK.upd {p:Addr}{ws:List V}{o:HO}{d:List D}{v:List V}{G:List Addr}(hp:H p=some (.lst ws))(h:aK K H d v G)(hn:p∉G):aK K (upd H p o) d v G :=
 h.keep (fun _ _=>sk hp) (oY (ws:=.l _) hp) fun b hb _ h=>(aP (fun (z:b=p)=>hn (z ▸ hb))).trans h
noncomputable def sU (F:Nat->List Addr)(env:En)(x:Nat)(R:List Nat)(G:List Addr):Nat->List Addr:=fun j=>if j=x then G else match (kill (x::R) env)[j]? with
 | some (some _)=>F j
 |_=>[]
theorem RE.mutateM (re:RE K P env σ H F){x:Nat}{d d':D}{v:V}{p:Addr}{vs:ML}{R:List Nat}{N G:List Addr}(hx:env[x]? = some (some (d,.own)))(hv:σ[x]? = some (some v))(hp:p∈F x)
  (rp:Rep K (upd H p vs.o) d' v G) (nd:G.Nodup) (sub:∀ a∈G,a∈F x\/a∈N)
  (hN:∀ a∈N,(∃ vs:ML,H a=some vs.o)/\¬ P a/\∀(j:Nat) (d:D) (t:Tg),env[j]? = some (some (d,t))->a∈F j->∃ q∈x::R,q∈bN j t) :
  RE K P ((kill (x::R) env).set x (some (d',.own))) σ (upd H p vs.o) (sU F env x R G):=by
 obtain⟨ndx,lsx,onx⟩:=re.one x d .own hx rfl;obtain⟨ws,hpl⟩:=lsx p hp;have hxl:x<(kill (x::R) env).length:=by
  rw[eH];exact (List.getElem?_eq_some_iff.mp hx).1
 have other:∀{j:Nat}{d2:D}{t2:Tg},j≠x->((kill (x::R) env).set x (some (d',.own)))[j]? = some (some (d2,t2))->(kill (x::R) env)[j]? = some (some (d2,t2)):=fun {j d2 t2} hj e=>by
  rw[List.getElem?_set_ne (cm hj)] at e;exact e
 have live:∀ a,(∃ vs:ML,H a=some vs.o)->∃ ws:ML,upd H p vs.o a=some ws.o:=fun a ⟨ws,h⟩=>by
  by_cases z:a=p
  ·subst z;exact⟨vs,bG⟩
  ·exact⟨ws,by rw[aP z];exact h⟩
 have apart:∀{j:Nat}{d2:D}{t2:Tg},j≠x->(kill (x::R) env)[j]? = some (some (d2,t2))->∀ a∈F x,a∉F j:=fun {j d2 t2} hj e a ha hb=>by
  obtain⟨e0,_,h3⟩:=cQ e;exact h3 x ae (onx a ha j d2 t2 e0 hb)
 have fj:∀{j:Nat}{d2:D}{t2:Tg},j≠x->(kill (x::R) env)[j]? = some (some (d2,t2))->sU F env x R G j=F j:=fun {j d2 t2} hj e=>by
  unfold sU;rw[if_neg hj,e]
 have fx:sU F env x R G x=G:=if_pos rfl;refine⟨?_,fun j d2 t2 e=>?_,fun j h=>?_,fun j d2 t2 e o=>?_,fun j d2 e=>?_,fun a h=>?_⟩
 ·rw[aq,eH];exact re.len
 ·by_cases hj:j=x
  ·subst hj;rw[List.getElem?_set_self hxl] at e;cases e;exact⟨v,hv,by rw[fx];exact rp⟩
  ·have e1:=other hj e;obtain⟨e0,_,_⟩:=cQ e1;obtain⟨u,h1,h2⟩:=re.val j d2 t2 e0;exact⟨u,h1,by rw[fj hj e1];exact h2.updM hpl (apart hj e1 p hp)⟩
 ·by_cases hj:j=x
  ·subst hj;exact absurd (List.getElem?_set_self hxl) (h d' .own)
  ·unfold sU;rw[if_neg hj];split
   ·rename_i q e;exact absurd (by rw[List.getElem?_set_ne (cm hj)];exact e) (h q.1 q.2)
   ·rfl
 ·by_cases hj:j=x
  ·subst hj;rw[List.getElem?_set_self hxl] at e;cases e;rw[fx];refine⟨nd,fun a ha=>live a ?_,fun a ha k d3 t3 e3 m=>?_⟩
   ·rcases sub a ha with q | q
    ·exact lsx a q
    ·exact (hN a q).1
   ·by_cases hk:k=j
    ·subst hk;rw[List.getElem?_set_self hxl] at e3;cases e3;simp[bN]
    ·have e4:=other hk e3;rw[fj hk e4] at m;rcases sub a ha with q | q
     ·exact absurd m (apart hk e4 a q)
     ·obtain⟨e0,_,h3⟩:=cQ e4;obtain⟨r,r1,r2⟩:=(hN a q).2.2 k d3 t3 e0 m;exact absurd r2 (h3 r r1)
  ·have e1:=other hj e;obtain⟨e0,_,_⟩:=cQ e1;obtain⟨a,b,c⟩:=re.one j d2 t2 e0 o;rw[fj hj e1];refine⟨a,fun y hy=>live y (b y hy),fun y hy k d3 t3 e3 m=>?_⟩;by_cases hk:k=x
   ·subst hk;rw[List.getElem?_set_self hxl] at e3;cases e3;rw[fx] at m;rcases sub y m with q | q
    ·exact absurd hy (apart hj e1 y q)
    ·obtain⟨_,_,h3⟩:=cQ e1;obtain⟨r,r1,r2⟩:=(hN y q).2.2 j d2 t2 e0 hy;exact absurd r2 (h3 r r1)
   ·have e4:=other hk e3;rw[fj hk e4] at m;exact c y hy k d3 t3 (cQ e4).1 m
 ·by_cases hj:j=x
  ·subst hj;rw[fx];intro a ha;rcases sub a ha with q | q
   ·exact re.wr j d hx a q
   ·exact (hN a q).2.1
  ·have e1:=other hj e;rw[fj hj e1];exact re.wr j d2 (cQ e1).1
 ·intro z;by_cases q:a=p
  ·subst q;rw[bG] at z;cases z
  ·rw[aP q] at z;exact re.pl a h z
theorem RE.mutate (re:RE K P env σ H F){x:Nat}{d d':D}{v:V}{p:Addr}{vs:List V}{R:List Nat}{N G:List Addr}(hx:env[x]? = some (some (d,.own)))(hv:σ[x]? = some (some v))(hp:p∈F x)
  (rp:Rep K (upd H p (.lst vs)) d' v G) (nd:G.Nodup) (sub:∀ a∈G,a∈F x\/a∈N)
  (hN:∀ a∈N,(∃ vs:ML,H a=some vs.o)/\¬ P a/\∀(j:Nat) (d:D) (t:Tg),env[j]? = some (some (d,t))->a∈F j->∃ q∈x::R,q∈bN j t) :
  RE K P ((kill (x::R) env).set x (some (d',.own))) σ (upd H p (.lst vs)) (sU F env x R G):=re.mutateM (vs:=.l vs) hx hv hp rp nd sub hN
inductive PV (K:Frag) (H:Hp):V->Option Int->Addr->Prop where
 | top (p:Addr):PV K H (.ref p) none p
 | item {q p:Addr}{ws:List V}{i:Int}{j:Nat}(h:Rd H q (.lst ws)\/sQ K H q ws) (hj:nt ws.length i=some j) (e:ws[j]? = some (.ref p)):PV K H (.ref q) (some i) p
theorem ER {n:Nat}{i:Int}{j:Nat}(h:nt n i=some j):j<n:=by
 unfold nt at h;split at h
 ·split at h
  ·cases h;omega
  ·cases h
 ·split at h
  ·cases h;omega
  ·cases h
theorem Rep.lst_inv {ds:List D}{v:V}{G:List Addr}(h:Rep K H (.lst ds) v G):∃ p vs G',v = .ref p/\G=p::G'/\Rd H p (.lst vs)/\aK K H ds vs G':=by
 cases h with
 |lst a b=>exact⟨_,_,_,rfl,rfl,a,b⟩
theorem yn {d:D}{v:V}{G:List Addr}{path:Option Int}{xs:List D}(rp:Rep K H d v G)(nd:G.Nodup)(h:d.at1 path=some xs):∃ p,PV K H v path p/\∀ H',aN H H'->(∀ a∈G,∃ vs:ML,H' a=some vs.o) ->
  ∃ vs Gx,H' p=some (.lst vs)/\aK K H' xs vs Gx/\p∈G/\(∀ a∈Gx,a∈G)/\Gx.Nodup/\p∉Gx /\
   ∀ ys us Gy,aK K (upd H' p (.lst us)) ys us Gy->Gy.Nodup->p∉Gy->(∀ a∈Gy,a∈Gx\/a∉G)->∃ G',Rep K (upd H' p (.lst us)) (d.set1 path ys) v G'/\G'.Nodup/\∀ a∈G',a∈G\/a∈Gy:=by
 have rdl:∀{H':Hp}{p:Addr}{vs:List V},(∀ a∈G,∃ vs:ML,H' a=some vs.o)->p∈G->Rd H' p (.lst vs)->H' p=some (.lst vs):=fun {H' p vs} hl hp r=>by
  obtain⟨ws,q⟩:=hl p hp;rcases r with r | ⟨o,r⟩
  ·exact r
  ·rw[q] at r;cases ws<;>cases r
 cases path with
 |none =>
  cases rp with
  |lst hr r =>
   rename_i p vs ds G0;simp only[D.at1,Option.some.injEq] at h;subst h;obtain⟨n1,n2⟩:=jk.mp nd;refine⟨p,.top p,fun H' e hl=>⟨vs,G0,rdl hl ae (aN.rd e hr),r.same e,ae,fun a ha=>aa _ ha,n2,n1,fun ys us Gy ry ny hy hs=>?_⟩⟩;exact⟨p::Gy,.lst (.inl bG) ry,List.nodup_cons.mpr ⟨hy,ny⟩,fun a ha=>(List.mem_cons.mp ha).imp (fun z=>by simp[z]) id⟩
  |_=>simp[D.at1] at h
 |some i=>cases d<;>cases h
end
structure k7 (P:Addr->Prop)(H H':Hp):Prop where
 keep:∀ a,P a->H' a=H a
 tup:∀ b xs,H b=some (.tup xs)->H' b=some (.tup xs)
 fz:HY H H'
theorem k7.refl {P:Addr->Prop}(H:Hp):k7 P H H:=⟨fun _ _=>rfl,fun _ _ h=>h,fun _ _ _ h=>h⟩
theorem k7.trans {P:Addr->Prop}{H H1 H2:Hp}(a:k7 P H H1)(b:k7 P H1 H2):k7 P H H2:=⟨fun x h=>(b.keep x h).trans (a.keep x h),fun x xs h=>b.tup x xs (a.tup x xs h),fun x o u h=>b.fz x o u (a.fz x o u h)⟩
theorem k7.of_same {P:Addr->Prop}{H H':Hp}(pl:∀ a,P a->H a≠none)(e:aN H H'):k7 P H H':=⟨fun a h=>by
 cases q:H a with
 |none=>exact absurd q (pl a h)
 |some o=>exact e _ _ q,fun _ _=>e _ _,fun _ _ _ h=>e _ _ h⟩
theorem k7.weak {P P':Addr->Prop}{H H':Hp}(h:∀ a,P a->P' a)(e:k7 P' H H'):k7 P H H':=⟨fun a x=>e.keep a (h a x),e.tup,e.fz⟩
theorem k7.tqT {K:Frag}{P:Addr->Prop}{H H':Hp}(e:k7 P H H'){b:Addr}{vs:List V}(h:rW K H b vs):rW K H' b vs:=by
 rcases h with h | h
 ·exact .inl (e.tup b vs h)
 ·exact .inr h
theorem k7.reps {K:Frag}{P:Addr->Prop}{H H':Hp}(e:k7 P H H'){ds:List D}{vs:List V}{G:List Addr}(h:aK K H ds vs G)(hp:∀ a∈G,P a):aK K H' ds vs G :=
 h.keep (fun _ _=>e.tqT) e.fz fun b hb _ r=>(e.keep b (hp b hb)).trans r
def vn (env:En)(F:Nat->List Addr)(env':En)(F':Nat->List Addr):Prop:=∀(i:Nat) (d:D),env'[i]? = some (some (d,.lk))->env[i]? = some (some (d,.lk))/\F' i=F i
theorem vn.refl (env:En)(F:Nat->List Addr):vn env F env F:=fun _ _ h=>⟨h,rfl⟩
theorem vn.trans {e1 e2 e3:En}{F1 F2 F3:Nat->List Addr}(a:vn e1 F1 e2 F2)(b:vn e2 F2 e3 F3):vn e1 F1 e3 F3:=fun i d h=>by
 obtain⟨h1,h2⟩:=b i d h;obtain⟨h3,h4⟩:=a i d h1;exact⟨h3,h2.trans h4⟩
structure After (K:Frag)(P Z:Addr->Prop)(env:En)(F:Nat->List Addr)(H:Hp)(env':En)(σ':L2.St)(H':Hp)(F':Nat->List Addr):Prop where
 re:RE K P env' σ' H' F'
 z:∀ i,∀ a∈F' i,Z a
 ev:k7 P H H'
 lk:vn env F env' F'
theorem After.trans {K:Frag}{P Z:Addr->Prop}{e1 e2 e3:En}{F1 F2 F3:Nat->List Addr}{H1 H2 H3:Hp}{σ2 σ3:L2.St}(a:After K P Z e1 F1 H1 e2 σ2 H2 F2)(b:After K P Z e2 F2 H2 e3 σ3 H3 F3):After K P Z e1 F1 H1 e3 σ3 H3 F3 :=
 ⟨b.re,b.z,a.ev.trans b.ev,a.lk.trans b.lk⟩
def post (K:Frag)(P Z:Addr->Prop)(env:En)(F:Nat->List Addr)(H:Hp)(D:Ends):Fl->Prop
 |.nx env'=>∀ σ' H' F',After K P Z env F H env' σ' H' F'->D.nx σ' H'
 |.bk env'=>∀ σ' H' F',After K P Z env F H env' σ' H' F'->D.bk σ' H'
 |.ct env'=>∀ σ' H' F',After K P Z env F H env' σ' H' F'->D.ct σ' H'
 |.rt d fr=>∀ v H' G,Rep K H' d v G->k7 P H H'->(∀ a∈G,Z a)->(fr=true->G.Nodup/\∀ a∈G,¬ P a/\∃ vs:ML,H' a=some vs.o)->D.rt v H'
 |.xc _ _=>False
 |.bad=>False
theorem post.trans {K:Frag}{P Z:Addr->Prop}{e1 e2:En}{F1 F2:Nat->List Addr}{H1 H2:Hp}{σ2:L2.St}{D:Ends}(a:After K P Z e1 F1 H1 e2 σ2 H2 F2):∀{f:Fl},post K P Z e1 F1 H1 D f->post K P Z e2 F2 H2 D f
 |.nx _,h=>fun σ' H' F' b=>h σ' H' F' (a.trans b)
 |.bk _,h=>fun σ' H' F' b=>h σ' H' F' (a.trans b)
 |.ct _,h=>fun σ' H' F' b=>h σ' H' F' (a.trans b)
 |.rt _ _,h=>fun v H' G r e z f=>h v H' G r (a.ev.trans e) z f
 |.xc _ _,h=>h
 |.bad,h=>h
section
variable {K:Frag}{P Z:Addr->Prop}{env:En}{σ:L2.St}{H:Hp}{F:Nat->List Addr}
theorem nU {i:Nat}{d:D}{t:Tg}{G:List Addr}(hi:i<env.length)(ht:t≠.lk):vn env F (put env i d t) (tV F i G):=fun j d' e=>by
 by_cases h:j=i
 ·subst h;rw[eX hi] at e;cases e;exact absurd rfl ht
 ·obtain⟨t0,e0,q⟩:=iZ h e;cases t0 with
  |lk=>exact⟨e0,eS h⟩
  |own=>cases q
  |sh R=>cases q
theorem qu {i:Nat}{G:List Addr}(hz:∀ i,∀ a∈F i,Z a)(hg:∀ a∈G,Z a):∀ j,∀ a∈tV F i G j,Z a:=fun j a ha=>by
 by_cases h:j=i
 ·subst h;rw[fD] at ha;exact hg a ha
 ·rw[eS h] at ha;exact hz j a ha
theorem rT {H':Hp}{D:Ends}{i:Nat}{mv:Bool}{p:Pc.D×Rt}{v:V}{G:List Addr}(re:RE K P env σ H F)(hz:∀ i,∀ a∈F i,Z a)(zp:∀ a,¬ P a->Z a)(e:aN H H')(rp:Rep K H' p.1 v G)(rt:bY env F H p.2 H' G)
  (h:post K P Z env F H D (jM (.nm i) mv env p)):D.nx (σ.set i (some v)) H':=by
 have re':=re.same e;have ez:∀ a∈G,Z a:=fun a ha=>by
  rcases rt.cont a ha with q | ⟨j,_,_,f,_⟩
  ·exact zp a fun z=>re.pl a z q
  ·exact hz j a f
 have pK:=k7.of_same (P:=P) re.pl e;unfold jM at h;by_cases hi:i<env.length
 ·simp only[hi,if_true] at h;have shared:∀ R,p.2.roots=R->post K P Z env F H D (.nx (put env i p.1 (.sh (R.filter (· != i)))))->D.nx (σ.set i (some v)) H':=fun R hR h=>by
   refine h _ H' (tV F i G) ⟨re'.put hi rp (fun o=>by cases o) (fun o=>by cases o) fun a ha j d' t' hj ej o m=>?_,qu hz ez,pK,nU hi (by intro z;cases z)⟩;rcases rt.cont a ha with q | ⟨k,d2,t2,f,e2,s⟩
   ·exact absurd q (re.nn ej m)
   ·have:=s j ((re.one j d' t' ej o).2.2 a m k d2 t2 e2 f);rw[hR] at this;simp only[bN,List.mem_filter];exact⟨this,by simpa using hj⟩
  cases hr:p.2 with
  |sh R=>rw[hr] at h;exact shared R (by rw[hr];rfl) h
  |mv R =>
   rw[hr] at h;obtain⟨m1,m2,m3⟩:=rt.mv R hr;cases R with
   |nil =>
    have fresh:∀ a∈G,H a=none:=fun a ha=>by
     rcases m3 a ha with q | ⟨_,_,_,q,_⟩
     ·exact q
     ·cases q
    refine h _ H' (tV F i G) ⟨re'.put hi rp (fun _=>⟨m1,m2,fun a ha j _ m=>?_⟩) (fun _ a ha z=>re.pl a z (fresh a ha)) fun a ha j d' t' hj ej o m=>?_,qu hz ez,pK,nU hi (by intro z;cases z)⟩
    ·obtain⟨d2,t2,e2⟩:=re.at' m;exact re.nn e2 m (fresh a ha)
    ·exact absurd (fresh a ha) (re.nn ej m)
   |cons r0 R0 =>
    cases mv with
    |false=>exact shared _ (by rw[hr];rfl) h
    |true =>
     simp only[if_true] at h;by_cases ho:bV env (r0::R0)=true
     ·rw[if_pos ho] at h;have fg:=re'.forget (env':=kill (r0::R0) env) (eH _ _) fun j d' t' ej=>(cQ ej).1
      have ow:∀ k∈r0::R0,∃ d',env[k]? = some (some (d',.own)):=fun k hk=>by
       have:=bw.mp ho k hk;split at this
       ·rename_i d' q;exact⟨d',q⟩
       ·cases this
      have apart:∀ a∈G,∀ j,j≠i->a∉(match (kill (r0::R0) env)[j]? with | some (some _)=>F j | _=>[]):=fun a ha j hj m=>by
       split at m
       ·rename_i q ej;obtain⟨dj,tj⟩:=q;obtain⟨e0,h1,h2⟩:=cQ ej;rcases m3 a ha with q | ⟨k,d2,t2,hk,f,e2,o2⟩
        ·exact re.nn e0 m q
        ·exact h2 k hk ((re.one k d2 t2 e2 o2).2.2 a f j dj tj e0 m)
       ·cases m
      refine h _ H' _ ⟨fg.put (by rw[eH];exact hi) rp (fun _=>⟨m1,m2,apart⟩) (fun _ a ha z=>?_) fun a ha j d' t' hj ej o m=>absurd m (apart a ha j hj),qu (fun j a ha=>?_) ez,pK,fun j d' ej=>?_⟩
      ·rcases m3 a ha with q | ⟨k,d2,t2,hk,f,e2,o2⟩
       ·exact re.pl a z q
       ·obtain⟨d3,e3⟩:=ow k hk;exact re.wr k d3 e3 a f z
      ·split at ha
       ·exact hz j a ha
       ·cases ha
      ·by_cases hj:j=i
       ·subst hj;rw[eX (by rw[eH];exact hi)] at ej;cases ej
       ·obtain⟨t0,e0,q⟩:=iZ hj ej;cases t0 with
        |lk =>
         refine⟨(cQ e0).1,?_⟩;rw[eS hj,e0]
        |own=>cases q
        |sh R=>cases q
     ·rw[if_neg ho] at h;exact h.elim
 ·simp only[hi,if_false] at h;exact h.elim
noncomputable def setM:List Nat->List V->L2.St->L2.St
 |i::is,v::vs,σ=>setM is vs (σ.set i (some v))
 |_,_,σ=>σ
theorem qS:∀{is:List Nat}{ds:List D}{vs:List V}{G:List Addr}{env env':En}{σ:L2.St}{F:Nat->List Addr},RE K P env σ H F->(∀ i,∀ a∈F i,Z a)->aK K H ds vs G->G.Nodup->(∀ a∈G,∃ vs:ML,H a=some vs.o)->(∀ a∈G,¬ P a)->(∀ a∈G,Z a) ->
  (∀ a∈G,∀ j,a∉F j)->bindM (fun _=>.own) is ds env=some env'->∃ F',RE K P env' (setM is vs σ) H F'/\(∀ i,∀ a∈F' i,Z a)/\vn env F env' F'/\is.length=vs.length
 | [],_,_,_,env,env',σ,F,re,hz,.nil,_,_,_,_,_,h=>by
  simp only[bindM,Option.some.injEq] at h;subst h;exact⟨F,re,hz,vn.refl _ _,rfl⟩
 | i::is,_,_,_,env,env',σ,F,re,hz,.cons (G:=G1) (G':=G2) r rs,nd,ll,np,gz,ap,h=>by
  simp only[bindM] at h;by_cases hi:i<env.length
  ·rw[if_pos hi] at h;obtain⟨n1,n2,n12⟩:=jc.mp nd;have re1:=re.put (t:=.own) hi r (fun _=>⟨n1,fun a ha=>ll a (aw _ ha),fun a ha j _=>ap a (aw _ ha) j⟩) (fun _ a ha=>np a (aw _ ha)) fun a ha j _ _ _ _ _ m=>absurd m (ap a (aw _ ha) j)
   obtain⟨F',a1,a2,a3,a4⟩:=qS re1 (qu hz fun a ha=>gz a (aw _ ha)) rs n2 (fun a ha=>ll a (ak _ ha)) (fun a ha=>np a (ak _ ha)) (fun a ha=>gz a (ak _ ha)) (fun a ha j m=>by
    by_cases hj:j=i
    ·subst hj;rw[fD] at m;exact n12 a m a ha rfl
    ·rw[eS hj] at m;exact ap a (ak _ ha) j m) h
   exact⟨F',a1,a2,(nU hi (by intro z;cases z)).trans a3,by simp[a4]⟩
  ·rw[if_neg hi] at h;cases h
 |[],_,_,_,_,_,_,_,_,_,.cons _ _,_,_,_,_,_,h=>by simp[bindM] at h
 |_::_,_,_,_,_,_,_,_,_,_,.nil,_,_,_,_,_,h=>by simp[bindM] at h
theorem tL {d:D}{R:List Nat}:cI d R≠.lk:=by unfold cI;split<;>intro z<;>cases z
theorem xn {i:Nat}{d:D}{v:V}{G:List Addr}{R:List Nat}(re:RE K P env σ H F)(hi:i<env.length)(rp:Rep K H d v G)(hs:∀ a∈G,∀(j:Nat) (d':D) (t':Tg),env[j]? = some (some (d',t'))->bO t'=true->a∈F j->j∈R) :
  RE K P (put env i d (cI d R)) (σ.set i (some v)) H (tV F i G):=by
 unfold cI;cases hf:d.flat with
 |true =>
  have:G=[]:=rp.flat hf;subst this;simp only[if_true];exact re.put hi rp (fun _=>⟨bq,fun _ h=>(nomatch h),fun _ h=>(nomatch h)⟩) (fun _ _ h=>(nomatch h)) fun _ h=>(nomatch h)
 |false =>
  simp only[Bool.false_eq_true,if_false];exact re.put hi rp (fun o=>by cases o) (fun o=>by cases o) fun a ha j d' t' hj ej o m=>hs a ha j d' t' ej o m
theorem oZ {R:List Nat}:∀{is:List Nat}{ds:List D}{vs:List V}{G:List Addr}{env env':En}{σ:L2.St}{F:Nat->List Addr},RE K P env σ H F->(∀ i,∀ a∈F i,Z a)->aK K H ds vs G->(∀ a∈G,Z a) ->
  (∀ a∈G,∀(j:Nat) (d':D) (t':Tg),env[j]? = some (some (d',t'))->bO t'=true->a∈F j->j∈R)->bindM (fun d=>cI d R) is ds env=some env'->∃ F',RE K P env' (setM is vs σ) H F'/\(∀ i,∀ a∈F' i,Z a)/\vn env F env' F'/\is.length=vs.length
 | [],_,_,_,env,env',σ,F,re,hz,.nil,_,_,h=>by
  simp only[bindM,Option.some.injEq] at h;subst h;exact⟨F,re,hz,vn.refl _ _,rfl⟩
 | i::is,_,_,_,env,env',σ,F,re,hz,.cons (d:=d) (G:=G1) (G':=G2) r rs,gz,hs,h=>by
  simp only[bindM] at h;by_cases hi:i<env.length
  ·rw[if_pos hi] at h;have re1:=xn re hi r fun a ha=>hs a (aw _ ha)
   obtain⟨F',a1,a2,a3,a4⟩:=oZ re1 (qu hz fun a ha=>gz a (aw _ ha)) rs (fun a ha=>gz a (ak _ ha)) (fun a ha j d' t' ej o m=>by
    by_cases hj:j=i
    ·subst hj;rw[eX hi] at ej;simp only[Option.some.injEq,Prod.mk.injEq] at ej;obtain⟨rfl,rfl⟩:=ej;rw[fD] at m;cases hf:d.flat with
     |true=>rw[r.flat hf] at m;cases m
     |false=>simp[cI,hf,bO] at o
    ·rw[eS hj] at m;obtain⟨t0,e0,rfl⟩:=iZ hj ej;rw[mZ] at o;exact hs a (ak _ ha) j d' t0 e0 o m) h
   exact⟨F',a1,a2,(nU hi tL).trans a3,by simp[a4]⟩
  ·rw[if_neg hi] at h;cases h
 |[],_,_,_,_,_,_,_,_,_,.cons _ _,_,_,h=>by simp[bindM] at h
 |_::_,_,_,_,_,_,_,_,_,_,.nil,_,_,h=>by simp[bindM] at h
theorem tf (R:List Nat)(env:En):(lock R env).length=env.length:=by simp[lock]
theorem oo {R:List Nat}{env:En}{i:Nat}{d:D}{t:Tg}(e:(lock R env)[i]? = some (some (d,t))) :
  (env[i]? = some (some (d,t))/\(t = .own->i∉R))\/(t = .lk/\i∈R/\env[i]? = some (some (d,.own))):=by
 unfold lock at e;rw[List.getElem?_mapIdx] at e;cases q:env[i]? with
 |none=>rw[q] at e;cases e
 |some s =>
  rw[q] at e;cases s with
  |none=>cases e
  |some p =>
   obtain⟨a,b⟩:=p;simp only[Option.map_some,Option.some.injEq] at e;cases b with
   |own =>
    simp only at e;by_cases h:R.contains i=true
    ·rw[if_pos h] at e;cases e;exact .inr ⟨rfl,by simpa using h,rfl⟩
    ·rw[if_neg h] at e;cases e;exact .inl ⟨rfl,fun _ z=>h (by simpa using z)⟩
   |lk=>cases e;exact .inl ⟨rfl,fun z=>by cases z⟩
   |sh Q=>cases e;exact .inl ⟨rfl,fun z=>by cases z⟩
theorem zb {R:List Nat}{env:En}{i:Nat}{d:D}{t:Tg}(e:env[i]? = some (some (d,t))):∃ t',(lock R env)[i]? = some (some (d,t'))/\bO t'=bO t/\bN i t'=bN i t:=by
 unfold lock;rw[List.getElem?_mapIdx,e];cases t with
 |own =>
  simp only[Option.map_some];by_cases h:R.contains i=true
  ·exact⟨.lk,by rw[if_pos h],rfl,rfl⟩
  ·exact⟨.own,by rw[if_neg h],rfl,rfl⟩
 |lk=>exact⟨.lk,rfl,rfl,rfl⟩
 |sh Q=>exact⟨.sh Q,rfl,rfl,rfl⟩
theorem hZ {R:List Nat}{env:En}{i:Nat}{d:D}{t:Tg}(e:(lock R env)[i]? = some (some (d,t))):∃ t0,env[i]? = some (some (d,t0))/\bO t0=bO t/\bN i t0=bN i t:=by
 rcases oo e with ⟨h,_⟩ | ⟨rfl,_,h⟩
 ·exact⟨t,h,rfl,rfl⟩
 ·exact⟨.own,h,rfl,rfl⟩
theorem RE.locked (re:RE K P env σ H F){R:List Nat}{G:List Addr}(hg:∀ a∈G,H a≠none)(hc:∀ a∈G,∀(i:Nat) (d:D) (t:Tg),env[i]? = some (some (d,t))->bO t=true->a∈F i->i∈R) :
  RE K (fun a=>P a\/a∈G) (lock R env) σ H F where
 len:=(tf R env).trans re.len
 val:=fun i d t e=>let ⟨t0,e0,_⟩:=hZ e;re.val i d t0 e0
 emp:=fun i h=>re.emp i fun d t e=>by
  obtain⟨t',e',_⟩:=zb (R:=R) e;exact h d t' e'
 one:=fun i d t e o=>by
  obtain⟨t0,e0,o0,_⟩:=hZ e;obtain⟨a,b,c⟩:=re.one i d t0 e0 (o0.trans o);refine⟨a,b,fun x hx j d' t' ej m=>?_⟩;obtain⟨t1,e1,_,s1⟩:=hZ ej;rw[<-s1];exact c x hx j d' t1 e1 m
 wr:=fun i d e a ha z=>by
  rcases oo e with ⟨h,hn⟩ | ⟨q,_⟩
  ·rcases z with z | z
   ·exact re.wr i d h a ha z
   ·exact hn rfl (hc a z i d .own h rfl ha)
  ·cases q
 pl:=fun a h=>h.elim (re.pl a) (hg a)
theorem pS (R:List Nat)(env0 env:En):(unlock R env0 env).length=env.length:=by simp[unlock]
theorem kL {R:List Nat}{env0 env:En}{i:Nat}{d:D}{t:Tg}(e:(unlock R env0 env)[i]? = some (some (d,t))) :
  (env[i]? = some (some (d,t))/\(t = .lk->¬ (i∈R/\∃ d0,env0[i]? = some (some (d0,.own)))))\/(t = .own/\i∈R/\env[i]? = some (some (d,.lk))/\∃ d0,env0[i]? = some (some (d0,.own))):=by
 unfold unlock at e;rw[List.getElem?_mapIdx] at e;cases q:env[i]? with
 |none=>rw[q] at e;cases e
 |some s =>
  rw[q] at e;cases s with
  |none=>cases e
  |some p =>
   obtain⟨a,b⟩:=p;simp only[Option.map_some,Option.some.injEq] at e;cases b with
   |own=>cases e;exact .inl ⟨rfl,fun z=>by cases z⟩
   |sh Q=>cases e;exact .inl ⟨rfl,fun z=>by cases z⟩
   |lk =>
    simp only at e;split at e
    ·rename_i d0 q0;by_cases h:R.contains i=true
     ·rw[if_pos h] at e;cases e;exact .inr ⟨rfl,by simpa using h,rfl,d0,q0⟩
     ·rw[if_neg h] at e;cases e;exact .inl ⟨rfl,fun _ z=>h (by simpa using z.1)⟩
    ·rename_i nq;cases e;exact .inl ⟨rfl,fun _ ⟨_,d0,q0⟩=>nq d0 q0⟩
theorem iI {R:List Nat}{env0 env:En}{i:Nat}{d:D}{t:Tg}(e:(unlock R env0 env)[i]? = some (some (d,t))):∃ t0,env[i]? = some (some (d,t0))/\bO t0=bO t/\bN i t0=bN i t:=by
 rcases kL e with ⟨h,_⟩ | ⟨rfl,_,h,_⟩
 ·exact⟨t,h,rfl,rfl⟩
 ·exact⟨.lk,h,rfl,rfl⟩
theorem vI {R:List Nat}{env0 env:En}{i:Nat}{d:D}{t:Tg}(e:env[i]? = some (some (d,t))):∃ t',(unlock R env0 env)[i]? = some (some (d,t')):=by
 unfold unlock;rw[List.getElem?_mapIdx,e];cases t with
 |own=>exact⟨.own,rfl⟩
 |sh Q=>exact⟨.sh Q,rfl⟩
 |lk =>
  simp only[Option.map_some];split
  ·by_cases h:R.contains i=true
   ·exact⟨.own,by rw[if_pos h]⟩
   ·exact⟨.lk,by rw[if_neg h]⟩
  ·exact⟨.lk,rfl⟩
theorem After.unlocked {R:List Nat}{G:List Addr}{env':En}{σ':L2.St}{H':Hp}{F':Nat->List Addr}(re:RE K P env σ H F)(a:After K (fun a=>P a\/a∈G) Z (lock R env) F H env' σ' H' F'):After K P Z env F H (unlock R env env') σ' H' F' where
 re:={
  len:=(pS R env env').trans a.re.len
  val:=fun i d t e=>let ⟨t0,e0,_⟩:=iI e;a.re.val i d t0 e0
  emp:=fun i h=>a.re.emp i fun d t e=>by
   obtain⟨t',e'⟩:=vI (R:=R) (env0:=env) e;exact h d t' e'
  one:=fun i d t e o=>by
   obtain⟨t0,e0,o0,_⟩:=iI e;obtain⟨x,y,c⟩:=a.re.one i d t0 e0 (o0.trans o);refine⟨x,y,fun z hz j d' t' ej m=>?_⟩;obtain⟨t1,e1,_,s1⟩:=iI ej;rw[<-s1];exact c z hz j d' t1 e1 m
  wr:=fun i d e b hb z=>by
   rcases kL e with ⟨h,_⟩ | ⟨_,hR,h,d0,h0⟩
   ·exact a.re.wr i d h b hb (.inl z)
   ·obtain⟨h1,h2⟩:=a.lk i d h;rw[h2] at hb;exact re.wr i d0 h0 b hb z
  pl:=fun b h=>a.re.pl b (.inl h)}
 z:=a.z
 ev:=a.ev.weak fun _ h=>.inl h
 lk:=fun i d e=>by
  rcases kL e with ⟨h,hn⟩ | ⟨q,_⟩
  ·obtain⟨h1,h2⟩:=a.lk i d h;rcases oo h1 with ⟨h3,_⟩ | ⟨_,hR,h3⟩
   ·exact⟨h3,h2⟩
   ·exact absurd ⟨hR,d,h3⟩ (hn rfl)
  ·cases q
end
section
variable {K:Frag}{P Z:Addr->Prop}{env:En}{σ:L2.St}{H:Hp}{F:Nat->List Addr}
theorem dD {x:Nat}{d:D}(h:ownAt env x=some d):env[x]? = some (some (d,.own)):=by
 unfold ownAt at h;split at h
 ·rename_i d' q;cases h;exact q
 ·cases h
theorem fY (re:RE K P env σ H F){x:Nat}{d:D}{path:Option Int}{xs:List D}{v:V}(hx:ownAt env x=some d)(hv:σ[x]? = some (some v))(h:d.at1 path=some xs) :
  ∃ p,PV K H v path p/\∀ H',aN H H'->∃ ws Gx,H' p=some (.lst ws)/\aK K H' xs ws Gx/\p∈F x/\(∀ a∈Gx,a∈F x)/\Gx.Nodup/\p∉Gx /\
   ∀ ys us Gy,aK K (upd H' p (.lst us)) ys us Gy->Gy.Nodup->p∉Gy->(∀ a∈Gy,a∈Gx\/a∉F x)->∃ G',Rep K (upd H' p (.lst us)) (d.set1 path ys) v G'/\G'.Nodup/\∀ a∈G',a∈F x\/a∈Gy:=by
 have hx':=dD hx;obtain⟨u,e,rp⟩:=re.val x d .own hx';rw[hv] at e;cases e;obtain⟨a,b,_⟩:=re.one x d .own hx' rfl;obtain⟨p,pv,f⟩:=yn rp a h;exact⟨p,pv,fun H' e=>f H' e fun y hy=>let ⟨ws,q⟩:=b y hy;⟨ws,e _ _ q⟩⟩
theorem yy {D:Ends}{x:Nat}{d:Pc.D}{path:Option Int}{ys:List Pc.D}{rs:List Rt}(h:post K P Z env F H D (cH x path env d ys rs)):ys.length<=lim:=by
 unfold cH at h;cases hR:fA rs with
 |none=>rw[hR] at h;exact h.elim
 |some R =>
  rw[hR] at h;simp only at h;by_cases hc:(decide R.Nodup&&bV env R && !R.contains x&&decide (ys.length<=lim))=true
  ·simp only[Bool.and_eq_true,decide_eq_true_eq] at hc;exact hc.2
  ·rw[if_neg hc] at h;exact h.elim
theorem jV {H1:Hp}{D:Ends}{x:Nat}{d:Pc.D}{path:Option Int}{ys:List Pc.D}{rs:List Rt}{v:V}{p:Addr}{us:List V}{N:List Addr}
  (re:RE K P env σ H F) (hz:∀ i,∀ a∈F i,Z a) (zp:∀ a,¬ P a->Z a) (e:aN H H1) (hx:ownAt env x=some d) (hv:σ[x]? = some (some v)) (hp:p∈F x)
  (hN:∀ R,fA rs=some R->R.Nodup->N.Nodup/\(∀ a∈N,∃ vs:ML,H1 a=some vs.o)/\∀ a∈N,H a=none\/∃ i d t,i∈R/\a∈F i/\env[i]? = some (some (d,t))/\bO t=true)
  (hset:(∀ a∈N,a∉F x)->N.Nodup->∃ G',Rep K (upd H1 p (.lst us)) (d.set1 path ys) v G'/\G'.Nodup/\∀ a∈G',a∈F x\/a∈N)
  (h:post K P Z env F H D (cH x path env d ys rs)):D.nx σ (upd H1 p (.lst us)):=by
 unfold cH at h;cases hR:fA rs with
 |none=>rw[hR] at h;exact h.elim
 |some R =>
  rw[hR] at h;simp only at h;by_cases hc:(decide R.Nodup&&bV env R && !R.contains x&&decide (ys.length<=lim))=true
  ·rw[if_pos hc] at h;simp only[Bool.and_eq_true,decide_eq_true_eq,Bool.not_eq_true'] at hc;obtain⟨⟨⟨hc1,hc2⟩,hc3⟩,hc4⟩:=hc;have hxR:x∉R:=fun z=>by
    have:R.contains x=true:=by simpa using z
    rw[this] at hc3;cases hc3
   obtain⟨n1,n2,n3⟩:=hN R hR hc1;have hx':=dD hx;have ow:∀ k∈R,∃ d',env[k]? = some (some (d',.own)):=fun k hk=>by
    have:=bw.mp hc2 k hk;split at this
    ·rename_i d' q;exact⟨d',q⟩
    ·cases this
   have notx:∀ a∈N,a∉F x:=fun a ha m=>by
    rcases n3 a ha with q | ⟨i,d2,t2,hi,f,e2,o2⟩
    ·exact re.nn hx' m q
    ·have:=(re.one i d2 t2 e2 o2).2.2 a f x d .own hx' m;simp only[bN,List.mem_singleton] at this;subst this;exact hxR hi
   obtain⟨G',g1,g2,g3⟩:=hset notx n1;have re1:=re.same e;have pP:∀ a∈N,¬ P a:=fun a ha z=>by
    rcases n3 a ha with q | ⟨i,d2,t2,hi,f,e2,o2⟩
    ·exact re.pl a z q
    ·obtain⟨d3,e3⟩:=ow i hi;exact re.wr i d3 e3 a f z
   have re2:=re1.mutate (R:=R) (N:=N) hx' hv hp g1 g2 g3 fun a ha=>⟨n2 a ha,pP a ha,fun j dj tj ej m=>by
    rcases n3 a ha with q | ⟨i,d2,t2,hi,f,e2,o2⟩
    ·exact absurd q (re.nn ej m)
    ·exact⟨i,aa _ hi,(re.one i d2 t2 e2 o2).2.2 a f j dj tj ej m⟩⟩
   obtain⟨_,lsx,_⟩:=re1.one x d .own hx' rfl;obtain⟨ws,hpl⟩:=lsx p hp;have nPp:¬ P p:=re.wr x d hx' p hp;refine h σ _ _ ⟨re2,fun j a ha=>?_,(k7.of_same re.pl e).trans ⟨fun a z=>aP (fun q=>nPp (q ▸ z)),fun b xs r=>?_,oY hpl⟩,fun j dj ej=>?_⟩
   ·unfold sU at ha;split at ha
    ·rcases g3 a ha with q | q
     ·exact hz x a q
     ·exact zp a (pP a q)
    ·split at ha
     ·exact hz j a ha
     ·cases ha
   ·refine (aP (fun q=>?_)).trans r;subst q;rw[hpl] at r;cases ws<;>cases r
   ·by_cases hj:j=x
    ·subst hj;rw[List.getElem?_set_self (by rw[eH];exact (List.getElem?_eq_some_iff.mp hx').1)] at ej;cases ej
    ·rw[List.getElem?_set_ne (cm hj)] at ej;refine⟨(cQ ej).1,?_⟩;unfold sU;rw[if_neg hj,ej]
  ·rw[if_neg hc] at h;exact h.elim
end
end Pc
end
section
namespace Pc
open PySem PySem.Spec PyProof.Rows L2
theorem Rs.bind_ok {α β:Type}{x:Rs α}{f:α->Rs β}{b:β}(h:x.bind f = .ok b):∃ a,x = .ok a/\f a = .ok b:=by
 cases x with
 |ok a=>exact⟨a,rfl,h⟩
 |exc e=>cases h
 |bad=>cases h
theorem dN {α:Type}{o:Option α}{a:α}(h:iG o = .ok a):o=some a:=by
 cases o with
 |none=>cases h
 |some b=>cases h;rfl
theorem aN.new {H:Hp}{p:Addr}{o:HO}(h:H p=none):aN H (upd H p o):=fun b u e=>by
 rw[aP];exact e;intro z;subst z;rw[h] at e;cases e
theorem u9:lim<=sizeLine:=by decide
theorem oi {n:Nat}(h:n<=lim):n<=sizeLine:=br h u9
inductive Args (K:Frag) (env:En) (F:Nat->List Addr):Hp->Hp->List (D×Rt)->List V->List Addr->Prop where
 | nil {H H':Hp}(e:aN H H'):Args K env F H H' [] [] []
 | cons {H H1 H':Hp}{p:D×Rt}{v:V}{G G':List Addr}{l:List (D×Rt)}{vs:List V}(e:aN H H1) (r:Rep K H1 p.1 v G) (t:bY env F H p.2 H1 G) (s:Args K env F H1 H' l vs G'):Args K env F H H' (p::l) (v::vs) (G++G')
section
variable {K:Frag}{env:En}{F:Nat->List Addr}
theorem Args.same:∀{H H':Hp}{l:List (D×Rt)}{vs:List V}{G:List Addr},Args K env F H H' l vs G->aN H H'
 |_,_,_,_,_,.nil e=>e
 |_,_,_,_,_,.cons e _ _ s=>e.trans s.same
theorem Args.reps:∀{H H':Hp}{l:List (D×Rt)}{vs:List V}{G:List Addr},Args K env F H H' l vs G->aK K H' (l.map (·.1)) vs G
 |_,_,_,_,_,.nil _=>.nil
 |_,_,_,_,_,.cons _ r _ s=>.cons (r.same s.same) s.reps
theorem Args.cont:∀{H H':Hp}{l:List (D×Rt)}{vs:List V}{G:List Addr},Args K env F H H' l vs G->∀ a∈G,H a=none\/∃ i d t,a∈F i/\env[i]? = some (some (d,t))/\∀ q∈bN i t,q∈bX (l.map (·.2))
 |_,_,_,_,_,.nil _,a,h=>by cases h
 | _,_,_,_,_,.cons (p:=p) (l:=l) e r t s,a,h=>by
  have e1:bX ((p::l).map (·.2))=p.2.roots++bX (l.map (·.2)):=by simp[bX]
  rw[e1];rcases List.mem_append.mp h with h | h
  ·exact (t.cont a h).imp id fun ⟨i,d,t,x,y,z⟩=>⟨i,d,t,x,y,fun q hq=>aw _ (z q hq)⟩
  ·exact (s.cont a h).imp (aN.no e) fun ⟨i,d,t,x,y,z⟩=>⟨i,d,t,x,y,fun q hq=>ak _ (z q hq)⟩
theorem Args.two {H H':Hp}{p q:D×Rt}{x y:V}{G:List Addr}(ar:Args K env F H H' [p,q] [x,y] G) :
  ∃ H1 G1 G2,G=G1++G2/\aN H H1/\Rep K H1 p.1 x G1/\bY env F H p.2 H1 G1/\aN H1 H'/\Rep K H' q.1 y G2:=by
 cases ar with
 |cons e r t s =>
  cases s with
  |cons e' r' t' s' =>
   cases s' with
   |nil e''=>exact⟨_,_,_,by rw[cg],e,r,t,e'.trans e'',r'.same e''⟩
theorem Args.mv {P:Addr->Prop}{σ:L2.St}:∀{H H':Hp}{l:List (D×Rt)}{vs:List V}{G:List Addr}{R:List Nat},RE K P env σ H F->Args K env F H H' l vs G->fA (l.map (·.2))=some R->R.Nodup ->
  G.Nodup/\(∀ a∈G,∃ vs:ML,H' a=some vs.o)/\∀ a∈G,H a=none\/∃ i d t,i∈R/\a∈F i/\env[i]? = some (some (d,t))/\bO t=true
 |_,_,_,_,_,_,_,.nil _,_,_=>⟨bq,fun _ h=>(nomatch h),fun _ h=>(nomatch h)⟩
 | H,_,_,_,_,_,re,.cons (p:=p) (l:=l) (G:=G) (G':=G') e r t s,hm,nd=>by
  obtain⟨d,rt⟩:=p;cases rt with
  |sh Q=>simp[fA] at hm
  |mv R1 =>
   simp only[List.map_cons,fA,Option.map_eq_some_iff] at hm;obtain⟨R2,h2,rfl⟩:=hm;obtain⟨n1,n2,n12⟩:=jc.mp nd;obtain⟨a1,b1,c1⟩:=t.mv R1 rfl;obtain⟨a2,b2,c2⟩:=Args.mv (re.same e) s h2 n2;refine⟨jc.mpr ⟨a1,a2,fun x hx y hy z=>?_⟩,fun x hx=>?_,fun x hx=>?_⟩
   ·subst z;rcases c2 x hy with q | ⟨i2,d2,t2,m2,f2,e2,o2⟩
    ·exact r.nn hx q
    ·rcases c1 x hx with q | ⟨i1,d1,t1,m1,f1,e1,o1⟩
     ·obtain⟨v,_,rp⟩:=re.val i2 d2 t2 e2;exact rp.nn f2 q
     ·have q:=(re.one i1 d1 t1 e1 o1).2.2 x f1 i2 d2 t2 e2 f2;have q':i1=i2:=by cases t2<;>simp_all [bN,bO]
      exact n12 i1 m1 i2 m2 q'
   ·rcases List.mem_append.mp hx with hx | hx
    ·obtain⟨vs,q⟩:=b1 x hx;exact⟨vs,s.same _ _ q⟩
    ·exact b2 x hx
   ·rcases List.mem_append.mp hx with hx | hx
    ·exact (c1 x hx).imp id fun ⟨i,d,t,m,z⟩=>⟨i,d,t,aw _ m,z⟩
    ·exact (c2 x hx).imp (aN.no e) fun ⟨i,d,t,m,z⟩=>⟨i,d,t,ak _ m,z⟩
theorem Args.comb {P:Addr->Prop}{σ:L2.St}{H H':Hp}{l:List (D×Rt)}{vs:List V}{G:List Addr}(re:RE K P env σ H F)(ar:Args K env F H H' l vs G):bY env F H (rY (l.map (·.2))) H' G:=by
 unfold rY;cases hm:fA (l.map (·.2)) with
 |none=>exact⟨ar.cont,fun R e=>by cases e⟩
 |some R =>
  have er:∀(l:List Rt) (R:List Nat),fA l=some R->bX l=R:=by
   intro l
   induction l with
   |nil=>intro R h;simp[fA] at h;subst h;rfl
   |cons x r ih =>
    intro R h;cases x with
    |sh Q=>simp[fA] at h
    |mv Q =>
     simp only[fA,Option.map_eq_some_iff] at h;obtain⟨R2,h2,rfl⟩:=h;have:=ih R2 h2;simp only[bX,List.map_cons,List.flatten_cons,Rt.roots] at this ⊢;rw[this]
  have er:=er _ R hm;by_cases nd:R.Nodup
  ·simp only[nd,if_true];obtain⟨a,b,c⟩:=ar.mv re hm nd;refine⟨fun x hx=>?_,fun R' e=>by cases e;exact⟨a,b,c⟩⟩;rcases c x hx with q | ⟨i,d,t,m,f,e,o⟩
   ·exact .inl q
   ·exact .inr ⟨i,d,t,f,e,fun q hq=>by cases t<;>simp_all [bN,bO,Rt.roots]⟩
  ·simp only[nd,if_false];exact⟨fun x hx=>by have:=ar.cont x hx;rw[er] at this;exact this,fun R' e=>by cases e⟩
end
structure m8 (H H':Hp)(G0:List Addr)(d:D)(G:List Addr):Prop where
 same:aN H H'
 sub:∀ a∈G,H a=none\/a∈G0
 new:d.inner=true->G.Nodup/\∀ a∈G,H a=none/\∃ vs:ML,H' a=some vs.o
section
variable {K:Frag}{H:Hp}{G0:List Addr}
theorem m8.nil {d:D}:m8 H H G0 d []:=⟨aN.refl _,fun _ h=>(nomatch h),fun _=>⟨bq,fun _ h=>(nomatch h)⟩⟩
theorem kd {ds:List D}{vs:List V}{G:List Addr}{p:Addr}(r:aK K H ds vs G)(hs:∀ a∈G,a∈G0)(hp:H p=none) :
  Rep K (upd H p (.lst vs)) (.lst ds) (.ref p) (p::G)/\m8 H (upd H p (.lst vs)) G0 (.lst ds) (p::G):=by
 have e:=aN.new (o:=.lst vs) hp;refine⟨.lst (.inl bG) (r.same e),e,fun a ha=>?_,fun f=>?_⟩
 ·rcases dw.mp ha with rfl | ha
  ·exact .inl hp
  ·exact .inr (hs a ha)
 ·have:G=[]:=r.flat f;subst this;exact⟨by simp,fun a ha=>by
   have:a=p:=by simpa using ha
   subst this;exact⟨hp,.l _,bG⟩⟩
theorem bY.new {env:En}{F:Nat->List Addr}{H1 H':Hp}{l:List (D×Rt)}{vs:List V}{G:List Addr}{d:D}{R:List Nat}(ar:Args K env F H H1 l vs G0)(nv:m8 H1 H' G0 d G)(hR:∀ q∈bX (l.map (·.2)),q∈R):bY env F H (kJ d R) H' G:=by
 unfold kJ;cases hi:d.inner with
 |true =>
  obtain⟨a,b⟩:=nv.new hi;have c:∀ x∈G,H x=none:=fun x hx=>aN.no ar.same (b x hx).1
  exact⟨fun x hx=>.inl (c x hx),fun R' e=>⟨a,fun x hx=>(b x hx).2,fun x hx=>.inl (c x hx)⟩⟩
 |false =>
  refine⟨fun x hx=>?_,fun R' e=>by cases e⟩;rcases nv.sub x hx with q | q
  ·exact .inl (aN.no ar.same q)
  ·exact (ar.cont x q).imp id fun ⟨i,d,t,f,e,z⟩=>⟨i,d,t,f,e,fun q hq=>hR q (z q hq)⟩
end
section
variable {X:Cx}
theorem cD {e:Expr}{t t':TE}(h:PE X e t)(k:∀ σ H Q,t' σ H Q->t σ H Q):PE X e t':=fun pins s σ H Q I q=>h pins s σ H Q I (k σ H Q q)
theorem uW {e:Expr}{t t':TT}(h:PT X e t)(k:∀ σ H Q,t' σ H Q->t σ H Q):PT X e t':=fun pins s σ H Q I q=>h pins s σ H Q I (k σ H Q q)
theorem Bt {e:List Expr}{t t':TA}(h:PA X e t)(k:∀ σ H Q,t' σ H Q->t σ H Q):PA X e t':=fun pos pins s σ H Q I q=>h pos pins s σ H Q I (k σ H Q q)
theorem cN {e:Stmt}{t t':TS}(h:PS X e t)(k:∀ D σ H,t' D σ H->t D σ H):PS X e t':=fun pins s σ H D I q=>h pins s σ H D I (k D σ H q)
theorem nG {e:List Stmt}{t t':TS}(h:j6 X e t)(k:∀ D σ H,t' D σ H->t D σ H):j6 X e t':=fun pins s σ H D I q=>h pins s σ H D I (k D σ H q)
end
def tE (K:Frag)(T:Tb)(c:Ex):TE:=fun σ H Q=>∃ P env F,RE K P env σ H F/\∃ p,ev T c env = .ok p/\∀ v H' G,aN H H'->Rep K H' p.1 v G->bY env F H p.2 H' G->Q v H'
def tD (K:Frag)(T:Tb)(cs:nJ):TA:=fun σ H Q=>∃ P env F,RE K P env σ H F/\∃ l,bQ T cs env = .ok l/\∀ vs H' G,Args K env F H H' l vs G->Q vs H'
def qJ (K:Frag)(T:Tb)(c:Ex):TT:=fun σ H Q=>∃ P env F,RE K P env σ H F/\∃ p b,ev T c env = .ok p/\truth p.1=some b/\∀ H',aN H H'->Q b H'
section
variable {K:Frag}{T:Tb}{P:Addr->Prop}{env:En}{F:Nat->List Addr}{σ:L2.St}{H:Hp}
theorem two {ca cb:Ex}{r:R2}{Q:VK}{p q:D×Rt}(re:RE K P env σ H F)(h1:ev T ca env = .ok p)(h2:ev T cb env = .ok q)(k:∀ x y H2 G,Args K env F H H2 [p,q] [x,y] G->r x y H2 Q):Hv r (tE K T ca) (tE K T cb) σ H Q :=
 ⟨P,env,F,re,p,h1,fun v1 H1 G1 s1 rp1 rt1=>⟨P,env,F,re.same s1,q,h2,fun v2 H2 G2 s2 rp2 rt2=>k v1 v2 H2 _ (.cons s1 rp1 rt1 (.cons s2 rp2 rt2 (.nil (aN.refl _))))⟩⟩
end
def Dn (K:Frag)(f:D->D->Option D):R2:=fun x y H Q=>∃ d1 d2 d G,aK K H [d1,d2] [x,y] G/\f d1 d2=some d/\∀ v H' G',Rep K H' d v G'->m8 H H' G d G'->Q v H'
def Ih (K:Frag):R2:=fun x y H Q=>∃ d1 d2 d G,aK K H [d1,d2] [x,y] G/\GZ d1 d2=some d/\∀ v G',Rep K H d v G'->G'.Sublist G->Q v H
section
variable {X:Cx}{T:Tb}{a b c:Expr}{ca cb cc:Ex}{pos:Pos}
theorem EA {op:Operator}(ho:kD X (binaryOp op) (Dn X.K (pQ op)))(ha:PE X a (tE X.K T ca))(hb:PE X b (tE X.K T cb)):PE X (.BinOp a op b pos) (tE X.K T (.bin op ca cb)):=by
 refine cD (Iu ho ha hb) fun σ H Q ⟨P,env,F,re,p0,hev,k⟩=>?_
 unfold ev at hev;obtain⟨p,h1,hev⟩:=Rs.bind_ok hev;obtain⟨q,h2,hev⟩:=Rs.bind_ok hev;obtain⟨d,h3,hev⟩:=Rs.bind_ok hev;have h3:=dN h3;cases hev;refine two re h1 h2 fun x y H2 G ar=>⟨p.1,q.1,d,G,ar.reps,h3,fun v H' G' rp nv=>k v H' G' (ar.same.trans nv.same) rp (bY.new ar nv fun z hz=>by simpa[bX] using hz)⟩
theorem GG {op:CmpOp}(ho:kD X (compareOp op) (Dn X.K fun x y=>(ni op x y).map .bl))(ha:PE X a (tE X.K T ca))(hb:PE X b (tE X.K T cb))(hm:behindInMarks op b=false):PE X (.Compare a [op] [b] pos) (tE X.K T (.cmp op ca cb)):=by
 refine cD (Ce ho ha hb hm) fun σ H Q ⟨P,env,F,re,p0,hev,k⟩=>?_
 unfold ev at hev;obtain⟨p,h1,hev⟩:=Rs.bind_ok hev;obtain⟨q,h2,hev⟩:=Rs.bind_ok hev;obtain⟨d,h3,hev⟩:=Rs.bind_ok hev;have h3:=dN h3;cases hev;refine two re h1 h2 fun x y H2 G ar=>⟨p.1,q.1,.bl d,G,ar.reps,by simp[h3],fun v H' G' rp nv=>k v H' G' (ar.same.trans nv.same) rp ?_⟩
 have:G'=[]:=rp.flat rfl;subst this;exact bY.nil
theorem HJ (ho:HC X (Ih X.K))(ha:PE X a (tE X.K T ca))(hb:PE X b (tE X.K T cb))(hs:rC b):PE X (.Subscript a b pos) (tE X.K T (.ix ca cb)):=by
 refine cD (IQ ho ha hb hs) fun σ H Q ⟨P,env,F,re,p0,hev,k⟩=>?_
 unfold ev at hev;obtain⟨p,h1,hev⟩:=Rs.bind_ok hev;obtain⟨q,h2,hev⟩:=Rs.bind_ok hev;obtain⟨d,h3,hev⟩:=Rs.bind_ok hev;have h3:=dN h3;cases hev;refine two re h1 h2 fun x y H2 G ar=>⟨p.1,q.1,d,G,ar.reps,h3,fun v G' rp sl=>k v H2 G' ar.same rp ?_⟩
 unfold uN;cases hf:d.flat with
 |true =>
  have:G'=[]:=rp.flat hf;subst this;exact bY.nil
 |false =>
  obtain⟨H1,g1,g2,e1,s1,_,rt1,s2,rp2⟩:=ar.two;have hq:q.1.flat=true:=by
   revert h3;cases p.1<;>cases q.1<;>simp[GZ,D.flat]
  have rp2:=rp2.flat hq;have rp1:=rt1.later s2;subst rp2;rw[cg] at e1;subst e1;refine⟨fun z hz=>?_,fun R e=>by cases e⟩;exact rp1.cont z (sl.subset hz)
end
section
variable {K:Frag}{H:Hp}
theorem aK.inv2 {d e:D}{x y:V}{G:List Addr}(h:aK K H [d,e] [x,y] G):∃ G1 G2,Rep K H d x G1/\Rep K H e y G2/\G=G1++G2:=by
 cases h with
 |cons r s =>
  cases s with
  |cons r' s'=>cases s';exact⟨_,_,r,r',by rw[cg]⟩
theorem Rep.int_inv {i:Int}{v:V}{G:List Addr}(h:Rep K H (.int i) v G):v = .int i/\G=[]:=by cases h;exact⟨rfl,rfl⟩
theorem Rep.bl_inv {i:Bool}{v:V}{G:List Addr}(h:Rep K H (.bl i) v G):v = .bl i/\G=[]:=by cases h;exact⟨rfl,rfl⟩
theorem Rep.non_inv {v:V}{G:List Addr}(h:Rep K H .non v G):v = .non/\G=[]:=by cases h;exact⟨rfl,rfl⟩
theorem Rep.tup_inv {ds:List D}{v:V}{G:List Addr}(h:Rep K H (.tup ds) v G):∃ p vs,v = .ref p/\sQ K H p vs/\aK K H ds vs G:=by
 cases h with
 |tup a b=>exact⟨_,_,rfl,a.sq,b⟩
theorem Rep.tup_invT {ds:List D}{v:V}{G:List Addr}(h:Rep K H (.tup ds) v G):∃ p vs,v = .ref p/\rW K H p vs/\aK K H ds vs G:=by
 cases h with
 |tup a b=>exact⟨_,_,rfl,a,b⟩
end
section
variable {X:Cx}
theorem Inv.lstR {pins:List (Addr×Obj)}{σ:L2.St}{H:Hp}{s:Shared}{l:Addr}{xs:List V}(I:Inv X pins σ H s)(hH:Rd H l (.lst xs)):xs.length<=sizeLine/\∃(its:List Value) (n:Nat),aR xs its/\xs.length=its.length/\s.heap.get? l=some {cls:=.type "list",data:=.seq its.toArray n}:=by
 obtain⟨z,its,n,r,e⟩:=hH.ok I.hok;exact⟨z,its,n,r,r.length,e⟩
def Ij:R2:=fun x y H Q=>∃ l b xs zs,x = .ref l/\y = .ref b/\Rd H l (.lst xs)/\Rd H b (.lst zs)/\xs.length+zs.length<=sizeLine/\∀ p,H p=none->Q (.ref p) (upd H p (.lst (xs++zs)))
theorem CJ:kD X (binaryOp .Add) Ij:=by
 intro pins s σ H x y v u Q I rx ry h;obtain⟨l,b,xs,zs,rfl,rfl,hH,hB,hz,q⟩:=h;cases rx;cases ry;obtain⟨z,its,n,r,hl,e⟩:=Inv.lstR I hH;obtain⟨z2,its2,n2,r2,hl2,e2⟩:=Inv.lstR I hB;refine PySem.P.add_list e e2 ?_ (by rw[ao,ao];omega);have ea:its.toArray++its2.toArray=(its++its2).toArray:=by simp
 rw[ea];exact⟨.ref _,_,I.lnew (t':=s.toks) (r.append r2) (by rw[df];omega),rfl,q _ I.fresh⟩
def Hr:R2:=fun x y H Q=>∃ l k xs,x = .ref l/\y = .int k/\Rd H l (.lst xs)/\-(2 ^ 63)<=k/\k<2 ^ 63/\xs.length*k.toNat<=sizeLine /\
 ∀ p,H p=none->Q (.ref p) (upd H p (.lst (List.replicate k.toNat xs).flatten))
theorem BZ:kD X (binaryOp .Mult) Hr:=by
 intro pins s σ H x y v u Q I rx ry h;obtain⟨l,k,xs,rfl,rfl,hH,h1,h2,hz,q⟩:=h;cases rx;obtain⟨t,rfl⟩:=ry;obtain⟨z,its,n,r,hl,e⟩:=Inv.lstR I hH;have hlen:its.toArray.size*k.toNat<=sizeLine:=by rw[ao,<-hl];exact hz
 have hcap:¬ its.toArray.size*k.toNat > (2 ^ 63 - 1) / 8:=by
  have:(sizeLine:Nat)<=(2 ^ 63 - 1) / 8:=by decide
  omega
 have hfit:¬ (!Builtin.List.listFitsIndex k)=true:=by
  rw[fitsIndex_both h1 h2];exact az
 have hlong:¬ Builtin.List.listTooLong (its.toArray.size*k.toNat)=true:=by
  rw[zA hlen];exact az
 have hnew:List.foldl (fun x1 x2=>x1++x2) #[] (List.replicate (if its.toArray.isEmpty=true then 0 else k.toNat) its.toArray)=(List.replicate k.toNat its).flatten.toArray:=by
  have f0:∀ m:Nat,List.foldl (fun x1 x2=>x1++x2) #[] (List.replicate m its.toArray)=(List.replicate m its).flatten.toArray:=fun m=>by
   have:=foldl_rep its m [];rw[List.nil_append] at this;exact this
  rw[f0];cases its with
  |nil=>simp
  |cons a r'=>rw[if_neg (by simp)]
 refine wpAny_binaryOp_repeat_ref (T:="list") (U:="int") (by decide) ⟨_,e,rfl⟩ (fun s'=>typeIs_int s' k t) noFill_list_mul F.fills_int_mul F.slot_int_rmul repeat_list F.slot_int_index.lookup
  (call_meets F.slot_int_rmul (typeIs_int s k t) F.entry_int_rmul (F.args_int_rmul_2 _ _) (int___rmul___int_list k t l its.toArray n)
   ⟨e,rfl,⟨_,e,rfl⟩,call_meets F.slot_list_mul ⟨_,e,rfl⟩ F.entry_list_mul (F.args_list_mul_2 _ _) (AutoListH.list___mul___list_int_3 l its.toArray n k t hfit hcap hlong) ⟨e,?_⟩⟩)
 rw[hnew];exact⟨.ref _,_,I.lnew (t':=s.toks) (r.rep k.toNat) (by rw[len_rep,Nat.mul_comm];exact hz),rfl,q _ I.fresh⟩
theorem aK.rep {K:Frag}{H:Hp}{ds:List D}{vs:List V}(h:aK K H ds vs []):∀ n:Nat,aK K H (List.replicate n ds).flatten (List.replicate n vs).flatten []
 |0=>.nil
 | n+1=>by
  rw[dn,dn,fb,fb];exact h.append (h.rep n)
theorem wQ {n:Nat}{d e:D}(h:ck n d=some e):n<=lim/\e=d:=by
 unfold ck at h;split at h
 ·cases h;exact⟨‹_›,rfl⟩
 ·cases h
theorem qh {i:Int}:small i=true↔(-(2 ^ 64)<i/\i<2 ^ 64):=by unfold small;exact decide_eq_true_iff
theorem BF {op:Operator}{i j k:Int}(h:binI op i j=some k):kD X (binaryOp op) (fun x y H Q=>x = .int i/\y = .int j/\Q (.int k) H):=by
 intro pins s σ H x y v u Q I rx ry q;obtain⟨rfl,rfl,q⟩:=q;cases op with
 |Add=>cases h;exact EB pins s σ H _ _ v u Q I rx ry ⟨i,j,rfl,rfl,q⟩
 |Sub=>cases h;exact GR pins s σ H _ _ v u Q I rx ry ⟨i,j,rfl,rfl,q⟩
 |Mult =>
  simp only[binI] at h;by_cases hc:(small i || small j)=true
  ·rw[if_pos hc] at h;cases h;refine GU pins s σ H _ _ v u Q I rx ry ⟨i,j,rfl,rfl,?_,q⟩;rw[gq,qh,qh] at hc;exact hc
  ·rw[if_neg hc] at h;cases h
 |FloorDiv =>
  simp only[binI] at h;by_cases hc:0<j/\j<1073741824
  ·rw[if_pos hc] at h;cases h;exact B4 pins s σ H _ _ v u Q I rx ry ⟨i,j,rfl,rfl,hc,q⟩
  ·rw[if_neg hc] at h;cases h
 |Mod =>
  simp only[binI] at h;by_cases hc:0<j
  ·rw[if_pos hc] at h;cases h;exact Gf pins s σ H _ _ v u Q I rx ry ⟨i,j,rfl,rfl,hc,q⟩
  ·rw[if_neg hc] at h;cases h
 |Pow =>
  simp only[binI] at h;by_cases hc:0<=j/\j<=1000000/\i.natAbs<2 ^ 64
  ·rw[if_pos hc] at h;cases h;exact EV pins s σ H _ _ v u Q I rx ry ⟨i,j,rfl,rfl,hc,q⟩
  ·rw[if_neg hc] at h;cases h
 |LShift =>
  simp only[binI] at h;by_cases hc:0<=j/\j<=1000000/\i.natAbs<2 ^ 64
  ·rw[if_pos hc] at h;cases h;exact Fm pins s σ H _ _ v u Q I rx ry ⟨i,j,rfl,rfl,hc,q⟩
  ·rw[if_neg hc] at h;cases h
 |RShift =>
  simp only[binI] at h;by_cases hc:0<=j
  ·rw[if_pos hc] at h;cases h;exact FP pins s σ H _ _ v u Q I rx ry ⟨i,j,rfl,rfl,hc,q⟩
  ·rw[if_neg hc] at h;cases h
 |BitAnd=>cases h;exact FV pins s σ H _ _ v u Q I rx ry ⟨i,j,rfl,rfl,q⟩
 |BitOr=>cases h;exact Hc pins s σ H _ _ v u Q I rx ry ⟨i,j,rfl,rfl,q⟩
 |BitXor=>cases h;exact Fk pins s σ H _ _ v u Q I rx ry ⟨i,j,rfl,rfl,q⟩
 |_=>cases h
theorem CC (op:Operator):kD X (binaryOp op) (Dn X.K (pQ op)):=by
 intro pins s σ H x y v u Q I rx ry h;obtain⟨d1,d2,d,G,rs,hd,k⟩:=h;obtain⟨G1,G2,r1,r2,rfl⟩:=rs.inv2;cases d1 with
 |int i =>
  cases d2 with
  |int j =>
   obtain⟨rfl,rfl⟩:=r1.int_inv;obtain⟨rfl,rfl⟩:=r2.int_inv;have:pQ op (.int i) (.int j)=(binI op i j).map .int:=rfl;rw[this,ag] at hd;obtain⟨z,hz,rfl⟩:=hd;exact BF hz pins s σ H _ _ v u Q I rx ry ⟨rfl,rfl,k _ H [] (.int z) m8.nil⟩
  |_=>cases hd
 |lst a =>
  obtain⟨p,vs,G',rfl,rfl,h1,h2⟩:=r1.lst_inv;cases d2 with
  |lst b =>
   cases op with
   |Add =>
    obtain⟨hl,rfl⟩:=wQ hd;obtain⟨p',vs',G'',rfl,rfl,h1',h2'⟩:=r2.lst_inv;refine CJ pins s σ H _ _ v u Q I rx ry ⟨p,p',vs,vs',rfl,rfl,h1,h1',by rw[<-h2.len,<-h2'.len];exact oi hl,fun q hq=>?_⟩;obtain⟨n1,n2⟩:=kd (G0:=p::G'++p'::G'') (h2.append h2') (fun a ha=>by simp at ha ⊢;rcases ha with ha | ha<;>simp[ha]) hq;exact k _ _ _ n1 n2
   |_=>cases hd
  |int n =>
   cases op with
   |Mult =>
    have hd:(if -(2 ^ 63)<=n/\n<2 ^ 63 then (if D.flats a then ck (a.length*n.toNat) (.lst (List.replicate n.toNat a).flatten) else none) else none)=some d:=hd;by_cases hc : -(2 ^ 63)<=n/\n<2 ^ 63
    ·rw[if_pos hc] at hd;by_cases hf:D.flats a=true
     ·rw[if_pos hf] at hd;obtain⟨hl,rfl⟩:=wQ hd;obtain⟨rfl,rfl⟩:=r2.int_inv;have eG:G'=[]:=h2.flat hf;subst eG;refine BZ pins s σ H _ _ v u Q I rx ry ⟨p,n,vs,rfl,rfl,h1,hc.1,hc.2,by rw[<-h2.len];exact oi hl,fun q hq=>?_⟩;obtain⟨n1,n2⟩:=kd (G0:=[p] ++ []) (h2.rep n.toNat) (fun a ha=>(nomatch ha)) hq;exact k _ _ _ n1 n2
     ·rw[if_neg hf] at hd;cases hd
    ·rw[if_neg hc] at hd;cases hd
   |_=>cases hd
  |_=>cases hd
 |_=>cases hd
open SeqAt in
theorem jS {f:D->D->Option Bool}:∀{xs ys:List D}{b:Bool},Cg f xs ys=some b->xs.length=ys.length/\∃ e:Nat->Bool,(∀ j x y,xs[j]? = some x->ys[j]? = some y->f x y=some (e j))/\b=(List.range xs.length).all e
 |[],[],b,h=>by cases h;exact⟨rfl,fun _=>true,fun j x y hx=>by simp at hx,rfl⟩
 | x::xs,y::ys,b,h=>by
  simp only[Cg,Option.bind_eq_some_iff,Option.map_eq_some_iff] at h;obtain⟨a,h1,c,h2,rfl⟩:=h;obtain⟨hl,e,he,rfl⟩:=jS h2;refine⟨by simp[hl],fun j=>match j with | 0=>a | j+1=>e j,fun j x' y' hx hy=>?_,?_⟩
  ·cases j with
   |zero=>simp at hx hy;subst hx;subst hy;exact h1
   |succ j=>exact he j x' y' (by simpa using hx) (by simpa using hy)
  ·rw[cw,List.range_succ_eq_map,dk,List.all_map];rfl
 |[],_::_,b,h=>by cases h
 |_::_,[],b,h=>by cases h
theorem lF:∀(n:Nat) (d:D) (b:Bool),D.eqf n d d=some b->b=true
 |0,_,_,h=>by cases h
 |n+1,.non,b,h=>by cases h;rfl
 |n+1,.bl x,b,h=>by simp[D.eqf] at h;exact h
 |n+1,.int x,b,h=>by simp[D.eqf] at h;exact h
 | n+1,.lst xs,b,h=>by
  simp only[D.eqf,if_true] at h;obtain⟨_,e,he,rfl⟩:=jS h;rw[bw];intro j hj;have hj:j<xs.length:=by simpa using hj
  exact lF n xs[j] _ (he j _ _ (by simp[hj]) (by simp[hj]))
 | n+1,.tup xs,b,h=>by
  simp only[D.eqf,if_true] at h;obtain⟨_,e,he,rfl⟩:=jS h;rw[bw];intro j hj;have hj:j<xs.length:=by simpa using hj
  exact lF n xs[j] _ (he j _ _ (by simp[hj]) (by simp[hj]))
section
variable {pins:List (Addr×Obj)}{σ:L2.St}{H:Hp}{s:Shared}
noncomputable def nf:HO->Bool
 |.frz _ _=>false
 |_=>true
theorem Rep.inj (I:Inv X pins σ H s){d:D}{v:V}{G:List Addr}(h:Rep X.K H d v G):∀{e:D}{G':List Addr},Rep X.K H e v G'->d=e:=by
 refine Rep.rec (motive_1:=fun d v G _=>∀{e:D}{G':List Addr},Rep X.K H e v G'->d=e) (motive_2:=fun ds vs G _=>∀{es:List D}{G':List Addr},aK X.K H es vs G'->ds=es) ?non ?bl ?int ?lst ?tup ?nil ?cons h
 case non =>
  intro e' G' h;cases h;rfl
 case bl =>
  intro _ e' G' h;cases h;rfl
 case int =>
  intro _ e' G' h;cases h;rfl
 case lst =>
  intro p0 vs0 ds0 G0 h r ih e' G' q;cases q with
  |lst h' r' =>
   have e:=I.list_inj (.inl h) (.inl h');subst e;rw[ih r']
  |tup h' r' =>
   obtain⟨its,_,pl,_⟩:=I.list (.inl h);obtain⟨its',_,pt,_⟩:=I.tuple h'.sq;obtain⟨o,ho,hc,_⟩:=pl.isList;obtain⟨o',ho',hc',_⟩:=pt;rw[ho] at ho';cases ho';rw[hc] at hc';injection hc' with z;exact absurd z (by decide)
 case tup =>
  intro p0 vs0 ds0 G0 h r ih e' G' q;cases q with
  |tup h' r' =>
   have e:=I.tuple_inj h.sq h'.sq;subst e;rw[ih r']
  |lst h' r' =>
   obtain⟨its,_,pl,_⟩:=I.list (.inl h');obtain⟨its',_,pt,_⟩:=I.tuple h.sq;obtain⟨o,ho,hc,_⟩:=pl.isList;obtain⟨o',ho',hc',_⟩:=pt;rw[ho] at ho';cases ho';rw[hc] at hc';injection hc' with z;exact absurd z (by decide)
 case nil=>intro e' G' h;cases h;rfl
 case cons =>
  intro d0 v0 ds0 vs0 G0 G1 h r i1 i2 e' G' q;cases q with
  |cons h' r'=>rw[i1 h',i2 r']
open SeqAt in
theorem zB (I:Inv X pins σ H s):∀(n:Nat) (A:Around) (d e:D) (v w:V) (G G':List Addr) (u u':Value) (b:Bool),A.units+n<cLine->Rep X.K H d v G->Rep X.K H e w G'->RelV v u->RelV w u'->D.eqf n d e=some b->RcAt A s u u' b/\EqAt A s u u' b
 |0,_,_,_,_,_,_,_,_,_,_,_,_,_,_,_,h=>by cases h
 | n+1,A,d,e,v,w,G,G',u,u',b,hu,r1,r2,q1,q2,h=>by
  have hu1:A.in1.units+n<cLine:=by show A.units+1+n<cLine;omega
  have hu0:A.units<cLine:=by omega
  have items:∀{xs ys:List D}{vs ws:List V}{G1 G2:List Addr}{its its':List Value}{c:Bool},aK X.K H xs vs G1->aK X.K H ys ws G2->aR vs its->aR ws its'->Cg (D.eqf n) xs ys=some c ->
    its.toArray.size=its'.toArray.size/\∃ ee:Nat->Bool,c=(List.range its.toArray.size).all ee/\∀ j (h1:j<its.toArray.size) (h2:j<its'.toArray.size),EqAt A.in1 s its.toArray[j] its'.toArray[j] (ee j):=by
   intro xs ys vs ws G1 G2 its its' c a1 a2 b1 b2 hc;obtain⟨hl,ee,he,rfl⟩:=jS hc;have l1:=a1.len;have l2:=a2.len;have l3:=b1.length;have l4:=b2.length;have sz:its.toArray.size=xs.length:=by rw[ao];omega
   refine⟨by rw[ao,ao];omega,ee,by rw[sz],fun j h1 h2=>?_⟩;have j1:j<xs.length:=by rw[<-sz];exact h1
   have j2:j<ys.length:=by omega
   obtain⟨v1,g1,e1,p1,_⟩:=a1.get (i:=j) (d:=xs[j]) (by simp[j1]);obtain⟨v2,g2,e2,p2,_⟩:=a2.get (i:=j) (d:=ys[j]) (by simp[j2]);obtain⟨u1,f1,t1⟩:=b1.get e1;obtain⟨u2,f2,t2⟩:=b2.get e2;have x1:its.toArray[j]=u1:=by
    have:=List.getElem?_eq_some_iff.mp f1;simpa using this.2
   have x2:its'.toArray[j]=u2:=by
    have:=List.getElem?_eq_some_iff.mp f2;simpa using this.2
   rw[x1,x2];exact (zB I n A.in1 _ _ _ _ _ _ _ _ _ hu1 p1 p2 t1 t2 (he j _ _ (by simp[j1]) (by simp[j2]))).2
  have refs:∀{l m:Addr}{c:Bool},(l=m->c=true)->RcAt A s (.ref l) (.ref m) c->RcAt A s (.ref l) (.ref m) c/\EqAt A s (.ref l) (.ref m) c:=fun {l m c} hs hr=>⟨hr,by
   by_cases z:l=m
   ·subst z;rw[hs rfl];exact EqAt.same _
   ·exact EqAt.of_refs z hr⟩
  cases d with
  |non =>
   obtain⟨rfl,rfl⟩:=r1.non_inv;cases q1;cases e with
   |non=>obtain⟨rfl,rfl⟩:=r2.non_inv;cases q2;cases h;exact⟨RcAt.none_none,EqAt.same _⟩
   |bl c=>obtain⟨rfl,rfl⟩:=r2.bl_inv;cases q2;cases h;exact⟨RcAt.none_bool c,EqAt.none_bool c⟩
   |int i=>obtain⟨rfl,rfl⟩:=r2.int_inv;obtain⟨t,rfl⟩:=q2;cases h;exact⟨RcAt.none_int i t,EqAt.none_int i t⟩
   |lst ys =>
    obtain⟨m,ws,g,rfl,rfl,a1,a2⟩:=r2.lst_inv;cases q2;obtain⟨its,_,pl,_⟩:=I.list (.inl a1);cases h;exact⟨RcAt.none_list pl.isList hu0,EqAt.none_list pl.isList hu0⟩
   |tup ys =>
    obtain⟨m,ws,rfl,a1,a2⟩:=r2.tup_inv;cases q2;obtain⟨its,_,pl,_⟩:=I.tuple a1;cases h;exact⟨RcAt.none_tuple pl hu0,EqAt.none_tuple pl hu0⟩
  |bl a =>
   obtain⟨rfl,rfl⟩:=r1.bl_inv;cases q1;cases e with
   |non=>obtain⟨rfl,rfl⟩:=r2.non_inv;cases q2;cases h;exact⟨RcAt.bool_none a,EqAt.bool_none a⟩
   |bl c=>obtain⟨rfl,rfl⟩:=r2.bl_inv;cases q2;cases h;exact⟨RcAt.bool_bool a c,EqAt.bool_bool a c⟩
   |int i=>obtain⟨rfl,rfl⟩:=r2.int_inv;obtain⟨t,rfl⟩:=q2;cases h;exact⟨RcAt.bool_int a i t,EqAt.bool_int a i t⟩
   |lst ys =>
    obtain⟨m,ws,g,rfl,rfl,a1,a2⟩:=r2.lst_inv;cases q2;obtain⟨its,_,pl,_⟩:=I.list (.inl a1);cases h;exact⟨RcAt.bool_list a pl.isList hu0,EqAt.bool_list a pl.isList hu0⟩
   |tup ys =>
    obtain⟨m,ws,rfl,a1,a2⟩:=r2.tup_inv;cases q2;obtain⟨its,_,pl,_⟩:=I.tuple a1;cases h;exact⟨RcAt.bool_tuple a pl hu0,EqAt.bool_tuple a pl hu0⟩
  |int a =>
   obtain⟨rfl,rfl⟩:=r1.int_inv;obtain⟨t0,rfl⟩:=q1;cases e with
   |non=>obtain⟨rfl,rfl⟩:=r2.non_inv;cases q2;cases h;exact⟨RcAt.int_none a t0,EqAt.int_none a t0⟩
   |bl c=>obtain⟨rfl,rfl⟩:=r2.bl_inv;cases q2;cases h;exact⟨RcAt.int_bool a t0 c,EqAt.int_bool a t0 c⟩
   |int i=>obtain⟨rfl,rfl⟩:=r2.int_inv;obtain⟨t,rfl⟩:=q2;cases h;exact⟨RcAt.int_int a t0 i t,EqAt.int_int a t0 i t⟩
   |lst ys =>
    obtain⟨m,ws,g,rfl,rfl,a1,a2⟩:=r2.lst_inv;cases q2;obtain⟨its,_,pl,_⟩:=I.list (.inl a1);cases h;exact⟨RcAt.int_list a t0 pl.isList hu0,EqAt.int_list a t0 pl.isList hu0⟩
   |tup ys =>
    obtain⟨m,ws,rfl,a1,a2⟩:=r2.tup_inv;cases q2;obtain⟨its,_,pl,_⟩:=I.tuple a1;cases h;exact⟨RcAt.int_tuple a t0 pl hu0,EqAt.int_tuple a t0 pl hu0⟩
  |lst xs =>
   obtain⟨l,vs,g,rfl,rfl,a1,a2⟩:=r1.lst_inv;cases q1;obtain⟨its,rv,pl,_⟩:=I.list (.inl a1);cases e with
   |non=>obtain⟨rfl,rfl⟩:=r2.non_inv;cases q2;cases h;exact⟨RcAt.list_none pl.isList hu0,EqAt.list_none pl.isList hu0⟩
   |lst ys =>
    obtain⟨m,ws,g',rfl,rfl,b1,b2⟩:=r2.lst_inv;cases q2;obtain⟨its',rv',pl',_⟩:=I.list (.inl b1);have same:l=m->b=true:=fun z=>by
     subst z;have e0:=Rep.inj I r1 r2;rw[e0] at h;exact lF _ _ _ h
    simp only[D.eqf] at h;by_cases hl:xs.length=ys.length
    ·rw[if_pos hl] at h;obtain⟨hz,ee,rfl,he⟩:=items a2 b2 rv rv' h;exact refs same (RcAt.lists pl.isList pl'.isList hz hu0 he)
    ·rw[if_neg hl] at h;cases h;have hz:(its.toArray.size != its'.toArray.size)=true:=by
      have l1:=a2.len;have l2:=b2.len;have l3:=rv.length;have l4:=rv'.length;simp only[bne_iff_ne,ne_eq,List.size_toArray];omega
     exact refs same (RcAt.lists_lengths pl.isList pl'.isList hz hu0)
   |bl c=>obtain⟨rfl,rfl⟩:=r2.bl_inv;cases q2;cases h;exact⟨RcAt.list_bool c pl.isList hu0,EqAt.list_bool c pl.isList hu0⟩
   |int c=>obtain⟨rfl,rfl⟩:=r2.int_inv;obtain⟨t,rfl⟩:=q2;cases h;exact⟨RcAt.list_int c t pl.isList hu0,EqAt.list_int c t pl.isList hu0⟩
   |tup ys =>
    obtain⟨m,ws,rfl,b1,b2⟩:=r2.tup_inv;cases q2;obtain⟨its',rv',pl',_⟩:=I.tuple b1;cases h;exact⟨RcAt.list_tuple pl.isList pl' hu0,EqAt.list_tuple pl.isList pl' hu0⟩
  |tup xs =>
   obtain⟨l,vs,rfl,a1,a2⟩:=r1.tup_inv;cases q1;obtain⟨its,rv,pl,_⟩:=I.tuple a1;cases e with
   |tup ys =>
    obtain⟨m,ws,rfl,b1,b2⟩:=r2.tup_inv;cases q2;obtain⟨its',rv',pl',_⟩:=I.tuple b1;have same:l=m->b=true:=fun z=>by
     subst z;have e0:=Rep.inj I r1 r2;rw[e0] at h;exact lF _ _ _ h
    simp only[D.eqf] at h;by_cases hl:xs.length=ys.length
    ·rw[if_pos hl] at h;obtain⟨hz,ee,rfl,he⟩:=items a2 b2 rv rv' h;have q:=RcAt.tuples (e:=ee) pl pl' hu0 he;rw[<-hz,Nat.min_self,beq_self_eq_true,Bool.and_true] at q;exact refs same q
    ·rw[if_neg hl] at h;cases h
   |non=>obtain⟨rfl,rfl⟩:=r2.non_inv;cases q2;cases h;exact⟨RcAt.tuple_none pl hu0,EqAt.tuple_none pl hu0⟩
   |bl c=>obtain⟨rfl,rfl⟩:=r2.bl_inv;cases q2;cases h;exact⟨RcAt.tuple_bool c pl hu0,EqAt.tuple_bool c pl hu0⟩
   |int c=>obtain⟨rfl,rfl⟩:=r2.int_inv;obtain⟨t,rfl⟩:=q2;cases h;exact⟨RcAt.tuple_int c t pl hu0,EqAt.tuple_int c t pl hu0⟩
   |lst ys =>
    obtain⟨m,ws,g',rfl,rfl,b1,b2⟩:=r2.lst_inv;cases q2;obtain⟨its',rv',pl',_⟩:=I.list (.inl b1);cases h;exact⟨RcAt.tuple_list pl pl'.isList hu0,EqAt.tuple_list pl pl'.isList hu0⟩
end
end
section
variable {X:Cx}{pins:List (Addr×Obj)}{σ:L2.St}{H:Hp}{s:Shared}
open SeqAt in
theorem Hj (I:Inv X pins σ H s)(n:Nat)(A:Around)(d e:D)(v w:V)(G G':List Addr)(u u':Value)(b:Bool)(hu:A.units+n<cLine)(r1:Rep X.K H d v G)(r2:Rep X.K H e w G')(q1:RelV v u)(q2:RelV w u')(h:D.eqf n d e=some b):RcNeAt A s u u' (!b):=by
 cases n with
 |zero=>cases h
 |succ n =>
  have hu1:A.in1.units+n<cLine:=by show A.units+1+n<cLine;omega
  have hu0:A.units<cLine:=by omega
  have items:∀{xs ys:List D}{vs ws:List V}{G1 G2:List Addr}{its its':List Value}{c:Bool},aK X.K H xs vs G1->aK X.K H ys ws G2->aR vs its->aR ws its'->Cg (D.eqf n) xs ys=some c ->
    its.toArray.size=its'.toArray.size/\∃ ee:Nat->Bool,c=(List.range its.toArray.size).all ee/\∀ j (h1:j<its.toArray.size) (h2:j<its'.toArray.size),EqAt A.in1 s its.toArray[j] its'.toArray[j] (ee j):=by
   intro xs ys vs ws G1 G2 its its' c a1 a2 b1 b2 hc;obtain⟨hl,ee,he,rfl⟩:=jS hc;have l1:=a1.len;have l2:=a2.len;have l3:=b1.length;have l4:=b2.length;have sz:its.toArray.size=xs.length:=by rw[ao];omega
   refine⟨by rw[ao,ao];omega,ee,by rw[sz],fun j h1 h2=>?_⟩;have j1:j<xs.length:=by rw[<-sz];exact h1
   have j2:j<ys.length:=by omega
   obtain⟨v1,g1,e1,p1,_⟩:=a1.get (i:=j) (d:=xs[j]) (by simp[j1]);obtain⟨v2,g2,e2,p2,_⟩:=a2.get (i:=j) (d:=ys[j]) (by simp[j2]);obtain⟨u1,f1,t1⟩:=b1.get e1;obtain⟨u2,f2,t2⟩:=b2.get e2;have x1:its.toArray[j]=u1:=by
    have:=List.getElem?_eq_some_iff.mp f1;simpa using this.2
   have x2:its'.toArray[j]=u2:=by
    have:=List.getElem?_eq_some_iff.mp f2;simpa using this.2
   rw[x1,x2];exact (zB I n A.in1 _ _ _ _ _ _ _ _ _ hu1 p1 p2 t1 t2 (he j _ _ (by simp[j1]) (by simp[j2]))).2
  have lsti:∀{ys:List D}{w:V}{g:List Addr}{u:Value},Rep X.K H (.lst ys) w g->RelV w u->∃ m its vs g',u = .ref m/\s.heap.IsList m its.toArray/\aR vs its/\aK X.K H ys vs g':=fun {ys w g u} r q=>by
   obtain⟨m,ws,g',rfl,rfl,a1,a2⟩:=r.lst_inv;cases q;obtain⟨its,rv,pl,_⟩:=I.list (.inl a1);exact⟨m,its,ws,g',rfl,pl.isList,rv,a2⟩
  have tupi:∀{ys:List D}{w:V}{g:List Addr}{u:Value},Rep X.K H (.tup ys) w g->RelV w u->∃ m its vs,u = .ref m/\s.heap.IsTuple m its.toArray/\aR vs its/\aK X.K H ys vs g:=fun {ys w g u} r q=>by
   obtain⟨m,ws,rfl,a1,a2⟩:=r.tup_inv;cases q;obtain⟨its,rv,pl,_⟩:=I.tuple a1;exact⟨m,its,ws,rfl,pl,rv,a2⟩
  cases d with
  |non =>
   obtain⟨rfl,rfl⟩:=r1.non_inv;cases q1;cases e with
   |non=>obtain⟨rfl,rfl⟩:=r2.non_inv;cases q2;cases h;exact RcNeAt.none_none
   |bl c=>obtain⟨rfl,rfl⟩:=r2.bl_inv;cases q2;cases h;exact RcNeAt.none_bool c
   |int i=>obtain⟨rfl,rfl⟩:=r2.int_inv;obtain⟨t,rfl⟩:=q2;cases h;exact RcNeAt.none_int i t
   |lst ys=>obtain⟨m,its,vs,g',rfl,pl,_,_⟩:=lsti r2 q2;cases h;exact RcNeAt.none_list pl hu0
   |tup ys=>obtain⟨m,its,vs,rfl,pl,_,_⟩:=tupi r2 q2;cases h;exact RcNeAt.none_tuple pl hu0
  |bl a =>
   obtain⟨rfl,rfl⟩:=r1.bl_inv;cases q1;cases e with
   |non=>obtain⟨rfl,rfl⟩:=r2.non_inv;cases q2;cases h;exact RcNeAt.bool_none a
   |bl c=>obtain⟨rfl,rfl⟩:=r2.bl_inv;cases q2;cases h;exact RcNeAt.bool_bool a c
   |int i=>obtain⟨rfl,rfl⟩:=r2.int_inv;obtain⟨t,rfl⟩:=q2;cases h;exact RcNeAt.bool_int a i t
   |lst ys=>obtain⟨m,its,vs,g',rfl,pl,_,_⟩:=lsti r2 q2;cases h;exact RcNeAt.bool_list a pl hu0
   |tup ys=>obtain⟨m,its,vs,rfl,pl,_,_⟩:=tupi r2 q2;cases h;exact RcNeAt.bool_tuple a pl hu0
  |int a =>
   obtain⟨rfl,rfl⟩:=r1.int_inv;obtain⟨t0,rfl⟩:=q1;cases e with
   |non=>obtain⟨rfl,rfl⟩:=r2.non_inv;cases q2;cases h;exact RcNeAt.int_none a t0
   |bl c=>obtain⟨rfl,rfl⟩:=r2.bl_inv;cases q2;cases h;exact RcNeAt.int_bool a t0 c
   |int i=>obtain⟨rfl,rfl⟩:=r2.int_inv;obtain⟨t,rfl⟩:=q2;cases h;exact RcNeAt.int_int a t0 i t
   |lst ys=>obtain⟨m,its,vs,g',rfl,pl,_,_⟩:=lsti r2 q2;cases h;exact RcNeAt.int_list a t0 pl hu0
   |tup ys=>obtain⟨m,its,vs,rfl,pl,_,_⟩:=tupi r2 q2;cases h;exact RcNeAt.int_tuple a t0 pl hu0
  |lst xs =>
   obtain⟨l,its,vs,g1,rfl,pl,rv,a2⟩:=lsti r1 q1;cases e with
   |non=>obtain⟨rfl,rfl⟩:=r2.non_inv;cases q2;cases h;exact RcNeAt.list_none pl hu0
   |bl c=>obtain⟨rfl,rfl⟩:=r2.bl_inv;cases q2;cases h;exact RcNeAt.list_bool c pl hu0
   |int c=>obtain⟨rfl,rfl⟩:=r2.int_inv;obtain⟨t,rfl⟩:=q2;cases h;exact RcNeAt.list_int c t pl hu0
   |lst ys =>
    obtain⟨m,its',ws,g2,rfl,pl',rv',b2⟩:=lsti r2 q2;simp only[D.eqf] at h;by_cases hl:xs.length=ys.length
    ·rw[if_pos hl] at h;obtain⟨hz,ee,rfl,he⟩:=items a2 b2 rv rv' h;exact RcNeAt.lists pl pl' hz hu0 he
    ·rw[if_neg hl] at h;cases h;have hz:(its.toArray.size != its'.toArray.size)=true:=by
      have l1:=a2.len;have l2:=b2.len;have l3:=rv.length;have l4:=rv'.length;simp only[bne_iff_ne,ne_eq,List.size_toArray];omega
     exact RcNeAt.lists_lengths pl pl' hz hu0
   |tup ys=>obtain⟨m,its',ws,rfl,pl',_,_⟩:=tupi r2 q2;cases h;exact RcNeAt.list_tuple pl pl' hu0
  |tup xs =>
   obtain⟨l,its,vs,rfl,pl,rv,a2⟩:=tupi r1 q1;cases e with
   |non=>obtain⟨rfl,rfl⟩:=r2.non_inv;cases q2;cases h;exact RcNeAt.tuple_none pl hu0
   |bl c=>obtain⟨rfl,rfl⟩:=r2.bl_inv;cases q2;cases h;exact RcNeAt.tuple_bool c pl hu0
   |int c=>obtain⟨rfl,rfl⟩:=r2.int_inv;obtain⟨t,rfl⟩:=q2;cases h;exact RcNeAt.tuple_int c t pl hu0
   |lst ys=>obtain⟨m,its',ws,g2,rfl,pl',_,_⟩:=lsti r2 q2;cases h;exact RcNeAt.tuple_list pl pl' hu0
   |tup ys =>
    obtain⟨m,its',ws,rfl,pl',rv',b2⟩:=tupi r2 q2;simp only[D.eqf] at h;by_cases hl:xs.length=ys.length
    ·rw[if_pos hl] at h;obtain⟨hz,ee,rfl,he⟩:=items a2 b2 rv rv' h;have q:=RcNeAt.tuples (e:=ee) pl pl' hu0 he;rw[<-hz,Nat.min_self,beq_self_eq_true,Bool.and_true] at q;exact q
    ·rw[if_neg hl] at h;cases h
end
section
variable {X:Cx}
theorem oB {K:Frag}{H:Hp}{d:D}{v:V}{G:List Addr}(h:Rep K H d v G)(s:d.jT=true):jP v=true:=by
 cases h<;>simp_all [D.jT,jP]
theorem mK {K:Frag}{H:Hp}:∀{ds:List D}{vs:List V}{G:List Addr},aK K H ds vs G->ds.all D.jT=true->vs.all jP=true
 |_,_,_,.nil,_=>rfl
 | _,_,_,.cons h r,s=>by
  simp only[List.all_cons,Bool.and_eq_true] at s ⊢;exact⟨oB h s.1,mK r s.2⟩
theorem C1 {K:Frag}{H:Hp}{d e:D}{v w:V}{G G':List Addr}(h:Rep K H d v G)(h':Rep K H e w G')(s:d.jT=true)(s':e.jT=true):BE v w=D.eqs d e:=by
 cases h<;>cases h'<;>simp_all [D.jT,BE,D.eqs]
theorem vA {K:Frag}{H:Hp}{x:D}{w:V}{G0:List Addr}(hx:Rep K H x w G0)(sx:x.jT=true):∀{ds:List D}{vs:List V}{G:List Addr},aK K H ds vs G->ds.all D.jT=true->inV w vs=ds.any fun y=>D.eqs y x
 |_,_,_,.nil,_=>rfl
 | _,_,_,.cons h r,s=>by
  simp only[List.all_cons,Bool.and_eq_true] at s;have ih:=vA hx sx r s.2;unfold inV at ih ⊢;rw[iu,iu,ih,C1 h hx s.1 sx]
theorem qk {K:Frag}{H:Hp}:∀ ks:List Int,aK K H (ks.map D.int) (ks.map V.int) []
 |[]=>.nil
 |k::ks=>.cons (G:=[]) (G':=[]) (.int k) (qk ks)
theorem zS {f:Int->Int->Bool}{x y:D}{b:Bool}(h:m6 f x y=some b):∃ i j,x = .int i/\y = .int j/\f i j=b:=by
 cases x with
 |int i=>cases y with
  |int j=>exact⟨i,j,rfl,rfl,dh h⟩
  |_=>cases h
 |_=>cases h
theorem xu (op:CmpOp)(hx:X.A.units+40<cLine/\yR X.w X.K):kD X (compareOp op) (Dn X.K fun x y=>(ni op x y).map .bl):=by
 have hu:=hx.1;intro pins s σ H x y v u Q I rx ry h;obtain⟨d1,d2,d,G,rs,hd,k⟩:=h;obtain⟨G1,G2,r1,r2,rfl⟩:=rs.inv2;rw[ag] at hd;obtain⟨b,hb,rfl⟩:=hd;have fin:Q (.bl b) H:=k _ H [] (.bl b) m8.nil;have ep:∀ c,c=b->EP X pins σ Q (.bool c) s:=fun c e=>⟨.bl b,H,I,by rw[e];rfl,fin⟩
 have onInts:∀{f:Int->Int->Bool},m6 f d1 d2=some b->kD X (compareOp op) (yU fun i j=>.bl (f i j))->wpAny (model X.prog X.w) X.A (compareOp op v u) (EP X pins σ Q) X.xe s:=by
  intro f h1 ho;obtain⟨i,j,rfl,rfl,e⟩:=zS h1;obtain⟨rfl,rfl⟩:=r1.int_inv;obtain⟨rfl,rfl⟩:=r2.int_inv;exact ho pins s σ H _ _ v u Q I rx ry ⟨i,j,rfl,rfl,by show Q (.bl (f i j)) H;rw[e];exact fin⟩
 have isn:decide (x=V.non)=DG d1:=by cases r1<;>rfl
 cases op with
 |Lt=>exact onInts hb IP
 |LtE=>exact onInts hb Ic
 |Gt=>exact onInts hb Hn
 |GtE=>exact onInts hb Ii
 |Eq=>exact (zB I 40 X.A d1 d2 x y G1 G2 v u b hu r1 r2 rx ry hb).1 _ _ _ _ (ep b rfl)
 |NotEq =>
  have hb:(D.eqf 40 d1 d2).map (!·)=some b:=hb;rw[ag] at hb;obtain⟨c,hc,rfl⟩:=hb;exact Hj I 40 X.A d1 d2 x y G1 G2 v u c hu r1 r2 rx ry hc _ _ _ _ (ep _ rfl)
 |Is =>
  have hb:isD d1 d2=some b:=hb;cases d2 with
  |non =>
   cases hb;obtain⟨rfl,rfl⟩:=r2.non_inv;exact FJ pins s σ H _ _ v u Q I rx ry ⟨rfl,by rw[isn];exact fin⟩
  |_=>cases hb
 |IsNot =>
  have hb:(isD d1 d2).map (!·)=some b:=hb;cases d2 with
  |non =>
   cases hb;obtain⟨rfl,rfl⟩:=r2.non_inv;exact C4 pins s σ H _ _ v u Q I rx ry ⟨rfl,by rw[isn];exact fin⟩
  |_=>cases hb
 |In =>
  have hb:inD d1 d2=some b:=hb;cases d2 with
  |lst ys =>
   simp only[inD] at hb;by_cases hc:(d1.jT&&ys.all D.jT)=true
   ·rw[if_pos hc] at hb;cases hb;rw[ai] at hc;obtain⟨p,vs,g,rfl,rfl,a1,a2⟩:=r2.lst_inv;refine x8 pins s σ H _ _ v u Q I rx ry ⟨p,vs,rfl,.inl (.inl a1),oB r1 hc.1,mK a2 hc.2,?_⟩;rw[vA r1 hc.1 a2 hc.2];exact fin
   ·rw[if_neg hc] at hb;cases hb
  |_=>cases hb
 |NotIn =>
  have hb:(inD d1 d2).map (!·)=some b:=hb;rw[ag] at hb;obtain⟨c,hi,rfl⟩:=hb;clear hb;cases d2 with
  |lst ys =>
   simp only[inD] at hi;by_cases hc:(d1.jT&&ys.all D.jT)=true
   ·rw[if_pos hc] at hi;cases hi;rw[ai] at hc;obtain⟨p,vs,g,rfl,rfl,a1,a2⟩:=r2.lst_inv;refine sL pins s σ H _ _ v u Q I rx ry ⟨p,vs,rfl,.inl (.inl a1),oB r1 hc.1,mK a2 hc.2,?_⟩;rw[vA r1 hc.1 a2 hc.2];exact fin
   ·rw[if_neg hc] at hi;cases hi
  |_=>cases hi
theorem EO (n:Nat)(i:Int):Pc.nt n i=L2.nt n i:=rfl
theorem CA (hx:yR X.w X.K):HC X (Ih X.K):=by
 intro value slice pins s σ H x y v u Q I rx ry h hs;obtain⟨d1,d2,d,G,rs,hd,k⟩:=h;obtain⟨G1,G2,r1,r2,rfl⟩:=rs.inv2;cases d2 with
 |int i =>
  obtain⟨rfl,rfl⟩:=r2.int_inv;rw[cg] at k;have seq:∀{xs:List D}{vs:List V}{g:List Addr},aK X.K H xs vs g->((nt xs.length i).bind fun j=>xs[j]?)=some d->∃ w g',G8 vs i=some w/\Rep X.K H d w g'/\g'.Sublist g:=fun {xs vs g} r e=>by
   rw[ah] at e;obtain⟨j,e1,e2⟩:=e;obtain⟨w,g',a,b,c⟩:=r.get e2;refine⟨w,g',?_,b,c⟩;unfold G8;rw[<-r.len,<-EO,e1];exact a
  cases d1 with
  |lst xs =>
   obtain⟨p,vs,g,rfl,rfl,a1,a2⟩:=r1.lst_inv;obtain⟨w,g',e1,e2,e3⟩:=seq a2 hd;exact BN value slice pins s σ H _ _ v u Q I rx ry ⟨p,vs,i,w,rfl,rfl,.inl a1,e1,k w g' e2 (e3.trans (List.sublist_cons_self _ _))⟩ hs
  |tup xs =>
   obtain⟨p,vs,rfl,a1,a2⟩:=r1.tup_inv;obtain⟨w,g',e1,e2,e3⟩:=seq a2 hd;exact GX value slice pins s σ H _ _ v u Q I rx ry ⟨p,vs,i,w,rfl,rfl,a1,e1,k w g' e2 e3⟩ hs
  |_=>cases hd
 |_=>cases d1<;>cases hd
end
section
variable {X:Cx}{T:Tb}{a b c:Expr}{ca cb cc:Ex}{pos:Pos}
theorem Gj {i:Nat}{x:Str}(hN:X.N[i]? = some x)(hv:D2 X.env.scope x)(hd:(x==("__debug__" : Str))=false) (hcd:(x==("__classdict__" : Str))=false):PE X (.Name x pos) (tE X.K T (.var i)):=by
 refine cD (kf hN hv hd hcd) fun σ H Q ⟨P,env,F,re,p,hev,k⟩=>?_
 unfold ev at hev;cases hs:env[i]? with
 |none=>rw[hs] at hev;cases hev
 |some o =>
  cases o with
  |none=>rw[hs] at hev;cases hev
  |some q =>
   obtain⟨d,t⟩:=q;rw[hs] at hev;simp only[Rs.ok.injEq] at hev;subst hev;obtain⟨v,e1,rp⟩:=re.val i d t hs;refine⟨v,e1,k v H (F i) (aN.refl _) rp ?_⟩;cases hf:d.flat with
   |true =>
    rw[rp.flat hf];exact bY.nil
   |false =>
    simp only[Bool.false_eq_true,if_false];have ow:bO t=true->bY env F H (.mv [i]) H (F i):=fun o=>by
     obtain⟨n1,n2,n3⟩:=re.one i d t hs o;refine⟨fun a ha=>.inr ⟨i,d,t,ha,hs,fun q hq=>by cases t<;>simp_all [bN,bO,Rt.roots]⟩,fun R e=>?_⟩;cases e;exact⟨n1,n2,fun a ha=>.inr ⟨i,d,t,by simp,ha,hs,o⟩⟩
    cases t with
    |own=>exact ow rfl
    |lk=>exact ow rfl
    |sh R=>exact⟨fun a ha=>.inr ⟨i,d,.sh R,ha,hs,fun q hq=>hq⟩,fun R' e=>by cases e⟩
theorem mz {e:Expr}{d:D}{v:V}(h:PE X e (tC v))(hr:∀ H,Rep X.K H d v []):PE X e (tE X.K T (.cst d)):=by
 refine cD h fun σ H Q ⟨P,env,F,re,p,hev,k⟩=>?_
 unfold ev at hev;cases hev;exact k v H [] (aN.refl _) (hr H) bY.nil
theorem Ej {e:Expr}{i:Nat}{v:V}(h:PE X e (tC v))(hr:∀ H,Rep X.K H (T.gl i) v []):PE X e (tE X.K T (.glb i)):=by
 refine cD h fun σ H Q ⟨P,env,F,re,p,hev,k⟩=>?_
 unfold ev at hev;cases hev;exact k v H [] (aN.refl _) (hr H) bY.nil
theorem GC (ha:PE X a (tE X.K T ca)):PE X (.UnaryOp .USub a pos) (tE X.K T (.neg ca)):=by
 refine cD (HS F9 ha) fun σ H Q ⟨P,env,F,re,p,hev,k⟩=>?_
 unfold ev at hev;obtain⟨q,h1,hev⟩:=Rs.bind_ok hev;refine⟨P,env,F,re,q,h1,fun v H1 G s rp rt=>?_⟩;cases hq:q.1 with
 |int i =>
  rw[hq] at hev rp;cases hev;obtain⟨rfl,rfl⟩:=rp.int_inv;exact⟨i,rfl,k _ H1 [] s (.int _) bY.nil⟩
 |_=>rw[hq] at hev;cases hev
theorem Ga {op:CmpOp}(hu:X.A.units+40<cLine/\yR X.w X.K)(ha:PE X a (tE X.K T ca))(hb:PE X b (tE X.K T cb))(hm:behindInMarks op b=false):PT X (.Compare a [op] [b] pos) (qJ X.K T (.cmp op ca cb)):=by
 refine uW (Cv (xu op hu) ha hb hm) fun σ H Q ⟨P,env,F,re,p0,bb,hev,ht,k⟩=>?_
 unfold ev at hev;obtain⟨p,h1,hev⟩:=Rs.bind_ok hev;obtain⟨q,h2,hev⟩:=Rs.bind_ok hev;obtain⟨d,h3,hev⟩:=Rs.bind_ok hev;have h3:=dN h3;cases hev;obtain rfl:d=bb:=dh ht;refine two re h1 h2 fun x y H2 G ar=>⟨p.1,q.1,.bl d,G,ar.reps,by simp[h3],fun v H' G' rp nv=>?_⟩
 obtain⟨rfl,_⟩:=rp.bl_inv;exact⟨d,rfl,k H' (ar.same.trans nv.same)⟩
variable {rest:List Expr}
theorem Gp (ha:PE X a (tE X.K T ca))(hb:PE X (.BoolOp .And (b::rest) pos) (tE X.K T cb)):PE X (.BoolOp .And (a::b::rest) pos) (tE X.K T (.and ca cb)):=by
 refine cD (ph ha hb) fun σ H Q ⟨P,env,F,re,p,hev,k⟩=>?_
 unfold ev at hev;obtain⟨q,h1,hev⟩:=Rs.bind_ok hev;refine⟨P,env,F,re,q,h1,fun v H1 G s rp rt=>?_⟩;cases hq:q.1 with
 |bl kb =>
  rw[hq] at hev rp;obtain⟨rfl,rfl⟩:=rp.bl_inv;cases kb with
  |true=>exact⟨true,rfl,by rw[if_pos rfl];exact⟨P,env,F,re.same s,p,hev,fun v H' G s' rp' rt'=>k v H' G (s.trans s') rp' (rt'.back s)⟩⟩
  |false =>
   cases hev;exact⟨false,rfl,by rw[if_neg az];exact k _ H1 [] s (.bl _) bY.nil⟩
 |_=>rw[hq] at hev;cases hev
theorem Ib (ha:PE X a (tE X.K T ca))(hb:PE X (.BoolOp .Or (b::rest) pos) (tE X.K T cb)):PE X (.BoolOp .Or (a::b::rest) pos) (tE X.K T (.or ca cb)):=by
 refine cD (Il ha hb) fun σ H Q ⟨P,env,F,re,p,hev,k⟩=>?_
 unfold ev at hev;obtain⟨q,h1,hev⟩:=Rs.bind_ok hev;refine⟨P,env,F,re,q,h1,fun v H1 G s rp rt=>?_⟩;cases hq:q.1 with
 |bl kb =>
  rw[hq] at hev rp;obtain⟨rfl,rfl⟩:=rp.bl_inv;cases kb with
  |false=>exact⟨false,rfl,by rw[if_neg az];exact⟨P,env,F,re.same s,p,hev,fun v H' G s' rp' rt'=>k v H' G (s.trans s') rp' (rt'.back s)⟩⟩
  |true =>
   cases hev;exact⟨true,rfl,by rw[if_pos rfl];exact k _ H1 [] s (.bl _) bY.nil⟩
 |_=>rw[hq] at hev;cases hev
theorem Fo (ha:PE X a (tE X.K T ca)):PE X (.UnaryOp .Not a pos) (tE X.K T (.not ca)):=by
 refine cD (uY ha) fun σ H Q ⟨P,env,F,re,p,hev,k⟩=>?_
 unfold ev at hev;obtain⟨q,h1,hev⟩:=Rs.bind_ok hev;refine⟨P,env,F,re,q,h1,fun v H1 G s rp rt=>?_⟩;cases hq:q.1 with
 |bl kb =>
  rw[hq] at hev rp;obtain⟨rfl,rfl⟩:=rp.bl_inv;cases hev;exact⟨kb,rfl,k _ H1 [] s (.bl _) bY.nil⟩
 |_=>rw[hq] at hev;cases hev
theorem Es (ha:PT X a (qJ X.K T ca))(hb:PW X (.BoolOp .And (b::rest) pos) (qJ X.K T cb)):PW X (.BoolOp .And (a::b::rest) pos) (qJ X.K T (.and ca cb)):=by
 intro wh pins s σ H Q I h;refine El ha hb wh pins s σ H Q I ?_;obtain⟨P,env,F,re,p,bb,hev,ht,k⟩:=h;unfold ev at hev;obtain⟨q,h1,hev⟩:=Rs.bind_ok hev;cases hq:q.1 with
 |bl kb =>
  rw[hq] at hev;cases kb with
  |true=>exact⟨P,env,F,re,q,true,h1,by rw[hq];rfl,fun H' s=>by show if true=true then _ else _;rw[if_pos rfl];exact⟨P,env,F,re.same s,p,bb,hev,ht,fun H2 s2=>k H2 (s.trans s2)⟩⟩
  |false =>
   cases hev;cases ht;exact⟨P,env,F,re,q,false,h1,by rw[hq];rfl,fun H' s=>by show if false=true then _ else _;rw[if_neg az];exact k H' s⟩
 |_=>rw[hq] at hev;cases hev
theorem Ig (ha:PT X a (qJ X.K T ca))(hb:PW X (.BoolOp .Or (b::rest) pos) (qJ X.K T cb)):PW X (.BoolOp .Or (a::b::rest) pos) (qJ X.K T (.or ca cb)):=by
 intro wh pins s σ H Q I h;refine Hl ha hb wh pins s σ H Q I ?_;obtain⟨P,env,F,re,p,bb,hev,ht,k⟩:=h;unfold ev at hev;obtain⟨q,h1,hev⟩:=Rs.bind_ok hev;cases hq:q.1 with
 |bl kb =>
  rw[hq] at hev;cases kb with
  |false=>exact⟨P,env,F,re,q,false,h1,by rw[hq];rfl,fun H' s=>by show if false=true then _ else _;rw[if_neg az];exact⟨P,env,F,re.same s,p,bb,hev,ht,fun H2 s2=>k H2 (s.trans s2)⟩⟩
  |true =>
   cases hev;cases ht;exact⟨P,env,F,re,q,true,h1,by rw[hq];rfl,fun H' s=>by show if true=true then _ else _;rw[if_pos rfl];exact k H' s⟩
 |_=>rw[hq] at hev;cases hev
theorem EM (ha:PT X a (qJ X.K T ca)):PT X (.UnaryOp .Not a pos) (qJ X.K T (.not ca)):=by
 refine uW (FA ha) fun σ H Q ⟨P,env,F,re,p,bb,hev,ht,k⟩=>?_
 unfold ev at hev;obtain⟨q,h1,hev⟩:=Rs.bind_ok hev;cases hq:q.1 with
 |bl kb =>
  rw[hq] at hev;cases hev;cases ht;exact⟨P,env,F,re,q,kb,h1,by rw[hq];rfl,fun H' s=>k H' s⟩
 |_=>rw[hq] at hev;cases hev
theorem BS {K:Frag}{H:Hp}{d:D}{v:V}{G:List Addr}{b:Bool}(rp:Rep K H d v G)(h:truth d=some b):FX K v H b:=by
 cases rp with
 |non=>cases h;rfl
 |bl c=>cases h;rfl
 |int i=>cases h;rfl
 |lst a r =>
  rename_i vs ds g;cases h;refine .inl ⟨vs,.inl a,?_⟩;have:=r.len;cases ds<;>cases vs<;>simp_all
 |tup a r =>
  rename_i vs ds;cases h;refine .inr (.inl ⟨vs,a.sq,?_⟩);have:=r.len;cases ds<;>cases vs<;>simp_all
theorem dZ {e:Expr}(h:PE X e (tE X.K T ca))(he:∀ whole,isTrue e X.env whole=(do let v <- whole;standAt e.pos;holding [v] (truthy v))):PT X e (qJ X.K T ca):=by
 refine uW (AL h he) fun σ H Q ⟨P,env,F,re,p,bb,hev,ht,k⟩=>?_
 exact⟨P,env,F,re,p,hev,fun v H' G s rp rt=>⟨bb,BS rp ht,k H' s⟩⟩
theorem EZ (hc:PT X c (qJ X.K T cc))(ha:PE X a (tE X.K T ca))(hb:PE X b (tE X.K T cb)):PE X (.IfExp c a b pos) (tE X.K T (.ite cc ca cb)):=by
 refine cD (zR hc ha hb) fun σ H Q ⟨P,env,F,re,p,hev,k⟩=>?_
 unfold ev at hev;obtain⟨q,h1,hev⟩:=Rs.bind_ok hev;obtain⟨kb,h2,hev⟩:=Rs.bind_ok hev;refine⟨P,env,F,re,q,kb,h1,dN h2,fun H' s=>?_⟩;cases kb with
 |true=>rw[if_pos rfl];exact⟨P,env,F,re.same s,p,hev,fun v H2 G s' rp' rt'=>k v H2 G (s.trans s') rp' (rt'.back s)⟩
 |false=>rw[if_neg az];exact⟨P,env,F,re.same s,p,hev,fun v H2 G s' rp' rt'=>k v H2 G (s.trans s') rp' (rt'.back s)⟩
variable {es:List Expr}{cs:nJ}
theorem vt:PA X [] (tD X.K T .nil):=by
 refine Bt fE fun σ H Q ⟨P,env,F,re,l,hev,k⟩=>?_
 unfold bQ at hev;cases hev;exact k [] H [] (.nil (aN.refl _))
theorem nF (ha:PE X a (tE X.K T ca))(hr:PA X es (tD X.K T cs))(hs:starEach (a::es) X.env=(false,eval a X.env)::starEach es X.env):PA X (a::es) (tD X.K T (.cons ca cs)):=by
 refine Bt (aW ha hr hs) fun σ H Q ⟨P,env,F,re,l,hev,k⟩=>?_
 unfold bQ at hev;obtain⟨p,h1,hev⟩:=Rs.bind_ok hev;obtain⟨q,h2,hev⟩:=Rs.bind_ok hev;cases hev;exact⟨P,env,F,re,p,h1,fun v H1 G s rp rt=>⟨P,env,F,re.same s,q,h2,fun vs H2 G' ar=>k (v::vs) H2 _ (.cons s rp rt ar)⟩⟩
theorem bY.addNew {env:En}{F:Nat->List Addr}{H H1:Hp}{r:Rt}{G:List Addr}{p:Addr}{vs:List V}(h:bY env F H r H1 G)(e:aN H H1)(hp:H1 p=none)(hl:∀ a∈G,H1 a≠none):bY env F H r (upd H1 p (.lst vs)) (p::G) where
 cont:=fun a ha=>by
  rcases dw.mp ha with rfl | ha
  ·exact .inl (aN.no e hp)
  ·exact h.cont a ha
 mv:=fun R hr=>by
  obtain⟨a,b,c⟩:=h.mv R hr;refine⟨jk.mpr ⟨fun z=>hl p z hp,a⟩,fun x hx=>?_,fun x hx=>?_⟩
  ·rcases dw.mp hx with rfl | hx
   ·exact⟨.l _,bG⟩
   ·obtain⟨ws,q⟩:=b x hx;exact⟨ws,aN.new hp _ _ q⟩
  ·rcases dw.mp hx with rfl | hx
   ·exact .inl (aN.no e hp)
   ·exact c x hx
theorem Gc (h:PA X es (tD X.K T cs)):PE X (.List es pos) (tE X.K T (.lst cs)):=by
 refine cD (EF h) fun σ H Q ⟨P,env,F,re,p,hev,k⟩=>?_
 unfold ev at hev;obtain⟨l,h1,hev⟩:=Rs.bind_ok hev;by_cases hl:l.length<=lim
 ·rw[if_pos hl] at hev;cases hev;refine⟨P,env,F,re,l,h1,fun vs H1 G ar=>?_⟩;have rs:=ar.reps;have hlen:=rs.len;rw[aj] at hlen;refine⟨by rw[<-hlen];exact oi hl,fun q hq=>?_⟩;have e:=aN.new (o:=.lst vs) hq;exact k _ _ (q::G) (ar.same.trans e) (.lst (.inl bG) (rs.same e)) ((ar.comb re).addNew ar.same hq fun a ha=>rs.nn ha)
 ·rw[if_neg hl] at hev;cases hev
theorem E3 {x1:Nat}(h:PA X es (tD X.K T cs)):PE X (.Tuple es x1 pos) (tE X.K T (.tup cs)):=by
 refine cD (AG h) fun σ H Q ⟨P,env,F,re,p,hev,k⟩=>?_
 unfold ev at hev;obtain⟨l,h1,hev⟩:=Rs.bind_ok hev;by_cases hl:l.length<=lim
 ·rw[if_pos hl] at hev;cases hev;refine⟨P,env,F,re,l,h1,fun vs H1 G ar=>?_⟩;have rs:=ar.reps;have hlen:=rs.len;rw[aj] at hlen;refine⟨by rw[<-hlen];exact oi hl,fun q hq=>?_⟩;have e:=aN.new (o:=.tup vs) hq;exact k _ _ G (ar.same.trans e) (.tup (.inl bG) (rs.same e)) ((ar.comb re).later e)
 ·rw[if_neg hl] at hev;cases hev
def C3 (K:Frag)(n:Nat)(f:List D->Rs (D×Bool)):Sp:=fun vs H Q E=>∃ ds G,ds.length=n/\aK K H ds vs G/\∃ r,f ds = .ok r/\∀ v H' G',aN H H'->Rep K H' r.1 v G'->(∀ a∈G',H a=none\/a∈G)->(r.2=true->G'.Nodup/\∀ a∈G',H a=none/\∃ vs:ML,H' a=some vs.o)->Q v H'
theorem wG {K:Frag}{n:Nat}{f:List D->Rs (D×Bool)}{vs:List V}{H:Hp}{Q:VK}{E:XK}(h:C3 K n f vs H Q E):vs.length=n:=by
 obtain⟨ds,G,h1,h2,_⟩:=h;rw[<-h1,h2.len]
theorem rf {f:Nat}{n:Nat}{σ:L2.St}{H:Hp}{Q:VK}(hn:∀ ds r,T.cl f ds = .ok r->ds.length=n)(h:tE X.K T (.call f cs) σ H Q):Bi (C3 X.K n (T.cl f)) [] E0 (tD X.K T cs) σ H Q:=by
 obtain⟨P,env,F,re,p,hev,k⟩:=h;unfold ev at hev;obtain⟨l,h1,hev⟩:=Rs.bind_ok hev;obtain⟨r,h2,hev⟩:=Rs.bind_ok hev;cases hev;refine⟨P,env,F,re,l,h1,fun vs H1 G ar=>?_⟩;show C3 X.K n (T.cl f) (vs ++ []) H1 Q E0;rw[cg];refine⟨l.map (·.1),G,hn _ _ h2,ar.reps,r,h2,fun v H' G' s rp sub fr=>k v H' G' (ar.same.trans s) rp ?_⟩;cases hr:r.2 with
 |true =>
  obtain⟨a,b⟩:=fr hr;have c:∀ x∈G',H x=none:=fun x hx=>aN.no ar.same (b x hx).1
  exact⟨fun x hx=>.inl (c x hx),fun R e=>⟨a,fun x hx=>(b x hx).2,fun x hx=>.inl (c x hx)⟩⟩
 |false =>
  refine⟨fun x hx=>?_,fun R e=>by cases e⟩;rcases sub x hx with q | q
  ·exact .inl (aN.no ar.same q)
  ·exact ar.cont x q
end
def vJ (K:Frag)(b:Dm):List V->Hp->VK->Prop:=fun xs H Q=>∃ ds d G,aK K H ds xs G/\nj b ds=some d/\∀ v H' G',Rep K H' d v G'->m8 H H' G d G'->Q v H'
section
variable {X:Cx}{T:Tb}
theorem ua {b:Dm}{cs:nJ}{σ:L2.St}{H:Hp}{Q:VK}(h:tE X.K T (.blt b cs) σ H Q):E9 (vJ X.K b) (tD X.K T cs) σ H Q:=by
 obtain⟨P,env,F,re,p,hev,k⟩:=h;unfold ev at hev;obtain⟨l,h1,hev⟩:=Rs.bind_ok hev;obtain⟨d,h2,hev⟩:=Rs.bind_ok hev;cases hev;exact⟨P,env,F,re,l,h1,fun vs H1 G ar=>⟨l.map (·.1),d,G,ar.reps,dN h2,fun v H' G' rp nv=>k v H' G' (ar.same.trans nv.same) rp (bY.new ar nv fun _ z=>z)⟩⟩
theorem aK.of1 {K:Frag}{H:Hp}{d:D}{xs:List V}{G:List Addr}(h:aK K H [d] xs G):∃ x,xs=[x]/\Rep K H d x G:=by
 cases h with
 |cons r s=>cases s;exact⟨_,rfl,by rw[cg];exact r⟩
theorem yB:jK X (.builtin "len") (vJ X.K .len):=by
 intro pins s σ H xs us Q I r h;obtain⟨ds,d,G,rs,hd,k⟩:=h
 match ds,hd with
 |[.lst ys],hd =>
  cases hd;obtain⟨x,rfl,rp⟩:=rs.of1;obtain⟨p,vs,g,rfl,rfl,a1,a2⟩:=rp.lst_inv;exact lI pins s σ H _ us Q I r ⟨p,vs,rfl,.inl (.inl a1),by rw[<-a2.len];exact k _ H [] (.int _) m8.nil⟩
 |[.tup ys],hd =>
  cases hd;obtain⟨x,rfl,rp⟩:=rs.of1;obtain⟨p,vs,rfl,a1,a2⟩:=rp.tup_inv;exact lI pins s σ H _ us Q I r ⟨p,vs,rfl,.inr a1,by rw[<-a2.len];exact k _ H [] (.int _) m8.nil⟩
theorem ui {pins:List (Addr×Obj)}{s:Shared}{σ:L2.St}{H:Hp}{xs:List V}{us:List Value}{Q:VK}(I:Inv X pins σ H s)(r:aR xs us){ds:List D}{d:D}{G:List Addr}(rs:aK X.K H ds xs G)(hd:nj .list ds=some d)(k:∀ v H' G',Rep X.K H' d v G'->m8 H H' G d G'->Q v H'):wpAny (model X.prog X.w) X.A (call (.type "list") us) (EP X pins σ Q) X.xe s:=by
 match ds,hd with
 |[.lst ys],hd =>
  cases hd;obtain⟨x,rfl,rp⟩:=rs.of1;obtain⟨p,vs,g,rfl,rfl,a1,a2⟩:=rp.lst_inv;refine lL pins s σ H _ us Q I r ⟨p,vs,rfl,.inl (.inl a1),fun l hl=>?_⟩;obtain⟨n1,n2⟩:=kd (G0:=p::g) a2 (fun a ha=>aa _ ha) hl;exact k _ _ _ n1 n2
 |[.tup ys],hd =>
  cases hd;obtain⟨x,rfl,rp⟩:=rs.of1;obtain⟨p,vs,rfl,a1,a2⟩:=rp.tup_inv;refine lL pins s σ H _ us Q I r ⟨p,vs,rfl,.inr a1,fun l hl=>?_⟩;obtain⟨n1,n2⟩:=kd (G0:=G) a2 (fun a ha=>ha) hl;exact k _ _ _ n1 n2
end
def mH (K:Frag)(P:Addr->Prop)(H0:Hp)(J:It)(ds:List D)(G:List Addr):Prop:=∀ H,k7 P H0 H->(∀(i:Nat) (d:D),ds[i]? = some d->J.go i H/\∀ x H',J.yld i H x H'->aN H H'/\∃ G',Rep K H' d x G'/\∀ a∈G',a∈G)/\J.stop ds.length H
def tI (K:Frag)(T:Tb)(it:sO):TI:=fun σ H R=>∃ P env F,RE K P env σ H F/\∃ p,fS T it env = .ok p/\∀ J H' G,aN H H'->bY env F H (.sh p.2) H' G->(∀ a∈G,H' a≠none)->(∀ P',(∀ a∈G,P' a)->mH K P' H' J p.1 G)->R J H'
theorem yf {K:Frag}{P:Addr->Prop}{H0:Hp}{p:Addr}{vs:List V}{ds:List D}{G:List Addr}(h1:Rd H0 p (.lst vs))(h2:aK K H0 ds vs G)(hp:∀ a∈p::G,P a):mH K P H0 (Itl K p) ds (p::G):=fun H e=>by
 have ep:=e.keep p (hp p ae);have h1':Rd H p (.lst vs):=by
  rcases h1 with q | ⟨o,q⟩
  ·exact .inl (ep.trans q)
  ·exact .inr ⟨o,ep.trans q⟩
 have h2':=e.reps h2 fun a ha=>hp a (aa _ ha)
 refine⟨fun i d hd=>?_,⟨vs,.inl h1',by rw[h2.len];exact au _⟩⟩;obtain⟨v,G',a,b,c⟩:=h2'.get hd;refine⟨⟨vs,v,.inl h1',a⟩,fun x H' ⟨e1,e2⟩=>?_⟩;subst e1;have:=e2 vs (.inl h1');rw[a] at this;cases this;exact⟨aN.refl _,G',b,fun z hz=>aa _ (c.subset hz)⟩
theorem Bu {K:Frag}{P:Addr->Prop}{H0:Hp}{p:Addr}{vs:List V}{ds:List D}{G:List Addr}(h1:rW K H0 p vs)(h2:aK K H0 ds vs G)(hp:∀ a∈G,P a):mH K P H0 (Itt K p) ds G:=fun H e=>by
 have h1':=e.tqT h1;have h2':=e.reps h2 hp;refine⟨fun i d hd=>?_,⟨vs,h1'.sq,by rw[h2.len];exact au _⟩⟩;obtain⟨v,G',a,b,c⟩:=h2'.get hd;refine⟨⟨vs,v,h1'.sq,a⟩,fun x H' ⟨e1,e2⟩=>?_⟩;subst e1;have:=e2 vs h1'.sq;rw[a] at this;cases this;exact⟨aN.refl _,G',b,fun z hz=>c.subset hz⟩
noncomputable def ItV (xs:List V):It:=⟨fun i _=>i<xs.length,fun i H x H'=>H'=H/\xs[i]? = some x,fun i _=>xs.length<=i⟩
theorem yC {K:Frag}{P:Addr->Prop}{H0:Hp}{vs:List V}{ds:List D}(hr:∀ H,aK K H ds vs []):mH K P H0 (ItV vs) ds []:=fun H e=>by
 have hl:=(hr H).len;refine⟨fun i d hd=>?_,by show vs.length<=ds.length;omega⟩;obtain⟨v,G',a,b,c⟩:=(hr H).get hd;refine⟨by show i<vs.length;rw[<-hl];exact (List.getElem?_eq_some_iff.mp hd).1,fun x H' ⟨e1,e2⟩=>?_⟩;subst e1;rw[a] at e2;cases e2;exact⟨aN.refl _,G',b,fun z hz=>c.subset hz⟩
theorem yL {P:Program}{w:World}{K:Frag}{tg:Expr}{it:Addr}{xs:List V}{Pv:Nat->Value->Prop}{St:Nat->Heap->Prop}(W:∀ A:Around,A.handled=none->Walks P w A it [it] [it] xs.length Pv St)(hP:∀ i v,Pv i v->∃ x,xs[i]? = some x/\RelV x v)
  (ob:∀ i h,St i h->∃ o n vs,h.get? it=some o/\o.cls = .type n/\o.data = .fields vs/\["enumerate","zip","dict_itemiterator","dict_reverseitemiterator","odict_iterator","itertools.zip_longest","itertools.pairwise"].contains n=false)
  (fr:∀ i h h',St i h->(∀ o,h.get? it=some o->h'.get? it=some o)->St i h') (le:∀ i h,St i h->i<=xs.length) (slf:∀(A:Around) (i:Nat) (s:Shared) (Q E:Value->Shared->Prop),St i s.heap->Q (.ref it) s->wpAny (model P w) A (pyIter (.ref it)) Q E s):Turn P w K tg (ItV xs) [it] it St where
 mem:=by simp
 obj:=fun i h st b hb=>by
  have e:b=it:=by simpa using hb
  subst e;obtain⟨o,n,vs,h1,h2,h3,_⟩:=ob i h st;exact⟨o,h1,fun v z=>by rw[h3] at z;cases z⟩
 keep:=fun i h h' st k=>fr i h h' st fun o e=>k it (by simp) o e
 item:=by
  intro X hp hw hK hc i pins s σ H E I hf st hg;subst hp hw hK;obtain⟨f0,f1,f2,f3,f4,f5⟩:=hf it (by simp);refine (W X.A (I.ok.hd hc)).item i s _ _ hg st fun v h' tk hv st' kk=>?_
  obtain⟨x,ex,rx⟩:=hP i v hv;have I1:Inv X pins σ H {s with heap:=h',toks:=tk}:=I.turned (fun b o hb e=>kk b o (by simpa using hb) e) f0 f1 f3 f4 f5;obtain⟨o,n,vs,h1,h2,h3,h4⟩:=ob (i+1) h' st';exact⟨v,rfl,Bp (s:={s with heap:=h',toks:=tk}) (n:=n) h1 h2 h3 h4 ⟨x,H,I1,rx,⟨rfl,ex⟩,st',fun b hb=>(hf b hb).1⟩⟩
 done:=by
  intro X hp hw hK hc i pins s σ H E I hf st hg;subst hp hw hK;obtain⟨f0,f1,f2,f3,f4,f5⟩:=hf it (by simp);have hi:i=xs.length:=Nat.le_antisymm (le i _ st) hg;subst hi;exact (W X.A (I.ok.hd hc)).done s _ _ st fun h' tk kk=>⟨rfl,I.turned (fun b o hb e=>kk b o (by simpa using hb) e) f0 f1 f3 f4 f5⟩
 self:=fun A i s Q E st h=>slf A i s Q E st h
noncomputable def eR (a c:Int)(n:Nat):List V:=(List.range n).map fun (i:Nat)=>.int (a+(i:Int)*c)
theorem kK (a c:Int)(n:Nat):(eR a c n).length=n:=by simp[eR]
theorem ju {K:Frag}{H:Hp}(c:Int):∀(n:Nat) (a:Int),aK K H (bB a c n) (eR a c n) []
 |0,a=>.nil
 | n+1,a=>by
  have e:eR a c (n+1) = .int a::eR (a+c) c n:=by
   unfold eR;rw[List.range_succ_eq_map,ay,bg];congr 1
   ·simp
   ·refine fi fun i _=>?_
    simp only[Function.comp_apply,V.int.injEq,Nat.succ_eq_add_one]
    push_cast
    rw[Int.add_mul];omega
  rw[e];show aK K H (.int a::bB (a+c) c n) _ ([] ++ []);exact .cons (.int a) (ju c n (a+c))
theorem lV (a b c:Int)(hc:c≠0):0<=Builtin.Range.rangeSize a b c:=by
 unfold Builtin.Range.rangeSize;split
 ·rename_i h;split
  ·have:0<=(b - a - 1) / c:=Int.ediv_nonneg (by omega) (by omega);omega
  ·omega
 ·split
  ·have:0<=(a - b - 1) / (-c):=Int.ediv_nonneg (by omega) (by omega);omega
  ·omega
theorem sX {a b c:Int}(ha:gM a=true)(hb:gM b=true)(hc:c≠0)(hs:c.natAbs<1073741824):Builtin.Range.small a b c=true:=by
 unfold gM at ha hb;have ha:=dz ha;have hb:=dz hb;have hn:=lV a b c hc;have hu:Builtin.Range.rangeSize a b c<2 ^ 63:=by
  unfold Builtin.Range.rangeSize;split
  ·split
   ·have:=Int.ediv_le_self (b:=c) (a:=b - a - 1) (by omega);omega
   ·decide
  ·split
   ·have:=Int.ediv_le_self (b:=-c) (a:=a - b - 1) (by omega);omega
   ·decide
 unfold Builtin.Range.small;simp only[Builtin.Range.rangeFitsLong,Bool.and_eq_true,Bool.or_eq_true,decide_eq_true_eq,beq_iff_eq];refine⟨⟨⟨⟨⟨by omega,by omega⟩,by omega,by omega⟩,by omega,by omega⟩,by omega,hu⟩,.inr ?_⟩;split<;>simp only[Bool.and_eq_true,decide_eq_true_eq]<;>omega
section
variable {X:Cx}{tg:Expr}
theorem mE {pins:List (Addr×Obj)}{σ:L2.St}{H:Hp}{s:Shared}{R:It->Hp->Prop}{E:Value->Shared->Prop}{lo hi c:Int}{t u v:Tok}{tk:Nat}(I:Inv X pins σ H s)(h1:gM lo=true)(h2:gM hi=true)(h3:c≠0)(h4:c.natAbs<1073741824)
  (q:R (ItV (eR lo c (Builtin.Range.rangeSize lo hi c).toNat)) H):wpAny (model X.prog X.w) X.A (pyIter (.ref s.heap.objs.size)) (PIE X pins σ tg R) E {s with heap:=s.heap.push {cls:=.type "range",data:=.fields #[.int lo t,.int hi u,.int c v]},toks:=tk}:=by
 refine wpAny_pyIter_range (IsRange.new ..) (sX h1 h2 h3 h4) ?_;have I1:Inv X pins σ H {s with heap:=s.heap.push {cls:=.type "range",data:=.fields #[.int lo t,.int hi u,.int c v]},toks:=tk}:=I.kept fun b o e=>Heap.get?_push_of_some _ e
 have hn:=lV lo hi c h3;let n:=(Builtin.Range.rangeSize lo hi c).toNat;refine⟨(s.heap.push {cls:=.type "range",data:=.fields #[.int lo t,.int hi u,.int c v]}).objs.size,[(s.heap.push {cls:=.type "range",data:=.fields #[.int lo t,.int hi u,.int c v]}).objs.size],
  (fun i h=>i<=n/\IsRangeIter h (s.heap.push {cls:=.type "range",data:=.fields #[.int lo t,.int hi u,.int c v]}).objs.size (lo+(i:Nat)*c) ((n:Int) - (i:Nat)) c),_,H,rfl,
  I1.kept (t':=tk) fun b o e=>Heap.get?_push_of_some _ e,yL (Pv:=fun i v=>i<n/\∃ t,v = .int (lo+i*c) t) (fun A hA=>?_) (fun i v hv=>?_) (fun i h st=>?_) (fun i h h' st k=>⟨st.1,k _ st.2⟩) (fun i h st=>by rw[kK];exact st.1) (fun A i s Q E st h=>wpAny_pyIter_rangeiter st.2 h),?_,fun b hb=>?_,q⟩
 ·rw[kK];have W:=Walks.range (prog:=X.prog) (w:=X.w) hA (s.heap.push {cls:=.type "range",data:=.fields #[.int lo t,.int hi u,.int c v]}).objs.size lo c n;exact⟨W.sub,fun i h h' st k=>⟨st.1,W.frame i h h' st.2 k⟩,fun i s Q E hi st hQ=>W.item i s Q E hi st.2 fun v h' tk hv st' kk=>hQ v h' tk ⟨hi,hv⟩ ⟨hi,st'⟩ kk,fun s Q E st hQ=>W.done s Q E st.2 hQ,fun i s Q E st h=>W.self i s Q E st.2 h⟩
 ·obtain⟨hi',t',rfl⟩:=hv;exact⟨.int (lo+i*c),by unfold eR;rw[List.getElem?_map,List.getElem?_range hi'];rfl,t',rfl⟩
 ·exact⟨_,_,_,st.2,rfl,rfl,by decide⟩
 ·refine⟨dq _,?_⟩;have e1:lo+((0:Nat):Int)*c=lo:=by simp
  have e2:((n:Nat):Int) - ((0:Nat):Int)=Builtin.Range.rangeSize lo hi c:=by omega
  rw[e1,e2];exact Heap.get?_push_size _ rfl
 ·have e:b=(s.heap.push {cls:=.type "range",data:=.fields #[.int lo t,.int hi u,.int c v]}).objs.size:=by simpa using hb
  subst e;exact I1.fpOk (au _) (I1.hok.fresh (au _))
end
section
variable {X:Cx}{tg:Expr}{T:Tb}{pins:List (Addr×Obj)}{σ:L2.St}{H:Hp}{s:Shared}{R:It->Hp->Prop}{E:Value->Shared->Prop}
theorem CY {a:Addr}{xs:List V}(I:Inv X pins σ H s)(hq:mo X.K H a xs)(q:R (Itl X.K a) H):wpAny (model X.prog X.w) X.A (pyIter (.ref a)) (PIE X pins σ tg R) E s:=by
 obtain⟨its,rv,p,hz⟩:=I.list hq;refine wpAny_pyIter_list p.isList ?_;refine⟨s.heap.objs.size,[s.heap.objs.size],_,_,H,rfl,I.kept (t':=s.toks) fun b o e=>Heap.get?_push_of_some _ e,yj a _,⟨_,Heap.get?_push_size _ rfl,rfl,rfl⟩,fun b hb=>?_,q⟩;have e:b=s.heap.objs.size:=by simpa using hb
 subst e;exact I.fpOk (au _) (I.hok.fresh (au _))
theorem A2 {a:Addr}{xs:List V}(I:Inv X pins σ H s)(hq:sQ X.K H a xs)(q:R (Itt X.K a) H):wpAny (model X.prog X.w) X.A (pyIter (.ref a)) (PIE X pins σ tg R) E s:=by
 obtain⟨its,rv,p,hz⟩:=I.tuple hq;refine wpAny_pyIter_tuple (show s.heap.IsTuple a its.toArray from p) ?_;refine⟨s.heap.objs.size,[s.heap.objs.size],_,_,H,rfl,I.kept (t':=s.toks) fun b o e=>Heap.get?_push_of_some _ e,vF a _,⟨_,Heap.get?_push_size _ rfl,rfl,rfl⟩,fun b hb=>?_,q⟩;have e:b=s.heap.objs.size:=by simpa using hb
 subst e;exact I.fpOk (au _) (I.hok.fresh (au _))
theorem zV {e:Expr}{c:Ex}(h:PE X e (tE X.K T c)):PI X tg e (tI X.K T (.seq c)):=by
 intro pins s σ H R I hq;obtain⟨P,env,F,re,p,hev,k⟩:=hq;unfold fS at hev;obtain⟨q,h1,hev⟩:=Rs.bind_ok hev;obtain⟨l,h2,hev⟩:=Rs.bind_ok hev;have h2:=dN h2;cases hev;refine dB (h pins s σ H (fun v H'=>∃ G,aN H H'/\Rep X.K H' q.1 v G/\bY env F H q.2 H' G) I ⟨P,env,F,re,q,h1,fun v H' G s rp rt=>⟨G,s,rp,rt⟩⟩) fun u s1 ⟨v,H1,I1,r1,G,e,rp,rt⟩=>?_
 have rt':bY env F H (.sh q.2.roots) H1 G:=rt.part (fun _ h=>h) (fun _ h=>h) fun R e=>by cases e
 cases hd:q.1 with
 |lst xs =>
  rw[hd] at rp h2;cases h2;obtain⟨a,vs,g,rfl,rfl,a1,a2⟩:=rp.lst_inv;cases r1;exact CY I1 (.inl a1) (k _ H1 (a::g) e rt' (fun b hb=>rp.nn hb) fun P' hP=>yf a1 a2 hP)
 |tup xs =>
  rw[hd] at rp h2;cases h2;obtain⟨a,vs,rfl,a1,a2⟩:=rp.tup_invT;cases r1;exact A2 I1 a1.sq (k _ H1 G e rt' (fun b hb=>rp.nn hb) fun P' hP=>Bu a1 a2 hP)
 |_=>rw[hd] at h2;cases h2
theorem mR (a b:Int):(Builtin.Range.rangeSize a b 1).toNat=(b - a).toNat:=by
 rw[rangeSize_one];split<;>omega
theorem Ez {es:List Expr}{cs:nJ}{it:sO}{p pos:Pos}{e0:Expr}{rest:List Expr}(hes:es=e0::rest)(hg:Gl X "range") (hm:X.mg "range" = none) (ha:PA X es (tD X.K T cs)) (hs:starEach es X.env=(false,eval e0 X.env)::starEach rest X.env) (hpl:(backTo pos (starEach rest X.env)).any (·.1)=false)
  (hit:∀ env p,fS T it env = .ok p->p.2=[]/\∃ l,bQ T cs env = .ok l/\((∃ j,l.map (·.1)=[.int j]/\gM j=true/\p.1=bB 0 1 j.toNat)\/(∃ i j,l.map (·.1)=[.int i,.int j]/\gM i=true/\gM j=true/\p.1=bB i 1 (j - i).toNat) \/
   ∃ i j k,l.map (·.1)=[.int i,.int j,.int k]/\gM i=true/\gM j=true/\k≠0/\k.natAbs<1073741824/\p.1=bB i k (Builtin.Range.rangeSize i j k).toNat)) :
  PI X tg (.Call (.Name "range" p) es [] pos) (tI X.K T it):=by
 subst hes;intro pins s σ H R I hq;obtain⟨P,env,F,re,q,hev,k⟩:=hq;obtain⟨hq2,l,hl,hc⟩:=hit env q hev;refine Call_ (j7 I hg hm boot_range (dr (dB (ha pos pins s σ H (fun vs H'=>∃ G,Args X.K env F H H' l vs G) I ⟨P,env,F,re,l,hl,fun vs H' G ar=>⟨G,ar⟩⟩) fun us s1 ⟨vs,H1,I1,r1,G,ar⟩=>?_) hs hpl));have rs:=ar.reps;have fin:∀(a c:Int) (n:Nat),q.1=bB a c n->R (ItV (eR a c n)) H1:=fun a c n e=>by
  refine k _ H1 [] ar.same bY.nil (fun _ h=>(nomatch h)) fun P' _=>?_
  rw[e];exact yC fun H=>ju c n a
 have one:∀{d:D}{ds:List D}{vs:List V}{us:List Value}{G:List Addr},aK X.K H1 (d::ds) vs G->aR vs us->∀ i,d = .int i->∃ t us' vs' G',us = .int i t::us'/\vs = .int i::vs'/\aK X.K H1 ds vs' G'/\aR vs' us':=by
  intro d ds vs us G r rv i e;subst e;cases r with
  |cons r rr =>
   obtain⟨rfl,rfl⟩:=r.int_inv;cases rv with
   |cons x y =>
    obtain⟨t,rfl⟩:=x;exact⟨t,_,_,_,rfl,rfl,rr,y⟩
 have nil:∀{vs:List V}{us:List Value}{G:List Addr},aK X.K H1 [] vs G->aR vs us->us=[]:=by
  intro vs us G r rv;cases r;cases rv;rfl
 rcases hc with ⟨j,e1,e2,e3⟩ | ⟨i,j,e1,e2,e3,e4⟩ | ⟨i,j,c,e1,e2,e3,e4,e5,e6⟩
 ·rw[e1] at rs;obtain⟨t,us',vs',G',rfl,_,rs,r1⟩:=one rs r1 j rfl;obtain rfl:=nil rs r1;refine call_range_1 (mE (c:=1) I1 (by decide) e2 (by decide) (by decide) ?_);refine fin _ _ _ ?_;rw[e3,mR];simp
 ·rw[e1] at rs;obtain⟨t,us',vs',G',rfl,_,rs,r1⟩:=one rs r1 i rfl;obtain⟨t',us'',vs'',G'',rfl,_,rs,r1⟩:=one rs r1 j rfl;obtain rfl:=nil rs r1;refine call_range_2 (mE (c:=1) I1 e2 e3 (by decide) (by decide) ?_);refine fin _ _ _ ?_;rw[e4,mR]
 ·rw[e1] at rs;obtain⟨t,us',vs',G',rfl,_,rs,r1⟩:=one rs r1 i rfl;obtain⟨t',us'',vs'',G'',rfl,_,rs,r1⟩:=one rs r1 j rfl;obtain⟨t3,us3,vs3,G3,rfl,_,rs,r1⟩:=one rs r1 c rfl;obtain rfl:=nil rs r1;refine call_range_3 e4 (mE (c:=c) I1 e2 e3 e4 e5 ?_) (.inl (PyProof.noPylong_small e5));exact fin _ _ _ e6
end
theorem AJ {h:Heap}{o o':Obj}{b:Addr}(e:(h.push o).get? b=some o'):(b=h.objs.size/\o'=o)\/h.get? b=some o':=by
 obtain⟨e1,e2⟩:=Heap.get?_some_iff.mp e;by_cases hb:b=h.objs.size
 ·left;subst hb;refine⟨rfl,?_⟩;have:(h.push o).objs[h.objs.size]? = some o:=by cases h;simp[Heap.push]
  rw[this] at e1;exact (dh e1).symm
 ·right;refine Heap.get?_some_iff.mpr ⟨?_,e2⟩;cases h;simpa[Heap.push,Array.getElem?_push,hb] using e1
theorem j8 {h:Heap}{a b:Addr}{o o':Obj}(e:h.get? a=some o)(e':h.get? b=some o')(n:o.cls≠o'.cls):a≠b:=by
 rintro rfl;rw[e] at e';cases e';exact n rfl
theorem iJ (b i j:Nat)(h:i≠j):(b+i:Nat)≠b+j:=by omega
theorem jz (b n i:Nat)(h:b+4<n)(hi:i<=4):b+i<n:=by omega
theorem Gh (n b:Nat)(h:b=n+1\/b=n):n<=b:=by omega
theorem B2 (n b:Nat)(h:b=n+4\/b=n+2\/b=n+3\/b=n\/b=n+1):n<=b:=by omega
section
variable {X:Cx}{pins:List (Addr×Obj)}{σ:L2.St}{H:Hp}{s:Shared}
theorem mj {h':Heap}{t':Nat}{ch:List Addr}(I:Inv X pins σ H s)(k:∀ b o,b∉ch->s.heap.get? b=some o->h'.get? b=some o)(hf:∀ b∈ch,kE X pins H b):Inv X pins σ H {s with heap:=h',toks:=t'}:=by
 have nit:∀ b u,H b=some u->b∉ch:=fun b u e z=>by
  have:=(hf b z).1;rw[this] at e;cases e
 refine I.step (g':=s.gens) (d':=s.drawn) (ch:=ch) (fun b hb=>?_) (fun b o _ _ hc e _=>k b o hc e) (fun b o _ _ hc e _=>⟨o.slots,k b o hc e⟩) (fun _ _ _ _ n=>n)
  (fun b o hc e=>⟨o,k b o hc e⟩) (fun _ _ e=>e) (fun _ _ _ e=>e) (fun b ps e=>⟨#[],by rw[e];simp⟩) (fun m hm=>?_) (fun b u e=>?_) I.bare
 ·obtain⟨f0,f1,f2,f3,f4,f5⟩:=hf b hb;exact⟨f3,f1,f4,f5⟩
 ·obtain⟨o,es,ep,ho,r⟩:=hm;exact⟨o,es,ep,k _ o (fun z=>(hf _ z).2.1 rfl) ho,r⟩
 ·refine (I.hok b u e).stay (fun c v hc q=>k c v ?_ q) (fun _ q=>q) fun _ _ q=>q
  rcases hc with z | z
  ·rw[z];exact nit b u e
  ·exact nit c _ z
theorem paired {h':Heap}{t':Nat}{ch:List Addr}{x y:V}{u v:Value}(I:Inv X pins σ H s)(hu:RelV x u)(hv:RelV y v)(hT:h'.get? s.heap.objs.size=some {cls:=.type "tuple",data:=.seq #[u,v]})
  (k:∀ b o,b∉ch->s.heap.get? b=some o->h'.get? b=some o) (hf:∀ b∈ch,kE X pins H b) (hl:∀ b∈ch,b<s.heap.objs.size):Inv X pins σ (upd H s.heap.objs.size (.tup [x,y])) {s with heap:=h',toks:=t'}:=by
 have I1:Inv X pins σ (upd H s.heap.objs.size (.tup [x,y])) {s with heap:=s.heap.push {cls:=.type "tuple",data:=.seq #[u,v]},toks:=t'} :=
  I.laid (fun _ _ q=>Heap.get?_push_of_some _ q) (au _) ⟨by show 2<=sizeLine;decide,[u,v],.cons hu (.cons hv .nil),⟨_,Heap.get?_push_size _ rfl,rfl,_,rfl⟩⟩
 refine mj (s:={s with heap:=s.heap.push {cls:=.type "tuple",data:=.seq #[u,v]},toks:=t'}) (ch:=ch) I1 (fun b o hb q=>?_) fun b hb=>?_
 ·rcases AJ q with ⟨rfl,rfl⟩ | q
  ·exact hT
  ·exact k b o hb q
 ·obtain⟨f0,f⟩:=hf b hb;exact⟨by rw[aP (bu (hl b hb))];exact f0,f⟩
end
noncomputable def Ite (K:Frag)(l:Addr):It:=⟨fun i H=>∃ xs x,mo K H l xs/\xs[i]? = some x,fun i H v H'=>∃ T x,v = .ref T/\H T=none/\(∀ xs,mo K H l xs->xs[i]? = some x)/\H'=upd H T (.tup [.int i,x]),fun i H=>∃ xs,mo K H l xs/\xs.length<=i⟩
theorem yz {P:Program}{w:World}{K:Frag}{elts:List Expr}{x1:Nat}{pos:Pos}(l e it:Addr)(hne:e≠it):Turn P w K (.Tuple elts x1 pos) (Ite K l) [e,it] e (fun i h=>(∃ old,IsEnum h e it (i:Nat) old)/\h.IsListIter it l i) where
 mem:=by simp
 obj:=fun i h st b hb=>by
  obtain⟨⟨old,he⟩,hit⟩:=st;have hb:b=e\/b=it:=by simpa using hb
  rcases hb with rfl | rfl
  ·exact⟨_,he,fun v z=>by cases z⟩
  ·obtain⟨o,e,c,d⟩:=hit;exact⟨o,e,fun v z=>by rw[d] at z;cases z⟩
 keep:=fun i h h' st k=>⟨let ⟨old,he⟩:=st.1;⟨old,k e (by simp) _ he⟩,st.2.at fun o z=>k it (by simp) o z⟩
 item:=by
  intro X hP hw hK hc i pins s σ H E I hf st hg;subst hP hw hK;obtain⟨xs,x,hq,hx⟩:=hg;obtain⟨its,rv,p,hz⟩:=I.list hq;obtain⟨u,hu,ru⟩:=rv.get hx;obtain⟨⟨old,he⟩,hit⟩:=st;have lts:∀ b∈[e,it],b<s.heap.objs.size:=fun b hb=>by
   have hb:b=e\/b=it:=by simpa using hb
   rcases hb with rfl | rfl
   ·exact Heap.lt_size he
   ·obtain⟨o,e,_⟩:=hit;exact Heap.lt_size e
  refine wpAny_pyNext_enum_item he hit p.isList (x:=u) (by simpa using hu) hne fun h' ho hit' hT hsz hk=>?_
  have I2:Inv X pins σ (upd H s.heap.objs.size (.tup [.int i,x])) {s with heap:=h',toks:=s.toks+1} :=
   paired (ch:=[e,it]) I ⟨s.toks,rfl⟩ ru hT (fun b o hb q=>hk b o (fun z=>hb (by simp[z])) (fun z=>hb (by simp[z])) q) hf lts
  have f2:∀ b∈[e,it],kE X pins (upd H s.heap.objs.size (.tup [.int i,x])) b:=fun b hb=>by
   obtain⟨f0,f⟩:=hf b hb;exact⟨by rw[aP (bu (lts b hb))];exact f0,f⟩
  refine⟨_,rfl,wpAny_letOwnedTupleGo_enum (s:={s with heap:=h',toks:=s.toks+1}) ho fun h2 he2 hs2=>?_⟩;refine⟨.ref s.heap.objs.size,_,mj (ch:=[e]) I2 (fun b o hb q=>hs2.extBut b o (fun z=>hb (by simp[z])) q) (fun b hb=>f2 b (by simp at hb;simp[hb])),rfl,⟨_,x,rfl,I.fresh,fun ys hy=>by rw[I.list_inj hy hq];exact hx,rfl⟩,⟨⟨_,by simpa using he2⟩,hit'.at fun o z=>hs2.extBut it o (Ne.symm hne) z⟩,fun b hb=>(f2 b hb).1⟩
 done:=by
  intro X hP hw hK hc i pins s σ H E I hf st hg;subst hP hw hK;obtain⟨xs,hq,hx⟩:=hg;obtain⟨its,rv,p,hz⟩:=I.list hq;obtain⟨⟨old,he⟩,hit⟩:=st;have hl:=rv.length;exact wpAny_pyNext_enum_end (I.ok.hd hc) he hit p.isList (by simp;omega) fun h' eb=>⟨rfl,mj (t':=s.toks) (ch:=[it]) I (fun b o hb q=>eb b o (fun z=>hb (by simp[z])) q) fun b hb=>hf b (by simp at hb;simp[hb])⟩
 self:=fun A i s Q E st h=>by
  obtain⟨⟨old,he⟩,_⟩:=st;exact wpAny_pyIter_enum he h
theorem yq {K:Frag}{P:Addr->Prop}{H0:Hp}{p:Addr}{vs:List V}{ds:List D}{G:List Addr}(h1:Rd H0 p (.lst vs))(h2:aK K H0 ds vs G)(hp:∀ a∈p::G,P a):mH K P H0 (Ite K p) (ds.zipIdx.map fun q=>.tup [.int q.2,q.1]) (p::G):=fun H e=>by
 have ep:=e.keep p (hp p ae);have h1':Rd H p (.lst vs):=by
  rcases h1 with q | ⟨o,q⟩
  ·exact .inl (ep.trans q)
  ·exact .inr ⟨o,ep.trans q⟩
 have h2':=e.reps h2 fun a ha=>hp a (aa _ ha)
 refine⟨fun i d hd=>?_,⟨vs,.inl h1',by rw[aj,List.length_zipIdx,h2.len];exact au _⟩⟩;have hd:∃ d',ds[i]? = some d'/\d = .tup [.int i,d']:=by
  rw[List.getElem?_map,List.getElem?_zipIdx] at hd;cases q:ds[i]? with
  |none=>rw[q] at hd;cases hd
  |some d'=>rw[q] at hd;simp at hd;exact⟨d',rfl,hd.symm⟩
 obtain⟨d',hd',rfl⟩:=hd;obtain⟨v,G',a,b,c⟩:=h2'.get hd';refine⟨⟨vs,v,.inl h1',a⟩,fun x H' ⟨T,x',e1,e2,e3,e4⟩=>?_⟩;subst e1 e4;have:=e3 vs (.inl h1');rw[a] at this;cases this;have sm:aN H (upd H T (.tup [.int i,v])):=aN.new e2;refine⟨sm,G',.tup (.inl bG) ?_,fun z hz=>aa _ (c.subset hz)⟩;have r:=aK.cons (Rep.int (K:=K) (H:=upd H T (.tup [.int i,v])) (i:Int)) (aK.cons (b.same sm) .nil);rw[cg,List.nil_append] at r;exact r
noncomputable def Itz (K:Frag)(l m:Addr):It:=⟨fun i H=>∃ xs ys x y,mo K H l xs/\mo K H m ys/\xs[i]? = some x/\ys[i]? = some y,
 fun i H v H'=>∃ T x y,v = .ref T/\H T=none/\(∀ xs,mo K H l xs->xs[i]? = some x)/\(∀ ys,mo K H m ys->ys[i]? = some y)/\H'=upd H T (.tup [x,y]),fun i H=>∃ xs ys,mo K H l xs/\mo K H m ys/\(xs.length<=i\/ys.length<=i)⟩
theorem qM {h:Heap}{b l m:Addr}{i j:Nat}{xs ys:Array Value}{u v:Value}(hz:IsZip h (b+4) (b+2) (b+3) .none)(hTO:IsPair h (b+3) u v)(h1:h.IsListIter b l i)(h2:h.IsListIter (b+1) m j)
  (p:h.IsList l xs) (q:h.IsList m ys):ZipApart (b+4) (b+2) (b+3) b (b+1) l m:=by
 obtain⟨o1,e1,c1,_⟩:=h1;obtain⟨o2,e2,c2,_⟩:=h2;obtain⟨o3,e3,c3,_⟩:=p;obtain⟨o4,e4,c4,_⟩:=q;refine⟨iJ b 2 4 (by decide),iJ b 3 4 (by decide),iJ b 0 4 (by decide),iJ b 1 4 (by decide),iJ b 2 3 (by decide),iJ b 2 0 (by decide),iJ b 2 1 (by decide),iJ b 3 0 (by decide),iJ b 3 1 (by decide),iJ b 0 1 (by decide),?_,?_,?_,?_,?_,?_,?_,?_⟩
 ·exact j8 e3 hz (by rw[c3];simp)
 ·exact j8 e3 hTO (by rw[c3];simp)
 ·exact j8 e3 e1 (by rw[c3,c1];simp)
 ·exact j8 e3 e2 (by rw[c3,c2];simp)
 ·exact j8 e4 hz (by rw[c4];simp)
 ·exact j8 e4 hTO (by rw[c4];simp)
 ·exact j8 e4 e1 (by rw[c4,c1];simp)
 ·exact j8 e4 e2 (by rw[c4,c2];simp)
theorem AM {P:Program}{w:World}{K:Frag}{elts:List Expr}{x1:Nat}{pos:Pos}(l m b:Addr):Turn P w K (.Tuple elts x1 pos) (Itz K l m) [b+4,b+2,b+3,b,b+1] (b+4)
  (fun i h=>IsZip h (b+4) (b+2) (b+3) .none/\IsPair h (b+2) (.ref b) (.ref (b+1))/\(∃ u v,IsPair h (b+3) u v)/\h.IsListIter b l i/\h.IsListIter (b+1) m i) where
 mem:=by simp
 obj:=fun i h st c hc=>by
  obtain⟨hz,hTI,⟨u,v,hTO⟩,h1,h2⟩:=st;simp only[List.mem_cons,List.not_mem_nil,or_false] at hc;rcases hc with rfl | rfl | rfl | rfl | rfl
  ·exact⟨_,hz,fun v z=>by cases z⟩
  ·exact⟨_,hTI,fun v z=>by cases z⟩
  ·exact⟨_,hTO,fun v z=>by cases z⟩
  ·obtain⟨o,e,c,d⟩:=h1;exact⟨o,e,fun v z=>by rw[d] at z;cases z⟩
  ·obtain⟨o,e,c,d⟩:=h2;exact⟨o,e,fun v z=>by rw[d] at z;cases z⟩
 keep:=fun i h h' st k=>by
  obtain⟨hz,hTI,⟨u,v,hTO⟩,h1,h2⟩:=st;exact⟨k _ (by simp) _ hz,k _ (by simp) _ hTI,⟨u,v,k _ (by simp) _ hTO⟩,h1.at fun o z=>k _ (by simp) o z,h2.at fun o z=>k _ (by simp) o z⟩
 item:=by
  intro X hP hw hK hc i pins s σ H E I hf st hg;subst hP hw hK;obtain⟨xs,ys,x,y,hq,hq',hx,hy⟩:=hg;obtain⟨its,rv,p,_⟩:=I.list hq;obtain⟨its',rv',p',_⟩:=I.list hq';obtain⟨u,hu,ru⟩:=rv.get hx;obtain⟨v,hv,rv2⟩:=rv'.get hy;obtain⟨hz,hTI,⟨u0,v0,hTO⟩,h1,h2⟩:=st;have A:=qM hz hTO h1 h2 p.isList p'.isList;have lts:∀ c∈[b+4,b+3,b,b+1],c<s.heap.objs.size:=fun c hc=>by
   have:=Heap.lt_size hz;simp only[List.mem_cons,List.not_mem_nil,or_false] at hc;rcases hc with rfl | rfl | rfl | rfl
   ·exact jz _ _ 4 this (by decide)
   ·exact jz _ _ 3 this (by decide)
   ·exact jz _ _ 0 this (by decide)
   ·exact jz _ _ 1 this (by decide)
  have hf':∀ c∈[b+4,b+3,b,b+1],kE X pins H c:=fun c hc=>hf c (by
   simp only[List.mem_cons,List.not_mem_nil,or_false] at hc ⊢;rcases hc with rfl | rfl | rfl | rfl<;>simp)
  refine wpAny_pyNext_zip_item A hz hTI hTO h1 h2 p.isList p'.isList (x:=u) (y:=v) (by simpa using hu) (by simpa using hv) fun h' a1 a2 a3 a4 a5 a6 hk=>?_
  have I2:Inv X pins σ (upd H s.heap.objs.size (.tup [x,y])) {s with heap:=h'} :=
   paired (t':=s.toks) (ch:=[b+4,b+3,b,b+1]) I ru rv2 a5 (fun c o hc q=>hk c o (fun z=>hc (by simp[z])) (fun z=>hc (by simp[z])) (fun z=>hc (by simp[z])) (fun z=>hc (by simp[z])) q) hf' lts
  have f2:∀ c∈[b+4,b+2,b+3,b,b+1],kE X pins (upd H s.heap.objs.size (.tup [x,y])) c:=fun c hc=>by
   obtain⟨f0,f⟩:=hf c hc;have:=Heap.lt_size hz;have hlt:c<s.heap.objs.size:=by
    simp only[List.mem_cons,List.not_mem_nil,or_false] at hc;rcases hc with rfl | rfl | rfl | rfl | rfl
    ·exact jz _ _ 4 this (by decide)
    ·exact jz _ _ 2 this (by decide)
    ·exact jz _ _ 3 this (by decide)
    ·exact jz _ _ 0 this (by decide)
    ·exact jz _ _ 1 this (by decide)
   exact⟨by rw[aP (bu hlt)];exact f0,f⟩
  refine⟨_,rfl,wpAny_letOwnedTupleGo_zip (s:={s with heap:=h'}) a1 fun h3 hz3 hs3=>?_⟩;refine⟨.ref s.heap.objs.size,_,mj (t':=s.toks) (ch:=[b+4]) I2 (fun c o hc q=>hs3.extBut c o (fun z=>hc (by simp[z])) q) (fun c hc=>f2 c (by simp at hc;simp[hc])),rfl,
   ⟨_,x,y,rfl,I.fresh,fun zs hz=>by rw[I.list_inj hz hq];exact hx,fun zs hz=>by rw[I.list_inj hz hq'];exact hy,rfl⟩,
   ⟨hz3,hs3.extBut _ _ A.TIz (hk _ _ A.TIz A.TITO A.TIi1 A.TIi2 hTI),⟨_,_,hs3.extBut _ _ A.TOz a2⟩,a3.at fun o z=>hs3.extBut _ o A.i1z z,a4.at fun o z=>hs3.extBut _ o A.i2z z⟩,fun c hc=>(f2 c hc).1⟩
 done:=by
  intro X hP hw hK hc i pins s σ H E I hf st hg;subst hP hw hK;obtain⟨xs,ys,hq,hq',hx⟩:=hg;obtain⟨its,rv,p,_⟩:=I.list hq;obtain⟨its',rv',p',_⟩:=I.list hq';have hl:=rv.length;have hl':=rv'.length;obtain⟨hz,hTI,⟨u0,v0,hTO⟩,h1,h2⟩:=st;have A:=qM hz hTO h1 h2 p.isList p'.isList;refine wpAny_pyNext_zip_end (I.ok.hd hc) A hz hTI hTO h1 h2 p.isList p'.isList ?_ fun h' hk=>⟨rfl,mj (t':=s.toks) (ch:=[b+4,b+3,b,b+1]) I (fun c o hc q=>hk c o (fun z=>hc (by simp[z])) (fun z=>hc (by simp[z])) (fun z=>hc (by simp[z])) (fun z=>hc (by simp[z])) q) fun c hc=>hf c ?_⟩
  ·rcases hx with hx | hx
   ·left;simp;omega
   ·right;simp;omega
  ·simp only[List.mem_cons,List.not_mem_nil,or_false] at hc ⊢;rcases hc with rfl | rfl | rfl | rfl<;>simp
 self:=fun A i s Q E st h=>wpAny_pyIter_zip st.1 h
theorem zw {K:Frag}{P:Addr->Prop}{H0:Hp}{p q:Addr}{vs us:List V}{ds es:List D}{G G':List Addr}(h1:Rd H0 p (.lst vs))(h2:aK K H0 ds vs G)(h3:Rd H0 q (.lst us))(h4:aK K H0 es us G')(hp:∀ a∈(p::G)++(q::G'),P a) :
  mH K P H0 (Itz K p q) ((ds.zip es).map fun z=>.tup [z.1,z.2]) ((p::G)++(q::G')):=fun H e=>by
 have ep:=e.keep p (hp p (by simp));have eq:=e.keep q (hp q (by simp));have h1':Rd H p (.lst vs):=by
  rcases h1 with q | ⟨o,q⟩
  ·exact .inl (ep.trans q)
  ·exact .inr ⟨o,ep.trans q⟩
 have h3':Rd H q (.lst us):=by
  rcases h3 with q | ⟨o,q⟩
  ·exact .inl (eq.trans q)
  ·exact .inr ⟨o,eq.trans q⟩
 have h2':=e.reps h2 fun a ha=>hp a (by simp[ha])
 have h4':=e.reps h4 fun a ha=>hp a (by simp[ha])
 refine⟨fun i d hd=>?_,⟨vs,us,.inl h1',.inl h3',?_⟩⟩
 ·have hd:∃ d1 d2,ds[i]? = some d1/\es[i]? = some d2/\d = .tup [d1,d2]:=by
   rw[List.getElem?_map] at hd;rw[ag] at hd;obtain⟨⟨d1,d2⟩,hd,rfl⟩:=hd;rw[List.getElem?_zip_eq_some] at hd;exact⟨d1,d2,hd.1,hd.2,rfl⟩
  obtain⟨d1,d2,hd1,hd2,rfl⟩:=hd;obtain⟨v1,g1,a1,b1,c1⟩:=h2'.get hd1;obtain⟨v2,g2,a2,b2,c2⟩:=h4'.get hd2;refine⟨⟨vs,us,v1,v2,.inl h1',.inl h3',a1,a2⟩,fun x H' ⟨T,x',y',e1,e2,e3,e4,e5⟩=>?_⟩;subst e1 e5;have t1:=e3 vs (.inl h1');rw[a1] at t1;cases t1;have t2:=e4 us (.inl h3');rw[a2] at t2;cases t2;have sm:aN H (upd H T (.tup [v1,v2])):=aN.new e2;refine⟨sm,g1++(g2 ++ []),.tup (.inl bG) (.cons (b1.same sm) (.cons (b2.same sm) .nil)),fun z hz=>?_⟩;simp only[List.append_nil,List.mem_append] at hz;rcases hz with hz | hz
  ·exact aw _ (aa _ (c1.subset hz))
  ·exact ak _ (aa _ (c2.subset hz))
 ·rw[aj,List.length_zip,h2.len,h4.len];omega
section
variable {X:Cx}{T:Tb}
theorem qj {env:En}{F:Nat->List Addr}{H H':Hp}{l:List (D×Rt)}{vs:List V}{G:List Addr}{R:List Nat}(ar:Args X.K env F H H' l vs G)(h:∀ q,q∈bX (l.map (·.2))->q∈R):bY env F H (.sh R) H' G where
 cont:=fun a ha=>(ar.cont a ha).imp id fun ⟨i,d,t,x,y,z⟩=>⟨i,d,t,x,y,fun q hq=>h q (z q hq)⟩
 mv:=fun R e=>by cases e
theorem mI {d:D}{l:List D}(h:qK d=some l):d = .lst l:=by
 cases d<;>simp[qK] at h
 rw[h]
theorem Dv {e:Expr}{c:Ex}{elts:List Expr}{x1:Nat}{p tp pos:Pos}(hg:Gl X "enumerate") (hm:X.mg "enumerate" = none) (ha:PA X [e] (tD X.K T (.cons c .nil))) (hs:starEach [e] X.env=(false,eval e X.env)::starEach [] X.env):PI X (.Tuple elts x1 tp) (.Call (.Name "enumerate" p) [e] [] pos) (tI X.K T (.enum c)):=by
 intro pins s σ H R I hq;obtain⟨P,env,F,re,q,hev,k⟩:=hq;unfold fS at hev;obtain⟨r,h1,hev⟩:=Rs.bind_ok hev;obtain⟨l,h2,hev⟩:=Rs.bind_ok hev;have h2:=mI (dN h2);cases hev;have hl:bQ T (.cons c .nil) env = .ok [r]:=by unfold bQ;rw[h1];unfold bQ;rfl
 refine Call_ (j7 I hg hm boot_enumerate (dr (dB (ha pos pins s σ H (fun vs H'=>∃ G,Args X.K env F H H' [r] vs G) I ⟨P,env,F,re,[r],hl,fun vs H' G ar=>⟨G,ar⟩⟩) fun us s1 ⟨vs,H1,I1,r1,G,ar⟩=>?_) hs rfl));have rs:aK X.K H1 [r.1] vs G:=ar.reps;obtain⟨x,rfl,rp⟩:=rs.of1;rw[h2] at rp;obtain⟨a,vs,g,rfl,rfl,a1,a2⟩:=rp.lst_inv;obtain⟨u,rfl,ru⟩:=r1.one;cases ru;obtain⟨its,rv,pl,hz⟩:=I1.list (.inl a1);refine call_enumerate_list pl.isList fun h' he hit hsz hk=>wpAny_pyIter_enum he ⟨_,[s1.heap.objs.size+1,s1.heap.objs.size],_,_,H1,rfl,I1.kept (t':=s1.toks) hk,yz a _ _ (Nat.succ_ne_self _),⟨⟨_,he⟩,hit⟩,fun b hb=>?_,k _ H1 (a::g) ar.same (qj ar fun q hq=>by simpa[bX] using hq) (fun b hb=>rp.nn hb) fun P' hP=>yq a1 a2 hP⟩
 simp only[List.mem_cons,List.not_mem_nil,or_false] at hb;have hb:s1.heap.objs.size<=b:=Gh _ _ hb;exact I1.fpOk hb (I1.hok.fresh hb)
theorem EG {e f:Expr}{c d:Ex}{elts:List Expr}{x1:Nat}{p tp pos:Pos}(hg:Gl X "zip") (hm:X.mg "zip" = none) (ha:PA X [e,f] (tD X.K T (.cons c (.cons d .nil)))) (hs:starEach [e,f] X.env=(false,eval e X.env)::starEach [f] X.env) (hpl:(backTo pos (starEach [f] X.env)).any (·.1)=false):PI X (.Tuple elts x1 tp) (.Call (.Name "zip" p) [e,f] [] pos) (tI X.K T (.zip c d)):=by
 intro pins s σ H R I hq;obtain⟨P,env,F,re,q,hev,k⟩:=hq;unfold fS at hev;obtain⟨r,h1,hev⟩:=Rs.bind_ok hev;obtain⟨t,h2,hev⟩:=Rs.bind_ok hev;obtain⟨l,h3,hev⟩:=Rs.bind_ok hev;obtain⟨m,h4,hev⟩:=Rs.bind_ok hev;have h3:=mI (dN h3);have h4:=mI (dN h4);cases hev;have hl:bQ T (.cons c (.cons d .nil)) env = .ok [r,t]:=by unfold bQ;rw[h1];unfold bQ;rw[h2];unfold bQ;rfl
 refine Call_ (j7 I hg hm boot_zip (dr (dB (ha pos pins s σ H (fun vs H'=>∃ G,Args X.K env F H H' [r,t] vs G) I ⟨P,env,F,re,[r,t],hl,fun vs H' G ar=>⟨G,ar⟩⟩) fun us s1 ⟨vs,H1,I1,r1,G,ar⟩=>?_) hs hpl));have rs:aK X.K H1 [r.1,t.1] vs G:=ar.reps;rw[h3,h4] at rs;cases rs with
 |cons rp rs =>
  obtain⟨x',rfl,rp'⟩:=rs.of1;obtain⟨a,vs,g,rfl,rfl,a1,a2⟩:=rp.lst_inv;obtain⟨a',vs',g',rfl,rfl,a1',a2'⟩:=rp'.lst_inv;obtain⟨u,v,rfl,ru,rv⟩:=r1.two;cases ru;cases rv;obtain⟨its,_,pl,_⟩:=I1.list (.inl a1);obtain⟨its',_,pl',_⟩:=I1.list (.inl a1');refine call_zip_2 pl.isList pl'.isList fun h' q1 q2 q3 q4 q5 q6 hk=>wpAny_pyIter_zip q1 ⟨_,_,_,_,H1,rfl,I1.kept (t':=s1.toks) hk,AM a a' s1.heap.objs.size,⟨q1,q2,⟨_,_,q3⟩,q4,q5⟩,fun b hb=>?_,
   k _ H1 _ ar.same (qj ar fun q hq=>by simpa[bX] using hq) (fun b hb=>?_) fun P' hP=>zw a1 a2 a1' a2' hP⟩
  ·simp only[List.mem_cons,List.not_mem_nil,or_false] at hb;have hb:s1.heap.objs.size<=b:=B2 _ _ hb;exact I1.fpOk hb (I1.hok.fresh hb)
  ·rcases List.mem_append.mp hb with hb | hb
   ·exact rp.nn hb
   ·exact rp'.nn hb
end
def tS (K:Frag)(T:Tb)(c:St):TS:=fun D σ H=>∃ P Z env F,RE K P env σ H F/\(∀ i,∀ a∈F i,Z a)/\(∀ a,¬ P a->Z a)/\post K P Z env F H D (bI T c env)
def BY (K:Frag)(T:Tb)(c:bJ):TS:=fun D σ H=>∃ P Z env F,RE K P env σ H F/\(∀ i,∀ a∈F i,Z a)/\(∀ a,¬ P a->Z a)/\post K P Z env F H D (aC T c env)
section
variable {K:Frag}{P Z:Addr->Prop}{env:En}{σ:L2.St}{H:Hp}{F:Nat->List Addr}{D:Ends}
theorem cX {α:Type}{x:Rs α}{k:α->Fl}(h:post K P Z env F H D (eZ env x k)):∃ a,x = .ok a/\post K P Z env F H D (k a):=by
 cases x with
 |ok a=>exact⟨a,rfl,h⟩
 |exc e=>exact h.elim
 |bad=>exact h.elim
theorem After.same {H':Hp}(re:RE K P env σ H F)(hz:∀ i,∀ a∈F i,Z a)(e:aN H H'):After K P Z env F H env σ H' F:=⟨re.same e,hz,k7.of_same re.pl e,vn.refl _ _⟩
theorem GA {H':Hp}{r:Rt}{G:List Addr}(re:RE K P env σ H F)(hz:∀ i,∀ a∈F i,Z a)(zp:∀ a,¬ P a->Z a)(rt:bY env F H r H' G):∀ a∈G,Z a:=fun a ha=>by
 rcases rt.cont a ha with q | ⟨j,_,_,f,_⟩
 ·exact zp a fun z=>re.pl a z q
 ·exact hz j a f
end
section
variable {X:Cx}{T:Tb}{pos:Pos}{e:Expr}{c:Ex}
theorem xt:j6 X [] (BY X.K T .nil):=by
 refine nG r8 fun D σ H ⟨P,Z,env,F,re,hz,zp,h⟩=>?_
 unfold aC at h;exact h σ H F (After.same re hz (aN.refl _))
theorem tZ {st:Stmt}{rest:List Stmt}{cs:St}{cr:bJ}(h1:PS X st (tS X.K T cs))(h2:j6 X rest (BY X.K T cr)):j6 X (st::rest) (BY X.K T (.cons cs cr)):=by
 refine nG (gL h1 h2) fun D σ H ⟨P,Z,env,F,re,hz,zp,h⟩=>⟨P,Z,env,F,re,hz,zp,?_⟩
 unfold aC at h;cases hs:bI T cs env with
 |nx env' =>
  rw[hs] at h;exact fun σ' H' F' af=>⟨P,Z,env',F',af.re,af.z,zp,post.trans af h⟩
 |bk env'=>rw[hs] at h;exact h
 |ct env'=>rw[hs] at h;exact h
 |rt d fr=>rw[hs] at h;exact h
 |xc e env'=>rw[hs] at h;exact h
 |bad=>rw[hs] at h;exact h
theorem B3:PS X (.Pass pos) (tS X.K T .pass):=by
 refine cN Dg fun D σ H ⟨P,Z,env,F,re,hz,zp,h⟩=>?_
 unfold bI at h;exact h σ H F (After.same re hz (aN.refl _))
theorem Gd {x:Str}{j:Nat}{pos':Pos}:PS X (.Expr (.Constant (.str x) j pos) pos') (tS X.K T .pass):=by
 refine cN Ff fun D σ H ⟨P,Z,env,F,re,hz,zp,h⟩=>?_
 unfold bI at h;exact h σ H F (After.same re hz (aN.refl _))
theorem EX:PS X (.Break pos) (tS X.K T .brk):=by
 refine cN AK fun D σ H ⟨P,Z,env,F,re,hz,zp,h⟩=>?_
 unfold bI at h;exact h σ H F (After.same re hz (aN.refl _))
theorem Ef:PS X (.Continue pos) (tS X.K T .cnt):=by
 refine cN t9 fun D σ H ⟨P,Z,env,F,re,hz,zp,h⟩=>?_
 unfold bI at h;exact h σ H F (After.same re hz (aN.refl _))
theorem BI:PS X (.Return none pos) (tS X.K T .retN):=by
 refine cN CK fun D σ H ⟨P,Z,env,F,re,hz,zp,h⟩=>?_
 unfold bI at h;exact h .non H [] .non (k7.refl _) (fun _ h=>(nomatch h)) fun _=>⟨bq,fun _ h=>(nomatch h)⟩
theorem FT (he:PE X e (tE X.K T c)):PS X (.Return (some e) pos) (tS X.K T (.ret c)):=by
 refine cN (rO he) fun D σ H ⟨P,Z,env,F,re,hz,zp,h⟩=>?_
 unfold bI at h;obtain⟨p,hp,h⟩:=cX h;refine⟨P,env,F,re,p,hp,fun v H' G s rp rt=>h v H' G rp (k7.of_same re.pl s) (GA re hz zp rt) fun fr=>?_⟩;cases hr:p.2 with
 |sh R=>rw[hr] at fr;cases fr
 |mv R =>
  rw[hr] at fr;obtain⟨a,b,d⟩:=rt.mv R hr;refine⟨a,fun x hx=>⟨fun z=>?_,b x hx⟩⟩;rcases d x hx with q | ⟨i,d2,t2,hi,f,e2,o2⟩
  ·exact re.pl x z q
  ·have:=bw.mp fr i hi;split at this
   ·rename_i d' q;exact re.wr i d' q x f z
   ·cases this
theorem BM (he:PE X e (tE X.K T c))(hs:swapsWith e none pos.line X.env=pure false):PS X (.Expr e pos) (tS X.K T (.expr c)):=by
 refine cN (wt he hs) fun D σ H ⟨P,Z,env,F,re,hz,zp,h⟩=>?_
 unfold bI at h;obtain⟨p,hp,h⟩:=cX h;exact⟨P,env,F,re,p,hp,fun v H' G s rp rt=>h σ H' F (After.same re hz s)⟩
theorem FN {a b:List Stmt}{ca cb:bJ}(hc:PT X e (qJ X.K T c))(ha:j6 X a (BY X.K T ca))(hb:j6 X b (BY X.K T cb)):PS X (.If e a b pos) (tS X.K T (.ite c ca cb)):=by
 refine cN (Ax hc ha hb) fun D σ H ⟨P,Z,env,F,re,hz,zp,h⟩=>?_
 unfold bI at h;obtain⟨p,hp,h⟩:=cX h;cases ht:truth p.1 with
 |none=>rw[ht] at h;exact h.elim
 |some k =>
  rw[ht] at h;refine⟨P,env,F,re,p,k,hp,ht,fun H' s=>?_⟩;have af:=After.same (Z:=Z) re hz s;cases k with
  |true=>show if true=true then _ else _;rw[if_pos rfl];exact⟨P,Z,env,F,af.re,hz,zp,post.trans af h⟩
  |false=>show if false=true then _ else _;rw[if_neg az];exact⟨P,Z,env,F,af.re,hz,zp,post.trans af h⟩
theorem Ag {i:Nat}{x:Str}{pos':Pos}{mv:Bool}(hN:X.N.Nodup)(hi:X.N[i]? = some x)(hx:Loc X.env.scope x)(he:PE X e (tE X.K T c))(hs:swapsWith e (some (.Name x pos')) pos.line X.env=pure false)(hf:X.fn x=true\/X.env.scope.names.lookup x=some .local) :
  PS X (.Assign [.Name x pos'] e pos) (tS X.K T (.asg (.nm i) c mv)):=by
 refine cN (jo hN hi hx he hs hf) fun D σ H ⟨P,Z,env,F,re,hz,zp,h⟩=>?_
 unfold bI at h;obtain⟨p,hp,h⟩:=cX h;exact⟨P,env,F,re,p,hp,fun v H' G s rp rt=>rT re hz zp s rp rt h⟩
noncomputable def jE:List Nat->Eb
 |[]=>IF
 |i::is=>D1 (jI i) (jE is)
theorem kR:∀{is:List Nat}{vs:List V}{σ:L2.St}{H:Hp}{Q:L2.St->Hp->Prop},is.length=vs.length->Q (setM is vs σ) H->jE is vs σ H Q
 |[],[],_,_,_,_,q=>⟨rfl,q⟩
 |i::is,v::vs,σ,H,Q,hl,q=>⟨v,vs,rfl,kR (is:=is) (vs:=vs) (by simpa using hl) q⟩
 |[],_::_,_,_,_,hl,_=>by simp at hl
 |_::_,[],_,_,_,hl,_=>by simp at hl
theorem Cy {tg:Expr}{is:List Nat}{mv:Bool}(hg:PG X tg (zD X.K is.length (jE is)))(he:PE X e (tE X.K T c))(hs:swapsWithSole [tg] e pos.line X.env=pure false)(hw:swappedStores [tg] e X.env=pure none)(h1:(assignEach [tg] X.env).map (·.2)=[assign tg X.env]) :
  PS X (.Assign [tg] e pos) (tS X.K T (.asg (.tp is) c mv)):=by
 refine cN (zd he hg hs hw h1) fun D σ H ⟨P,Z,env,F,re,hz,zp,h⟩=>?_
 unfold bI at h;obtain⟨p,hp,h⟩:=cX h;refine⟨P,env,F,re,p,hp,fun v H' G s rp rt=>?_⟩;have re':=re.same s;have ez:=GA re hz zp rt;have pK:=k7.of_same (P:=P) re.pl s;unfold jM at h;cases hd:p.1 with
 |tup ds =>
  rw[hd] at h rp;obtain⟨a,vs,rfl,a1,a2⟩:=rp.tup_inv;have fin:∀{o:Option En},post X.K P Z env F H D (CF o)->(∀ env',o=some env'->∃ F',RE X.K P env' (setM is vs σ) H' F'/\(∀ i,∀ a∈F' i,Z a)/\vn env F env' F'/\is.length=vs.length)->zD X.K is.length (jE is) (.ref a) σ H' D.nx:=fun {o} h q=>by
   cases o with
   |none=>exact h.elim
   |some env' =>
    obtain⟨F',b1,b2,b3,b4⟩:=q env' rfl;exact⟨a,vs,rfl,a1,b4.symm,kR b4 (h _ H' F' ⟨b1,b2,pK,b3⟩)⟩
  have shared:post X.K P Z env F H D (if is.all (fun i=>!p.2.roots.contains i) then CF (bindM (fun d=>cI d p.2.roots) is ds env) else .bad)->zD X.K is.length (jE is) (.ref a) σ H' D.nx:=fun h=>by
   by_cases hc:is.all (fun i=>!p.2.roots.contains i)=true
   ·rw[if_pos hc] at h;refine fin h fun env' he'=>oZ re' hz a2 ez (fun x hx j d' t' ej o m=>?_) he'
    rcases rt.cont x hx with q | ⟨k,d2,t2,f,e2,sr⟩
    ·exact absurd q (re.nn ej m)
    ·exact sr j ((re.one j d' t' ej o).2.2 x m k d2 t2 e2 f)
   ·rw[if_neg hc] at h;exact h.elim
  cases hr:p.2 with
  |sh R=>rw[hr] at h shared;exact shared h
  |mv R =>
   cases R with
   |cons r0 R0=>rw[hr] at h shared;exact shared h
   |nil =>
    rw[hr] at h;obtain⟨m1,m2,m3⟩:=rt.mv [] hr;have fresh:∀ a∈G,H a=none:=fun a ha=>by
     rcases m3 a ha with q | ⟨_,_,_,q,_⟩
     ·exact q
     ·cases q
    exact fin h fun env' he'=>qS re' hz a2 m1 m2 (fun x hx z=>re.pl x z (fresh x hx)) ez (fun x hx j m=>by
     obtain⟨d2,t2,e2⟩:=re.at' m;exact re.nn e2 m (fresh x hx)) he'
 |_=>rw[hd] at h;exact h.elim
theorem Fi {b:List Stmt}{cb:bJ}(hp:PassesOwn (model X.prog X.w) X.A X.env X.xe)(hc:PT X e (qJ X.K T c))(hb:j6 X b (BY X.K T cb)):PS X (.While e b [] pos) (tS X.K T (.whl c cb)):=by
 refine cN (Ae hp hc hb) fun D σ H ⟨P,Z,env,F,re,hz,zp,h⟩=>?_
 unfold bI at h;refine⟨fun m σ' H'=>∃ env' F',After X.K P Z env F H env' σ' H' F'/\post X.K P Z env' F' H' D (jL (fun env=>(ev T c env).bind fun p=>iG (truth p.1)) (aC T cb) m env'),⟨T.fuel,env,F,After.same re hz (aN.refl _),h⟩,fun m σ1 H1 ⟨env1,F1,af,h1⟩=>?_⟩;cases m with
 |zero=>exact h1.elim
 |succ m =>
  unfold jL at h1;obtain⟨k,hk,h1⟩:=cX h1;obtain⟨p,hp1,hk⟩:=Rs.bind_ok hk;refine⟨P,env1,F1,af.re,p,k,hp1,dN hk,fun H2 s2=>?_⟩;have af2:=After.same (Z:=Z) af.re af.z s2;cases k with
  |false =>
   show if false=true then _ else _
   rw[if_neg az];simp only[Bool.false_eq_true,if_false] at h1;exact h1 σ1 H2 F1 af2
  |true =>
   show if true=true then _ else _
   rw[if_pos rfl];simp only[if_true] at h1;refine⟨fun σ' H'=>∃ env' F',After X.K P Z env F H env' σ' H' F'/\post X.K P Z env' F' H' D (jL (fun env=>(ev T c env).bind fun p=>iG (truth p.1)) (aC T cb) m env'),fun σ' H' q=>⟨m,Nat.lt_succ_self _,q⟩,P,Z,env1,F1,af2.re,af.z,zp,?_⟩;have h1:=post.trans af2 h1;cases hs:aC T cb env1 with
   |nx e'=>rw[hs] at h1;exact fun σ' H' F' af3=>⟨e',F',af.trans (af2.trans af3),post.trans af3 h1⟩
   |ct e'=>rw[hs] at h1;exact fun σ' H' F' af3=>⟨e',F',af.trans (af2.trans af3),post.trans af3 h1⟩
   |bk e'=>rw[hs] at h1;exact h1
   |rt d fr=>rw[hs] at h1;exact h1
   |xc x e'=>rw[hs] at h1;exact h1
   |bad=>rw[hs] at h1;exact h1
def pR (K:Frag):pE->TG
 |.nm i=>jI i
 |.tp is=>zD K is.length (jE is)
theorem uK {K:Frag}{P Z:Addr->Prop}{env env':En}{σ:L2.St}{H:Hp}{F:Nat->List Addr}{t:pE}{d:Pc.D}{v:V}{G:List Addr}{R:List Nat}{Q:L2.St->Hp->Prop}(re:RE K P env σ H F)(hz:∀ i,∀ a∈F i,Z a)(rp:Rep K H d v G)(gz:∀ a∈G,Z a)
  (hs:∀ a∈G,∀(j:Nat) (d':Pc.D) (t':Tg),env[j]? = some (some (d',t'))->bO t'=true->a∈F j->j∈R) (hb:aX R t d env=some env') (hQ:∀ σ' F',RE K P env' σ' H F'->(∀ i,∀ a∈F' i,Z a)->vn env F env' F'->Q σ' H):pR K t v σ H Q:=by
 cases t with
 |nm i =>
  simp only[aX] at hb;by_cases hi:i<env.length
  ·rw[if_pos hi] at hb;cases hb;exact hQ _ _ (xn re hi rp hs) (qu hz gz) (nU hi tL)
  ·rw[if_neg hi] at hb;cases hb
 |tp is =>
  cases d with
  |tup ds =>
   simp only[aX] at hb;obtain⟨a,vs,rfl,a1,a2⟩:=rp.tup_inv;obtain⟨F',b1,b2,b3,b4⟩:=oZ re hz a2 gz hs hb;exact⟨a,vs,rfl,a1,b4.symm,kR b4 (hQ _ F' b1 b2 b3)⟩
  |_=>cases hb
theorem lj {t:pE}{R:List Nat}{b:En->Fl}:∀(ds:List Pc.D) (env:En),(∀ e,bC t R b ds env≠.bk e)/\∀ e,bC t R b ds env≠.ct e
 |[],env=>⟨fun e z=>(by cases z),fun e z=>(by cases z)⟩
 | d::ds,env=>by
  unfold bC;cases aX R t d env with
  |none=>exact⟨fun e z=>(by cases z),fun e z=>(by cases z)⟩
  |some env' =>
   simp only;cases b env' with
   |nx e'=>exact lj ds e'
   |ct e'=>exact lj ds e'
   |bk e'=>exact⟨fun e z=>(by cases z),fun e z=>(by cases z)⟩
   |rt d fr=>exact⟨fun e z=>(by cases z),fun e z=>(by cases z)⟩
   |xc x e'=>exact⟨fun e z=>(by cases z),fun e z=>(by cases z)⟩
   |bad=>exact⟨fun e z=>(by cases z),fun e z=>(by cases z)⟩
theorem Eg {tg iter:Expr}{t:pE}{it:sO}{b:List Stmt}{cb:bJ}(hp:PassesOwn (model X.prog X.w) X.A X.env X.xe)(hc:X.calm=true)(hi:PI X tg iter (tI X.K T it))(hg:PG X tg (pR X.K t))(hb:j6 X b (BY X.K T cb))(hs:∀ x,foldedSetIterable iter X.env x=pure x) :
  PS X (.For tg iter b [] pos) (tS X.K T (.forr t it cb)):=by
 refine cN (FH hp hc hi hg hb hs) fun D σ H ⟨P,Z,env,F,re,hz,zp,h⟩=>?_
 unfold bI at h;obtain⟨p,hp,h⟩:=cX h;refine⟨P,env,F,re,p,hp,fun J H1 G s1 rt nn wk=>?_⟩;have af1:=After.same (Z:=Z) re hz s1;have h:=post.trans af1 h;let P':Addr->Prop:=fun a=>P a\/a∈G
 have wk:=wk P' fun a ha=>.inr ha
 have seen:∀ a∈G,∀(i:Nat) (d:Pc.D) (t:Tg),env[i]? = some (some (d,t))->bO t=true->a∈F i->i∈p.2:=fun a ha i d t e o m=>by
  rcases rt.cont a ha with q | ⟨k,d2,t2,f,e2,sr⟩
  ·exact absurd q (re.nn e m)
  ·exact sr i ((re.one i d t e o).2.2 a m k d2 t2 e2 f)
 have reL:RE X.K P' (lock p.2 env) σ H1 F:=af1.re.locked nn seen;have gz:∀ a∈G,Z a:=GA re hz zp rt;let E':Ends:={D with nx:=fun σ' H'=>∀ env' F',After X.K P' Z (lock p.2 env) F H1 env' σ' H' F'->D.nx σ' H'};have stepP:∀{f:Fl},(∀ e,f≠.bk e)->(∀ e,f≠.ct e)->post X.K P Z env F H1 D (match f with | .nx e=>.nx (unlock p.2 env e) | x=>x)->post X.K P' Z (lock p.2 env) F H1 D f:=fun {f} nb nc h=>by
  cases f with
  |nx e=>exact fun σ' H' F' af=>h σ' H' F' (af.unlocked af1.re)
  |bk e=>exact absurd rfl (nb e)
  |ct e=>exact absurd rfl (nc e)
  |rt d fr=>exact fun v H' G' rp ev z f=>h v H' G' rp (ev.weak fun _ q=>.inl q) z fun w=>⟨(f w).1,fun a ha=>⟨fun q=>((f w).2 a ha).1 (.inl q),((f w).2 a ha).2⟩⟩
  |xc x e=>exact h
  |bad=>exact h
 have h:=stepP (lj _ _).1 (lj _ _).2 h;have zpL:∀ a,¬ P' a->Z a:=fun a ha=>zp a fun q=>ha (.inl q)
 refine⟨fun i m σ' H'=>m=p.1.length - i/\i<=p.1.length/\∃ env' F',After X.K P' Z (lock p.2 env) F H1 env' σ' H' F'/\post X.K P' Z env' F' H' D (bC t p.2 (aC T cb) (p.1.drop i) env'),⟨p.1.length,by simp,Nat.zero_le _,lock p.2 env,F,After.same reL hz (aN.refl _),by simpa using h⟩,?_⟩;rintro i m σ2 H2 ⟨rfl,hi,env2,F2,af2,h2⟩;obtain⟨w1,w2⟩:=wk H2 af2.ev;by_cases hlt:i<p.1.length
 ·right;have hd:p.1[i]? = some p.1[i]:=by simp[hlt]
  obtain⟨g1,g2⟩:=w1 i _ hd;refine⟨g1,fun σ' H'=>∃ env' F',After X.K P' Z (lock p.2 env) F H1 env' σ' H' F'/\post X.K P' Z env' F' H' D (bC t p.2 (aC T cb) (p.1.drop (i+1)) env'),fun σ' H' q=>⟨p.1.length - (i+1),by omega,rfl,hlt,q⟩,fun x H3 y=>?_⟩;obtain⟨s3,G3,rp3,sub3⟩:=g2 x H3 y;have af3:=After.same (Z:=Z) af2.re af2.z s3;have h2:=post.trans af3 h2;rw[ja hlt] at h2;unfold bC at h2;cases hb:aX p.2 t p.1[i] env2 with
  |none=>rw[hb] at h2;exact h2.elim
  |some env4 =>
   rw[hb] at h2;refine uK af3.re af2.z rp3 (fun a ha=>gz a (sub3 a ha)) (fun a ha j d' t' ej o m=>?_) hb fun σ4 F4 re4 z4 lk4=>?_
   ·cases t' with
    |own=>exact absurd (.inr (sub3 a ha)) (af2.re.wr j d' ej a m)
    |lk =>
     obtain⟨e5,e6⟩:=af2.lk j d' ej;rw[e6] at m;obtain⟨t0,e0,o0,_⟩:=hZ e5;exact seen a (sub3 a ha) j d' t0 e0 (o0.trans o) m
    |sh Q=>cases o
   ·have af4:After X.K P' Z env2 F2 H3 env4 σ4 H3 F4:=⟨re4,z4,k7.refl _,lk4⟩;refine⟨P',Z,env4,F4,re4,z4,zpL,?_⟩;have h2:=post.trans af4 h2;have all:=(af2.trans af3).trans af4;cases hs:aC T cb env4 with
    |nx e'=>simp only[hs] at h2;exact fun σ' H' F' af5=>⟨e',F',all.trans af5,post.trans af5 h2⟩
    |ct e'=>simp only[hs] at h2;exact fun σ' H' F' af5=>⟨e',F',all.trans af5,post.trans af5 h2⟩
    |bk e'=>simp only[hs] at h2;exact h2
    |rt d fr=>simp only[hs] at h2;exact h2
    |xc x e'=>simp only[hs] at h2;exact h2
    |bad=>simp only[hs] at h2;exact h2
 ·left;have e:i=p.1.length:=by omega
  subst e;rw[List.drop_length] at h2;exact⟨w2,h2 σ2 H2 F2 (After.same af2.re af2.z (aN.refl _))⟩
end
section
variable {X:Cx}{T:Tb}
end
noncomputable def iQ (cells:List (Str×Addr)):List (Str×NameKind)->List (Str×Addr)->List (Str×Addr)
 |[],acc=>acc
 | (n,k)::r,acc=>iQ cells r (if k == .free then (match cells.lookup n with | some c=>(n,c)::acc | none=>acc) else acc)
theorem vg {scope:Scope}{env:Env}(h:∀ x,(x,NameKind.free)∈scope.names->∃ c,env.cells.lookup x=some c):closureFor scope env=pure (iQ env.cells scope.names []):=by
 unfold closureFor;have gen:∀(names:List (Str×NameKind)) (acc:List (Str×Addr)),(∀ x,(x,NameKind.free)∈names->∃ c,env.cells.lookup x=some c) ->
   (forIn names acc fun (p:Str×NameKind) (cs:List (Str×Addr))=>(match p with
    | (name,kind)=>if (kind == .free)=true then (do let c <- cellOf env name;pure (ForInStep.yield ((name,c)::cs))) else pure (ForInStep.yield cs):Sem (ForInStep (List (Str×Addr)))))=(pure (iQ env.cells names acc):Sem (List (Str×Addr))):=by
  intro names
  induction names with
  |nil=>intro acc _;rfl
  |cons x r ih =>
   intro acc hx;obtain⟨n,k⟩:=x;rw[List.forIn_cons];simp only[iQ];have hr:∀ x,(x,NameKind.free)∈r->∃ c,env.cells.lookup x=some c:=fun x hm=>hx x (aa _ hm)
   by_cases hk:(k==NameKind.free)=true
   ·have e:k = .free:=by simpa using hk
    subst e;obtain⟨c,hc⟩:=hx n ae;simp only[hk,if_true,cellOf,hc];exact ih ((n,c)::acc) hr
   ·simp only[hk,if_false];exact ih acc hr
 have:=gen scope.names [] h;simpa using this
theorem qI {cells:List (Str×Addr)}{x:Str}{c:Addr}:∀{names:List (Str×NameKind)}{acc:List (Str×Addr)},(∀ y d,acc.lookup y=some d->cells.lookup y=some d)->(iQ cells names acc).lookup x=some c->cells.lookup x=some c
 |[],acc,ha,h=>ha x c h
 | (n,k)::r,acc,ha,h=>by
  simp only[iQ] at h;refine qI (names:=r) (fun y d q=>?_) h;by_cases hk:(k==NameKind.free)=true
  ·rw[if_pos hk] at q;cases hc:cells.lookup n with
   |none=>rw[hc] at q;exact ha y d q
   |some e =>
    rw[hc] at q;simp only[List.lookup_cons] at q;cases hy:y==n with
    |true =>
     rw[hy] at q;have:=eq_of_beq hy;subst this;rw[hc];exact q
    |false=>rw[hy] at q;exact ha y d q
  ·rw[if_neg hk] at q;exact ha y d q
theorem qe {cells:List (Str×Addr)}{x:Str}:∀{names:List (Str×NameKind)}{acc:List (Str×Addr)},(∃ c,acc.lookup x=some c)->∃ c,(iQ cells names acc).lookup x=some c
 |[],acc,h=>h
 | (n,k)::r,acc,h=>by
  simp only[iQ];refine qe (names:=r) ?_;by_cases hk:(k==NameKind.free)=true
  ·rw[if_pos hk];cases hc:cells.lookup n with
   |none=>exact h
   |some e =>
    simp only[List.lookup_cons];cases hy:x==n with
    |true=>exact⟨e,rfl⟩
    |false=>exact h
  ·rw[if_neg hk];exact h
theorem pe {cells:List (Str×Addr)}{x:Str}{c:Addr}(hc:cells.lookup x=some c):∀{names:List (Str×NameKind)}{acc:List (Str×Addr)},(x,NameKind.free)∈names->∃ c,(iQ cells names acc).lookup x=some c
 |[],acc,h=>by cases h
 | (n,k)::r,acc,h=>by
  simp only[iQ];rcases dw.mp h with e | h
  ·cases e;refine qe (names:=r) ?_;simp only[beq_self_eq_true,if_true,hc,List.lookup_cons];exact⟨c,rfl⟩
  ·exact pe hc (names:=r) h
noncomputable def inner (X:Cx)(scope:Scope)(N':List Str)(C:Addr)(s0:Shared)(H0:Hp)(ex:List Addr):Cx :=
 {X with N:=N',s₀:=s0,H₀:=H0,env:=compEnvC scope (cellsFrom (C+1) scope.names (iQ X.env.cells scope.names [])) C X.env,outer:=X.stack,stack:=X.stack,ex:=ex,fn:=fun x=>scope.names.lookup x==some .cell,pn:=[],xe:=fun _ _=>False}
structure fH (X:Cx)(scope:Scope)(N':List Str)(pick:List (Option Nat)):Prop where
 kind:scope.kind = .function
 cells:∀ y∈scope.names,y.2 = .cell->scope.names.lookup y.1=some .cell
 names:∀ y∈scope.names,y.2 = .local->scope.names.lookup y.1=some .local
 len:pick.length=N'.length
 outer:∀ x,scope.names.lookup x=some .free->(X.env.kindOf x=some .cell\/X.env.kindOf x=some .free)
 free:∀ x,(x,NameKind.free)∈scope.names->scope.names.lookup x=some .free
 pick:∀(i j:Nat) (x:Str),pick[i]? = some (some j)->N'[i]? = some x->scope.names.lookup x=some .free/\X.N[j]? = some x
noncomputable def fR (σ:L2.St)(pick:List (Option Nat)):L2.St:=pick.map fun o=>o.bind fun j=>(σ[j]?).join
theorem fV {env:Env}:∀{names:List (Str×NameKind)}{x:Str}{k:NameKind},(names.map fun (n,k)=>if (k==NameKind.free&&env.scope.kind == .function&&env.kindOf n==some .cell) then (n,NameKind.cell) else (n,k)).lookup x=some k ->
  ∃ k0,names.lookup x=some k0/\(k=k0\/(k0 = .free/\k = .cell))
 |[],_,_,h=>by simp at h
 | (n,k0)::r,x,k,h=>by
  rw[ay] at h;by_cases hc:(k0==NameKind.free&&env.scope.kind == .function&&env.kindOf n==some .cell)=true
  ·simp only[hc,if_true,List.lookup_cons] at h;simp only[List.lookup_cons];cases hx:x==n with
   |true =>
    rw[hx] at h;cases h;rw[ai,ai] at hc;exact⟨k0,rfl,.inr ⟨by simpa using hc.1.1,rfl⟩⟩
   |false=>rw[hx] at h;exact fV h
  ·have hc:(k0==NameKind.free&&env.scope.kind == .function&&env.kindOf n==some .cell)=false:=by simpa using hc
   simp only[hc,Bool.false_eq_true,if_false,List.lookup_cons] at h;simp only[List.lookup_cons];cases hx:x==n with
   |true=>rw[hx] at h;cases h;exact⟨k0,rfl,.inl rfl⟩
   |false=>rw[hx] at h;exact fV h
theorem gG {env:Env}:∀{names:List (Str×NameKind)}{x:Str},names.lookup x=some .free ->
  (names.map fun (n,k)=>if (k==NameKind.free&&env.scope.kind == .function&&env.kindOf n==some .cell) then (n,NameKind.cell) else (n,k)).lookup x=some .cell \/
  (names.map fun (n,k)=>if (k==NameKind.free&&env.scope.kind == .function&&env.kindOf n==some .cell) then (n,NameKind.cell) else (n,k)).lookup x=some .free
 |[],_,h=>by simp at h
 | (n,k0)::r,x,h=>by
  rw[ay];by_cases hc:(k0==NameKind.free&&env.scope.kind == .function&&env.kindOf n==some .cell)=true
  ·simp only[hc,if_true,List.lookup_cons] at h ⊢;cases hx:x==n with
   |true=>left;rfl
   |false=>rw[hx] at h;exact gG h
  ·have hc:(k0==NameKind.free&&env.scope.kind == .function&&env.kindOf n==some .cell)=false:=by simpa using hc
   simp only[hc,Bool.false_eq_true,if_false,List.lookup_cons] at h ⊢;cases hx:x==n with
   |true=>rw[hx] at h;cases h;right;rfl
   |false=>rw[hx] at h;exact gG h
theorem jG:∀(names:List (Str×NameKind)) (n:Nat) (acc:List (Str×Addr)),cellsFrom n names acc=cellsFrom n names []++acc
 |[],_,_=>rfl
 | (nm,k)::r,n,acc=>by
  unfold cellsFrom;split
  ·rw[jG r (n+1) ((nm,n)::acc),jG r (n+1) [(nm,n)],fe];rfl
  ·exact jG r n acc
theorem vG:∀(names:List (Str×NameKind)) (n:Nat) {x:Str}{c:Addr},(x,c)∈cellsFrom n names []->(x,NameKind.cell)∈names
 |[],_,_,_,h=>by cases h
 | (nm,k)::r,n,x,c,h=>by
  unfold cellsFrom at h;split at h
  ·rename_i hk;rw[jG] at h;rcases List.mem_append.mp h with h | h
   ·exact aa _ (vG r _ h)
   ·have e:(x,c)=(nm,n):=by simpa using h
    cases e;rw[show k = .cell by simpa using hk];exact ae
  ·exact aa _ (vG r _ h)
theorem rq:∀(names:List (Str×NameKind)) (n:Nat) {x:Str},(x,NameKind.cell)∈names->∃ c,(cellsFrom n names []).lookup x=some c
 | (nm,k)::r,n,x,h=>by
  unfold cellsFrom;rcases dw.mp h with e | h
  ·cases e;rw[if_pos (by decide),jG,gx];cases (cellsFrom (n+1) r []).lookup nm with
   |some c=>exact⟨c,rfl⟩
   |none=>exact⟨n,by simp⟩
  ·split
   ·obtain⟨c,hc⟩:=rq r (n+1) h;rw[jG,gx,hc];exact⟨c,rfl⟩
   ·exact rq r n h
theorem nfe {M:Model}{A:Around}{E:Value->Shared->Prop}{s:Shared}{scope:Scope}{globals:Addr}{cl:List (Str×Addr)}{qual:Str}{env:Env}{Q:Env->Shared->Prop}
  (h:Q {scope:=scope,locals:=s.heap.objs.size,globals:=globals,cells:=cellsFrom (s.heap.objs.size+1) scope.names cl,qual:=qual,func:=none,code:=env.code,frame:=env.frame,builtins:=env.builtins} {s with heap:=pushCells (s.heap.push {cls:=.type "dict",data:=.dict #[]}) scope.names}) :
  wpAny M A (newFunctionEnv scope globals cl [] qual none .none (some env)) Q E s:=by
 simp only[newFunctionEnv,Option.isSome_some,if_true];refine wpAny_bind (wpAny_alloc (wpAny_bind (wpAny_layCells _ (fun name kind cells=>by cases hkc:kind==NameKind.cell<;>simp[hkc]) _ _ _ _ ?_)));rw[show ({s with heap:=s.heap.push {cls:=.type "dict",data:=.dict #[]}}:Shared).heap.objs.size=s.heap.objs.size+1 from Heap.size_push ..];exact wpAny_pure h
section
variable {X:Cx}{scope:Scope}{N':List Str}{pick:List (Option Nat)}{pins:List (Addr×Obj)}{σ:L2.St}{H:Hp}{s:Shared}
theorem tP (S:fH X scope N' pick)(I:Inv X pins σ H s){fp:List Addr}(hf:∀ b∈fp,kE X pins H b)(hl:∀ b∈fp,b<s.heap.objs.size) :
  Inv (inner X scope N' s.heap.objs.size s H fp) [] (fR σ pick) H {s with heap:=pushCells (s.heap.push {cls:=.type "dict",data:=.dict #[]}) scope.names}:=by
 have old:∀ x c,(iQ X.env.cells scope.names []).lookup x=some c->X.env.cells.lookup x=some c:=fun x c h=>qI (acc:=[]) (fun y d q=>by simp at q) h
 have hk:∀ b o,s.heap.get? b=some o->(pushCells (s.heap.push {cls:=.type "dict",data:=.dict #[]}) scope.names).get? b=some o:=fun b o e=>pushCells_keeps _ _ b o (Heap.get?_push_of_some _ e)
 have hn:(pushCells (s.heap.push {cls:=.type "dict",data:=.dict #[]}) scope.names).Ns s.heap.objs.size (fun _=>none):=(Heap.Ns.new s.heap (.type "dict")).keeps (pushCells_keeps _ _);have ok:=cellsFrom_ok scope.names (s.heap.push {cls:=.type "dict",data:=.dict #[]}) (s.heap.objs.size+1) [] ⟨fun _ _ hm=>(nomatch hm),List.Pairwise.nil⟩ (by rw[Heap.size_push];exact au _);rw[Heap.size_push] at ok;generalize hh:pushCells (s.heap.push {cls:=.type "dict",data:=.dict #[]}) scope.names=h' at *;have oldlt:∀ x c,X.env.cells.lookup x=some c->c<s.heap.objs.size:=fun x c h=>by
  obtain⟨v,hv⟩:=I.cell x c h;exact hv.lt
 have look:∀ x c,(cellsFrom (s.heap.objs.size+1) scope.names (iQ X.env.cells scope.names [])).lookup x=some c->((x,c)∈cellsFrom (s.heap.objs.size+1) scope.names []/\s.heap.objs.size+1<=c)\/((x,NameKind.cell)∉scope.names/\X.env.cells.lookup x=some c):=fun x c h=>by
  rw[jG,gx] at h;cases q:(cellsFrom (s.heap.objs.size+1) scope.names []).lookup x with
  |some c' =>
   rw[q] at h;cases h;have hm:=cu q;exact .inl ⟨hm,(ok.empty _ _ hm).2⟩
  |none =>
   rw[q] at h;refine .inr ⟨fun z=>?_,old x c h⟩;obtain⟨c',hc'⟩:=rq scope.names (s.heap.objs.size+1) z;rw[q] at hc';cases hc'
 have sees:∀ x c,scope.names.lookup x=some .free->(iQ X.env.cells scope.names []).lookup x=some c->(cellsFrom (s.heap.objs.size+1) scope.names (iQ X.env.cells scope.names [])).lookup x=some c:=fun x c hx h=>by
  rw[jG,gx];cases q:(cellsFrom (s.heap.objs.size+1) scope.names []).lookup x with
  |some c' =>
   have:=S.cells _ (vG _ _ (cu q)) rfl;rw[hx] at this;cases this
  |none=>rw[h];rfl
 refine⟨⟨I.ok.mod,S.kind,I.ok.glob,I.ok.blt,au _,fun x y c h1 h2=>?inj,fun x hx=>?_,fun x c hx h=>?cab,I.ok.hd,I.ok.frames,.inl rfl,fun b hb=>?_,I.bs,br I.ok.bsz I.sz,fun b o e hb=>?_,fun b hb hb'=>?_,I.stack,I.stkFree⟩,
  rfl,I.bare,Un.kept hk,⟨_,hn,fun i x v h1 h2 h3=>?_⟩,fun x c h=>?_,I.hok.fresh (Nat.le_refl _),fun x c h=>?frc,fun p hp=>absurd (show p∈([]:List (Addr×Obj)) from hp) (by simp),I.hok.kept hk,?_⟩
 case inj =>
  rcases look x c h1 with ⟨m1,l1⟩ | ⟨_,o1⟩<;>rcases look y c h2 with ⟨m2,l2⟩ | ⟨_,o2⟩
  ·exact name_of_addr ok.apart m1 m2
  ·exact absurd (av (oldlt y c o2) (Nat.le_of_succ_le l1)) (fq _)
  ·exact absurd (av (oldlt x c o1) (Nat.le_of_succ_le l2)) (fq _)
  ·exact I.ok.inj x y c o1 o2
 case cab =>
  have hx:scope.names.lookup x=some .cell:=by simpa[inner] using hx
  rcases look x c h with ⟨_,l1⟩ | ⟨n1,_⟩
  ·exact br (Nat.le_succ _) l1
  ·exact absurd (cu hx) n1
 case frc =>
  rcases look x c h with ⟨_,l1⟩ | ⟨_,o1⟩
  ·exact I.hok.fresh (br (Nat.le_succ _) l1)
  ·exact I.freeC x c o1
 ·have hx:(relabel scope X.env).names.lookup x=some .cell\/(relabel scope X.env).names.lookup x=some .free:=hx;have hfree:scope.names.lookup x=some .free\/scope.names.lookup x=some .cell:=by
   rcases hx with hx | hx
   ·obtain⟨k0,h1,h2 | ⟨h2,_⟩⟩:=fV hx
    ·subst h2;exact .inr h1
    ·rw[h2] at h1;exact .inl h1
   ·obtain⟨k0,h1,h2 | ⟨h2,h3⟩⟩:=fV hx
    ·subst h2;exact .inl h1
    ·cases h3
  rcases hfree with hfree | hfree
  ·obtain⟨c,hc⟩:=I.ok.has x (S.outer x hfree);obtain⟨c',hc'⟩:=pe (acc:=[]) hc (cu hfree);exact⟨c',sees x c' hfree hc'⟩
  ·obtain⟨c,hc⟩:=rq scope.names (s.heap.objs.size+1) (cu hfree);refine⟨c,?_⟩;show (cellsFrom (s.heap.objs.size+1) scope.names (iQ X.env.cells scope.names [])).lookup x=some c;rw[jG,gx,hc];rfl
 ·refine⟨bu (hl b hb),fun x c h=>?_⟩;rcases look x c h with ⟨_,l1⟩ | ⟨_,o1⟩
  ·exact fun e=>fq _ (av (hl b hb) (e ▸ Nat.le_of_succ_le l1))
  ·exact (hf b hb).2.2.2.2.1 x c o1
 ·obtain⟨f0,f1,f2,f3,f4,f5⟩:=hf b hb;rcases f3 with f3 | f3
  ·exact I.ok.noex b o e f3
  ·exact absurd (av (Heap.lt_size e) (br I.ok.bsz f3)) (fq _)
 ·obtain⟨f0,f1,f2,f3,f4,f5⟩:=hf b hb;exact (dw.mp (I.stkSub b hb')).elim f1 f2
 ·
  have h2':(pick.map fun o=>o.bind fun j=>(σ[j]?).join)[i]? = some (some v):=h2;rw[List.getElem?_map] at h2';cases hp:pick[i]? with
  |none=>rw[hp] at h2';cases h2'
  |some o =>
   rw[hp] at h2';cases o with
   |none=>simp at h2'
   |some j =>
    simp only[Option.map_some,Option.bind_some,Option.some.injEq] at h2';have hj:σ[j]? = some (some v):=by
     cases q:σ[j]? with
     |none=>rw[q] at h2';cases h2'
     |some o=>rw[q] at h2';cases o with
      |none=>cases h2'
      |some w=>simp at h2';rw[h2']
    obtain⟨k1,k2⟩:=S.pick i j x hp h1;obtain⟨m0,hn0,hl0⟩:=I.loc;have vis:D2 X.env.scope x:=by
     rcases S.outer x k1 with q | q
     ·exact .inr (.inl q)
     ·exact .inr (.inr q)
    obtain⟨u,r,lk⟩:=hl0 j x v k2 hj vis;refine⟨u,r,?_⟩;rcases lk with ⟨z,_⟩ | ⟨_,c,hc,hcell⟩
    ·rcases S.outer x k1 with q | q<;>· rw[z] at q;cases q
    ·obtain⟨c',hc'⟩:=pe (names:=scope.names) (acc:=[]) hc (cu k1);have:=old x c' hc';rw[hc] at this;cases this;refine .inr ⟨gG k1,c,sees x c k1 hc',?_⟩;obtain⟨o,ho,hd⟩:=hcell;exact⟨o,hk c o ho,hd⟩
 ·rcases look x c h with ⟨m1,_⟩ | ⟨_,o1⟩
  ·exact⟨none,(ok.empty _ _ m1).1⟩
  ·obtain⟨v,o,ho,hd⟩:=I.cell x c o1;exact⟨v,o,hk c o ho,hd⟩
 ·show (pick.map _).length=N'.length;rw[aj,S.len]
end
abbrev xp (ifs:List Expr)(env:Env):Sem Bool:=forIn ifs true fun c r=>if r=true then do let ok <- isTrue c env (eval c env);pure (ForInStep.yield ok) else pure (ForInStep.yield r)
def EL (X:Cx)(ifs:List Expr)(t:TT):Prop :=
 ∀(pins:List (Addr×Obj)) (s:Shared) (σ:L2.St) (H:Hp) (Q:Bool->Hp->Prop),Inv X pins σ H s->t σ H Q->wpAny (model X.prog X.w) X.A (xp ifs X.env) (TP X pins σ Q) X.xe s
theorem xi {X:Cx}:EL X [] (fun _ H Q=>Q true H):=fun _ _ _ H Q I h=>wpAny_tests_nil ⟨H,I,h⟩
theorem CD {X:Cx}{c:Expr}{t:TT}(h:PT X c t):EL X [c] t:=fun pins s σ H Q I q=>wpAny_tests_one (h pins s σ H Q I q)
section
variable {prog:Program}{w:World}{A:Around}{R:Result->Shared->Prop}{s:Shared}
theorem uC {elt target iter:Expr}{ifs:List Expr}{scope:Scope}{pos:Pos}{it acc:Value}{env:Env}(I:Nat->Shared->Prop)
  (turn:∀ n s,I n s->wpAny (model prog w) A (pyNext it) (fun r s₁=>match r with
   |none=>R (.ok .next) s₁
   |some v=>wpAny (model prog w) A (letOwnedTupleGo target it v) (fun _ s₀=>wpAny (model prog w) A (assign target env v) (fun _ s₂ =>
     wpAny (model prog w) A (xp ifs env) (fun ok s₃ =>
      if ok=true then wpAny (model prog w) A (eval elt env) (fun x s₄ =>
       wpAny (model prog w) A (call (.builtin "list.append") [acc,x]) (fun _ s₅=>∃ m,m<n/\I m s₅) (fun _ _=>False) s₄) (fun _ _=>False) s₃
      else ∃ m,m<n/\I m s₃) (fun _ _=>False) s₂) (fun _ _=>False) s₀) (fun _ _=>False) s₁) (fun _ _=>False) s)
  (n:Nat) (h:I n s):codeAny (model prog w) A (.compLoop (.ListComp elt [⟨target,iter,ifs,0⟩] scope pos) 0 it acc env) R s:=by
 refine codeAny_loop rfl I (fun n s hI=>?_) n h;show wpAny _ A ((compTurn (.ListComp elt [⟨target,iter,ifs,0⟩] scope pos) 0 it acc env).onRaise (fun x=>do noteFrame x env;theTreesLotGoes x)) _ _ s;refine wpAny_noted ?_;rw[compTurn_list];refine wpAny_bind (wpAny_standAt (wpAny_bind (wpAny_mono (turn n s hI) (fun r s₁ h₁=>?_) fun _ _ h'=>h'.elim)));cases r with
 |none=>exact wpAny_pure h₁
 |some v =>
  refine wpAny_bind (wpAny_mono h₁ (fun _ s₀ h₀=>?_) fun _ _ h'=>h'.elim);refine wpAny_bind (wpAny_mono h₀ (fun _ s₂ h₂=>wpAny_bind (wpAny_mono h₂ (fun ok s₃ h₃=>?_) fun _ _ h'=>h'.elim)) fun _ _ h'=>h'.elim);cases ok with
  |false=>exact wpAny_pure ⟨rfl,h₃⟩
  |true =>
   exact wpAny_bind (wpAny_bind (wpAny_mono h₃ (fun x s₄ h₄=>wpAny_bind (wpAny_mono h₄ (fun _ s₅ h₅=>wpAny_pure (wpAny_pure ⟨rfl,h₅⟩)) fun _ _ h'=>h'.elim)) fun _ _ h'=>h'.elim))
end
def wF (pick:List (Option Nat))(wi:TI)(g:TG)(tt:TT)(te:TE):TE:=fun σ H Q=>wi σ H fun J H1=>∀ l,H1 l=none->∃ W:Nat->Nat->Hp->Prop,(∃ m,W 0 m (upd H1 l (.lst [])))/\∀ i m H,W i m H ->
 (J.stop i H/\Q (.ref l) H)\/(J.go i H/\∃ N:Hp->Prop,(∀ H',N H'->∃ m',m'<m/\W (i+1) m' H')/\∀ x H',J.yld i H x H'->g x (fR σ pick) H' fun σ2 H2 =>
  tt σ2 H2 fun b H3=>if b=true then te σ2 H3 fun y H4=>∃ xs,H4 l=some (.lst xs)/\xs.length<sizeLine/\N (upd H4 l (.lst (xs ++ [y]))) else N H3)
section
variable {X:Cx}{scope:Scope}{N':List Str}{pick:List (Option Nat)}{tg iter elt:Expr}{ifs:List Expr}{pos:Pos}{wi:TI}{g:TG}{tt:TT}{te:TE}
theorem oQ (S:fH X scope N' pick)(hc:X.calm=true)(hin:∀ C s0 H0 ex,PG (inner X scope N' C s0 H0 ex) tg g/\EL (inner X scope N' C s0 H0 ex) ifs tt/\PE (inner X scope N' C s0 H0 ex) elt te)
  (gk:∀(v:V) (σ:L2.St) (H:Hp) (Q:L2.St->Hp->Prop),g v σ H Q->g v σ H fun σ' H'=>Q σ' H'/\σ'.length=σ.length/\∀(i:Nat) u,pick[i]?≠some none->σ[i]? = some u->σ'[i]? = some u)
  {pins:List (Addr×Obj)}{σ:L2.St}{H:Hp}{s:Shared}{it:Addr}{fp:List Addr}{tn:Nat->Heap->Prop}{J:It}{E:Value->Shared->Prop}{RR:Value->Addr->Result->Shared->Prop}(I:Inv X pins σ H s) (T:Turn X.prog X.w X.K tg J fp it tn) (st:tn 0 s.heap) (hf:∀ b∈fp,kE X pins H b)
  (Q:VK) (h:∀ l,H l=none->∃ W:Nat->Nat->Hp->Prop,(∃ m,W 0 m (upd H l (.lst [])))/\∀ i m H,W i m H ->
   (J.stop i H/\Q (.ref l) H)\/(J.go i H/\∃ N:Hp->Prop,(∀ H',N H'->∃ m',m'<m/\W (i+1) m' H')/\∀ x H',J.yld i H x H'->g x (fR σ pick) H' fun σ2 H2 =>
    tt σ2 H2 fun b H3=>if b=true then te σ2 H3 fun y H4=>∃ xs,H4 l=some (.lst xs)/\xs.length<sizeLine/\N (upd H4 l (.lst (xs ++ [y]))) else N H3))
  (hR:∀(l C:Addr) (s':Shared) (H':Hp) (m:Str->Option Value),s'.heap.Ns C m->kE X pins H' C->Q (.ref l) H'->Inv X pins σ H' s'->RR (.ref l) C (.ok .next) s') :
  wpAny (model X.prog X.w) X.A (newList []) (fun acc s₃=>wpAny (model X.prog X.w) X.A (newFunctionEnv scope X.env.globals (iQ X.env.cells scope.names []) [] X.env.qual none .none (some X.env)) (fun cenv s₄ =>
   codeAny (model X.prog X.w) X.A (.compStart (.ListComp elt [⟨tg,iter,ifs,0⟩] scope pos) 0 (.ref it) acc {cenv with scope:=relabel scope X.env}) (RR acc cenv.locals) s₄) E s₃) E s:=by
 have hltI:∀ b∈fp,b<s.heap.objs.size:=fun b hb=>let ⟨o,e,_⟩:=T.obj 0 _ st b hb;Heap.lt_size e
 refine wpAny_newObj_type (nfe ?_);dsimp only;have I3:Inv X pins σ (upd H s.heap.objs.size (.lst [])) {s with heap:=s.heap.push {cls:=.type "list",data:=.seq ([]:List Value).toArray}}:=I.lnew (ys:=[]) (its:=[]) (t':=s.toks) .nil (dq _);obtain⟨W,⟨m0,w0⟩,turn⟩:=h s.heap.objs.size I.fresh;have hC:(s.heap.push {cls:=.type "list",dict:=none,data:=.seq ([]:List Value).toArray}).objs.size=s.heap.objs.size+1:=Heap.size_push ..;have hf3:∀ b∈fp,kE X pins (upd H s.heap.objs.size (.lst [])) b:=fun b hb=>⟨by rw[aP (bu (hltI b hb))];exact (hf b hb).1,(hf b hb).2⟩
 have keep3:∀ b o,(s.heap.push {cls:=.type "list",dict:=none,data:=.seq ([]:List Value).toArray}).get? b=some o->(pushCells ((s.heap.push {cls:=.type "list",dict:=none,data:=.seq ([]:List Value).toArray}).push {cls:=.type "dict",data:=.dict #[]}) scope.names).get? b=some o:=fun b o e=>pushCells_keeps _ _ b o (Heap.get?_push_of_some _ e)
 have I4:=tP (s:={s with heap:=s.heap.push {cls:=.type "list",dict:=none,data:=.seq ([]:List Value).toArray}}) S I3 hf3 (fun b hb=>by show b<(s.heap.push _).objs.size;rw[hC];exact Nat.lt_succ_of_lt (hltI b hb));dsimp only at I4;generalize hh₁:pushCells ((s.heap.push {cls:=.type "list",dict:=none,data:=.seq ([]:List Value).toArray}).push {cls:=.type "dict",data:=.dict #[]}) scope.names=h₁ at *;have st4:tn 0 h₁:=T.keep 0 _ _ st fun b hb o e=>keep3 b o (Heap.get?_push_of_some _ e)
 generalize hY:inner X scope N' (s.heap.push {cls:=.type "list",dict:=none,data:=.seq ([]:List Value).toArray}).objs.size {s with heap:=s.heap.push {cls:=.type "list",dict:=none,data:=.seq ([]:List Value).toArray}} (upd H s.heap.objs.size (.lst [])) fp=Y at I4;have hYin:=hin (s.heap.push {cls:=.type "list",dict:=none,data:=.seq ([]:List Value).toArray}).objs.size {s with heap:=s.heap.push {cls:=.type "list",dict:=none,data:=.seq ([]:List Value).toArray}} (upd H s.heap.objs.size (.lst [])) fp;rw[hY] at hYin;obtain⟨yg,yt,ye⟩:=hYin;have yE:Y.env=compEnvC scope (cellsFrom ((s.heap.push {cls:=.type "list",dict:=none,data:=.seq ([]:List Value).toArray}).objs.size+1) scope.names (iQ X.env.cells scope.names [])) (s.heap.push {cls:=.type "list",dict:=none,data:=.seq ([]:List Value).toArray}).objs.size X.env:=by rw[<-hY];rfl
 have hCL:(s.heap.push {cls:=.type "list",dict:=none,data:=.seq ([]:List Value).toArray}).objs.size≠X.env.locals:=by
  rw[hC];exact Nat.ne_of_gt (Nat.lt_succ_of_lt I.lt)
 have back:∀{H5:Hp}{s5:Shared},Inv Y [] (fR σ pick) H5 s5->Q (.ref s.heap.objs.size) H5->RR (.ref s.heap.objs.size) (s.heap.push {cls:=.type "list",dict:=none,data:=.seq ([]:List Value).toArray}).objs.size (.ok .next) s5:=fun {H5 s5} I5 q=>by
  subst hY;obtain⟨m,hn,_⟩:=I5.loc;have J5:Inv X pins σ H5 s5:=Inv.call' I3 I5.os I5.base I5.hok I5.bare fun b hb=>by
   obtain⟨f0,f1,f2,f3,f4,f5⟩:=hf b hb;exact⟨f3,f1,f4,f5⟩
  have lt3:∀{b:Addr}{o:Obj},s.heap.get? b=some o->b≠(s.heap.push {cls:=.type "list",dict:=none,data:=.seq ([]:List Value).toArray}).objs.size:=fun e=>by rw[hC];exact bu (Nat.lt_succ_of_lt (Heap.lt_size e))
  refine hR _ _ s5 H5 m hn ⟨I5.free,hCL,I.nofs (by rw[hC];exact Nat.le_succ _),.inr (by rw[hC];exact Nat.le_succ_of_le I.sz),fun x c e z=>?_,fun p hp z=>?_⟩ q J5
  ·obtain⟨v,o,ho,_⟩:=I.cell x c e;exact lt3 ho z
  ·exact lt3 (I.pin p hp).1 z
 have yP:Y.prog=X.prog:=by rw[<-hY];rfl
 have yw:Y.w=X.w:=by rw[<-hY];rfl
 have yK:Y.K=X.K:=by rw[<-hY];rfl
 have yA:Y.A=X.A:=by rw[<-hY];rfl
 have yc:Y.calm=true:=by rw[<-hY];exact hc
 have yx:Y.xe=fun _ _=>False:=by rw[<-hY];rfl
 have yp:Y.pn=[]:=by rw[<-hY];rfl
 have yex:Y.ex=fp:=by rw[<-hY];rfl
 have stat:∀{H':Hp},(∀ b∈fp,H' b=none)->∀ b∈fp,kE Y [] H' b:=fun {H'} hn b hb=>by
  have hb':b∈Y.ex:=by rw[yex];exact hb
  obtain⟨x1,x2⟩:=I4.ok.exf b hb';exact⟨hn b hb,x1,I4.ok.exfs b hb',.inl hb',x2,fun p hp=>by rw[yp] at hp;cases hp⟩
 rw[<-yP,<-yw,<-yA];have loop:codeAny (model Y.prog Y.w) Y.A (.compLoop (.ListComp elt [⟨tg,iter,ifs,0⟩] scope pos) 0 (.ref it) (.ref s.heap.objs.size) Y.env) (RR (.ref s.heap.objs.size) (s.heap.push {cls:=.type "list",dict:=none,data:=.seq ([]:List Value).toArray}).objs.size) {s with heap:=h₁}:=by
  refine uC (fun n s5=>∃ i H5,Inv Y [] (fR σ pick) H5 s5/\tn i s5.heap/\(∀ b∈fp,H5 b=none)/\W i n H5) ?_ m0 ⟨0,_,I4,st4,fun b hb=>(hf3 b hb).1,w0⟩;rintro n s5 ⟨i,H5,I5,st5,fr5,w5⟩;rcases turn i n H5 w5 with ⟨stop,qn⟩ | ⟨go,N,hN,step⟩
  ·have d:=T.done Y yP yw yK yc i [] s5 (fR σ pick) H5 (fun _ _=>False) I5 (stat fr5) st5 stop;rw[<-yP,<-yw] at d;refine dB d fun r s6 ⟨hr,I6⟩=>?_
   subst hr;exact back I6 qn
  ·have d:=T.item Y yP yw yK yc i [] s5 (fR σ pick) H5 (fun _ _=>False) I5 (stat fr5) st5 go;rw[<-yP,<-yw] at d;refine dB d fun r s6 ⟨u,hr,h6⟩=>?_
   subst hr;refine dB h6 fun _ s7 ⟨x,H7,I7,r7,y7,st7,fr7⟩=>?_
   have I7':=I7.pinned (stat fr7) (T.obj _ _ st7);have yg':=yg _ s7 (fR σ pick) H7 x u _ I7' r7 (gk _ _ _ _ (step x H7 y7));rw[yx] at yg';refine dB yg' fun _ s8 ⟨σ8,H8,I8,q8,l8,k8⟩=>?_
   have yt':=yt _ s8 σ8 H8 _ I8 q8;rw[yx] at yt';refine dB yt' fun b s9 ⟨H9,I9,q9⟩=>?_
   have again:∀{σ':L2.St}{H':Hp}{s':Shared},Inv Y ([]++oA fp s7.heap) σ' H' s'->σ'=σ8->N H'->∃ m,m<n/\∃ i H5,Inv Y [] (fR σ pick) H5 s'/\tn i s'.heap/\(∀ b∈fp,H5 b=none)/\W i m H5:=fun {σ' H' s'} J e nn=>by
    subst e;obtain⟨m',hm,w'⟩:=hN H' nn;refine⟨m',hm,i+1,H',(J.unpinned).weak (l8.symm) (fun j v e=>?_),T.keep _ _ _ st7 fun b hb o e=>(J.pin (b,o) (ak _ (ak _ (gH hb e)))).1,fun b hb=>?_,w'⟩
    ·refine k8 j _ (fun z=>?_) e;unfold fR at e;rw[List.getElem?_map,z] at e;simp at e
    ·obtain⟨o,e,_⟩:=T.obj _ _ st7 b hb;exact (J.pin (b,o) (ak _ (ak _ (gH hb e)))).2.1
   cases b with
   |false =>
    rw[if_neg az];exact again I9 rfl q9
   |true =>
    rw[if_pos rfl];have q9:te σ8 H9 fun y H4=>∃ xs,H4 s.heap.objs.size=some (.lst xs)/\xs.length<sizeLine/\N (upd H4 s.heap.objs.size (.lst (xs ++ [y]))):=q9
    have ye':=ye _ s9 σ8 H9 _ I9 q9;rw[yx] at ye';refine dB ye' fun v s10 ⟨y,H10,I10,r10,xs,e10,z10,n10⟩=>?_
    have ap:=qq _ s10 σ8 H10 (.ref s.heap.objs.size) [y] (.ref s.heap.objs.size) [v] (fun _ H'=>N H') I10 rfl (.cons r10 .nil) ⟨s.heap.objs.size,xs,y,rfl,rfl,e10,z10,n10⟩;rw[yx] at ap;exact dB ap fun _ s11 ⟨_,H11,I11,_,n11⟩=>again I11 rfl n11
 show codeAny (model Y.prog Y.w) Y.A (.compStart (.ListComp elt [⟨tg,iter,ifs,0⟩] scope pos) 0 (.ref it) (.ref s.heap.objs.size) (compEnvC scope (cellsFrom ((s.heap.push {cls:=.type "list",dict:=none,data:=.seq ([]:List Value).toArray}).objs.size+1) scope.names (iQ X.env.cells scope.names [])) (s.heap.push {cls:=.type "list",dict:=none,data:=.seq ([]:List Value).toArray}).objs.size X.env))
  (RR (.ref s.heap.objs.size) (s.heap.push {cls:=.type "list",dict:=none,data:=.seq ([]:List Value).toArray}).objs.size) {s with heap:=h₁}
 rw[<-yE];refine codeAny_compStart_list loop ?_;have l2:=loop;rw[yP,yw] at l2 ⊢;exact T.self Y.A 0 _ _ _ st4 l2
theorem gW (S:fH X scope N' pick)(hh:∀ x,(X.env.kindOf x=some .cell\/X.env.kindOf x=some .free)->∃ c,X.env.cells.lookup x=some c):closureFor scope X.env=pure (iQ X.env.cells scope.names []) :=
 vg fun x hx=>hh x (S.outer x (S.free x hx))
theorem xg (S:fH X scope N' pick)(hc:X.calm=true)(hi:PI X tg iter wi)(hin:∀ C s0 H0 ex,PG (inner X scope N' C s0 H0 ex) tg g/\EL (inner X scope N' C s0 H0 ex) ifs tt/\PE (inner X scope N' C s0 H0 ex) elt te)
  (gk:∀(v:V) (σ:L2.St) (H:Hp) (Q:L2.St->Hp->Prop),g v σ H Q->g v σ H fun σ' H'=>Q σ' H'/\σ'.length=σ.length/\∀(i:Nat) u,pick[i]?≠some none->σ[i]? = some u->σ'[i]? = some u) (hs:∀ x,foldedSetIterable iter X.env x=pure x) :
  PE X (.ListComp elt [⟨tg,iter,ifs,0⟩] scope pos) (wF pick wi g tt te):=by
 intro pins s σ H Q I h;rw[eval_ListComp];refine wpAny_comprehension_free (use:=none) rfl hs (gW S I.ok.has) S.kind S.names (dB (hi pins s σ H _ I h) fun v s1 h1=>dB h1 fun itv s2 h2=>?_);obtain⟨it,fp,tn,J,H2,e,I2,T,st2,f2,q⟩:=h2;subst e;refine oQ (RR:=fun acc C=>compPost (model X.prog X.w) X.A X.xe none (EP X pins σ Q) acc C) S hc hin gk I2 T st2 f2 Q q fun l C s' H' m hn fc hq J0=>?_
 obtain⟨f0,f1,f2,f3,f4,f5⟩:=fc;exact⟨m,hn,fun h' sb=>⟨.ref l,H',J0.turned (t':=s'.toks) (fun b o hb e=>sb.extBut b o hb e) f0 f1 f3 f4 f5,rfl,hq⟩⟩
theorem oH {i:Nat}{x:Str}{pos' spos:Pos}(S:fH X scope N' pick)(hc:X.calm=true)(hi:PI X tg iter wi)(hin:∀ C s0 H0 ex,PG (inner X scope N' C s0 H0 ex) tg g/\EL (inner X scope N' C s0 H0 ex) ifs tt/\PE (inner X scope N' C s0 H0 ex) elt te)
  (gk:∀(v:V) (σ:L2.St) (H:Hp) (Q:L2.St->Hp->Prop),g v σ H Q->g v σ H fun σ' H'=>Q σ' H'/\σ'.length=σ.length/\∀(i:Nat) u,pick[i]?≠some none->σ[i]? = some u->σ'[i]? = some u) (hs:∀ x,foldedSetIterable iter X.env x=pure x)
  (hN:X.N.Nodup) (hx:X.N[i]? = some x) (hl:Loc X.env.scope x) (hf:X.fn x=true\/X.env.scope.names.lookup x=some .local) (hsw:swapsWith (.ListComp elt [⟨tg,iter,ifs,0⟩] scope pos) (some (.Name x pos')) spos.line X.env=pure true) :
  PS X (.Assign [.Name x pos'] (.ListComp elt [⟨tg,iter,ifs,0⟩] scope pos) spos) (pO (wF pick wi g tt te) (jI i)):=by
 intro pins s σ H D I h;rw[exec_Assign_Name_used _ _ _ _ hsw];refine wpAny_bind (wpAny_standAt (wpAny_bind ?_));show wpAny _ X.A (do let _ <- comprehension (.ListComp elt [⟨tg,iter,ifs,0⟩] scope pos) scope X.env _ (newList []) false (eval iter X.env) (some (assign (.Name x pos') X.env))) _ _ s;refine wpAny_bind (wpAny_mono (wpAny_comprehension_free (use:=some (assign (.Name x pos') X.env)) (Q:=fun _ s'=>SP X pins D .next s') rfl hs (gW S I.ok.has) S.kind S.names
  (dB (hi pins s σ H _ I h) fun v s1 h1=>dB h1 fun itv s2 h2=>?_)) (fun _ s' hq=>wpAny_pure (wpAny_pure hq)) fun _ _ e=>e)
 obtain⟨it,fp,tn,J,H2,e,I2,T,st2,f2,q⟩:=h2;subst e;refine oQ (RR:=fun acc C=>compPost (model X.prog X.w) X.A X.xe (some (assign (.Name x pos') X.env)) (fun _ s'=>SP X pins D .next s') acc C) S hc hin gk I2 T st2 f2 (fun x H1=>jI i x σ H1 D.nx) q fun l C s' H' m hn fc hq J0=>?_
 obtain⟨o,es,ep,ho,hd,hr⟩:=id hn;have J1:=J0.pinned (fp:=[C]) (fun b hb=>by rw[List.mem_singleton.mp hb];exact fc) fun b hb=>by rw[List.mem_singleton.mp hb];exact⟨o,ho,fun v z=>by rw[hd] at z;cases z⟩
 show wpAny (model X.prog X.w) X.A (assign (.Name x pos') X.env (.ref l)) _ _ s';refine wpAny_assign_Name (iW J1 hN hx hl (v:=.ref l) rfl (fun s2 I2=>?_) hf);have hC2:=(I2.pin (C,o) (List.mem_append_right _ (List.mem_append_right _ (gH (by simp) ho)))).1;obtain⟨f0,f1,f2,f3,f4,f5⟩:=fc;refine⟨m,⟨o,es,ep,hC2,hd,hr⟩,fun h' sb=>?_⟩;exact⟨_,H',I2.unpinned.turned (t':=s2.toks) (fun b o hb e=>sb.extBut b o hb e) f0 f1 f3 f4 f5,hq⟩
end
noncomputable def dG (own:Nat)(pick:List Nat):List (Option Nat):=List.replicate own none++pick.map some
theorem rm (σ:L2.St)(pk:List (Option Nat)):(fR σ pk).length=pk.length:=by simp[fR]
theorem pL (env:En)(own:Nat)(pick:List Nat):(aL env own pick).length=own+pick.length:=by simp[aL]
noncomputable def pX (F:Nat->List Addr)(env:En)(own:Nat)(pick:List Nat):Nat->List Addr:=fun i=>match (aL env own pick)[i]? with
 | some (some _)=>match pick[i - own]? with
  |some j=>F j
  |none=>[]
 |_=>[]
theorem gO {env:En}{own:Nat}{pick:List Nat}{i:Nat}{d:D}{t:Tg}(h:(aL env own pick)[i]? = some (some (d,t))):t = .sh []/\own<=i/\∃ j t0,pick[i - own]? = some j/\env[j]? = some (some (d,t0)):=by
 unfold aL at h;by_cases hi:i<own
 ·rw[List.getElem?_append_left (by simpa using hi),List.getElem?_replicate] at h;split at h<;>cases h
 ·have hi:own<=i:=il hi;rw[List.getElem?_append_right (by simpa using hi),List.length_replicate,List.getElem?_map] at h;cases hp:pick[i - own]? with
  |none=>rw[hp] at h;cases h
  |some j =>
   rw[hp] at h;simp only[Option.map_some,Option.some.injEq] at h;split at h
   ·rename_i d0 t0 q;cases h;exact⟨rfl,hi,j,t0,rfl,q⟩
   ·cases h
section
variable {K:Frag}{P:Addr->Prop}{env:En}{σ:L2.St}{H:Hp}{F:Nat->List Addr}
theorem RE.picked (re:RE K P env σ H F)(own:Nat)(pick:List Nat):RE K (fun _=>False) (aL env own pick) (fR σ (dG own pick)) H (pX F env own pick) where
 len:=by rw[pL,rm];simp[dG]
 val:=fun i d t h=>by
  obtain⟨rfl,hi,j,t0,hp,he⟩:=gO h;obtain⟨v,e,r⟩:=re.val j d t0 he;refine⟨v,?_,?_⟩
  ·unfold fR dG;rw[List.getElem?_map,List.getElem?_append_right (by simpa using hi),List.length_replicate,List.getElem?_map,hp];simp[e]
  ·unfold pX;rw[h,hp];exact r
 emp:=fun i h=>by
  unfold pX;split
  ·rename_i p q;exact absurd q (h p.1 p.2)
  ·rfl
 one:=fun i d t h o=>by
  obtain⟨rfl,_⟩:=gO h;cases o
 wr:=fun i d h=>by
  obtain⟨q,_⟩:=gO h;cases q
 pl:=fun _ h=>h.elim
theorem yH {own:Nat}{pick:List Nat}{i:Nat}{a:Addr}(re:RE K P env σ H F)(h:a∈pX F env own pick i):∃ j∈pick,∃ d t,a∈F j/\env[j]? = some (some (d,t)):=by
 unfold pX at h;split at h
 ·rename_i p q;obtain⟨_,hi,j,t0,hp,he⟩:=gO (d:=p.1) (t:=p.2) q;rw[hp] at h;exact⟨j,List.mem_of_getElem? hp,p.1,t0,h,he⟩
 ·cases h
end
def z0 (K:Frag)(T:Tb):rk->TT
 |.none=>fun _ H Q=>Q true H
 |.some c=>qJ K T c
section
variable {X:Cx}{T:Tb}{scope:Scope}{N':List Str}{own:Nat}{pick:List Nat}{t:pE}{it:sO}{c:rk}{e:Ex}
theorem ED {σ:L2.St}{H:Hp}{Q:Bool->Hp->Prop}{P:Addr->Prop}{env:En}{F:Nat->List Addr}{k:Bool}(re:RE X.K P env σ H F)(hk:nX T c env = .ok k)(q:∀ H',aN H H'->Q k H'):z0 X.K T c σ H Q:=by
 cases c with
 |none =>
  unfold nX at hk;cases hk;exact q H (aN.refl _)
 |some c =>
  unfold nX at hk;obtain⟨p,h1,h2⟩:=Rs.bind_ok hk;exact⟨P,env,F,re,p,k,h1,dN h2,q⟩
theorem qL {σ:L2.St}{H:Hp}{Q:VK}(h:tE X.K T (.comp own pick t it c e) σ H Q):wF (dG own pick) (tI X.K T it) (pR X.K t) (z0 X.K T c) (tE X.K T e) σ H Q:=by
 obtain⟨P,env,F,re,p0,hev,k⟩:=h;unfold ev at hev;obtain⟨p,h1,hev⟩:=Rs.bind_ok hev;obtain⟨tot,h2,hev⟩:=Rs.bind_ok hev;have hlim:p.1.length<=lim:=fm fun hn=>by rw[if_neg hn] at hev;cases hev
 rw[if_pos hlim] at hev;cases hev;refine⟨P,env,F,re,p,h1,fun J H1 Gs s1 rt nn wk l hl=>?_⟩;have re1:=re.same s1;have wk:=wk (fun a=>a∈Gs) fun a ha=>ha
 let S0:Addr->Prop:=fun a=>a∈Gs\/∃ j∈pick,∃ d t,a∈F j/\env[j]? = some (some (d,t))
 have S0n:∀ a,S0 a->H1 a≠none:=fun a ha=>by
  rcases ha with ha | ⟨j,_,d,t,m,ej⟩
  ·exact nn a ha
  ·exact re1.nn ej m
 have lS:¬ S0 l:=fun z=>S0n l z hl
 refine⟨fun i m H2=>m=p.1.length - i/\i<=p.1.length/\∃(acc rest:List (D×Rt)) (vs:List V) (G:List Addr),dY (fun d=>bH (aX [] t d (aL env own pick)) (nX T c) (ev T e)) (p.1.drop i) = .ok rest/\tot=acc++rest/\acc.length<=i/\H2 l=some (.lst vs)/\aK X.K H2 (acc.map (·.1)) vs G/\aN H1 H2/\l∉G /\
  (∀ a∈G,H1 a=none\/S0 a)/\(acc.all (fun q=>q.1.flat || fJ q.2)=true->G.Nodup/\∀ a∈G,H1 a=none/\∃ ws:ML,H2 a=some ws.o),?_,?_⟩
 ·refine⟨p.1.length,by simp,Nat.zero_le _,[],tot,[],[],by simpa using h2,rfl,Nat.le_refl _,bG,.nil,aN.new hl,by simp,fun _ h=>(nomatch h),fun _=>⟨List.nodup_nil,fun _ h=>(nomatch h)⟩⟩
 ·rintro i m H2 ⟨rfl,hi,acc,rest,vs,G,hgo,htot,hacc,hl2,rs,s2,hlG,hG,hfr⟩;obtain⟨w1,w2⟩:=wk H2 (k7.of_same (fun a ha=>nn a ha) s2);by_cases hlt:i<p.1.length
  ·right;have hd:p.1[i]? = some p.1[i]:=by simp[hlt]
   obtain⟨g1,g2⟩:=w1 i _ hd;refine⟨g1,fun H3=>i+1<=p.1.length/\∃(acc rest:List (D×Rt)) (vs:List V) (G:List Addr),dY (fun d=>bH (aX [] t d (aL env own pick)) (nX T c) (ev T e)) (p.1.drop (i+1)) = .ok rest/\tot=acc++rest/\acc.length<=i+1/\H3 l=some (.lst vs)/\aK X.K H3 (acc.map (·.1)) vs G/\aN H1 H3/\l∉G /\
    (∀ a∈G,H1 a=none\/S0 a)/\(acc.all (fun q=>q.1.flat || fJ q.2)=true->G.Nodup/\∀ a∈G,H1 a=none/\∃ ws:ML,H3 a=some ws.o),fun H3 q=>⟨p.1.length - (i+1),by omega,rfl,q⟩,fun x H3 y=>?_⟩
   obtain⟨s3,G3,rp3,sub3⟩:=g2 x H3 y;rw[ja hlt] at hgo;unfold dY at hgo;obtain⟨o,hstep,hgo⟩:=Rs.bind_ok hgo;obtain⟨rest',hrest,hgo⟩:=Rs.bind_ok hgo;cases hb:aX [] t p.1[i] (aL env own pick) with
   |none=>rw[hb] at hstep;cases hstep
   |some env4 =>
    rw[hb] at hstep;unfold bH at hstep;obtain⟨kc,hkc,hstep⟩:=Rs.bind_ok hstep;have rep:=(re1.same (s2.trans s3)).picked own pick;let Z:Addr->Prop:=fun a=>S0 a
    have zF:∀ i,∀ a∈pX F env own pick i,Z a:=fun i a ha=>by
     obtain⟨j,hj,d,t,m,ej⟩:=yH (re1.same (s2.trans s3)) ha;exact .inr ⟨j,hj,d,t,m,ej⟩
    refine uK (Z:=Z) rep zF rp3 (fun a ha=>.inl (sub3 a ha)) (fun a ha j d' t' ej o m=>?_) hb fun σ4 F4 re4 z4 _=>?_
    ·obtain⟨rfl,_⟩:=gO ej;cases o
    ·refine ED re4 hkc fun H5 s5=>?_
     have base5:=s2.trans (s3.trans s5);have l5:H5 l=some (.lst vs):=s5 _ _ (s3 _ _ hl2);cases kc with
     |false =>
      show if false=true then _ else _
      rw[if_neg az];simp only[Bool.false_eq_true,if_false] at hstep;cases hstep;cases hgo;refine⟨hlt,acc,rest',vs,G,hrest,htot,Nat.le_succ_of_le hacc,l5,rs.same (s3.trans s5),base5,hlG,hG,fun f=>?_⟩;obtain⟨n1,n2⟩:=hfr f;exact⟨n1,fun a ha=>⟨(n2 a ha).1,let ⟨ws,q⟩:=(n2 a ha).2;⟨ws,s5 _ _ (s3 _ _ q)⟩⟩⟩
     |true =>
      show if true=true then _ else _
      rw[if_pos rfl];simp only[if_true] at hstep;obtain⟨q,hq,hstep⟩:=Rs.bind_ok hstep;cases hstep;cases hgo;refine⟨_,env4,F4,re4.same s5,q,hq,fun yv H6 Gy s6 rpy rty=>?_⟩;have l6:H6 l=some (.lst vs):=s6 _ _ l5;have base6:=base5.trans s6;have old6:=s3.trans (s5.trans s6);have yS:∀ a∈Gy,H5 a=none\/S0 a:=fun a ha=>(rty.cont a ha).imp id fun ⟨i,d,t,m,_⟩=>z4 i a m
      have ly:l∉Gy:=fun z=>by
       rcases yS l z with q | q
       ·rw[l5] at q;cases q
       ·exact lS q
      have len6:vs.length=acc.length:=by have:=rs.len;rw[aj] at this;exact this.symm
      refine⟨vs,l6,Nat.lt_of_le_of_lt (Nat.le_trans (Nat.le_of_eq len6) (Nat.le_trans hacc (Nat.le_of_lt (Nat.lt_of_lt_of_le hlt hlim)))) (by decide),hlt,acc ++ [q],rest',vs ++ [yv],G++(Gy ++ []),hrest,by rw[htot];simp,by simp;exact hacc,bG,?_,?_,?_,?_,?_⟩
      ·rw[jm];exact (aK.append (rs.same old6) (.cons rpy .nil)).upd l6 (by simp;exact⟨hlG,ly⟩)
      ·intro b o e;rw[aP (fun z=>by subst z;rw[hl] at e;cases e)];exact base6 _ _ e
      ·simp;exact⟨hlG,ly⟩
      ·intro a ha;rw[cg] at ha;rcases List.mem_append.mp ha with ha | ha
       ·exact hG a ha
       ·exact (yS a ha).imp (aN.no base5) id
      ·intro f;rw[List.all_append,ai] at f;obtain⟨n1,n2⟩:=hfr f.1;have fy:Gy.Nodup/\∀ a∈Gy,H5 a=none/\∃ ws:ML,H6 a=some ws.o:=by
        have f2:q.1.flat=true\/fJ q.2=true:=by simpa using f.2
        rcases f2 with f2 | f2
        ·rw[rpy.flat f2];exact⟨bq,fun _ h=>(nomatch h)⟩
        ·have:q.2 = .mv []:=by
          cases hr:q.2 with
          |sh R=>rw[hr] at f2;cases f2
          |mv R=>cases R with
           |nil=>rfl
           |cons a b=>rw[hr] at f2;cases f2
         obtain⟨m1,m2,m3⟩:=rty.mv [] this;refine⟨m1,fun a ha=>⟨?_,m2 a ha⟩⟩;rcases m3 a ha with z | ⟨_,_,_,z,_⟩
         ·exact z
         ·cases z
       rw[cg];refine⟨jc.mpr ⟨n1,fy.1,fun a ha b hb z=>?_⟩,fun a ha=>?_⟩
       ·subst z;obtain⟨_,ws,w⟩:=n2 a ha;have:=s5 _ _ (s3 _ _ w);rw[(fy.2 a hb).1] at this;cases this
       ·have ne:a≠l:=fun z=>by
         subst z;rcases List.mem_append.mp ha with ha | ha
         ·exact hlG ha
         ·exact ly ha
        rcases List.mem_append.mp ha with ha | ha
        ·obtain⟨u1,ws,w⟩:=n2 a ha;exact⟨u1,ws,by rw[aP ne];exact old6 _ _ w⟩
        ·obtain⟨u1,ws,w⟩:=fy.2 a ha;exact⟨aN.no base5 u1,ws,by rw[aP ne];exact w⟩
  ·left;have ei:i=p.1.length:=by omega
   subst ei;refine⟨w2,?_⟩;rw[List.drop_length] at hgo;unfold dY at hgo;cases hgo;rw[cg] at htot;subst htot;refine k _ H2 (l::G) (s1.trans s2) (.lst (.inl hl2) rs) ?_;have hl0:=aN.no s1 hl;cases hf:tot.all (fun q=>q.1.flat || fJ q.2) with
   |true =>
    obtain⟨n1,n2⟩:=hfr hf;have new:∀ a∈l::G,H a=none:=fun a ha=>by
     rcases dw.mp ha with rfl | ha
     ·exact hl0
     ·exact aN.no s1 (n2 a ha).1
    refine⟨fun a ha=>.inl (new a ha),fun R e=>⟨jk.mpr ⟨hlG,n1⟩,fun a ha=>?_,fun a ha=>.inl (new a ha)⟩⟩;rcases dw.mp ha with rfl | ha
    ·exact⟨.l _,hl2⟩
    ·exact (n2 a ha).2
   |false =>
    refine⟨fun a ha=>?_,fun R e=>by cases e⟩;rcases dw.mp ha with rfl | ha
    ·exact .inl hl0
    ·rcases hG a ha with q | q | ⟨j,hj,d,t,m,ej⟩
     ·exact .inl (aN.no s1 q)
     ·exact (rt.cont a q).imp id fun ⟨i,d,t,x,y,z⟩=>⟨i,d,t,x,y,fun r hr=>aw _ (z r hr)⟩
     ·refine .inr ⟨j,d,t,m,ej,fun r hr=>ak _ ?_⟩;unfold qZ;rw[List.mem_flatten];exact⟨bN j t,List.mem_map.mpr ⟨j,hj,by rw[ej]⟩,hr⟩
theorem mQ {K:Frag}{t:pE}{pk:List (Option Nat)}(ht:∀ i,(t = .nm i\/∃ is,t = .tp is/\i∈is)->pk[i]? = some none)(v:V)(σ:L2.St)(H:Hp)(Q:L2.St->Hp->Prop)(h:pR K t v σ H Q) :
  pR K t v σ H fun σ' H'=>Q σ' H'/\σ'.length=σ.length/\∀(i:Nat) u,pk[i]?≠some none->σ[i]? = some u->σ'[i]? = some u:=by
 cases t with
 |nm i=>exact⟨h,by simp,fun j u hj e=>by rw[List.getElem?_set_ne];exact e;rintro rfl;exact hj (ht i (.inl rfl))⟩
 |tp is =>
  obtain⟨a,xs,e1,e2,e3,h⟩:=h;refine⟨a,xs,e1,e2,e3,?_⟩;have gen:∀(is:List Nat) (xs:List V) (σ1:L2.St),(∀ i∈is,pk[i]? = some none)->σ1.length=σ.length->(∀(i:Nat) u,pk[i]?≠some none->σ[i]? = some u->σ1[i]? = some u)->jE is xs σ1 H Q->jE is xs σ1 H fun σ' H'=>Q σ' H'/\σ'.length=σ.length/\∀(i:Nat) u,pk[i]?≠some none->σ[i]? = some u->σ'[i]? = some u:=by
   intro is
   induction is with
   |nil=>intro xs σ1 _ hl hk h;exact⟨h.1,h.2,hl,hk⟩
   |cons j js ih =>
    intro xs σ1 hi hl hk h;obtain⟨v,r,e,h⟩:=h;refine⟨v,r,e,ih r (σ1.set j (some v)) (fun i hm=>hi i (List.mem_cons_of_mem _ hm)) (by simp[hl]) (fun i u hi' e'=>?_) h⟩;rw[List.getElem?_set_ne];exact hk i u hi' e';rintro rfl;exact hi' (hi j ae)
  exact gen is xs σ (fun i hm=>ht i (.inr ⟨is,rfl,hm⟩)) rfl (fun _ _ _ e=>e) h
end
def l7 (K:Frag)(T:Tb)(x:Nat)(path:rk):TE:=fun σ H Q=>∃ P env F po v p,RE K P env σ H F/\pK T path env = .ok po/\σ[x]? = some (some v)/\PV K H v po p/\∀ H',aN H H'->Q (.ref p) H'
section
variable {X:Cx}{T:Tb}{pos:Pos}{i:Nat}{x:Str}
theorem Fe (hN:X.N[i]? = some x)(hv:D2 X.env.scope x)(hd:(x==("__debug__" : Str))=false) (hcd:(x==("__classdict__" : Str))=false):PE X (.Name x pos) (l7 X.K T i .none):=by
 refine cD (kf hN hv hd hcd) fun σ H Q ⟨P,env,F,po,v,p,re,hpo,hv,pv,k⟩=>?_
 unfold pK at hpo;cases hpo;cases pv;exact⟨_,hv,k H (aN.refl _)⟩
end
def Hk (K:Frag)(m:Dp):V->List V->Hp->VK->Prop:=fun x vs H Q=>∃ l ws xs ds Gx G ys,x = .ref l/\H l=some (.lst ws)/\aK K H xs ws Gx/\aK K H ds vs G/\mutD m xs ds=some ys/\ys.length<=lim/\l∉Gx/\l∉G/\Gx.Nodup /\
 ∀ us Gy v,aK K (upd H l (.lst us)) ys us Gy->(∀ a∈Gy,a∈Gx\/(m.copies=false/\a∈G))->((∀ a∈Gx,a∉G)->G.Nodup\/m.copies=true->Gy.Nodup)->Q v (upd H l (.lst us))
section
variable {X:Cx}
theorem vC:HI X "list.append" (Hk X.K .append):=by
 intro pins s σ H x vs v us Q I rx rv h;obtain⟨l,ws,xs,ds,Gx,G,ys,rfl,hl,r1,r2,hm,hlen,n1,n2,nd,k⟩:=h
 match ds,hm with
 |[d],hm =>
  cases hm;obtain⟨y,rfl,rp⟩:=r2.of1;refine qq pins s σ H _ _ v us Q I rx rv ⟨l,ws,y,rfl,rfl,hl,?_,k (ws ++ [y]) (Gx++(G ++ [])) _ ?_ (fun a ha=>?_) fun dj o=>?_⟩
  ·rw[<-r1.len];simp only[List.length_append,List.length_singleton] at hlen;exact av (av (Nat.lt_succ_self _) hlen) u9
  ·exact (r1.append (.cons rp .nil)).upd hl (by simp;exact⟨n1,n2⟩)
  ·simp at ha;exact ha.imp id fun z=>⟨rfl,z⟩
  ·rcases o with o | o
   ·rw[cg];exact jc.mpr ⟨nd,o,fun a ha b hb z=>by subst z;exact dj a ha hb⟩
   ·cases o
theorem aK.erase {K:Frag}{H:Hp}:∀{xs:List Pc.D}{ws:List V}{G:List Addr}{j:Nat}{r:Pc.D},aK K H xs ws G->xs[j]? = some r->∃ u B A,ws[j]? = some u/\Rep K H r u B/\aK K H (xs.eraseIdx j) (ws.eraseIdx j) A/\List.Perm G (B++A)
 |_,_,_,_,_,.nil,e=>by simp at e
 | _,_,_,0,_,.cons (G:=G) (G':=G') h r,e=>by
  simp at e;subst e;exact⟨_,G,G',rfl,h,r,.refl _⟩
 | _,_,_,j+1,d,.cons (G:=G) (G':=G') h r,e=>by
  obtain⟨u,B,A,e1,e2,e3,e4⟩:=aK.erase (j:=j) r (by simpa using e);refine⟨u,B,G++A,by simpa using e1,e2,.cons h e3,?_⟩;refine (List.Perm.append_left G e4).trans ?_;rw[<-fe,<-fe];exact List.Perm.append_right A List.perm_append_comm
def qw (K:Frag):V->List V->Hp->VK->Prop:=fun x vs H Q=>∃ l ws xs ds Gx G q,x = .ref l/\H l=some (.lst ws)/\aK K H xs ws Gx/\aK K H ds vs G/\kZ xs ds=some q/\l∉Gx/\Gx.Nodup /\
 ∀ w us Gy,Rep K (upd H l (.lst us)) q.1 w []->aK K (upd H l (.lst us)) q.2 us Gy->(∀ a∈Gy,a∈Gx)->Gy.Nodup->Q w (upd H l (.lst us))
theorem pj {K:Frag}{H:Hp}{xs:List Pc.D}{ws:List V}{Gx:List Addr}{j:Nat}{q:Pc.D×List Pc.D}{l:Addr}(hl:H l=some (.lst ws))(r1:aK K H xs ws Gx)(n1:l∉Gx)(nd:Gx.Nodup)(hp:kF xs j=some q) :
  ∃ u Gy,ws[j]? = some u/\Rep K (upd H l (.lst (ws.eraseIdx j))) q.1 u []/\aK K (upd H l (.lst (ws.eraseIdx j))) q.2 (ws.eraseIdx j) Gy/\(∀ a∈Gy,a∈Gx)/\Gy.Nodup:=by
 unfold kF at hp;cases hj:xs[j]? with
 |none=>rw[hj] at hp;cases hp
 |some r =>
  rw[hj] at hp;by_cases hf:r.flat=true
  ·simp only[hf,if_true] at hp;cases hp;obtain⟨u,B,A,e1,e2,e3,e4⟩:=r1.erase hj;have eb:=e2.flat hf;subst eb;exact⟨u,A,e1,e2.upd hl (by simp),e3.upd hl (fun z=>n1 (e4.symm.subset z)),fun a ha=>e4.symm.subset ha,e4.nodup_iff.mp nd⟩
  ·simp only[hf,if_false] at hp;cases hp
theorem zY (n:Nat)(i:Int){j:Nat}(h:Pc.nt n i=some j):seqIndex? i n=some j:=by
 unfold Pc.nt at h;unfold seqIndex?;by_cases h0:0<=i
 ·rw[if_pos h0] at h;by_cases h1:i<n
  ·rw[if_pos h1] at h;cases h;have:¬ i<0:=by omega
   simp[this];omega
  ·rw[if_neg h1] at h;cases h
 ·rw[if_neg h0] at h;by_cases h1 : -(n:Int)<=i
  ·rw[if_pos h1] at h;cases h;have:i<0:=by omega
   simp[this];omega
  ·rw[if_neg h1] at h;cases h
theorem sJ:HI X "list.pop" (qw X.K):=by
 intro pins s σ H x vs v us Q I rx rv h;obtain⟨l,ws,xs,ds,Gx,G,q,rfl,hl,r1,r2,hm,n1,nd,k⟩:=h
 match ds,hm with
 |[],hm =>
  cases r2;obtain⟨u,Gy,e1,e2,e3,e4,e5⟩:=pj hl r1 n1 nd hm;rw[r1.len] at e1 e2 e3;have kk:=k u _ Gy e2 e3 e4 e5;rw[oE] at kk;exact Er pins s σ H _ _ v us Q I rx rv ⟨l,ws,u,rfl,rfl,hl,e1,kk⟩
 |[.int i],hm =>
  simp only[kZ] at hm;by_cases hi : -(2 ^ 63)<=i/\i<2 ^ 63
  ·rw[if_pos hi,ah] at hm;obtain⟨j,hj,hm⟩:=hm;obtain⟨y,rfl,rp⟩:=r2.of1;obtain⟨rfl,_⟩:=rp.int_inv;obtain⟨u,Gy,e1,e2,e3,e4,e5⟩:=pj hl r1 n1 nd hm;rw[r1.len] at hj;exact AW pins s σ H _ _ v us Q I rx rv ⟨l,ws,i,j,u,rfl,rfl,hl,hi.1,hi.2,zY _ _ hj,e1,k u _ Gy e2 e3 e4 e5⟩
  ·rw[if_neg hi] at hm;cases hm
theorem Bg {T:Tb}{i y:Nat}{cs:nJ}{D:Ends}{σ:L2.St}{H:Hp}(h:tS X.K T (.popa y i cs) D σ H):pO (GS X.K "list" (qw X.K) (l7 X.K T i .none) (tD X.K T cs)) (jI y) D σ H:=by
 obtain⟨P,Z,env,F,re,hz,zp,h⟩:=h;unfold bI at h;cases hx:ownAt env i with
 |none=>rw[hx] at h;exact h.elim
 |some d =>
  rw[hx] at h;simp only at h;cases hat:d.at1 none with
  |none=>rw[hat] at h;exact h.elim
  |some xs =>
   rw[hat] at h;obtain⟨l,hl,h⟩:=cX h;cases hm:kZ xs (l.map (·.1)) with
   |none=>rw[hm] at h;exact h.elim
   |some q =>
    rw[hm] at h;simp only at h;have hx':=dD hx;obtain⟨v,hv,_⟩:=re.val i d .own hx';obtain⟨p,pv,f⟩:=fY re hx hv hat;refine⟨P,env,F,none,v,p,re,rfl,hv,pv,fun H1 s1=>?_⟩;obtain⟨ws1,g1,e1,_⟩:=f H1 s1;refine⟨.inl ⟨rfl,ws1,.inl (.inl e1)⟩,P,env,F,re.same s1,l,hl,fun vs H2 G ar=>?_⟩;have s2:=s1.trans ar.same;obtain⟨ws,Gx,a1,a2,a3,a4,a5,a6,fs⟩:=f H2 s2;refine⟨p,ws,xs,l.map (·.1),Gx,G,q,rfl,a1,a2,ar.reps,hm,a6,a5,fun w us Gy eY rs sub nd=>?_⟩;cases hmt:cH i none env d q.2 [] with
    |nx env' =>
     rw[hmt] at h;have h:post X.K P Z env F H D (jM (.nm y) false env' (q.1,.mv [])):=h;have key:=jV (K:=X.K) (P:=P) (Z:=Z) (D:=⟨fun σ' H'=>∃ F',After X.K P Z env F H env' σ' H' F',fun _ _=>True,fun _ _=>True,fun _ _=>True⟩) (N:=[]) (us:=us) re hz zp s2 hx hv a3 (fun R hR ndR=>⟨bq,fun _ h=>(nomatch h),fun _ h=>(nomatch h)⟩) (fun hN hNd=>by
      obtain⟨G',b1,b2,b3⟩:=fs q.2 us Gy rs nd (fun z=>a6 (sub p z)) fun a ha=>.inl (sub a ha)
      exact⟨G',b1,b2,fun a ha=>.inl ((b3 a ha).elim id fun z=>a4 a (sub a z))⟩) (by rw[hmt];exact fun σ' H' F' af=>⟨F',af⟩)
     obtain⟨F',af⟩:=key;exact rT af.re af.z zp (aN.refl _) eY bY.nil (post.trans af h)
    |rt a b=>rw[hmt] at h;unfold cH at hmt;split at hmt<;>(try split at hmt)<;>cases hmt
    |bk a=>unfold cH at hmt;split at hmt<;>(try split at hmt)<;>cases hmt
    |ct a=>unfold cH at hmt;split at hmt<;>(try split at hmt)<;>cases hmt
    |xc a b=>rw[hmt] at h;exact h.elim
    |bad=>rw[hmt] at h;exact h.elim
theorem tH {x:Nat}{p:Option Int}{env:En}{d:D}{ys:List D}{rs:List Rt}:(∃ e,cH x p env d ys rs = .nx e)\/cH x p env d ys rs = .bad:=by
 unfold cH;split
 ·exact .inr rfl
 ·split
  ·exact .inl ⟨_,rfl⟩
  ·exact .inr rfl
theorem xT {T:Tb}{i y:Nat}{cs:nJ}{D:Ends}{σ:L2.St}{H:Hp}(h:tS X.K T (.apop y i cs) D σ H):DF (GS X.K "list" (Hk X.K .append) (l7 X.K T y .none) (dI (GS X.K "list" (qw X.K) (l7 X.K T i .none) (tD X.K T cs)) pJ)) D σ H:=by
 obtain⟨P,Z,env,F,re,hz,zp,h⟩:=h;unfold bI at h;by_cases hyi:y=i
 ·rw[if_pos hyi] at h;exact h.elim
 rw[if_neg hyi] at h;cases hx:ownAt env i with
 |none=>rw[hx] at h;exact h.elim
 |some d =>
  rw[hx] at h;simp only at h;cases hat:d.at1 none with
  |none=>rw[hat] at h;exact h.elim
  |some xs =>
   rw[hat] at h;obtain⟨l,hl,h⟩:=cX h;cases hm:kZ xs (l.map (·.1)) with
   |none=>rw[hm] at h;exact h.elim
   |some q =>
    rw[hm] at h;simp only at h;rcases tH (x:=i) (p:=none) (env:=env) (d:=d) (ys:=q.2) (rs:=[]) with ⟨env',hmt⟩ | hmt
    rotate_left
    ·rw[hmt] at h;exact h.elim
    rw[hmt] at h;have h:post X.K P Z env F H D (match ownAt env' y with
     |none=>.bad
     |some dy=>(match dy.at1 none with
      |none=>.bad
      |some ys=>cH y none env' dy (ys ++ [q.1]) [])):=h
    cases hy:ownAt env' y with
    |none=>rw[hy] at h;exact h.elim
    |some dy =>
     rw[hy] at h;simp only at h;cases haty:dy.at1 none with
     |none=>rw[haty] at h;exact h.elim
     |some ys =>
      rw[haty] at h;simp only at h;have hx':=dD hx;have hy':=dD hy;have hy0:ownAt env y=some dy:=by
       unfold cH at hmt;split at hmt
       ·cases hmt
       ·split at hmt
        ·cases hmt;rw[List.getElem?_set_ne (cm hyi)] at hy';unfold ownAt;rw[(cQ hy').1]
        ·cases hmt
      have hy0':=dD hy0;obtain⟨vy,hvy,_⟩:=re.val y dy .own hy0';obtain⟨py,pvy,fy⟩:=fY re hy0 hvy haty;obtain⟨v,hv,_⟩:=re.val i d .own hx';obtain⟨p,pv,f⟩:=fY re hx hv hat;refine⟨P,env,F,none,vy,py,re,rfl,hvy,pvy,fun Ha sa=>?_⟩;obtain⟨wsa,ga,ea,_⟩:=fy Ha sa;refine⟨.inl ⟨rfl,wsa,.inl (.inl ea)⟩,?_⟩;refine⟨P,env,F,none,v,p,re.same sa,rfl,hv,by cases pv;exact .top _,fun H1 s1'=>?_⟩;have s1:=sa.trans s1';obtain⟨ws1,g1,e1,_⟩:=f H1 s1;refine⟨.inl ⟨rfl,ws1,.inl (.inl e1)⟩,P,env,F,re.same s1,l,hl,fun vs H2 G ar=>?_⟩;have s2:=s1.trans ar.same;obtain⟨ws,Gx,a1,a2,a3,a4,a5,a6,fs⟩:=f H2 s2;refine⟨p,ws,xs,l.map (·.1),Gx,G,q,rfl,a1,a2,ar.reps,hm,a6,a5,fun w us Gy eY rs sub nd=>?_⟩;have key:=jV (K:=X.K) (P:=P) (Z:=Z) (D:=⟨fun σ' H'=>∃ F',After X.K P Z env F H env' σ' H' F',fun _ _=>True,fun _ _=>True,fun _ _=>True⟩) (N:=[]) (us:=us) re hz zp s2 hx hv a3 (fun R hR ndR=>⟨bq,fun _ h=>(nomatch h),fun _ h=>(nomatch h)⟩) (fun hN hNd=>by
       obtain⟨G',b1,b2,b3⟩:=fs q.2 us Gy rs nd (fun z=>a6 (sub p z)) fun a ha=>.inl (sub a ha)
       exact⟨G',b1,b2,fun a ha=>.inl ((b3 a ha).elim id fun z=>a4 a (sub a z))⟩) (by rw[hmt];exact fun σ' H' F' af=>⟨F',af⟩)
      obtain⟨F',af⟩:=key;have hvy':=hvy;obtain⟨py',pvy',fy'⟩:=fY af.re hy hvy haty;obtain⟨ws',Gx',c1,c2,c3,c4,c5,c6,fs'⟩:=fy' _ (aN.refl _);have epy:py'=py:=by cases pvy;cases pvy';rfl
      subst epy;have h':=post.trans af h;refine⟨py',ws',ys,[q.1],Gx',[] ++ [],ys ++ [q.1],rfl,c1,c2,.cons eY .nil,rfl,yy h',c6,fun z=>(nomatch z),c5,fun us' Gy' w' rs' sub' nd'=>?_⟩;refine jV (N:=[]) af.re af.z zp (aN.refl _) hy hvy c3 (fun R hR ndR=>⟨bq,fun _ h=>(nomatch h),fun _ h=>(nomatch h)⟩) (fun hN hNd=>?_) h';have sub2:∀ a∈Gy',a∈Gx':=fun a ha=>(sub' a ha).elim id fun z=>(nomatch z.2)
      obtain⟨G',b1,b2,b3⟩:=fs' (ys ++ [q.1]) us' Gy' rs' (nd' (fun _ _ z=>nomatch z) (.inl bq)) (fun z=>c6 (sub2 _ z)) fun a ha=>.inl (sub2 a ha)
      exact⟨G',b1,b2,fun a ha=>.inl ((b3 a ha).elim id fun z=>c4 a (sub2 a z))⟩
theorem zr {T:Tb}{i:Nat}{path:rk}{c e:Ex}{D:Ends}{σ:L2.St}{H:Hp}(h:tS X.K T (.setix i path c e) D σ H):pO (tE X.K T e) (HB (l7 X.K T i path) (tE X.K T c) DO) D σ H:=by
 obtain⟨P,Z,env,F,re,hz,zp,h⟩:=h;unfold bI at h;cases hx:ownAt env i with
 |none=>rw[hx] at h;exact h.elim
 |some d =>
  rw[hx] at h;obtain⟨q,hq,h⟩:=cX h;obtain⟨po,hpo,h⟩:=cX h;cases hat:d.at1 po with
  |none=>rw[hat] at h;exact h.elim
  |some xs =>
   rw[hat] at h;obtain⟨qi,hqi,h⟩:=cX h;cases hqq:qi.1 with
   |int n =>
    rw[hqq] at h;cases hj:nt xs.length n with
    |none=>simp only[hj] at h;exact h.elim
    |some j =>
     simp only[hj] at h;have hx':=dD hx;obtain⟨v,hv,_⟩:=re.val i d .own hx';refine⟨P,env,F,re,q,hq,fun w H1 G s1 rp rt=>?_⟩;have re1:=re.same s1;obtain⟨p,pv,f⟩:=fY re1 hx hv hat;refine⟨P,env,F,po,v,p,re1,hpo,hv,pv,fun H2 s2=>⟨P,env,F,re1.same s2,qi,hqi,fun wi H3 Gi s3 rpi rti=>?_⟩⟩;rw[hqq] at rpi;obtain⟨rfl,_⟩:=rpi.int_inv;obtain⟨ws,Gx,a1,a2,a3,a4,a5,a6,fs⟩:=f H3 (s2.trans s3);have jl:=ER hj;refine⟨p,ws,n,j,rfl,rfl,a1,by rw[<-a2.len];exact hj,?_⟩;have hroots:∀ R,q.2 = .mv R->i∉R->∀ a∈F i,a∉G:=fun R hr hiR a ha hg=>by
      rcases rt.cont a hg with z | ⟨k,d2,t2,m2,e2,sr⟩
      ·exact re.nn hx' ha z
      ·have:=sr i ((re.one i d .own hx' rfl).2.2 a ha k d2 t2 e2 m2);rw[hr] at this;exact hiR this
     have s13:=s2.trans s3;refine jV (N:=G) re hz zp (s1.trans s13) hx hv a3 (fun R hR ndR=>?_) (fun hN hNd=>?_) h
     ·have hr:q.2 = .mv R:=by
       cases hr:q.2 with
       |sh Q=>rw[hr] at hR;cases hR
       |mv Q=>rw[hr] at hR;simp[fA] at hR;rw[hR]
      obtain⟨n1,n2,n3⟩:=rt.mv R hr;exact⟨n1,fun a ha=>let ⟨ws,z⟩:=n2 a ha;⟨ws,s13 _ _ z⟩,n3⟩
     ·obtain⟨u,A,B,C,e1,e2,r1,g⟩:=a2.split (i:=j) (d:=xs[j]) (List.getElem?_eq_getElem jl);subst e2;have hpG:p∉G:=fun z=>hN p z a3
      have pAC:∀ b∈A++C,b≠p:=fun b hb z=>by
       rw[z] at hb;refine a6 ?_;rcases List.mem_append.mp hb with hb | hb
       ·exact aw _ hb
       ·exact ak _ (ak _ hb)
      have rs:=g (upd H3 p (.lst (ws.set j w))) q.1 w G (fun _ _=>sk a1) (oY (ws:=.l _) a1) (fun b hb _ h=>(aP (pAC b hb)).trans h) ((rp.same s13).upd a1 hpG);have gsub:∀ a∈A++(G++C),a∈A++(B++C)\/a∈G:=fun a ha=>by
       simp only[List.mem_append] at ha ⊢;rcases ha with ha | ha | ha
       ·exact .inl (.inl ha)
       ·exact .inr ha
       ·exact .inl (.inr (.inr ha))
      have ng:(A++(G++C)).Nodup:=by
       rw[jc] at a5;obtain⟨nA,nB,nAB⟩:=a5;rw[jc] at nB;obtain⟨_,nC,_⟩:=nB;rw[jc];refine⟨nA,jc.mpr ⟨hNd,nC,fun a ha b hb z=>?_⟩,fun a ha b hb z=>?_⟩
       ·subst z;exact hN a ha (a4 a (by simp[hb]))
       ·subst z;rcases List.mem_append.mp hb with hb | hb
        ·exact hN a hb (a4 a (by simp[ha]))
        ·exact nAB a ha a (by simp[hb]) rfl
      obtain⟨G',b1,b2,b3⟩:=fs (xs.set j q.1) (ws.set j w) _ rs ng (fun z=>(gsub p z).elim a6 hpG) fun a ha=>(gsub a ha).imp id fun z y=>hN a z y
      refine⟨G',b1,b2,fun a ha=>?_⟩;rcases b3 a ha with z | z
      ·exact .inl z
      ·exact (gsub a z).imp (a4 a) id
   |_=>rw[hqq] at h;exact h.elim
end
section
variable {X:Cx}
noncomputable def kB:List String:=["int","bool","str","list","tuple"]
theorem ty_type {T:String}(h:T∈kB):typeOf (.type T)=pure (.type "type"):=by
 simp only[kB,List.mem_cons,List.not_mem_nil,or_false] at h;rcases h with rfl | rfl | rfl | rfl | rfl<;>kernel_rfl
def IA (K:Frag):List V->Hp->VK->Prop:=fun xs H Q=>∃ x T d G,xs=[x,.ty T]/\T∈kB/\Rep K H d x G/\Q (.bl (AR T d)) H
theorem mJ:jK X (.builtin "isinstance") (IA X.K):=by
 intro pins s σ H xs us Q I r h;obtain⟨x,T,d,G,rfl,hT,rp,q⟩:=h;obtain⟨u,w,rfl,rx,rt⟩:=r.two;obtain rfl:w=Value.type T:=rt;have hty:=ty_type hT;have yes:∀{Tx:String},s.TypeIs u Tx->isSubtype (.type Tx) (.type T)=pure true->AR T d=true->wpAny (model X.prog X.w) X.A (call (.builtin "isinstance") [u,.type T]) (EP X pins σ Q) X.xe s:=fun h1 h2 h3 =>
  call_isinstance (isinstance_true hty h2) ⟨h1,⟨.bl true,H,I,rfl,by rw[h3] at q;exact q⟩⟩
 have no:AR T d=false->EP X pins σ Q (.bool false) {s with toks:=s.toks+1}:=fun h=>⟨.bl false,H,I.tok _,rfl,by rw[h] at q;exact q⟩
 simp only[kB,List.mem_cons,List.not_mem_nil,or_false] at hT;cases d with
 |non =>
  obtain⟨rfl,_⟩:=rp.non_inv;cases rx;rcases hT with rfl | rfl | rfl | rfl | rfl
  ·exact call_isinstance (isinstance_false_none (by decide) hty F.sub_NoneType_int) (no rfl)
  ·exact call_isinstance (isinstance_false_none (by decide) hty F.sub_NoneType_bool) (no rfl)
  ·exact call_isinstance (isinstance_false_none (by decide) hty F.sub_NoneType_str) (no rfl)
  ·exact call_isinstance (isinstance_false_none (by decide) hty F.sub_NoneType_list) (no rfl)
  ·exact call_isinstance (isinstance_false_none (by decide) hty F.sub_NoneType_tuple) (no rfl)
 |bl b =>
  obtain⟨rfl,_⟩:=rp.bl_inv;cases rx;rcases hT with rfl | rfl | rfl | rfl | rfl
  ·exact yes (PySem.typeIs_bool s b) F.sub_bool_int rfl
  ·exact yes (PySem.typeIs_bool s b) F.sub_bool_bool rfl
  ·exact call_isinstance (isinstance_false_bool (by decide) hty F.sub_bool_str) (no rfl)
  ·exact call_isinstance (isinstance_false_bool (by decide) hty F.sub_bool_list) (no rfl)
  ·exact call_isinstance (isinstance_false_bool (by decide) hty F.sub_bool_tuple) (no rfl)
 |int i =>
  obtain⟨rfl,_⟩:=rp.int_inv;obtain⟨t,rfl⟩:=rx;rcases hT with rfl | rfl | rfl | rfl | rfl
  ·exact yes (typeIs_int s i t) F.sub_int_int rfl
  ·exact call_isinstance (isinstance_false_int (by decide) hty F.sub_int_bool) (no rfl)
  ·exact call_isinstance (isinstance_false_int (by decide) hty F.sub_int_str) (no rfl)
  ·exact call_isinstance (isinstance_false_int (by decide) hty F.sub_int_list) (no rfl)
  ·exact call_isinstance (isinstance_false_int (by decide) hty F.sub_int_tuple) (no rfl)
 |lst ds =>
  obtain⟨p,vs,g,rfl,_,a1,_⟩:=rp.lst_inv;cases rx;obtain⟨its,_,pl,_⟩:=I.list (.inl a1);obtain⟨o,ho,hc,_⟩:=pl.isList;rcases hT with rfl | rfl | rfl | rfl | rfl
  ·exact call_isinstance (isinstance_false_list (by decide) hty F.sub_list_int) ⟨⟨o,ho,hc⟩,no rfl⟩
  ·exact call_isinstance (isinstance_false_list (by decide) hty F.sub_list_bool) ⟨⟨o,ho,hc⟩,no rfl⟩
  ·exact call_isinstance (isinstance_false_list (by decide) hty F.sub_list_str) ⟨⟨o,ho,hc⟩,no rfl⟩
  ·exact yes ⟨o,ho,hc⟩ F.sub_list_list rfl
  ·exact call_isinstance (isinstance_false_list (by decide) hty F.sub_list_tuple) ⟨⟨o,ho,hc⟩,no rfl⟩
 |tup ds =>
  obtain⟨p,vs,rfl,a1,_⟩:=rp.tup_inv;cases rx;obtain⟨its,_,pl,_⟩:=I.tuple a1;obtain⟨o,ho,hc,_⟩:=pl;rcases hT with rfl | rfl | rfl | rfl | rfl
  ·exact call_isinstance (isinstance_false_tuple (by decide) hty F.sub_tuple_int) ⟨⟨o,ho,hc⟩,no rfl⟩
  ·exact call_isinstance (isinstance_false_tuple (by decide) hty F.sub_tuple_bool) ⟨⟨o,ho,hc⟩,no rfl⟩
  ·exact call_isinstance (isinstance_false_tuple (by decide) hty F.sub_tuple_str) ⟨⟨o,ho,hc⟩,no rfl⟩
  ·exact call_isinstance (isinstance_false_tuple (by decide) hty F.sub_tuple_list) ⟨⟨o,ho,hc⟩,no rfl⟩
  ·exact yes ⟨o,ho,hc⟩ F.sub_tuple_tuple rfl
theorem Be {T:Tb}{b:String}{c:Ex}{σ:L2.St}{H:Hp}{Q:VK}(hb:b∈kB)(h:tE X.K T (.blt (.isi b) (.cons c .nil)) σ H Q):E9 (IA X.K) (dI (tE X.K T c) (dI (tC (.ty b)) pJ)) σ H Q:=by
 obtain⟨P,env,F,re,p,hev,k⟩:=h;unfold ev bQ bQ at hev;obtain⟨l,h1,hev⟩:=Rs.bind_ok hev;obtain⟨q,h2,h1⟩:=Rs.bind_ok h1;cases h1;obtain⟨d',h3,hev⟩:=Rs.bind_ok hev;have h3:nj (.isi b) [q.1]=some d':=dN h3;have hd:d' = .bl (AR b q.1):=by
  cases h3;rfl
 subst hd;cases hev;exact⟨P,env,F,re,q,h2,fun v H1 G s rp rt=>⟨v,b,q.1,G,rfl,hb,rp,k _ H1 [] s (.bl _) bY.nil⟩⟩
theorem ue:∀{r:List D},r.all D.isBl=true->∃ bs:List Bool,r=bs.map D.bl
 |[],_=>⟨[],rfl⟩
 | x::r,ha=>by
  rw[dk,ai] at ha;obtain⟨bs,rfl⟩:=ue ha.2;cases x with
  |bl c=>exact⟨c::bs,rfl⟩
  |_=>cases ha.1
theorem all_range (bs:List Bool):(List.range bs.length).all (fun i=>bs[i]?.getD true)=bs.all id:=by
 rw[eo,bw,bw];constructor
 ·intro h x hx;obtain⟨i,hi,rfl⟩:=List.mem_iff_getElem.mp hx;have:=h i (by simpa using hi);simpa[hi] using this
 ·intro h i hi;have hi:i<bs.length:=by simpa using hi
  simpa[hi] using h bs[i] (List.getElem_mem hi)
theorem oq:∀{ds:List D}{b:Bool},allB ds=some b->ds.all D.isBl=true->∃ bs:List Bool,ds=bs.map D.bl/\b=bs.all id
 |[],b,h,_=>by cases h;exact⟨[],rfl,rfl⟩
 | .bl c::r,b,h,ha=>by
  have ha':r.all D.isBl=true:=by simpa[D.isBl] using ha
  cases c with
  |false =>
   cases h;have:=ue ha';obtain⟨bs,rfl⟩:=this;exact⟨false::bs,rfl,by simp⟩
  |true =>
   obtain⟨bs,rfl,rfl⟩:=oq (ds:=r) h ha';exact⟨true::bs,rfl,by simp⟩
 |.non::r,b,h,_=>by cases h
 |.int _::r,b,h,_=>by cases h
 |.lst _::r,b,h,_=>by cases h
 |.tup _::r,b,h,_=>by cases h
theorem oR {K:Frag}{H:Hp}:∀{bs:List Bool}{vs:List V}{G:List Addr}{us:List Value},aK K H (bs.map D.bl) vs G->aR vs us->us=bs.map Value.bool
 |[],_,_,_,.nil,.nil=>rfl
 | b::bs,_,_,_,.cons h r,.cons x y=>by
  obtain⟨rfl,_⟩:=h.bl_inv;cases x;rw[ay,<-oR r y]
theorem xQ (hc:X.calm=true):jK X (.builtin "all") (vJ X.K .all):=by
 intro pins s σ H xs us Q I r h;obtain⟨ds,d,G,rs,hd,k⟩:=h
 match ds,hd with
 |[.lst ys],hd =>
  simp only[nj,DW] at hd;by_cases hb:ys.all D.isBl=true
  ·rw[if_pos hb,ag] at hd;obtain⟨b,hb',rfl⟩:=hd;obtain⟨bs,rfl,rfl⟩:=oq hb' hb;obtain⟨x,rfl,rp⟩:=rs.of1;obtain⟨p,vs,g,rfl,rfl,a1,a2⟩:=rp.lst_inv;obtain⟨u,rfl,ru⟩:=r.one;cases ru;obtain⟨its,rv,pl,_⟩:=I.list (.inl a1);have ei:=oR a2 rv;subst ei;have hlt:p<s.heap.objs.size:=by
    obtain⟨o,ho,_⟩:=pl.isList;exact Heap.lt_size ho
   refine call_all_walk (wpAny_pyIter_list pl.isList ⟨s.heap.objs.size,[s.heap.objs.size,p],[s.heap.objs.size],(bs.map Value.bool).toArray.size,_,_,fun i=>bs[i]?.getD true,rfl,Walks.list (A:=X.A.in1) (show X.A.in1.handled=none from I.ok.hd hc) s.heap.objs.size p (bu hlt) (bs.map Value.bool).toArray,⟨⟨_,Heap.get?_push_size _ rfl,rfl,rfl⟩,pl.isList.at fun o e=>Heap.get?_push_of_some _ e⟩,fun i v s' Q' E' hP hQ=>?_,fun h' tk hk=>?_⟩)
   ·have hP:(bs.map Value.bool).toArray[i]? = some v:=hP;rw[List.getElem?_toArray,List.getElem?_map,ag] at hP;obtain⟨b,e1,rfl⟩:=hP;have hQ:Q' (bs[i]?.getD true) s':=hQ;rw[e1] at hQ;exact wpAny_truthy_bool hQ
   ·have e:(List.range (bs.map Value.bool).toArray.size).all (fun i=>bs[i]?.getD true)=bs.all id:=by
     simp only[List.size_toArray,List.length_map];exact all_range bs
    rw[e];refine⟨.bl (bs.all id),H,?_,rfl,k _ H [] (.bl _) m8.nil⟩;have I1:Inv X pins σ H {s with heap:=s.heap.push {cls:=.type "list_iterator",data:=.fields #[.ref p,.int 0 0]}}:=I.kept (t':=s.toks) fun b o e=>Heap.get?_push_of_some _ e
    obtain⟨f0,f1,f2,f3,f4,f5⟩:=I.fpOk (b:=s.heap.objs.size) (au _) (I.hok.fresh (au _));exact I1.turned (t':=tk) (fun b o hb e=>hk b o (by simpa using hb) e) f0 f1 f3 f4 f5
  ·rw[if_neg hb] at hd;cases hd
end
theorem aK.yT {K:Frag}{H:Hp}:∀{ds:List D}{vs:List V}{G:List Addr},aK K H ds vs G->(∀ d∈ds,yT d=true)->G=[]/\∀ H',aK K H' ds vs []
 |_,_,_,.nil,_=>⟨rfl,fun _=>.nil⟩
 | _,_,_,.cons (d:=d) h r,k=>by
  obtain⟨rfl,q⟩:=r.yT fun d hd=>k d (aa _ hd)
  have:=k d ae;cases d with
  |int i =>
   obtain⟨rfl,rfl⟩:=h.int_inv;exact⟨rfl,fun H'=>.cons (.int i) (q H')⟩
  |_=>cases this
theorem Ah {xs l:List Pc.D}{q:Pc.D×List Pc.D}(h:kZ xs l=some q):q.1∈xs/\∀ d∈q.2,d∈xs:=by
 have key:∀ j,kF xs j=some q->q.1∈xs/\∀ d∈q.2,d∈xs:=fun j h=>by
  unfold kF at h;cases hj:xs[j]? with
  |none=>rw[hj] at h;cases h
  |some r =>
   rw[hj] at h;by_cases hf:r.flat=true
   ·simp only[hf,if_true] at h;cases h;exact⟨List.mem_of_getElem? hj,fun d hd=>List.mem_of_mem_eraseIdx hd⟩
   ·simp only[hf,if_false] at h;cases h
 unfold kZ at h;split at h
 ·exact key _ h
 ·split at h
  ·rw[ah] at h;obtain⟨j,_,h⟩:=h;exact key j h
  ·cases h
 ·cases h
section
variable {X:Cx}
theorem qN {T:Tb}{i y:Nat}{it:sO}{cs:nJ}{D:Ends}{σ:L2.St}{H:Hp}(h:tS X.K T (.popc y i it cs) D σ H) :
  pO (wF (dG 1 [i]) (tI X.K T it) (pR X.K (.nm 0)) (z0 X.K T .none) (GS X.K "list" (qw X.K) (l7 X.K T 1 .none) (tD X.K T cs))) (jI y) D σ H:=by
 obtain⟨P,Z,env,F,re,hz,zp,h⟩:=h;unfold bI at h;cases hx:ownAt env i with
 |none=>rw[hx] at h;exact h.elim
 |some d =>
  rw[hx] at h;simp only at h;cases hat:d.at1 none with
  |none=>rw[hat] at h;exact h.elim
  |some xs =>
   rw[hat] at h;obtain⟨p,hp,h⟩:=cX h;by_cases hc:p.2=[]/\p.1.all yT=true/\xs.all yT=true/\p.1.length<=lim
   rotate_left
   ·rw[if_neg hc] at h;exact h.elim
   rw[if_pos hc] at h;obtain⟨c1,c2,c3,c4⟩:=hc;rw[bw] at c2 c3;cases hg:oW (fun k cur=>bQ T cs [some (k,.sh []),some (.lst cur,.sh [])]) p.1 xs with
   |none=>rw[hg] at h;exact h.elim
   |some q =>
    rw[hg] at h;simp only at h;have hx':=dD hx;obtain⟨v,hv,_⟩:=re.val i d .own hx';obtain⟨ax,pv,f⟩:=fY re hx hv hat;cases pv;have own:=(re.one i d .own hx' rfl).2.2;refine⟨P,env,F,re,p,hp,fun J H1 Gs s1 rt nn wk l hl=>?_⟩;obtain⟨ws0,Gx,a1,a2,a3,a4,a5,a6,fs⟩:=f H1 s1;have axn:ax≠l:=fun z=>by rw[z,hl] at a1;cases a1
    have Hax:H ax≠none:=re.nn hx' a3;have axG:ax∉Gs:=fun z=>by
     rcases rt.cont ax z with e | ⟨j,d',t',m,ej,sub⟩
     ·exact Hax e
     ·have:=sub i (own ax a3 j d' t' ej m);rw[show Rt.roots (.sh p.2)=p.2 from rfl,c1] at this;cases this
    have wk:=wk (fun a=>a∈Gs) fun a ha=>ha
    have ri:=a2.yT c3;obtain⟨rfl,ri⟩:=ri;refine⟨fun n m H2=>m=p.1.length - n/\n<=p.1.length/\∃(acc cur rest:List Pc.D) (vs ws:List V),oW (fun k cur=>bQ T cs [some (k,.sh []),some (.lst cur,.sh [])]) (p.1.drop n) cur=some (rest,q.2)/\q.1=acc++rest/\acc.length=n/\H2 l=some (.lst vs)/\(∀ H',aK X.K H' acc vs []) /\
     H2 ax=some (.lst ws)/\(∀ H',aK X.K H' cur ws [])/\(∀ d∈cur,Pc.yT d=true)/\∀ b o,b≠ax->H1 b=some o->H2 b=some o,?_,?_⟩
    ·exact⟨p.1.length,by simp,Nat.zero_le _,[],xs,q.1,[],ws0,by simpa using hg,rfl,rfl,bG,fun _=>.nil,by rw[aP axn];exact a1,ri,c3,fun b o _ e=>by rw[aP (fun z=>by rw[z,hl] at e;cases e)];exact e⟩
    ·rintro n m H2 ⟨rfl,hn,acc,cur,rest,vs,ws,g1,g2,g3,g4,g5,g6,g7,g8,g9⟩;have pK:k7 (fun a=>a∈Gs) H1 H2:=⟨fun a ha=>by
      have ne:a≠ax:=fun z=>axG (z ▸ ha)
      cases e:H1 a with
      |none=>exact absurd e (nn a ha)
      |some o=>exact g9 a o ne e,fun b xs e=>g9 b _ (fun z=>by rw[z,a1] at e;cases e) e,fun b o u e=>g9 b _ (fun z=>by rw[z,a1] at e;cases e) e⟩
     obtain⟨w1,w2⟩:=wk H2 pK;by_cases hlt:n<p.1.length
     ·right;have hd:p.1[n]? = some p.1[n]:=by simp[hlt]
      obtain⟨go,yl⟩:=w1 n _ hd;refine⟨go,fun H3=>n+1<=p.1.length/\∃(acc cur rest:List Pc.D) (vs ws:List V),oW (fun k cur=>bQ T cs [some (k,.sh []),some (.lst cur,.sh [])]) (p.1.drop (n+1)) cur=some (rest,q.2)/\q.1=acc++rest/\acc.length=n+1/\H3 l=some (.lst vs)/\(∀ H',aK X.K H' acc vs []) /\
       H3 ax=some (.lst ws)/\(∀ H',aK X.K H' cur ws [])/\(∀ d∈cur,Pc.yT d=true)/\∀ b o,b≠ax->H1 b=some o->H3 b=some o,fun H3 z=>⟨p.1.length - (n+1),by omega,rfl,z⟩,fun x H3 yx=>?_⟩
      obtain⟨s3,G3,rp3,_⟩:=yl x H3 yx;have kI:=c2 _ (ip hlt);rw[ja hlt] at g1;unfold oW at g1;cases he:bQ T cs [some (p.1[n],.sh []),some (.lst cur,.sh [])] with
      |ok l5 =>
       rw[he] at g1;simp only at g1;rw[ah] at g1;obtain⟨z,hz',g1⟩:=g1;rw[ag] at g1;obtain⟨z2,hz2,ez⟩:=g1;obtain⟨ez1,ez2⟩:=Prod.mk.inj ez;subst ez1;obtain⟨k,ek⟩:∃ k,p.1[n] = .int k:=by
        cases e:p.1[n] with
        |int k=>exact⟨k,rfl⟩
        |_=>rw[e] at kI;cases kI
       rw[ek] at rp3 he;obtain⟨rfl,rfl⟩:=rp3.int_inv;have re4:RE X.K (fun _=>False) [some (.int k,.sh []),some (.lst cur,.sh [])] [some (.int k),some (.ref ax)] H3 (fun j=>if j=1 then [ax] else []):=by
        refine⟨rfl,fun j d t e=>?_,fun j e=>?_,fun j d t e o=>?_,fun j d e=>?_,fun _ h=>h.elim⟩
        ·match j,e with
         |0,e=>cases e;exact⟨_,rfl,.int k⟩
         |1,e=>cases e;exact⟨_,rfl,.lst (.inl (s3 _ _ g6)) (g7 H3)⟩
        ·match j,e with
         |0,e=>rfl
         |1,e=>exact absurd rfl (e _ _)
         |j+2,e=>rfl
        ·match j,e with
         |0,e=>cases e;cases o
         |1,e=>cases e;cases o
        ·match j,e with
         |0,e=>cases e
         |1,e=>cases e
       have hσ:fR σ (dG 1 [i])=[none,some (.ref ax)]:=by
        show [none,(some i).bind fun j=>(σ[j]?).join]=_;rw[jd,hv];rfl
       show pR X.K (.nm 0) _ (fR σ (dG 1 [i])) H3 _;rw[hσ];show GS X.K "list" (qw X.K) (l7 X.K T 1 .none) (tD X.K T cs) [some (.int k),some (.ref ax)] H3 _;refine⟨_,_,_,none,.ref ax,ax,re4,rfl,rfl,.top ax,fun H4 s4=>⟨.inl ⟨rfl,ws,.inl (.inl (s4 _ _ (s3 _ _ g6)))⟩,_,_,_,re4.same s4,l5,he,fun vs5 H5 G5 ar=>?_⟩⟩;have s5:=s3.trans (s4.trans ar.same);obtain⟨sub1,sub2⟩:=Ah hz';refine⟨ax,ws,cur,l5.map (·.1),[],G5,z,rfl,s5 _ _ g6,g7 H5,ar.reps,hz',by simp,List.nodup_nil,fun w us Gy eY rs _ _=>?_⟩;have zI:=g8 _ sub1;have rI:=rs.yT fun d hd=>g8 d (sub2 d hd)
       have wR:∀ H',Rep X.K H' z.1 w []:=by
        cases e:z.1 with
        |int m =>
         rw[e] at eY;obtain⟨rfl,_⟩:=eY.int_inv;exact fun _=>.int m
        |_=>rw[e] at zI;cases zI
       have len:vs.length=acc.length:=(g5 H).len.symm;refine⟨vs,by rw[aP axn.symm];exact s5 _ _ g4,Nat.lt_of_le_of_lt (by rw[len,g3];exact Nat.le_trans (Nat.le_of_lt hlt) c4) (by decide),hlt,acc ++ [z.1],z.2,z2.1,vs ++ [w],us,by rw[<-ez2];exact hz2,by rw[g2];simp,by simp[g3],bG,fun H'=>?_,by rw[aP axn];exact bG,rI.2,fun d hd=>g8 d (sub2 d hd),fun b o ne e=>?_⟩
       ·exact aK.append (G:=[]) (G':=[] ++ []) (g5 H') (.cons (wR H') .nil)
       ·rw[aP (fun z=>by rw[z,hl] at e;cases e),aP ne];exact s5 _ _ (g9 b o ne e)
      |_=>rw[he] at g1;cases g1
     ·left;have en:n=p.1.length:=by omega
      subst en;refine⟨w2,?_⟩;rw[List.drop_length] at g1;unfold oW at g1;cases g1;rw[cg] at g2;let Hm:Hp:=fun a=>if a=l then none else H2 a
      have Hm_ne:∀{a},a≠l->Hm a=H2 a:=fun {a} e=>if_neg e
      have same:aN H (upd Hm ax (.lst ws0)):=fun b o e=>by
       have e1:=s1 b o e;by_cases hb:b=ax
       ·subst hb;rw[bG];rw[a1] at e1;exact e1
       ·rw[aP hb,Hm_ne (fun z=>by rw[z,hl] at e1;cases e1)];exact g9 b o hb e1
      have back:upd (upd Hm ax (.lst ws0)) ax (.lst ws)=Hm:=by
       funext b;by_cases hb:b=ax
       ·subst hb;rw[bG,Hm_ne axn];exact g6.symm
       ·rw[aP hb,aP hb]
      obtain⟨ws',Gx',b1,b2,b3,b4,b5,b6,fs'⟩:=f _ same;rcases tH (x:=i) (p:=none) (env:=env) (d:=d) (ys:=q.2) (rs:=[]) with ⟨env',hmt⟩ | hmt
      rotate_left
      ·rw[hmt] at h;exact h.elim
      rw[hmt] at h;have h:post X.K P Z env F H D (jM (.nm y) false env' (.lst q.1,.mv [])):=h;have key:=jV (K:=X.K) (P:=P) (Z:=Z) (D:=⟨fun σ' H'=>∃ F',After X.K P Z env F H env' σ' H' F',fun _ _=>True,fun _ _=>True,fun _ _=>True⟩) (N:=[]) (us:=ws) re hz zp same hx hv a3 (fun R hR ndR=>⟨bq,fun _ h=>(nomatch h),fun _ h=>(nomatch h)⟩) (fun hN hNd=>by
       obtain⟨G',e1,e2,e3⟩:=fs' q.2 ws [] (g7 _) List.nodup_nil (by simp) (fun _ h=>(nomatch h));exact⟨G',e1,e2,fun a ha=>.inl ((e3 a ha).elim id fun z=>(nomatch z))⟩) (by rw[hmt];exact fun σ' H' F' af=>⟨F',af⟩)
      rw[back] at key;obtain⟨F',af⟩:=key;have Hml:Hm l=none:=if_pos rfl;refine rT (v:=.ref l) (G:=[l]) af.re af.z zp (H':=H2) (fun b o e=>?_) ?_ ⟨fun a ha=>.inl ?_,fun R _=>⟨by simp,fun a ha=>?_,fun a ha=>.inl ?_⟩⟩ (post.trans af h)
      ·by_cases hb:b=l
       ·rw[hb,Hml] at e;cases e
       ·rw[Hm_ne hb] at e;exact e
      ·rw[g2];exact .lst (.inl g4) (g5 H2)
      ·rw[List.mem_singleton.mp ha];exact Hml
      ·rw[List.mem_singleton.mp ha];exact⟨.l _,g4⟩
      ·rw[List.mem_singleton.mp ha];exact Hml
end
section
variable {prog:Program}{w:World}{A:Around}{E:Value->Shared->Prop}{s:Shared}
end
section
variable {X:Cx}{T:Tb}
end
theorem wM:∀(xs:List V) (us:List Value),xs.length=us.length->(∀(i:Nat) (x:V),xs[i]? = some x->∃ u,us[i]? = some u/\RelV x u)->aR xs us
 |[],[],_,_=>.nil
 |[],_::_,h,_=>by simp at h
 |_::_,[],h,_=>by simp at h
 | x::xs,u::us,h,f=>by
  obtain⟨u',e,r⟩:=f 0 x rfl;cases e;exact .cons r (wM xs us (by simpa using h) fun i y hy=>by simpa using f (i+1) y (by simpa using hy))
theorem uT {a c:Int}{acc:Array Value}{n:Nat}(h:ItemsOf (fun i v=>∃ t,v = .int (a+i*c) t) acc n):aR (eR a c n) acc.toList:=by
 obtain⟨h1,h2⟩:=h;refine wM _ _ (by simp[eR,h1]) fun i x hx=>?_
 unfold eR at hx;rw[List.getElem?_map,ag] at hx;obtain⟨k,hk,rfl⟩:=hx;obtain⟨hk1,hk2⟩:=List.getElem?_eq_some_iff.mp hk;have hk1':i<n:=by simpa using hk1
 have hik:k=i:=by rw[<-hk2];simp
 subst hik;have hlt:k<acc.toList.length:=by simp[h1];exact hk1'
 refine⟨acc.toList[k],List.getElem?_eq_getElem hlt,?_⟩;obtain⟨t,ht⟩:=h2 k acc[k] (by simp[h1,hk1']);have:acc.toList[k]=acc[k]'(by simpa using hlt):=by simp
 rw[this,ht];exact⟨t,rfl⟩
section
variable {X:Cx}{T:Tb}
theorem pT {pins:List (Addr×Obj)}{σ:L2.St}{H:Hp}{s:Shared}{E:Value->Shared->Prop}{lo hi:Int}{t u v:Tok}{tk:Nat}{Q:VK}(hc:X.calm=true)(I:Inv X pins σ H s)(h1 : -(2 ^ 62)<=lo)(h2:lo<2 ^ 62)(h3 : -(2 ^ 62)<=hi)(h4:hi<2 ^ 62)(h5:hi - lo<=1000000)
  (q:∀ l,H l=none->Q (.ref l) (upd H l (.lst (eR lo 1 (hi - lo).toNat)))):wpAny (model X.prog X.w) X.A (call (.type "list") [.ref s.heap.objs.size]) (EP X pins σ Q) E {s with heap:=s.heap.push {cls:=.type "range",data:=.fields #[.int lo t,.int hi u,.int 1 v]},toks:=tk}:=by
 have I1:Inv X pins σ H {s with heap:=s.heap.push {cls:=.type "range",data:=.fields #[.int lo t,.int hi u,.int 1 v]},toks:=tk}:=I.kept fun b o e=>Heap.get?_push_of_some _ e
 refine call_list_range (n:=(hi - lo).toNat) (I1.ok.hd hc) (IsRange.new ..) (small_one h1 h2 h3 h4) (by rw[rangeSize_one];split<;>omega) (by omega) fun h' tk' acc' c' hk hS hacc=>?_
 have hv:=uT hacc;have h0:H (s.heap.push {cls:=.type "range",data:=.fields #[.int lo t,.int hi u,.int 1 v]}).objs.size=none:=I1.fresh;have I2:=I1.laid (a:=(s.heap.push {cls:=.type "range",data:=.fields #[.int lo t,.int hi u,.int 1 v]}).objs.size) (o:=.lst (eR lo 1 (hi - lo).toNat)) (t':=tk') (h':=h') hk (au _) ⟨by rw[kK];have:=u9;have:lim=1000000:=rfl;omega,acc'.toList,c',hv,hS⟩;exact⟨.ref _,_,I2,rfl,q _ h0⟩
theorem wg {es:List Expr}{cs:nJ}{p q pos pos':Pos}(hc:X.calm=true)(hg:Gl X "list") (hm:X.mg "list" = none) (hg':Gl X "range") (hm':X.mg "range" = none) (ha:PA X es (tD X.K T cs)) (hs:∃ e r,es=e::r/\starEach es X.env=(false,eval e X.env)::starEach r X.env/\((backTo pos' (starEach r X.env)).any fun x=>x.1)=false) :
  PE X (.Call (.Name "list" p) [.Call (.Name "range" q) es [] pos'] [] pos) (tE X.K T (.blt .lrng cs)):=by
 intro pins s σ H Q I h;obtain⟨P,env,F,re,r,hev,k⟩:=h;unfold ev at hev;obtain⟨l,h1,hev⟩:=Rs.bind_ok hev;obtain⟨d,h2,hev⟩:=Rs.bind_ok hev;have h2:=dN h2;cases hev;obtain⟨e,rs,rfl,hs1,hs2⟩:=hs;refine Call_ (j7 I hg hm boot_list (dr ?_ rfl rfl));show wpAny _ _ (spliced ((false,eval (.Call (.Name "range" q) (e::rs) [] pos') X.env) :: [])) _ _ s;refine Calls.spliced_cons ?_;refine Call_ (j7 I hg' hm' boot_range (dr (dB (ha pos' pins s σ H (fun vs H'=>∃ G,Args X.K env F H H' l vs G) I ⟨P,env,F,re,l,h1,fun vs H' G ar=>⟨G,ar⟩⟩) fun us s1 ⟨vs,H1,I1,r1,G,ar⟩=>?_) hs1 hs2));have rps:aK X.K H1 (l.map (·.1)) vs G:=ar.reps;generalize hl:l.map (·.1)=ds at h2 rps
 match ds,h2 with
 |[.int n],h2 =>
  simp only[nj,vE] at h2;by_cases hk:gM n=true/\n<=1000000
  ·rw[if_pos hk] at h2;cases h2;obtain⟨x,rfl,rp⟩:=rps.of1;obtain⟨rfl,rfl⟩:=rp.int_inv;obtain⟨u,rfl,t,rfl⟩:=r1.one;unfold gM at hk;simp only[decide_eq_true_eq] at hk;refine call_range_1 (Calls.spliced_nil (pT hc I1 (by omega) (by omega) hk.1.1 hk.1.2 (by omega) fun a h0=>?_));obtain⟨n1,n2⟩:=kd (G0:=[]) (ju (K:=X.K) (H:=H1) 1 (n - 0).toNat 0) (fun z hz=>hz) h0;rw[Int.sub_zero] at n1 n2 ⊢;exact k _ _ _ (ar.same.trans n2.same) n1 (bY.new ar n2 fun _ z=>z)
  ·rw[if_neg hk] at h2;cases h2
 |[.int a,.int b],h2 =>
  simp only[nj,vE] at h2;by_cases hk:gM a=true/\gM b=true/\b - a<=1000000
  ·rw[if_pos hk] at h2;cases h2;cases rps with
   |cons ra rps =>
    obtain⟨rfl,rfl⟩:=ra.int_inv;obtain⟨x,rfl,rp⟩:=rps.of1;obtain⟨rfl,rfl⟩:=rp.int_inv;obtain⟨u,w,rfl,⟨t,rfl⟩,⟨t',rfl⟩⟩:=r1.two;unfold gM at hk;simp only[decide_eq_true_eq] at hk;refine call_range_2 (Calls.spliced_nil (pT hc I1 hk.1.1 hk.1.2 hk.2.1.1 hk.2.1.2 hk.2.2 fun c h0=>?_));obtain⟨n1,n2⟩:=kd (G0:=[]) (ju (K:=X.K) (H:=H1) 1 (b - a).toNat a) (fun z hz=>hz) h0;exact k _ _ _ (ar.same.trans n2.same) n1 (bY.new ar n2 fun _ z=>z)
  ·rw[if_neg hk] at h2;cases h2
end
section
variable {prog:Program}{w:World}{A:Around}{R:Result->Shared->Prop}{it:Addr}{fp wr:List Addr}{n:Nat}{P:Nat->Value->Prop}{Sta:Nat->Heap->Prop}{dv:Value}{bx:Addr}
end
section
variable {X:Cx}{T:Tb}
end
section
variable {X:Cx}
theorem qp {K:Frag}{H:Hp}:∀{xs:List D}{k:List Int}{vs:List V}{G:List Addr},sE xs=some k->aK K H xs vs G->vs=k.map V.int
 |[],k,vs,G,h,r=>by cases h;cases r;rfl
 | .int i::xs,k,vs,G,h,r=>by
  have h:(sE xs).map (i :: ·)=some k:=h;rw[ag] at h;obtain⟨k',h1,rfl⟩:=h;cases r with
  |cons r1 r2 =>
   obtain⟨rfl,_⟩:=r1.int_inv;rw[qp h1 r2];rfl
 |.non::_,_,_,_,h,_=>by cases h
 |.bl _::_,_,_,_,h,_=>by cases h
 |.lst _::_,_,_,_,h,_=>by cases h
 |.tup _::_,_,_,_,h,_=>by cases h
theorem uP (hc:X.calm=true):jK X (.type "list") (vJ X.K .list):=by
 intro pins s σ H xs us Q I r h;obtain⟨ds,d,G,rs,hd,k⟩:=h;exact ui I r rs hd k
end
theorem eJ.live' {P:Program}{w:World}{H:Hp}{h:Heap}{a:Addr}{o:HO}(x:eJ P w H h a o):∃ ob,h.get? a=some ob:=by
 cases o with
 |lst xs=>obtain⟨_,_,_,_,e⟩:=x;exact⟨_,e⟩
 |tup xs=>obtain⟨_,_,_,ob,e,_⟩:=x;exact⟨_,e⟩
 |dK kvs=>obtain⟨_,_,_,_,o,_,_,e,_⟩:=x;exact⟨_,e⟩
 |dT kvs=>obtain⟨_,_,_,_,o,_,_,e,_⟩:=x;exact⟨_,e⟩
 |set S n=>obtain⟨o,_,_,_,e,_⟩:=x;exact⟨_,e⟩
 |ins C dx fs=>obtain⟨_,_,_,e,_⟩:=x;exact⟨_,e⟩
 |own y=>obtain⟨_,e⟩:=x;exact⟨_,e⟩
 |xd fs=>obtain⟨_,⟨_,_,_,e,_⟩,_⟩:=x;exact⟨_,e⟩
 |rng lo hi=>obtain⟨_,_,_,e⟩:=x;exact⟨_,e⟩
 |frz ob u=>obtain⟨e,_⟩:=x;exact⟨_,e⟩
 |tbl ps=>exact⟨_,(show h.get? a=some _ from x)⟩
 |met f y=>exact⟨_,(show h.get? a=some _ from x)⟩
 |ext φ=>obtain⟨_,⟨_,e⟩,_⟩:=x;exact⟨_,e⟩
theorem zP {X:Cx}{pins:List (Addr×Obj)}{σ:L2.St}{H:Hp}{s:Shared}{h':Heap}{m:Str->Option Value}{B:Addr}{o:HO}{t':Nat}(I:Inv X pins σ H s)(hn:s.heap.Ns X.env.locals m)(hn':h'.Ns X.env.locals m)
  (k:∀ b o,b≠X.env.locals->s.heap.get? b=some o->h'.get? b=some o) (hB:∀ b o,s.heap.get? b=some o->b≠B) (new:eJ X.prog X.w (upd H B o) h' B o):Inv X pins σ (upd H B o) {s with heap:=h',toks:=t'}:=by
 have hnB:H B=none:=by
  cases e:H B with
  |none=>rfl
  |some u =>
   obtain⟨ob,q⟩:=eJ.live' (I.hok B u e);exact absurd rfl (hB B ob q)
 have nL:∀ b u,H b=some u->b≠X.env.locals:=fun b u e z=>by rw[z,I.free] at e;cases e
 refine I.step (g':=s.gens) (d':=s.drawn) (ch:=[]) (fun b hb=>nomatch hb) (fun b o' hL _ _ e _=>k b o' hL e) (fun b o' hL _ _ e _=>⟨o'.slots,k b o' hL e⟩) (fun b o' _ e n=>by rw[aP (hB b o' e)];exact n) (fun b o' _ e=>?_)
  (fun b xs e=>by rw[aP (cC e hnB)];exact e) (fun b ob u e=>by rw[aP (cC e hnB)];exact e) (fun b ps e=>⟨#[],by rw[aP (cC e hnB),e];simp⟩) (fun m' hm=>?_) (fun b u e=>?_) I.bare
 ·by_cases hL:b=X.env.locals
  ·subst hL;obtain⟨o2,_,_,q,_⟩:=hn';exact⟨o2,q⟩
  ·exact⟨o',k b o' hL e⟩
 ·obtain⟨o1,es,ep,e1,e2,e3,e4⟩:=hn;obtain⟨o2,es',ep',f1,f2,f3,f4⟩:=hm;rw[e1] at f1;cases f1;rw[e2] at f2;cases f2;have:m'=m:=funext fun x=>by rw[<-f4 x,e4 x]
  rw[this];exact hn'
 ·by_cases hb:b=B
  ·subst hb;rw[bG] at e;cases e;exact new
  ·rw[aP hb] at e;refine (I.hok b u e).stay (fun c v hc q=>k c v ?_ q) (fun c q=>?_) fun c xs q=>?_
   ·rcases hc with z | z
    ·rw[z];exact nL b u e
    ·exact nL c _ z
   ·rw[aP (cC q hnB)];exact q
   ·rw[aP (cC q hnB)];exact q
section
variable {prog:Program}{w:World}{A:Around}
end
section
variable {X:Cx}{pins:List (Addr×Obj)}{σ:L2.St}{H:Hp}{s:Shared}
end
theorem insI_perm (a:Int):∀ l:List Int,(insI a l).Perm (a::l)
 |[]=>.refl _
 | b::l=>by
  unfold insI;split
  ·exact .refl _
  ·exact ((insI_perm a l).cons b).trans (.swap a b l)
theorem mU:∀ l:List Int,(fB l).Perm l
 |[]=>.refl _
 |a::l=>(insI_perm a _).trans ((mU l).cons a)
theorem sZ (a:Int):∀{l:List Int},l.Pairwise (·<=·)->(insI a l).Pairwise (·<=·)
 |[],_=>List.pairwise_singleton _ _
 | b::l,h=>by
  have h':=List.pairwise_cons.mp h;unfold insI;split
  ·rename_i e;refine List.pairwise_cons.mpr ⟨fun x hx=>?_,h⟩;rcases dw.mp hx with rfl | hx
   ·exact e
   ·exact Int.le_trans e (h'.1 x hx)
  ·rename_i e;refine List.pairwise_cons.mpr ⟨fun x hx=>?_,sZ a h'.2⟩;rcases dw.mp ((insI_perm a l).mem_iff.mp hx) with rfl | hx
   ·omega
   ·exact h'.1 x hx
theorem n9:∀ l:List Int,(fB l).Pairwise (·<=·)
 |[]=>.nil
 |a::l=>sZ a (n9 l)
theorem iS:∀{ns:List Int}{us:List Value},aR (ns.map V.int) us->IntsAre us ns
 |[],us,h=>by cases h;exact .nil
 | n::ns,us,h=>by
  cases h with
  |cons a b =>
   obtain⟨t,rfl⟩:=a;exact .cons _ t (iS b)
theorem qy:∀{ns:List Int}{us:List Value},IntsAre us ns->aR (ns.map V.int) us
 |[],us,h=>by cases h;exact .nil
 | n::ns,us,h=>by
  cases h with
  |cons _ t b=>exact .cons ⟨t,rfl⟩ (qy b)
section
variable {X:Cx}
theorem rV:jK X (.builtin "sorted") (vJ X.K .sorted):=by
 intro pins s σ H xs us Q I r h;obtain⟨ds,d,G,rs,hd,k⟩:=h
 match ds,hd with
 |[.lst ys],hd =>
  have hd:(match sE ys with
   |some ns=>if ns.length<64 then some (D.lst ((fB ns).map .int)) else none
   |none=>none)=some d:=hd
  cases hki:sE ys with
  |some ns =>
   rw[hki] at hd;by_cases h64:ns.length<64
   ·simp only[if_pos h64] at hd;cases hd;obtain⟨x,rfl,rp⟩:=rs.of1;obtain⟨l,vs,g,rfl,rfl,a1,a2⟩:=rp.lst_inv;obtain⟨u,rfl,rx⟩:=r.one;obtain rfl:u = .ref l:=rx;obtain⟨its,rv,pl,_⟩:=I.list (.inl a1);obtain rfl:=qp hki a2;obtain⟨m,hn,_⟩:=id I.loc;have F:=BD.Em hn;have N:News (BD.rN s.heap) X.env.locals s.heap (BD.ledger s.heap X.env.locals X.env.locals):=fun ⟨a,o⟩ hp=>by
     obtain⟨n1,_,e⟩:=BD.kO.mp hp;exact⟨e,n1,BD.nW _ _⟩
    refine PySem.W.kso_sorted F N pl.isList (iS rv) h64 fun B vs' ns' c h' F' N' l1 hi' len perm asc _=>?_
    obtain rfl:ns'=fB ns:=PySem.W.lks_uniq (perm.trans (mU ns).symm) asc (n9 ns);have hB:∀ b o,s.heap.get? b=some o->b≠B:=fun b o e z=>by
     by_cases hb:b=X.env.locals
     ·exact (N' _ (ae ..)).2.1 (z.symm.trans hb)
     ·exact absurd z (bu (l1 _ (BD.kO.mpr ⟨hb,hb,e⟩)))
    have hI:=zP (t':=s.toks) (o:=.lst ((fB ns).map V.int)) I hn F'.ns (fun b o hb e=>N'.get (aa _ (BD.kO.mpr ⟨hb,hb,e⟩))) hB ⟨by rw[aj,len,sizeLine_eq];omega,_,c,qy hi',N'.get (ae ..)⟩;refine⟨.ref B,_,hI,rfl,?_⟩;have hnB:H B=none:=by
     cases e:H B with
     |none=>rfl
     |some u =>
      obtain⟨ob,q⟩:=eJ.live' (I.hok B u e);exact absurd rfl (hB B ob q)
    obtain⟨n1,n2⟩:=kd (G0:=l::g) (qk (K:=X.K) (H:=H) (fB ns)) (fun a ha=>nomatch ha) hnB;exact k _ _ _ n1 n2
   ·simp only[if_neg h64] at hd;cases hd
  |none=>rw[hki] at hd;cases hd
end
structure Sc where
 N:List Str
 sc:Scope
 fns:List Str
 yV:List Str
 fL:List Str
noncomputable def idxOf:List Str->Str->Option Nat
 |[],_=>none
 |y::r,x=>if y=x then some 0 else (idxOf r x).map (· + 1)
theorem bW:∀{l:List Str}{x:Str}{i:Nat},idxOf l x=some i->l[i]? = some x
 | y::r,x,i,h=>by
  simp only[idxOf] at h;by_cases e:y=x
  ·rw[if_pos e] at h;cases h;rw[e];rfl
  ·rw[if_neg e,ag] at h;obtain⟨j,hj,rfl⟩:=h;simpa using bW hj
noncomputable def eI (sc:Scope)(x:Str):Option NameKind:=sc.names.lookup x
noncomputable def tF (sc:Scope)(x:Str):Bool:=match eI sc x with
 |some .local=>true
 |some .cell=>true
 |some .free=>true
 |_=>false
noncomputable def ka (sc:Scope)(x:Str):Bool:=match eI sc x with
 |some .local=>true
 |some .cell=>true
 |_=>false
noncomputable def vP (sc:Scope)(x:Str):Bool:=match eI sc x with
 |some .globalImplicit=>true
 |_=>false
noncomputable def fO (x:Str):Bool:=!(x==("__debug__" : Str)) && !(x==("__classdict__" : Str)) && !(x==("__name__" : Str))
noncomputable def notStar:Expr->Bool
 |.Starred _ _=>false
 |_=>true
noncomputable def gB:Expr->Bool
 |.Set _ _ _=>false
 |_=>true
noncomputable def mM:Expr->Bool
 |.Slice _ _ _ _=>false
 |_=>true
noncomputable def iC:Expr->Bool
 |.ListComp _ _ _ _=>true
 |.SetComp _ _ _ _=>true
 |.DictComp _ _ _ _ _=>true
 |_=>false
noncomputable def dO (f:Expr->Option Ex):List Expr->Option nJ
 |[]=>some .nil
 |e::es=>if notStar e then (f e).bind fun c=>(dO f es).map fun cs=>.cons c cs else none
noncomputable def He (f:Expr->Option Ex)(op:BoolOp):List Expr->Option Ex
 |[]=>none
 |[a]=>f a
 |a::r=>(f a).bind fun c=>(He f op r).map fun d=>match op with
  |.And=>.and c d
  |.Or=>.or c d
noncomputable def og (S:Sc):List Expr->Option (List Nat)
 |[]=>some []
 |.Name x _::r=>if ka S.sc x then (idxOf S.N x).bind fun i=>(og S r).map fun is=>i::is else none
 |_::_=>none
noncomputable def vL (S:Sc):Expr->Option pE
 |.Name x _=>if ka S.sc x then (idxOf S.N x).map .nm else none
 |.Tuple es _ _=>(og S es).map .tp
 |_=>none
noncomputable def By (f:Expr->Option Ex):Option Expr->Option rk
 |none=>some .none
 |some e=>(f e).map .some
noncomputable def m9 (S:Sc)(x:Str):Bool:=vP S.sc x&&S.fL.contains x
noncomputable def isTup:Expr->Bool
 |.Tuple _ _ _=>true
 |_=>false
noncomputable def G7 (S:Sc)(f:Expr->Option Ex)(tp:Bool):Expr->Option sO
 | .Call (.Name x p) es [] pos=>if x = "range" then (if m9 S "range" then (match dO f es with
   | some (.cons a .nil)=>some (.rng1 a)
   | some (.cons a (.cons b .nil))=>some (.rng2 a b)
   | some (.cons a (.cons b (.cons c .nil)))=>some (.rng3 a b c)
   |_=>none) else none) else if x = "enumerate" then (if m9 S "enumerate" && tp then (match es with
   |[e]=>if notStar e then (f e).map .enum else none
   |_=>none) else none) else if x = "reversed" then none else if x = "zip" then (if m9 S "zip" && tp then (match es with
   |[e,g]=>if notStar e&&notStar g then (f e).bind fun c=>(f g).map fun d=>.zip c d else none
   |_=>none) else none) else (f (.Call (.Name x p) es [] pos)).map .seq
 |e=>if gB e then (f e).map .seq else none
noncomputable def aY (sc:Scope):List Str:=(sc.names.filter fun p=>(p.2 == .local || p.2 == .cell)&&p.1 != (".0" : Str)).map (·.1)
noncomputable def aZ (sc:Scope):List Str:=(sc.names.filter fun p=>p.2 == .free).map (·.1)
noncomputable def ky:List (Option Nat)->Option (List Nat)
 |[]=>some []
 |some i::r=>(ky r).map (i :: ·)
 |none::_=>none
noncomputable def j9 (S:Sc)(sc:Scope):Bool :=
 sc.kind == .function&&sc.names.all (fun p=>p.2 != .cell || eI sc p.1==some .cell)&&sc.names.all (fun p=>p.2 != .local || eI sc p.1==some .local)&&sc.names.all (fun p=>p.2 != .free || (eI sc p.1==some .free&&(eI S.sc p.1==some .cell || eI S.sc p.1==some .free))) &&
 decide (aY sc++aZ sc).Nodup
noncomputable def xM (own:Nat):pE->Bool
 |.nm i=>decide (i<own)
 |.tp is=>is.all fun i=>decide (i<own)
noncomputable def IG (x:Str):Option Dm:=if x = "len" then some .len else if x = "all" then some .all else if x = "list" then some .list else if x = "sorted" then some .sorted else none
noncomputable def E8 (t:Str):Option String:=if t = "int" then some "int" else if t = "bool" then some "bool" else if t = "str" then some "str" else if t = "list" then some "list" else if t = "tuple" then some "tuple" else none
noncomputable def Ia (S:Sc)(f:Expr->Option Ex):List Expr->Option Ex
 |[a,.Name t _]=>if vP S.sc t&&S.fL.contains t&&fO t&&notStar a then (E8 t).bind fun u=>(f a).map fun ca=>.blt (.isi u) (.cons ca .nil) else none
 |_=>none
noncomputable def qW:List Expr->Bool
 | [.Call (.Name r _) [_] [] _]=>r==("reversed" : Str)
 |_=>false
noncomputable def Hh (S:Sc)(f:Expr->Option Ex):List Expr->Option Ex
 |_=>none
noncomputable def qf:List Expr->Bool
 | [.Call (.Name r _) _ [] _]=>r==("range" : Str)
 |_=>false
noncomputable def DH (S:Sc)(f:Expr->Option Ex):List Expr->Option Ex
 | [.Call (.Name r _) es [] _]=>if r = "range" then (if m9 S "range" then (match es with
  |[a]=>(dO f [a]).map fun cs=>.blt .lrng cs
  |[a,b]=>(dO f [a,b]).map fun cs=>.blt .lrng cs
  |_=>none) else none) else none
 |_=>none
noncomputable def wH (S:Sc)(f:Expr->Option Ex)(x:Str)(es:List Expr):Option Ex :=
 if fO x&&vP S.sc x then (match idxOf S.fns x with
  |some i=>(dO f es).map fun cs=>.call i cs
  |none=>if S.fL.contains x then (if x = "isinstance" then Ia S f es else if x = "list"/\qW es=true then Hh S f es else if x = "list"/\qf es=true then DH S f es else match es with
    |[]=>none
    |e::r=>(IG x).bind fun b=>(dO f (e::r)).map fun cs=>.blt b cs) else none) else none
noncomputable def z5 (S:Sc)(f:Expr->Option Ex)(x:Str)(a d:Expr)(k:Str):Option Ex :=
 none
noncomputable def Ek (f:Expr->Option Ex)(o:Expr)(name:Str)(es:List Expr)(apos cpos:Pos):Option Ex:=none
noncomputable def Jl (f:Expr->Option Ex):List Expr->Option rk
 |[]=>some .none
 |[c]=>(f c).map .some
 |_=>none
noncomputable def ur (S:Sc)(f:Sc->Expr->Option Ex)(elt tg iter:Expr)(ifs:List Expr)(sc:Scope):Option Ex :=
 if j9 S sc&&gB iter then
  (G7 S (f S) (isTup tg) iter).bind fun it=>(ky ((aZ sc).map (idxOf S.N))).bind fun pick =>
   (vL {S with N:=aY sc++aZ sc,sc:=sc} tg).bind fun t=>if xM (aY sc).length t then
    (Jl (f {S with N:=aY sc++aZ sc,sc:=sc}) ifs).bind fun c=>(f {S with N:=aY sc++aZ sc,sc:=sc} elt).map fun ce=>.comp (aY sc).length pick t it c ce
   else none
 else none
noncomputable def AI (S:Sc)(x:Str):Option Ex:=if fO x then (if tF S.sc x then (idxOf S.N x).map .var else if vP S.sc x then (idxOf S.yV x).map .glb else none) else none
noncomputable def IY:Const->Option Ex
 |.int i=>some (.cst (.int i))
 |.bool b=>some (.cst (.bl b))
 |.none=>some (.cst .non)
 |_=>none
noncomputable def cUn (op:UnaryOp)(o:Option Ex):Option Ex:=match op with
 |.USub=>o.map .neg
 |.Not=>o.map .not
 |_=>none
noncomputable def Ap (f:Expr->Option Ex)(a:Expr)(op:CmpOp)(b:Expr):Option Ex:=if behindInMarks op b then none else (f a).bind fun ca=>(f b).map fun cb=>.cmp op ca cb
noncomputable def DP (f:Expr->Option Ex)(a:Expr)(op op':CmpOp)(b c:Expr):Option Ex:=none
noncomputable def Ik (f:Expr->Option Ex)(a:Expr):List CmpOp->List Expr->Option Ex
 |[],_=>none
 |[op],bs=>(match bs with
  |[]=>none
  |[b]=>Ap f a op b
  |_::_::_=>none)
 |op::op'::ops,bs=>(match ops with
  |[]=>(match bs with
   |[]=>none
   |[_]=>none
   |b::c::r=>(match r with
    |[]=>DP f a op op' b c
    |_::_=>none))
  |_::_=>none)
noncomputable def DC (f:Expr->Option Ex)(a b:Expr):Option Ex:=match b with
 |.Slice lo hi st _=>(match st with
  |none=>(f a).bind fun ca=>(By f lo).bind fun l=>(By f hi).map fun h=>.sl ca l h
  |some _=>none)
 |b=>if mM b then (f a).bind fun ca=>(f b).map fun cb=>.ix ca cb else none
noncomputable def AF (S:Sc)(f:Expr->Option Ex)(x:Str)(es:List Expr):List Keyword->Option Ex
 |[]=>wH S f x es
 |[⟨k,d,_⟩]=>(match k with
  |none=>none
  |some k=>(match es with
   |[]=>none
   |[a]=>z5 S f x a d k
   |_::_::_=>none))
 |_::_::_=>none
noncomputable def AO (S:Sc)(f:Expr->Option Ex)(g:Expr)(es:List Expr)(ks:List Keyword)(cpos:Pos):Option Ex:=match g with
 |.Name x _=>AF S f x es ks
 |.Attribute o name apos=>(match ks with
  |[]=>Ek f o name es apos cpos
  |_::_=>none)
 |_=>none
noncomputable def cLC (S:Sc)(f:Sc->Expr->Option Ex)(elt:Expr)(sc:Scope):List Comprehension->Option Ex
 |[]=>none
 |[⟨tg,iter,ifs,as⟩]=>if as=0 then ur S f elt tg iter ifs sc else none
 |_::_::_=>none
noncomputable def Iz:List (Option Expr)->List Expr->Option Ex:=fun _ _=>none
noncomputable def cE:Nat->Sc->Expr->Option Ex
 |0,_,_=>none
 |n+1,S,e=>match e with
  |.Name x _=>AI S x
  |.Constant c _ _=>IY c
  |.BinOp a op b _=>(cE n S a).bind fun ca=>(cE n S b).map fun cb=>.bin op ca cb
  |.UnaryOp op a _=>cUn op (cE n S a)
  |.BoolOp op es _=>He (cE n S) op es
  |.Compare a ops bs _=>Ik (cE n S) a ops bs
  |.IfExp c a b _=>(cE n S c).bind fun cc=>(cE n S a).bind fun ca=>(cE n S b).map fun cb=>.ite cc ca cb
  |.List es _=>(dO (cE n S) es).map .lst
  |.Tuple es _ _=>(dO (cE n S) es).map .tup
  |.Subscript a b _=>DC (cE n S) a b
  |.Call g es ks pos=>AO S (cE n S) g es ks pos
  |.ListComp elt gens sc _=>cLC S (cE n) elt sc gens
  |.Dict ks vs _=>Iz ks vs
  |_=>none
structure Ctx (X:Cx)(S:Sc)(T:Tb):Prop where
 N:X.N=S.N
 nd:S.N.Nodup
 vis:∀ x,tF S.sc x=true->D2 X.env.scope x
 loc:∀ x,ka S.sc x=true->Loc X.env.scope x/\(X.fn x=true\/X.env.scope.names.lookup x=some .local)
 gl:∀ x,vP S.sc x=true->Gl X x
 cel:∀ x,(eI S.sc x=some .cell\/eI S.sc x=some .free)->(X.env.kindOf x=some .cell\/X.env.kindOf x=some .free)
 units:X.A.units+40<cLine/\yR X.w X.K
 calm:X.calm=true
 fns:∀ i x,idxOf S.fns x=some i->∃ f fd ps k,lX X.prog X.w X.K X.mg X.base sj k f fd ps (C3 X.K ps.length (T.cl i))/\gS k X.A/\X.mg x=some (.ref f)/\PySem.W.keepIn X.K (.ref f)=true/\Binds X.K fd ps []/\∀ ds r,T.cl i ds = .ok r->ds.length=ps.length
 yV:∀ i x,idxOf S.yV x=some i->∃ v u,X.mg x=some u/\RelV v u/\∀ H,Rep X.K H (T.gl i) v []
 fL:∀ x,S.fL.contains x=true->X.mg x=none
theorem bK {e:Expr}{es:List Expr}{env:Env}(h:notStar e=true):starEach (e::es) env=(false,eval e env)::starEach es env:=by
 cases e<;>first | rfl | (cases h)
theorem oK {e:Expr}{env:Env}(h:gB e=true)(x:Value):foldedSetIterable e env x=pure x:=by
 cases e<;>first | rfl | (cases h)
theorem zx {e:Expr}(h:mM e=true):rC e:=by
 intro o i;cases e<;>first | rfl | (cases h)
theorem bR {f:Expr->Option Ex}{e:Expr}{es:List Expr}{cs:nJ}(h:dO f (e::es)=some cs):notStar e=true/\∃ c d,f e=some c/\dO f es=some d/\cs = .cons c d:=by
 unfold dO at h;by_cases hs:notStar e=true
 ·rw[if_pos hs] at h;rw[ah] at h;obtain⟨c,h1,h2⟩:=h;rw[ag] at h2;obtain⟨d,h2,rfl⟩:=h2;exact⟨hs,c,d,h1,h2,rfl⟩
 ·rw[if_neg hs] at h;cases h
theorem eM {f:Expr->Option Ex}{env:Env}{pos:Pos}:∀{es:List Expr}{cs:nJ},dO f es=some cs->(backTo pos (starEach es env)).any (·.1)=false
 |[],cs,_=>rfl
 | e::es,cs,h=>by
  obtain⟨hs,c,d,_,h2,_⟩:=bR h;rw[bK hs];show (false || (backTo pos (starEach es env)).any (·.1))=false;rw[eM h2];rfl
theorem fG {x:Str}(h:fO x=true):(x==("__debug__" : Str))=false/\(x==("__classdict__" : Str))=false/\x≠"__name__":=by
 unfold fO at h;rw[ai,ai] at h;obtain⟨⟨h1,h2⟩,h3⟩:=h;refine⟨by simpa using h1,by simpa using h2,fun e=>?_⟩;subst e;simp at h3
theorem Gu {X:Cx}{T:Tb}{c a b:Expr}{cc ca cb:Ex}{pos:Pos}(hc:PT X c (qJ X.K T cc))(ha:PT X a (qJ X.K T ca))(hb:PT X b (qJ X.K T cb)):PT X (.IfExp c a b pos) (qJ X.K T (.ite cc ca cb)):=by
 intro pins s σ H Q I h;obtain⟨P,env,F,re,p,bb,hev,ht,k⟩:=h;unfold ev at hev;obtain⟨q,h1,hev⟩:=Rs.bind_ok hev;obtain⟨kb,h2,hev⟩:=Rs.bind_ok hev;refine isTrue_IfExp (dB (hc pins s σ H (fun d H'=>d=kb/\aN H H') I ⟨P,env,F,re,q,kb,h1,dN h2,fun H' s=>⟨rfl,s⟩⟩) fun d s1 ⟨H1,I1,e,s⟩=>?_);subst e;cases d with
 |true=>exact ha pins s1 σ H1 Q I1 ⟨P,env,F,re.same s,p,bb,hev,ht,fun H' s'=>k H' (s.trans s')⟩
 |false=>exact hb pins s1 σ H1 Q I1 ⟨P,env,F,re.same s,p,bb,hev,ht,fun H' s'=>k H' (s.trans s')⟩
theorem Aq {T:Tb}{a:Ex}{env:En}{p}(hev:fS T (.rng1 a) env = .ok p):p.2=[]/\∃ l,bQ T (.cons a .nil) env = .ok l/\((∃ j,l.map (·.1)=[.int j]/\gM j=true/\p.1=bB 0 1 j.toNat)\/(∃ i j,l.map (·.1)=[.int i,.int j]/\gM i=true/\gM j=true/\p.1=bB i 1 (j - i).toNat) \/
   ∃ i j k,l.map (·.1)=[.int i,.int j,.int k]/\gM i=true/\gM j=true/\k≠0/\k.natAbs<1073741824/\p.1=bB i k (Builtin.Range.rangeSize i j k).toNat):=by
 unfold fS at hev;obtain⟨q,h1,hev⟩:=Rs.bind_ok hev;split at hev
 ·rename_i j hj;split at hev
  ·rename_i ho;cases hev;exact⟨rfl,[q],by unfold bQ;rw[h1];unfold bQ;rfl,.inl ⟨j,by simp[hj],ho,rfl⟩⟩
  ·cases hev
 ·cases hev
theorem yZ {T:Tb}{a b:Ex}{env:En}{p}(hev:fS T (.rng2 a b) env = .ok p):p.2=[]/\∃ l,bQ T (.cons a (.cons b .nil)) env = .ok l/\((∃ j,l.map (·.1)=[.int j]/\gM j=true/\p.1=bB 0 1 j.toNat)\/(∃ i j,l.map (·.1)=[.int i,.int j]/\gM i=true/\gM j=true/\p.1=bB i 1 (j - i).toNat) \/
   ∃ i j k,l.map (·.1)=[.int i,.int j,.int k]/\gM i=true/\gM j=true/\k≠0/\k.natAbs<1073741824/\p.1=bB i k (Builtin.Range.rangeSize i j k).toNat):=by
 unfold fS at hev;obtain⟨q,h1,hev⟩:=Rs.bind_ok hev;obtain⟨r,h2,hev⟩:=Rs.bind_ok hev;split at hev
 ·rename_i i j hi hj;split at hev
  ·rename_i ho;cases hev;rw[ai] at ho;exact⟨rfl,[q,r],by unfold bQ;rw[h1];unfold bQ;rw[h2];unfold bQ;rfl,.inr (.inl ⟨i,j,by simp[hi,hj],ho.1,ho.2,rfl⟩)⟩
  ·cases hev
 ·cases hev
theorem A8 {T:Tb}{a b c:Ex}{env:En}{p}(hev:fS T (.rng3 a b c) env = .ok p):p.2=[]/\∃ l,bQ T (.cons a (.cons b (.cons c .nil))) env = .ok l/\((∃ j,l.map (·.1)=[.int j]/\gM j=true/\p.1=bB 0 1 j.toNat)\/(∃ i j,l.map (·.1)=[.int i,.int j]/\gM i=true/\gM j=true/\p.1=bB i 1 (j - i).toNat) \/
   ∃ i j k,l.map (·.1)=[.int i,.int j,.int k]/\gM i=true/\gM j=true/\k≠0/\k.natAbs<1073741824/\p.1=bB i k (Builtin.Range.rangeSize i j k).toNat):=by
 unfold fS at hev;obtain⟨q,h1,hev⟩:=Rs.bind_ok hev;obtain⟨r,h2,hev⟩:=Rs.bind_ok hev;obtain⟨t,h3,hev⟩:=Rs.bind_ok hev;split at hev
 ·rename_i i j k hi hj hk;split at hev
  ·rename_i ho;cases hev;simp only[Bool.and_eq_true,bne_iff_ne,decide_eq_true_eq] at ho;exact⟨rfl,[q,r,t],by unfold bQ;rw[h1];unfold bQ;rw[h2];unfold bQ;rw[h3];unfold bQ;rfl,.inr (.inr ⟨i,j,k,by simp[hi,hj,hk],ho.1.1.1,ho.1.1.2,ho.1.2,ho.2,rfl⟩)⟩
  ·cases hev
 ·cases hev
def SE (X:Cx)(T:Tb)(e:Expr)(c:Ex):Prop:=PE X e (tE X.K T c)/\PT X e (qJ X.K T c)
section
variable {X:Cx}{S:Sc}{T:Tb}
theorem dS {f:Expr->Option Ex}(hf:∀ e c,f e=some c->SE X T e c):∀{es:List Expr}{cs:nJ},dO f es=some cs->PA X es (tD X.K T cs)
 |[],cs,h=>by cases h;exact vt
 | e::es,cs,h=>by
  obtain⟨hs,c,d,h1,h2,rfl⟩:=bR h;exact nF (hf e c h1).1 (dS hf h2) (bK hs)
theorem DV {f:Expr->Option Ex}{op:BoolOp}{pos:Pos}(hf:∀ e c,f e=some c->SE X T e c):∀{es:List Expr}{c:Ex},He f op es=some c->PE X (.BoolOp op es pos) (tE X.K T c)/\PW X (.BoolOp op es pos) (qJ X.K T c)
 |[],c,h=>by cases h
 | [a],c,h=>by
  have h:f a=some c:=h;have ⟨h1,h2⟩:=hf a c h;refine⟨rQ h1,?_⟩;cases op with
  |And=>exact Dk h2
  |Or=>exact FU h2
 | a::b::r,c,h=>by
  unfold He at h;rw[ah] at h;obtain⟨ca,h1,h2⟩:=h;rw[ag] at h2;obtain⟨cb,h2,h3⟩:=h2;subst h3;have ⟨ia,ta⟩:=hf a ca h1;have ⟨ib,tb⟩:=DV (pos:=pos) hf h2;cases op with
  |And=>exact⟨Gp ia ib,Es ta tb⟩
  |Or=>exact⟨Ib ia ib,Ig ta tb⟩
theorem tG (C:Ctx X S T):∀{es:List Expr}{is:List Nat},og S es=some is->IB X es (jE is)/\(assignEach es X.env).length=is.length/\(assignEach es X.env).findIdx? (·.1)=none:=by
 intro es
 induction es with
 |nil=>intro is h;cases h;exact⟨CU,rfl,rfl⟩
 |cons e es ih =>
  intro is h;cases e with
  |Name x p =>
   unfold og at h;by_cases hl:ka S.sc x=true
   ·rw[if_pos hl,ah] at h;obtain⟨i,h1,h2⟩:=h;rw[ag] at h2;obtain⟨js,h2,rfl⟩:=h2;obtain⟨a,b,c⟩:=ih h2;have hN:=C.nd;rw[<-C.N] at hN;have hi:=bW h1;rw[<-C.N] at hi;refine⟨Aw (vY hN hi (C.loc x hl).1 (C.loc x hl).2) a,?_,?_⟩
    ·show (assignEach es X.env).length+1=js.length+1;rw[b]
    ·show List.findIdx? (·.1) ((false,_)::assignEach es X.env)=none;rw[List.findIdx?_cons];simp[c]
   ·rw[if_neg hl] at h;cases h
  |_=>cases h
theorem vD (C:Ctx X S T){e:Expr}{t:pE}(h:vL S e=some t):PG X e (pR X.K t):=by
 cases e with
 |Name x p =>
  unfold vL at h;dsimp only at h;by_cases hl:ka S.sc x=true
  ·rw[if_pos hl,ag] at h;obtain⟨i,h1,rfl⟩:=h;have hN:=C.nd;rw[<-C.N] at hN;have hi:=bW h1;rw[<-C.N] at hi;exact vY hN hi (C.loc x hl).1 (C.loc x hl).2
  ·rw[if_neg hl] at h;cases h
 |Tuple es a b =>
  unfold vL at h;rw[ag] at h;obtain⟨is,h1,rfl⟩:=h;obtain⟨a,b,c⟩:=tG C h1;exact zL C.calm a b c
 |_=>cases h
theorem AY (C:Ctx X S T){f:Expr->Option Ex}(hf:∀ e c,f e=some c->SE X T e c){tg e:Expr}{it:sO}(h:G7 S f (isTup tg) e=some it):PI X tg e (tI X.K T it):=by
 unfold G7 at h;split at h
 ·rename_i x p es pos;by_cases hx:x = "range"
  ·subst hx;rw[if_pos rfl] at h;by_cases hg:m9 S "range" = true
   ·rw[if_pos hg] at h;have hg2:vP S.sc "range" = true/\S.fL.contains "range" = true:=by
     unfold m9 at hg
     rwa [ai] at hg
    cases hc:dO f es with
    |none=>rw[hc] at h;cases h
    |some cs =>
     rw[hc] at h;cases es with
     |nil=>cases hc;cases h
     |cons e0 rest =>
      obtain⟨hs,c0,d0,_,hd,rfl⟩:=bR hc;refine Ez rfl (C.gl _ hg2.1) (C.fL _ hg2.2) (dS hf hc) (bK hs) (eM hd) ?_;intro env p hev;cases d0 with
      |nil =>
       cases h;exact Aq hev
      |cons c1 d1 =>
       cases d1 with
       |nil =>
        cases h;exact yZ hev
       |cons c2 d2 =>
        cases d2 with
        |nil =>
         cases h;exact A8 hev
        |cons c3 d3=>cases h
   ·rw[if_neg hg] at h;cases h
  rw[if_neg hx] at h;by_cases hx:x = "enumerate"
  ·subst hx;rw[if_pos rfl] at h;by_cases hg:(m9 S "enumerate" && isTup tg)=true
   ·rw[if_pos hg] at h;rw[ai] at hg;have hg2:vP S.sc "enumerate" = true/\S.fL.contains "enumerate" = true:=by
     have:=hg.1;unfold m9 at this
     rwa [ai] at this
    cases tg with
    |Tuple elts x1 tp =>
     split at h
     ·rename_i e0;by_cases hs:notStar e0=true
      ·rw[if_pos hs,ag] at h;obtain⟨c,h1,rfl⟩:=h;exact Dv (C.gl _ hg2.1) (C.fL _ hg2.2) (nF (hf _ _ h1).1 vt (bK hs)) (bK hs)
      ·rw[if_neg hs] at h;cases h
     ·cases h
    |_=>cases hg.2
   ·rw[if_neg hg] at h;cases h
  rw[if_neg hx] at h;by_cases hx:x = "reversed"
  ·subst hx;rw[if_pos rfl] at h;cases h
  rw[if_neg hx] at h;by_cases hx:x = "zip"
  ·subst hx;rw[if_pos rfl] at h;by_cases hg:(m9 S "zip" && isTup tg)=true
   ·rw[if_pos hg] at h;rw[ai] at hg;have hg2:vP S.sc "zip" = true/\S.fL.contains "zip" = true:=by
     have:=hg.1;unfold m9 at this
     rwa [ai] at this
    cases tg with
    |Tuple elts x1 tp =>
     split at h
     ·rename_i e0 e1;by_cases hs:(notStar e0&&notStar e1)=true
      ·rw[if_pos hs,ah] at h;obtain⟨c,h1,h⟩:=h;rw[ag] at h;obtain⟨d,h2,rfl⟩:=h;rw[ai] at hs;exact EG (C.gl _ hg2.1) (C.fL _ hg2.2) (nF (hf _ _ h1).1 (nF (hf _ _ h2).1 vt (bK hs.2)) (bK hs.1)) (bK hs.1) (by rw[bK hs.2];rfl)
      ·rw[if_neg hs] at h;cases h
     ·cases h
    |_=>cases hg.2
   ·rw[if_neg hg] at h;cases h
  ·rw[if_neg hx,ag] at h;obtain⟨c,h1,rfl⟩:=h;exact zV (hf _ _ h1).1
 ·by_cases hn:gB e=true
  ·rw[if_pos hn,ag] at h;obtain⟨c,h1,rfl⟩:=h;exact zV (hf _ _ h1).1
  ·rw[if_neg hn] at h;cases h
end
theorem jq {env:Env}:∀{names:List (Str×NameKind)}{x:Str}{k:NameKind},names.lookup x=some k->k≠.free ->
  (names.map fun (n,k)=>if (k==NameKind.free&&env.scope.kind == .function&&env.kindOf n==some .cell) then (n,NameKind.cell) else (n,k)).lookup x=some k
 |[],_,_,h,_=>by simp at h
 | (n,k0)::r,x,k,h,hk=>by
  rw[ay];by_cases hc:(k0==NameKind.free&&env.scope.kind == .function&&env.kindOf n==some .cell)=true
  ·simp only[hc,if_true,List.lookup_cons] at h ⊢;cases hx:x==n with
   |true =>
    rw[hx] at h;cases h;rw[ai,ai] at hc;exact absurd (by simpa using hc.1.1) hk
   |false=>rw[hx] at h;exact jq h hk
  ·have hc:(k0==NameKind.free&&env.scope.kind == .function&&env.kindOf n==some .cell)=false:=by simpa using hc
   simp only[hc,Bool.false_eq_true,if_false,List.lookup_cons] at h ⊢;cases hx:x==n with
   |true=>rw[hx] at h;exact h
   |false=>rw[hx] at h;exact jq h hk
theorem mX:∀{l:List (Option Nat)}{p:List Nat},ky l=some p->l=p.map some
 |[],p,h=>by cases h;rfl
 | some i::r,p,h=>by
  simp only[ky,Option.map_eq_some_iff] at h;obtain⟨q,h1,rfl⟩:=h;rw[mX h1];rfl
 |none::r,p,h=>by cases h
theorem pb {S:Sc}{sc:Scope}(h:j9 S sc=true):sc.kind = .function/\(∀ y∈sc.names,y.2 = .cell->sc.names.lookup y.1=some .cell)/\(∀ y∈sc.names,y.2 = .local->sc.names.lookup y.1=some .local) /\
  (∀ y∈sc.names,y.2 = .free->sc.names.lookup y.1=some .free/\(eI S.sc y.1=some .cell\/eI S.sc y.1=some .free))/\(aY sc++aZ sc).Nodup:=by
 unfold j9 at h;simp only[Bool.and_eq_true,List.all_eq_true,Bool.or_eq_true,beq_iff_eq,bne_iff_ne,decide_eq_true_eq,eI] at h;obtain⟨⟨⟨⟨h1,h2⟩,h3⟩,h4⟩,h5⟩:=h;refine⟨h1,fun y hy e=>?_,fun y hy e=>?_,fun y hy e=>?_,h5⟩
 ·rcases h2 y hy with h | h
  ·exact absurd e h
  ·exact h
 ·rcases h3 y hy with h | h
  ·exact absurd e h
  ·exact h
 ·rcases h4 y hy with h | h
  ·exact absurd e h
  ·exact h
section
variable {X:Cx}{S:Sc}{T:Tb}{sc:Scope}{pick:List Nat}
theorem oN (C:Ctx X S T)(h:j9 S sc=true)(hp:ky ((aZ sc).map (idxOf S.N))=some pick):fH X sc (aY sc++aZ sc) (dG (aY sc).length pick):=by
 obtain⟨h1,h2,h3,h4,h5⟩:=pb h;have hp:=mX hp;have hlen:(aZ sc).length=pick.length:=by simpa using congrArg List.length hp
 refine⟨h1,h2,h3,by simp[dG,hlen],fun x hx=>C.cel x (h4 _ (PySem.mem_of_lookup hx) rfl).2,fun x hx=>(h4 _ hx rfl).1,fun i j x hi hx=>?_⟩;unfold dG at hi;by_cases hlt:i<(aY sc).length
 ·rw[List.getElem?_append_left (by simpa using hlt),List.getElem?_replicate] at hi;split at hi<;>cases hi
 ·have hle:=il hlt;rw[List.getElem?_append_right (by simpa using hle),List.length_replicate,<-hp,List.getElem?_map] at hi;rw[List.getElem?_append_right hle] at hx;rw[hx] at hi;simp only[Option.map_some,Option.some.injEq] at hi;have hm:=List.mem_of_getElem? hx;unfold aZ at hm;rw[List.mem_map] at hm;obtain⟨p,hp1,rfl⟩:=hm;rw[gn] at hp1;have hf:p.2 = .free:=by simpa using hp1.2
  refine⟨(h4 p hp1.1 hf).1,?_⟩;rw[C.N];exact bW hi
theorem qP (C:Ctx X S T)(h:j9 S sc=true)(Ca:Addr)(s0:Shared)(H0:Hp)(ex:List Addr):Ctx (inner X sc (aY sc++aZ sc) Ca s0 H0 ex) {S with N:=aY sc++aZ sc,sc:=sc} T:=by
 obtain⟨h1,h2,h3,h4,h5⟩:=pb h;have keep:∀ x k,sc.names.lookup x=some k->k≠.free->(relabel sc X.env).names.lookup x=some k:=fun x k e hk=>jq e hk
 refine⟨rfl,h5,fun x hx=>?_,fun x hx=>?_,fun x hx=>?_,fun x hx=>?_,C.units,C.calm,C.fns,C.yV,C.fL⟩
 ·unfold tF eI at hx;dsimp only at hx;split at hx
  ·rename_i e;exact .inl (keep _ _ e (by simp))
  ·rename_i e;exact .inr (.inl (keep _ _ e (by simp)))
  ·rename_i e;exact .inr (gG e)
  ·cases hx
 ·unfold ka eI at hx;dsimp only at hx;split at hx
  ·rename_i e;exact⟨.inl (keep _ _ e (by simp)),.inr (keep _ _ e (by simp))⟩
  ·rename_i e;exact⟨.inr (keep _ _ e (by simp)),.inl (by show (sc.names.lookup x==some NameKind.cell)=true;rw[e];rfl)⟩
  ·cases hx
 ·unfold vP eI at hx;dsimp only at hx;split at hx
  ·rename_i e;exact keep _ _ e (by simp)
  ·cases hx
 ·unfold eI at hx;rcases hx with hx | hx
  ·exact .inl (keep _ _ hx (by simp))
  ·exact gG hx
end
theorem Ab (n d:Nat)(o:Option Int):cP n d o=HT.cP n d o:=by cases o<;>rfl
theorem Ct (n d:Nat)(hd:d<=n)(o:Option Int):cP n d o<=n\/∃ i,o=some i/\i<0/\(n:Int)<i+n:=by
 cases o with
 |none=>exact .inl hd
 |some i =>
  left;simp only[cP];split<;>omega
theorem rj {n d:Nat}(hd:d<=n)(o:Option Int):cP n d o<=n:=by
 rcases Ct n d hd o with h | ⟨i,_,h1,h2⟩
 ·exact h
 ·omega
theorem GQ (lo hi:Option Int)(n:Nat):Builtin.Str.strSliceIndices lo hi 1 n=(List.range (cP n n hi - cP n 0 lo)).map (cP n 0 lo + ·):=by
 unfold Builtin.Str.strSliceIndices;have h1:∀(o:Option Int) (d:Nat),d<=n->(match o with | none=>(d:Int) | some i=>if (1:Int) > 0 then max 0 (min (if i<0 then i+(n:Int) else i) n) else max (-1) (min (if i<0 then i+(n:Int) else i) (n - 1)))=((cP n d o:Nat):Int):=by
  intro o d hd;cases o with
  |none=>rfl
  |some i =>
   simp only[cP];rw[if_pos (by decide)];by_cases hi:i<0
   ·rw[if_pos hi,if_pos hi];omega
   ·rw[if_neg hi,if_neg hi];omega
 have e1:=h1 lo 0 (dq _);have e2:=h1 hi n (au _);dsimp only;rw[if_pos (by decide),if_pos (by decide)];refine Eq.trans ?_ (sliceRange_one (cP n 0 lo) (cP n n hi));have gen:∀ a b a' b':Int,a=a'->b=b'->sliceRange a b 1=sliceRange a' b' 1:=fun a b a' b' h h'=>by rw[h,h']
 exact gen _ _ _ _ e1 e2
theorem F7 {X:Cx}:DE X (fun x lo hi H Q=>∃ z,x = .str z/\z.length<=lim/\Q (.str ⟨(cut z.cps.toList lo hi).toArray⟩) H):=by
 intro pins s σ H x v vl vu lo hi sl Q I rx hs pl pu h;obtain⟨z,rfl,hzl,q⟩:=h;obtain⟨t,rfl⟩:=rx;have part:∀{v:Value}{o:Option Int},IsPart v o->∃ l:Option (Int×Tok),partValue l=v/\l.map (·.1)=o:=fun h=>by
  cases h with
  |none=>exact⟨none,rfl,rfl⟩
  |int i t=>exact⟨some (i,t),rfl,rfl⟩
 obtain⟨l,rfl,rfl⟩:=part pl;obtain⟨u,rfl,rfl⟩:=part pu;refine⟨"str",_,PySem.F.slot_str_getitem.lookup,typeIs_str s z t,wpAny_getItem_str_slice (l:=l) (u:=u) (st:=none) hs rfl ?_⟩;have hp:slicePicked z l u none=(List.range (cP z.length z.length (u.map (·.1)) - cP z.length 0 (l.map (·.1)))).map (cP z.length 0 (l.map (·.1)) + ·):=GQ _ _ _;have hc:(slicePicked z l u none).filterMap (z.cps[·]?)=cut z.cps.toList (l.map (·.1)) (u.map (·.1)):=by
  rw[hp,pick_run];rfl
 unfold sliceMade;split
 ·rename_i hw;have hl:(slicePicked z l u none).length=z.length:=by
   have:=(ai _ _ ▸ hw).2;simpa using this
  rw[hp,aj,bj] at hl;have hz:(⟨(cut z.cps.toList (l.map (·.1)) (u.map (·.1))).toArray⟩:Str)=z:=by
   have a1:=rj (n:=z.length) (dq _) (l.map (·.1));have a2:=rj (n:=z.length) (au _) (u.map (·.1));have:cut z.cps.toList (l.map (·.1)) (u.map (·.1))=z.cps.toList:=by
    have hlen:z.cps.toList.length=z.length:=rfl;unfold cut;rw[hlen];dsimp only;by_cases h0:z.length=0
    ·have:z.cps.toList=[]:=List.eq_nil_of_length_eq_zero (hlen.trans h0);rw[this];simp
    ·rw[show cP z.length 0 (l.map (·.1))=0 by omega,show cP z.length z.length (u.map (·.1))=z.length by omega,List.drop_zero,Nat.sub_zero];exact jj (Nat.le_of_eq hlen)
   rw[this]
  rw[hz] at q;exact⟨.str z,H,I,⟨t,rfl⟩,q⟩
 ·rw[hc];refine⟨?_,.str _,H,I.tok _,⟨_,rfl⟩,q⟩;show (cut z.cps.toList (l.map (·.1)) (u.map (·.1))).toArray.size<=sizeLine;rw[ao];refine br ?_ (oi hzl);unfold cut;rw[eu,gi];exact br (je _ _) (Nat.sub_le _ _)
section
variable {X:Cx}{T:Tb}{a:Expr}{ca:Ex}{lo hi:Option Expr}{cl ch:rk}{pos p2:Pos}
noncomputable def tO (K:Frag)(T:Tb)(c:rk):TO:=fun σ H Q=>∃ P env F,RE K P env σ H F/\∃ o,pK T c env = .ok o/\∀ H',aN H H'->Q o H'
theorem y4 {X:Cx}{e:Option Expr}{t t':TO}(h:PO X e t)(k:∀ σ H Q,t' σ H Q->t σ H Q):PO X e t':=fun pins s σ H Q I q=>h pins s σ H Q I (k σ H Q q)
theorem Dl:PO X none (tO X.K T .none):=y4 CV fun σ H Q ⟨P,env,F,re,o,h,k⟩=>by
 unfold pK at h;cases h;exact k H (aN.refl _)
theorem B7 (h:PE X a (tE X.K T ca)):PO X (some a) (tO X.K T (.some ca)):=y4 (C5 h) fun σ H Q ⟨P,env,F,re,o,h,k⟩=>by
 unfold pK at h;obtain⟨p,h1,h2⟩:=Rs.bind_ok h;refine⟨P,env,F,re,p,h1,fun v H' G s rp rt=>?_⟩;split at h2
 ·rename_i i hi;cases h2;rw[hi] at rp;obtain⟨rfl,rfl⟩:=rp.int_inv;exact⟨i,rfl,k H' s⟩
 ·cases h2
theorem Jd (ha:PE X a (tE X.K T ca))(hl:PO X lo (tO X.K T cl))(hh:PO X hi (tO X.K T ch)):PE X (.Subscript a (.Slice lo hi none p2) pos) (tE X.K T (.sl ca cl ch)):=by
 refine cD (A5 (BL.or (F7.or GD)) ha hl hh) fun σ H Q ⟨P,env,F,re,p,hev,k⟩=>?_
 unfold ev at hev;obtain⟨q,h1,hev⟩:=Rs.bind_ok hev;obtain⟨ol,h2,hev⟩:=Rs.bind_ok hev;obtain⟨oh,h3,hev⟩:=Rs.bind_ok hev;obtain⟨d,h4,hev⟩:=Rs.bind_ok hev;have h4:=dN h4;cases hev;refine⟨P,env,F,re,q,h1,fun v H1 G s rp rt=>⟨P,env,F,re.same s,ol,h2,fun H2 s2=>⟨P,env,F,re.same (s.trans s2),oh,h3,fun H3 s3=>?_⟩⟩⟩;have s23:=s2.trans s3;cases hq:q.1 with
 |lst xs =>
  rw[hq] at rp h4;cases h4;obtain⟨pa,vs,G',rfl,rfl,hr,rs⟩:=Rep.lst_inv (rp.same s23);refine .inl ⟨pa,vs,rfl,.inl hr,fun pn hn=>?_⟩;obtain⟨G1,r1,u1⟩:=rs.drop (cP xs.length 0 ol);obtain⟨G2,r2,u2⟩:=r1.take (cP xs.length xs.length oh - cP xs.length 0 ol);have hc:ud vs ol oh=(vs.drop (cP xs.length 0 ol)).take (cP xs.length xs.length oh - cP xs.length 0 ol):=by
   unfold ud;rw[rs.len,Ab,Ab]
  rw[hc];have sub:∀ a∈G2,a∈pa::G':=fun a ha=>aa _ (u1.mem (u2.mem ha))
  obtain⟨rp',nv⟩:=kd (G0:=pa::G') r2 sub hn;have ar:Args X.K env F H H3 [q] [.ref pa] ((pa::G') ++ []):=.cons s (by rw[hq];exact rp) rt (.nil s23);rw[cg] at ar;exact k _ _ _ ((s.trans s23).trans nv.same) rp' (bY.new ar nv (by simp[bX]))
 |_=>rw[hq] at h4;cases h4
end
section
variable {X:Cx}{S:Sc}{T:Tb}
theorem zJ {f:Expr->Option Ex}(hf:∀ e c,f e=some c->SE X T e c){o:Option Expr}{c:rk}(h:By f o=some c):PO X o (tO X.K T c):=by
 cases o with
 |none=>cases h;exact Dl
 |some e =>
  have h:(f e).map rk.some=some c:=h;rw[ag] at h;obtain⟨d,h1,rfl⟩:=h;exact B7 (hf e d h1).1
theorem EN {x id:String}{b:Dm}{f:Expr->Option Ex}(hf:∀ e c,f e=some c->SE X T e c){e:Expr}{r:List Expr}{cs:nJ}{p pos:Pos}(hr:jK X (.builtin id) (vJ X.K b))(hv:bootBuiltins x=some (.builtin id))(hg:Gl X x)(hm:X.mg x=none)(hn:fO x=true)(ha:dO f (e::r)=some cs) :
  PE X (.Call (.Name x p) (e::r) [] pos) (tE X.K T (.blt b cs)):=by
 obtain⟨hs,_,_,_,h2,_⟩:=bR ha;obtain⟨n1,n2,n3⟩:=fG hn;exact cD (gF hr hg hm hv (dS hf ha) n3 n1 (bK hs) (eM h2)) fun σ H Q h=>ua h
theorem bltT {x id:String}{b:Dm}{f:Expr->Option Ex}(hf:∀ e c,f e=some c->SE X T e c){e:Expr}{r:List Expr}{cs:nJ}{p pos:Pos}(hr:jK X (.type id) (vJ X.K b))(hv:bootBuiltins x=some (.type id))(hg:Gl X x)(hm:X.mg x=none)(hn:fO x=true)(ha:dO f (e::r)=some cs) :
  PE X (.Call (.Name x p) (e::r) [] pos) (tE X.K T (.blt b cs)):=by
 obtain⟨hs,_,_,_,h2,_⟩:=bR ha;obtain⟨n1,n2,n3⟩:=fG hn;exact cD (xS hr hg hm hv (dS hf ha) n3 n1 (bK hs) (eM h2)) fun σ H Q h=>ua h
theorem A3 {t:Str}{u:String}(h:E8 t=some u):u∈kB/\bootBuiltins t=some (.type u):=by
 unfold E8 at h;split at h
 ·rename_i e;cases h;subst e;exact⟨by decide,boot_int⟩
 split at h
 ·rename_i e;cases h;subst e;exact⟨by decide,boot_bool⟩
 split at h
 ·rename_i e;cases h;subst e;exact⟨by decide,boot_str⟩
 split at h
 ·rename_i e;cases h;subst e;exact⟨by decide,boot_list⟩
 split at h
 ·rename_i e;cases h;subst e;exact⟨by decide,boot_tuple⟩
 cases h
theorem Dd (C:Ctx X S T){f:Expr->Option Ex}(hf:∀ e c,f e=some c->SE X T e c){x:Str}{es:List Expr}{c:Ex}{p pos:Pos}(h:wH S f x es=some c):PE X (.Call (.Name x p) es [] pos) (tE X.K T c):=by
 unfold wH at h;by_cases hk:(fO x&&vP S.sc x)=true
 ·rw[if_pos hk] at h;rw[ai] at hk;obtain⟨hn,hg⟩:=hk;have hg:=C.gl x hg;obtain⟨n1,n2,n3⟩:=fG hn;cases hi:idxOf S.fns x with
  |some i =>
   rw[hi] at h;dsimp only at h;rw[ag] at h;obtain⟨cs,h1,rfl⟩:=h;obtain⟨fa,fd,ps,k,FO,hr,hm,hkp,hb,hl⟩:=C.fns i x hi;cases es with
   |nil =>
    cases h1;refine cD (y8 FO hr hg hm hkp hb .nil DY n1) fun σ H Q h=>?_
    have:=rf hl h;obtain⟨P,env,F,re,l,hev,k⟩:=this;unfold bQ at hev;cases hev;exact k [] H [] (.nil (aN.refl _))
   |cons e r =>
    obtain⟨hs,_,_,_,h2,_⟩:=bR h1;exact cD (B1 FO hr hg hm hkp hb .nil DY (dS hf h1) n1 (bK hs) (eM h2)) fun σ H Q h=>rf hl h
  |none =>
   rw[hi] at h;dsimp only at h;by_cases hb:S.fL.contains x=true
   ·rw[if_pos hb] at h;have hm:=C.fL x hb;by_cases hx:x = "isinstance"
    ·rw[if_pos hx] at h;subst hx;unfold Ia at h;split at h
     ·rename_i a t pt;by_cases hc:(vP S.sc t&&S.fL.contains t&&fO t&&notStar a)=true
      ·rw[if_pos hc] at h;simp only[Bool.and_eq_true] at hc;obtain⟨⟨⟨c1,c2⟩,c3⟩,c4⟩:=hc;rw[ah] at h;obtain⟨u,h1,h2⟩:=h;rw[ag] at h2;obtain⟨ca,h2,rfl⟩:=h2;obtain⟨hu,hbt⟩:=A3 h1;obtain⟨m1,m2,m3⟩:=fG c3;refine cD (gF mJ hg hm boot_isinstance (aW (hf a ca h2).1 (aW (nz (v:=.ty u) (C.gl t c1) (C.fL t c2) hbt rfl m3 m1) fE rfl) (bK c4)) n3 n1 (bK c4) rfl) fun σ H Q h=>Be hu h
      ·rw[if_neg hc] at h;cases h
     ·cases h
    ·rw[if_neg hx] at h;by_cases hlr:x = "list"/\qW es=true
     ·rw[if_pos hlr] at h;obtain⟨rfl,_⟩:=hlr;cases h
     rw[if_neg hlr] at h;by_cases hlg:x = "list"/\qf es=true
     ·rw[if_pos hlg] at h;obtain⟨rfl,_⟩:=hlg;unfold DH at h;split at h
      ·rename_i r pr es' pp zz;by_cases hrr:r = "range"
       ·rw[if_pos hrr] at h;subst hrr;by_cases hgr:m9 S "range" = true
        ·rw[if_pos hgr] at h;have hg2:vP S.sc "range" = true/\S.fL.contains "range" = true:=by
          have:=hgr;unfold m9 at this
          rwa [ai] at this
         split at h
         ·rename_i a;rw[ag] at h;obtain⟨cs,ha,rfl⟩:=h;obtain⟨n1,c1,d1,_,hd,_⟩:=bR ha;exact wg C.calm hg hm (C.gl _ hg2.1) (C.fL _ hg2.2) (dS hf ha) ⟨_,_,rfl,bK n1,rfl⟩
         ·rename_i a b;rw[ag] at h;obtain⟨cs,ha,rfl⟩:=h;obtain⟨n1,c1,d1,_,hd,_⟩:=bR ha;obtain⟨n2,_,_,_,_,_⟩:=bR hd;exact wg C.calm hg hm (C.gl _ hg2.1) (C.fL _ hg2.2) (dS hf ha) ⟨_,_,rfl,bK n1,by rw[bK n2];rfl⟩
         ·cases h
        ·rw[if_neg hgr] at h;cases h
       ·rw[if_neg hrr] at h;cases h
      ·cases h
     rw[if_neg hlg] at h;cases es with
     |nil=>cases h
     |cons e r =>
      dsimp only at h;rw[ah] at h;obtain⟨b,h1,h2⟩:=h;rw[ag] at h2;obtain⟨cs,h2,rfl⟩:=h2;unfold IG at h1;split at h1
      ·rename_i e;cases h1;subst e;exact EN hf yB boot_len hg hm hn h2
      split at h1
      ·rename_i e;cases h1;subst e;exact EN hf (xQ C.calm) boot_all hg hm hn h2
      split at h1
      ·rename_i e;cases h1;subst e;exact bltT hf (uP C.calm) boot_list hg hm hn h2
      split at h1
      ·rename_i e;cases h1;subst e;exact EN hf rV boot_sorted hg hm hn h2
      cases h1
   ·rw[if_neg hb] at h;cases h
 ·rw[if_neg hk] at h;cases h
theorem FF {f:Expr->Option Ex}(hf:∀ e c,f e=some c->SE X T e c){o:Expr}{name:Str}{es:List Expr}{c:Ex}{apos cpos:Pos}(h:Ek f o name es apos cpos=some c):PE X (.Call (.Attribute o name apos) es [] cpos) (tE X.K T c):=by
 cases h
theorem rM {own:Nat}{pick:List Nat}{t:pE}(h:xM own t=true)(i:Nat)(hi:t = .nm i\/∃ is,t = .tp is/\i∈is):(dG own pick)[i]? = some none:=by
 have:i<own:=by
  rcases hi with rfl | ⟨is,rfl,hm⟩
  ·simpa[xM] using h
  ·simp only[xM,List.all_eq_true,decide_eq_true_eq] at h;exact h i hm
 unfold dG;rw[List.getElem?_append_left (by simpa using this),List.getElem?_replicate,if_pos this]
structure qX (X:Cx)(S:Sc)(T:Tb)(elt tg iter:Expr)(ifs:List Expr)(sc:Scope)(c:Ex):Prop where
 ex:∃ pick t it ci ce,c = .comp (aY sc).length pick t it ci ce/\fH X sc (aY sc++aZ sc) (dG (aY sc).length pick)/\PI X tg iter (tI X.K T it) /\
  (∀ C s0 H0 ex,PG (inner X sc (aY sc++aZ sc) C s0 H0 ex) tg (pR X.K t)/\EL (inner X sc (aY sc++aZ sc) C s0 H0 ex) ifs (z0 X.K T ci)/\PE (inner X sc (aY sc++aZ sc) C s0 H0 ex) elt (tE X.K T ce)) /\
  xM (aY sc).length t=true/\gB iter=true
theorem oU (C:Ctx X S T){f:Sc->Expr->Option Ex}(hf:∀{X:Cx}{S:Sc},Ctx X S T->∀ e c,f S e=some c->SE X T e c){elt tg iter:Expr}{ifs:List Expr}{sc:Scope}{c:Ex}(h:ur S f elt tg iter ifs sc=some c):qX X S T elt tg iter ifs sc c:=by
 unfold ur at h;by_cases hk:(j9 S sc&&gB iter)=true
 ·rw[if_pos hk] at h;rw[ai] at hk;rw[ah] at h;obtain⟨it,h1,h⟩:=h;rw[ah] at h;obtain⟨pick,h2,h⟩:=h;rw[ah] at h;obtain⟨t,h3,h⟩:=h;by_cases ho:xM (aY sc).length t=true
  ·rw[if_pos ho] at h;rw[ah] at h;obtain⟨ci,h4,h⟩:=h;rw[ag] at h;obtain⟨ce,h5,rfl⟩:=h;refine⟨pick,t,it,ci,ce,rfl,oN C hk.1 h2,AY C (hf C) h1,fun Ca s0 H0 ex=>?_,ho,hk.2⟩;have C':=qP C hk.1 Ca s0 H0 ex;refine⟨vD C' h3,?_,(hf C' elt ce h5).1⟩;unfold Jl at h4;split at h4
   ·cases h4;exact xi
   ·rw[ag] at h4;obtain⟨cc,h4,rfl⟩:=h4;exact CD (hf C' _ cc h4).2
   ·cases h4
  ·rw[if_neg ho] at h;cases h
 ·rw[if_neg hk] at h;cases h
theorem Dx (C:Ctx X S T){elt tg iter:Expr}{ifs:List Expr}{sc:Scope}{c:Ex}{pos:Pos}(h:qX X S T elt tg iter ifs sc c):PE X (.ListComp elt [⟨tg,iter,ifs,0⟩] sc pos) (tE X.K T c):=by
 obtain⟨pick,t,it,ci,ce,rfl,h1,h2,h3,h4,h5⟩:=h;exact cD (xg h1 C.calm h2 h3 (mQ (rM h4)) (oK h5)) fun σ H Q h=>qL h
theorem Dr (C:Ctx X S T){f:Expr->Option Ex}(hf:∀ e c,f e=some c->SE X T e c){x kn:Str}{a d:Expr}{c:Ex}{p kp pos:Pos}(h:z5 S f x a d kn=some c):PE X (.Call (.Name x p) [a] [⟨some kn,d,kp⟩] pos) (tE X.K T c):=by
 cases h
theorem fQ:∀(n:Nat) {X:Cx}{S:Sc}{T:Tb}(C:Ctx X S T) (e:Expr) (c:Ex),cE n S e=some c->SE X T e c:=by
 intro n
 induction n with
 |zero=>intro X S T C e c h;cases h
 |succ n ih =>
  intro X S T C e c h;have ihX:=ih C;cases e with
  |Name x p =>
   have h:AI S x=some c:=h;unfold AI at h;by_cases hn:fO x=true
   ·rw[if_pos hn] at h;obtain⟨n1,n2,n3⟩:=fG hn;by_cases hv:tF S.sc x=true
    ·rw[if_pos hv,ag] at h;obtain⟨i,h1,rfl⟩:=h;have hi:=bW h1;rw[<-C.N] at hi;have:=Gj (T:=T) (pos:=p) hi (C.vis x hv) n1 n2;exact⟨this,dZ this fun _=>rfl⟩
    ·rw[if_neg hv] at h;by_cases hg:vP S.sc x=true
     ·rw[if_pos hg,ag] at h;obtain⟨i,h1,rfl⟩:=h;obtain⟨v,u,g1,g2,g3⟩:=C.yV i x h1;have:=Ej (fK (pos:=p) (C.gl x hg) g1 g2 n1) g3;exact⟨this,dZ this fun _=>rfl⟩
     ·rw[if_neg hg] at h;cases h
   ·rw[if_neg hn] at h;cases h
  |Constant k x1 p =>
   have h:IY k=some c:=h;cases k with
   |int i=>cases h;exact⟨mz (T:=T) sg fun H=>Rep.int _,dZ (mz (T:=T) sg fun H=>Rep.int _) fun _=>rfl⟩
   |bool b=>cases h;exact⟨mz (T:=T) A6 fun H=>Rep.bl _,dZ (mz (T:=T) A6 fun H=>Rep.bl _) fun _=>rfl⟩
   |none=>cases h;exact⟨mz (T:=T) sD fun H=>Rep.non,dZ (mz (T:=T) sD fun H=>Rep.non) fun _=>rfl⟩
   |_=>cases h
  |BinOp a op b p =>
   have h:((cE n S a).bind fun ca=>(cE n S b).map fun cb=>.bin op ca cb)=some c:=h;rw[ah] at h;obtain⟨ca,h1,h⟩:=h;rw[ag] at h;obtain⟨cb,h2,rfl⟩:=h;have:=EA (pos:=p) (CC op) (ihX a ca h1).1 (ihX b cb h2).1;exact⟨this,dZ this fun _=>rfl⟩
  |UnaryOp op a p =>
   have h:cUn op (cE n S a)=some c:=h;cases op with
   |USub =>
    have h:(cE n S a).map .neg=some c:=h;rw[ag] at h;obtain⟨ca,h1,rfl⟩:=h;have:=GC (pos:=p) (ihX a ca h1).1;exact⟨this,dZ this fun _=>rfl⟩
   |Not =>
    have h:(cE n S a).map .not=some c:=h;rw[ag] at h;obtain⟨ca,h1,rfl⟩:=h;exact⟨Fo (ihX a ca h1).1,EM (ihX a ca h1).2⟩
   |_=>cases h
  |BoolOp op es p =>
   have h:He (cE n S) op es=some c:=h;have ⟨h1,h2⟩:=DV (pos:=p) ihX h;exact⟨h1,h2.pt⟩
  |Compare a ops bs p =>
   have h:Ik (cE n S) a ops bs=some c:=h;cases ops with
   |nil=>cases h
   |cons op r=>cases r with
    |nil=>cases bs with
     |nil=>cases h
     |cons b r2=>cases r2 with
      |cons _ _=>cases h
      |nil =>
       have h:Ap (cE n S) a op b=some c:=h;unfold Ap at h;by_cases hb:behindInMarks op b=true
       ·rw[if_pos hb] at h;cases h
       ·rw[if_neg hb] at h;have hb:behindInMarks op b=false:=by simpa using hb
        rw[ah] at h;obtain⟨ca,h1,h⟩:=h;rw[ag] at h;obtain⟨cb,h2,rfl⟩:=h;exact⟨GG (xu op C.units) (ihX a ca h1).1 (ihX b cb h2).1 hb,Ga C.units (ihX a ca h1).1 (ihX b cb h2).1 hb⟩
    |cons op' r2=>cases r2 with
     |cons _ _=>cases bs<;>cases h
     |nil=>cases bs with
      |nil=>cases h
      |cons b r3=>cases r3 with
       |nil=>cases h
       |cons d r4=>cases r4 with
        |cons _ _=>cases h
        |nil =>
         have h:DP (cE n S) a op op' b d=some c:=h;cases h
  |IfExp t a b p =>
   have h:((cE n S t).bind fun cc=>(cE n S a).bind fun ca=>(cE n S b).map fun cb=>.ite cc ca cb)=some c:=h;rw[ah] at h;obtain⟨cc,h1,h⟩:=h;rw[ah] at h;obtain⟨ca,h2,h⟩:=h;rw[ag] at h;obtain⟨cb,h3,rfl⟩:=h;exact⟨EZ (ihX t cc h1).2 (ihX a ca h2).1 (ihX b cb h3).1,Gu (ihX t cc h1).2 (ihX a ca h2).2 (ihX b cb h3).2⟩
  |List es p =>
   have h:(dO (cE n S) es).map .lst=some c:=h;rw[ag] at h;obtain⟨cs,h1,rfl⟩:=h;have:=Gc (pos:=p) (dS ihX h1);exact⟨this,dZ this fun _=>rfl⟩
  |Dict ks vs p =>
   have h:Iz ks vs=some c:=h;cases h
  |Tuple es x1 p =>
   have h:(dO (cE n S) es).map .tup=some c:=h;rw[ag] at h;obtain⟨cs,h1,rfl⟩:=h;have:=E3 (pos:=p) (x1:=x1) (dS ihX h1);exact⟨this,dZ this fun _=>rfl⟩
  |Subscript a b p =>
   have h:DC (cE n S) a b=some c:=h;by_cases hb:mM b=true
   ·have h:(if mM b then (cE n S a).bind fun ca=>(cE n S b).map fun cb=>.ix ca cb else none)=some c:=by
     cases b<;>first | exact h | cases hb
    rw[if_pos hb] at h;rw[ah] at h;obtain⟨ca,h1,h⟩:=h;rw[ag] at h;obtain⟨cb,h2,rfl⟩:=h;have:=HJ (pos:=p) (CA C.units.2) (ihX a ca h1).1 (ihX b cb h2).1 (zx hb);exact⟨this,dZ this fun _=>rfl⟩
   ·cases b with
    |Slice lo hi st p2 =>
     cases st with
     |none =>
      have h:((cE n S a).bind fun ca=>(By (cE n S) lo).bind fun l=>(By (cE n S) hi).map fun h=>.sl ca l h)=some c:=h;rw[ah] at h;obtain⟨ca,h1,h⟩:=h;rw[ah] at h;obtain⟨cl,h2,h⟩:=h;rw[ag] at h;obtain⟨ch,h3,rfl⟩:=h;have:=Jd (pos:=p) (p2:=p2) (ihX a ca h1).1 (zJ ihX h2) (zJ ihX h3);exact⟨this,dZ this fun _=>rfl⟩
     |some _=>cases h
    |_=>exact absurd rfl hb
  |Call g es ks pos =>
   have h:AO S (cE n S) g es ks pos=some c:=h;cases g with
   |Name x p =>
    have h:AF S (cE n S) x es ks=some c:=h;cases ks with
    |nil =>
     have h:wH S (cE n S) x es=some c:=h;have:=Dd (p:=p) (pos:=pos) C ihX h;exact⟨this,dZ this fun _=>rfl⟩
    |cons k r=>cases r with
     |cons _ _=>obtain⟨_,_,_⟩:=k;cases h
     |nil =>
      obtain⟨k,d,kp⟩:=k;cases k with
      |none=>cases h
      |some kn=>cases es with
       |nil=>cases h
       |cons a r2=>cases r2 with
        |cons _ _=>cases h
        |nil =>
         have h:z5 S (cE n S) x a d kn=some c:=h;have:=Dr (p:=p) (kp:=kp) (pos:=pos) C ihX h;exact⟨this,dZ this fun _=>rfl⟩
   |Attribute o name apos =>
    cases ks with
    |nil =>
     have h:Ek (cE n S) o name es apos pos=some c:=h;have:=FF (apos:=apos) (cpos:=pos) ihX h;exact⟨this,dZ this fun _=>rfl⟩
    |cons _ _=>cases h
   |_=>cases h
  |ListComp elt gens sc pos =>
   have h:cLC S (cE n) elt sc gens=some c:=h;cases gens with
   |nil=>cases h
   |cons g r=>cases r with
    |cons _ _=>obtain⟨_,_,_,_⟩:=g;cases h
    |nil =>
     obtain⟨tg,iter,ifs,as⟩:=g;have h:(if as=0 then ur S (cE n) elt tg iter ifs sc else none)=some c:=h;by_cases ha:as=0
     ·rw[if_pos ha] at h;subst ha;have:=Dx (pos:=pos) C (oU C (fun C'=>ih C') h);exact⟨this,dZ this fun _=>rfl⟩
     ·rw[if_neg ha] at h;cases h
  |_=>cases h
end
structure ve (X:Cx)(S:Sc)(T:Tb):Prop where
 c:Ctx X S T
 sc:X.env.scope=S.sc
 fn:S.sc.kind = .function
 own:PassesOwn (model X.prog X.w) X.A X.env X.xe
noncomputable def lu (n:Nat)(S:Sc):Expr->Option (Nat×rk)
 |.Name x _=>if fO x&&tF S.sc x then (idxOf S.N x).map fun i=>(i,.none) else none
 |_=>none
noncomputable def C6 (n:Nat)(S:Sc)(tg e:Expr):Option St:=match tg with
 |.Name x px=>match e with
  |.ListComp elt [⟨tg',iter,ifs,0⟩] sc p=>if ka S.sc x then (idxOf S.N x).bind fun i=>(cE n S (.ListComp elt [⟨tg',iter,ifs,0⟩] sc p)).map fun c=>.asg (.nm i) c false else none
  |e=>if iC e then none else if ka S.sc x then (idxOf S.N x).bind fun i=>(cE n S e).map fun c=>.asg (.nm i) c false else none
 |.Tuple es k p=>if iC e || isTup e then none else (og S es).bind fun is=>(cE n S e).map fun c=>.asg (.tp is) c false
 |.Subscript o ix p=>if iC e || !mM ix then none else (lu n S o).bind fun q=>(cE n S ix).bind fun ci=>(cE n S e).map fun c=>.setix q.1 q.2 ci c
 |_=>none
noncomputable def AD (n:Nat)(S:Sc)(o:Expr)(name:Str)(es:List Expr)(apos cpos:Pos):Option St:=match es with
 | [.Call (.Attribute o2 name2 apos2) [a] [] cpos2]=>if name = "append"/\name2 = "pop"/\(apos.endLine==cpos.line)=true/\(apos2.endLine==cpos2.line)=true then (match lu n S o,lu n S o2 with
  | some (y,.none),some (x,.none)=>(dO (cE n S) [a]).map fun cs=>.apop y x cs
  |_,_=>none) else none
 |_=>none
noncomputable def cAug (n:Nat)(S:Sc)(tg:Expr)(op:Operator)(e:Expr):Option St:=none
noncomputable def Ad (n:Nat)(S:Sc)(tg e:Expr):Option St:=match tg with
 |.Name x px=>(match e with
  | .Call (.Attribute o name apos) [a] [] cpos=>if name = "pop" then (if ka S.sc x&&apos.endLine==cpos.line then (idxOf S.N x).bind fun y=>(match lu n S o with
   | some (i,.none)=>(dO (cE n S) [a]).map fun cs=>.popa y i cs
   |_=>none) else none) else none
  | .ListComp (.Call (.Attribute o name apos) [a] [] cpos) [⟨tg',iter,[],0⟩] sc p=>if name = "pop"/\(apos.endLine==cpos.line)=true/\j9 S sc=true/\gB iter=true/\ka S.sc x=true/\(aY sc).length=1 then (idxOf S.N x).bind fun y=>(G7 S (cE n S) (isTup tg') iter).bind fun it =>
   (match ky ((aZ sc).map (idxOf S.N)),vL {S with N:=aY sc++aZ sc,sc:=sc} tg',lu n {S with N:=aY sc++aZ sc,sc:=sc} o with
   | some [i],some (.nm 0),some (1,.none)=>(dO (cE n {S with N:=aY sc++aZ sc,sc:=sc}) [a]).map fun cs=>.popc y i it cs
   |_,_,_=>none) else none
  |_=>none)
 |_=>none
noncomputable def G6 (n:Nat)(S:Sc)(e:Expr):Option St:=if iC e then none else (cE n S e).map .expr
noncomputable def Jf (n:Nat)(S:Sc):Expr->Option St
 |.Constant k x1 p=>(match k with
  |.str _=>some .pass
  |k=>G6 n S (.Constant k x1 p))
 |.Call g es ks cpos=>(match g with
  |.Attribute o name apos=>(match ks with
   |[]=>AD n S o name es apos cpos
   |k::ks=>G6 n S (.Call (.Attribute o name apos) es (k::ks) cpos))
  |g=>G6 n S (.Call g es ks cpos))
 |e=>G6 n S e
noncomputable def cAs (n:Nat)(S:Sc)(e:Expr):List Expr->Option St
 |[]=>none
 |[tg]=>(match Ad n S tg e with
  |some c=>some c
  |none=>C6 n S tg e)
 |_::_::_=>none
noncomputable def cRet (n:Nat)(S:Sc):Option Expr->Option St
 |none=>some .retN
 |some e=>(cE n S e).map .ret
noncomputable def HR (n:Nat)(S:Sc)(tg iter:Expr)(ob:Option bJ):List Stmt->Option St
 |[]=>if gB iter then (vL S tg).bind fun t=>ob.bind fun cb=>(G7 S (cE n S) (isTup tg) iter).map fun it=>.forr t it cb else none
 |_::_=>none
noncomputable def cWhl (n:Nat)(S:Sc)(e:Expr)(ob:Option bJ):List Stmt->Option St
 |[]=>(cE n S e).bind fun c=>ob.map fun cb=>.whl c cb
 |_::_=>none
mutual
noncomputable def cS:Nat->Sc->Stmt->Option St
 |0,_,_=>none
 |n+1,S,st=>match st with
  |.Assign tgs e _=>cAs n S e tgs
  |.AugAssign tg op e _=>cAug n S tg op e
  |.Expr e _=>Jf n S e
  |.Return o _=>cRet n S o
  |.If e a b _=>(cE n S e).bind fun c=>(wj n S a).bind fun ca=>(wj n S b).map fun cb=>.ite c ca cb
  |.For tg iter b oe _=>HR n S tg iter (wj n S b) oe
  |.While e b oe _=>cWhl n S e (wj n S b) oe
  |.Pass _=>some .pass
  |.Raise _ _ _=>some (.expr (.neg (.cst .non)))
  |.Break _=>some .brk
  |.Continue _=>some .cnt
  |_=>none
noncomputable def wj:Nat->Sc->List Stmt->Option bJ
 |0,_,_=>none
 |_+1,_,[]=>some .nil
 |n+1,S,s::r=>(cS n S s).bind fun c=>(wj n S r).map fun d=>.cons c d
end
theorem r6 {e:Expr}{t:Option Expr}{l:Nat}{env:Env}(h:iC e=false):swapsWith e t l env=pure false:=by
 cases e<;>first | rfl | (cases h)
theorem pW {e t:Expr}{l:Nat}{env:Env}(h:iC e=false):swapsWithSole [t] e l env=pure false:=r6 h
section
variable {X:Cx}{S:Sc}{T:Tb}
theorem B5 {st:Stmt}:PS X st (tS X.K T (.expr (.neg (.cst .non)))):=by
 intro pins s σ H D I h;obtain⟨P,Z,env,F,re,hz,zp,h⟩:=h;exact h.elim
theorem lH (C:Ctx X S T){n:Nat}{o:Expr}{q:Nat×rk}(h:lu n S o=some q):PE X o (l7 X.K T q.1 q.2):=by
 unfold lu at h;split at h
 ·rename_i x p;by_cases hk:(fO x&&tF S.sc x)=true
  ·rw[if_pos hk,ag] at h;rw[ai] at hk;obtain⟨i,h1,rfl⟩:=h;obtain⟨n1,n2,n3⟩:=fG hk.1;have hi:=bW h1;rw[<-C.N] at hi;exact Fe hi (C.vis x hk.2) n1 n2
  ·rw[if_neg hk] at h;cases h
 ·cases h
theorem km {n:Nat}{o:Expr}{q:Nat×rk}{name:Str}{env:Env}(h:lu n S o=some q):attributeBase o name env (eval o env)=eval o env:=by
 unfold lu at h;split at h
 ·rfl
 ·cases h
theorem FZ (C:ve X S T){n:Nat}{tg e:Expr}{c:St}{pos:Pos}(h:C6 n S tg e=some c):PS X (.Assign [tg] e pos) (tS X.K T c):=by
 have hN:=C.c.nd;rw[<-C.c.N] at hN;unfold C6 at h;split at h
 ·rename_i x px;split at h
  ·rename_i elt tg' iter ifs sc p;by_cases hl:ka S.sc x=true
   ·rw[if_pos hl,ah] at h;obtain⟨i,h1,h⟩:=h;rw[ag] at h;obtain⟨ce,h2,rfl⟩:=h;have hi:=bW h1;rw[<-C.c.N] at hi;have hsw:swapsWith (.ListComp elt [⟨tg',iter,ifs,0⟩] sc p) (some (.Name x px)) pos.line X.env=pure (X.env.blockKind == .function&&X.env.kindOf x==some .local&&px.line==p.line && !(sc.names.any fun (n,k)=>n==x&&(k == .local || k == .cell))):=rfl;cases hb:(X.env.blockKind == .function&&X.env.kindOf x==some .local&&px.line==p.line && !(sc.names.any fun (n,k)=>n==x&&(k == .local || k == .cell))) with
    |false =>
     rw[hb] at hsw;exact Ag hN hi (C.c.loc x hl).1 (fQ n C.c _ _ h2).1 hsw (C.c.loc x hl).2
    |true =>
     rw[hb] at hsw;cases n with
     |zero=>cases h2
     |succ n =>
      have h2:ur S (cE n) elt tg' iter ifs sc=some ce:=h2;obtain⟨pick,t,it,ci,ce',rfl,g1,g2,g3,g4,g5⟩:=oU C.c (fun C'=>fQ n C') h2;refine cN (oH g1 C.c.calm g2 g3 (mQ (rM g4)) (oK g5) hN hi (C.c.loc x hl).1 (C.c.loc x hl).2 hsw) fun D σ H h=>?_
      obtain⟨P,Z,env,F,re,hz,zp,h⟩:=h;unfold bI at h;obtain⟨p,hp,h⟩:=cX h;exact qL ⟨P,env,F,re,p,hp,fun v H' G s rp rt=>rT re hz zp s rp rt h⟩
   ·rw[if_neg hl] at h;cases h
  ·by_cases hc:iC e=true
   ·rw[if_pos hc] at h;cases h
   ·rw[if_neg hc] at h;by_cases hl:ka S.sc x=true
    ·rw[if_pos hl,ah] at h;obtain⟨i,h1,h⟩:=h;rw[ag] at h;obtain⟨ce,h2,rfl⟩:=h;have hi:=bW h1;rw[<-C.c.N] at hi;exact Ag hN hi (C.c.loc x hl).1 (fQ n C.c _ _ h2).1 (r6 (by simpa using hc)) (C.c.loc x hl).2
    ·rw[if_neg hl] at h;cases h
 ·rename_i es k p;by_cases hc:(iC e || isTup e)=true
  ·rw[if_pos hc] at h;cases h
  ·rw[if_neg hc,ah] at h;simp only[Bool.or_eq_true,not_or,Bool.not_eq_true] at hc;obtain⟨is,h1,h⟩:=h;rw[ag] at h;obtain⟨ce,h2,rfl⟩:=h;obtain⟨a1,a2,a3⟩:=tG C.c h1;refine Cy (zL C.c.calm a1 a2 a3) (fQ n C.c _ _ h2).1 (pW hc.1) ?_ rfl;obtain⟨_,hc⟩:=hc;cases e<;>first | rfl | (cases hc)
 ·rename_i o ix p;by_cases hc:(iC e || !mM ix)=true
  ·rw[if_pos hc] at h;cases h
  ·rw[if_neg hc,ah] at h;simp only[Bool.or_eq_true,not_or,Bool.not_eq_true,Bool.not_eq_false'] at hc;obtain⟨q,h1,h⟩:=h;rw[ah] at h;obtain⟨ci,h2,h⟩:=h;rw[ag] at h;obtain⟨ce,h3,rfl⟩:=h;refine cN (zd (fQ n C.c _ _ h3).1 (Fz (lH C.c h1) (fQ n C.c _ _ h2).1 set_list ?_) (pW hc.1) ?_ rfl) fun D σ H h=>zr h
   ·intro v;obtain⟨_,hc⟩:=hc;cases ix<;>first | rfl | (cases hc)
   ·cases e<;>rfl
 ·cases h
theorem BP (C:ve X S T){n:Nat}{o:Expr}{name:Str}{es:List Expr}{c:St}{apos cpos pos:Pos}(h:AD n S o name es apos cpos=some c):PS X (.Expr (.Call (.Attribute o name apos) es [] cpos) pos) (tS X.K T c):=by
 unfold AD at h;split at h
 ·rename_i o2 name2 apos2 a cpos2;by_cases hc:name = "append"/\name2 = "pop"/\(apos.endLine==cpos.line)=true/\(apos2.endLine==cpos2.line)=true
  ·rw[if_pos hc] at h;obtain⟨rfl,rfl,h1,h2⟩:=hc;split at h
   ·rename_i y x hy hx;rw[ag] at h;obtain⟨cs,ha,rfl⟩:=h;obtain⟨n1,c1,d1,_,hd,_⟩:=bR ha;refine cN (wt (wZ h8 PySem.F.slot_list_append (by rfl) vC (lH C.c hy) (aW (wZ h8 jn (by rfl) sJ (lH C.c hx) (dS (fQ n C.c) ha) (km hx) ?_ h2 (bK n1) (eM hd)) fE) (km hy) rfl h1 rfl rfl) rfl) fun D σ H h=>xT h
    rw[bK n1];rfl
   ·cases h
  ·rw[if_neg hc] at h;cases h
 ·cases h
theorem GW (C:ve X S T){n:Nat}{tg e:Expr}{c:St}{pos:Pos}(h:Ad n S tg e=some c):PS X (.Assign [tg] e pos) (tS X.K T c):=by
 have hN:=C.c.nd;rw[<-C.c.N] at hN;unfold Ad at h;split at h
 ·rename_i x px;split at h
  ·rename_i o name apos a cpos;by_cases hn:name = "pop"
   ·rw[if_pos hn] at h;subst hn;by_cases hk:(ka S.sc x&&apos.endLine==cpos.line)=true
    ·rw[if_pos hk,ah] at h;rw[ai] at hk;obtain⟨y,h1,h⟩:=h;have hi:=bW h1;rw[<-C.c.N] at hi;split at h
     ·rename_i i hq;rw[ag] at h;obtain⟨cs,ha,rfl⟩:=h;obtain⟨n1,c1,d1,_,hd,_⟩:=bR ha;refine cN (jo hN hi (C.c.loc x hk.1).1 (wZ h8 jn (by rfl) sJ (lH C.c hq) (dS (fQ n C.c) ha) (km hq) ?_ hk.2 (bK n1) (eM hd)) rfl (C.c.loc x hk.1).2) fun D σ H h=>Bg h
      rw[bK n1];rfl
     ·cases h
    ·rw[if_neg hk] at h;cases h
   ·rw[if_neg hn] at h;cases h
  ·rename_i o name apos a cpos tg' iter sc p;by_cases hk:name = "pop"/\(apos.endLine==cpos.line)=true/\j9 S sc=true/\gB iter=true/\ka S.sc x=true/\(aY sc).length=1
   ·rw[if_pos hk,ah] at h;obtain⟨rfl,k1,k2,k3,hl,k4⟩:=hk;obtain⟨y,h1,h⟩:=h;rw[ah] at h;obtain⟨it,h2,h⟩:=h;have hi:=bW h1;rw[<-C.c.N] at hi;split at h
    ·rename_i i q1 q2 q3;rw[ag] at h;obtain⟨cs,ha,rfl⟩:=h;obtain⟨n1,c1,d1,_,hd,_⟩:=bR ha;have g1:=oN C.c k2 q1;rw[k4] at g1;have g2:=AY C.c (fQ n C.c) h2;have g3:∀ Ca s0 H0 ex,PG (inner X sc (aY sc++aZ sc) Ca s0 H0 ex) tg' (pR X.K (.nm 0))/\EL (inner X sc (aY sc++aZ sc) Ca s0 H0 ex) [] (z0 X.K T .none)/\PE (inner X sc (aY sc++aZ sc) Ca s0 H0 ex) (.Call (.Attribute o "pop" apos) [a] [] cpos) (GS X.K "list" (qw X.K) (l7 X.K T 1 .none) (tD X.K T cs)):=fun Ca s0 H0 ex=>by
      have C':=qP C.c k2 Ca s0 H0 ex;refine⟨vD C' q2,xi,wZ h8 jn (by rfl) sJ (lH C' q3) (dS (fQ n C') ha) (km q3) ?_ k1 (bK n1) (eM hd)⟩;rw[bK n1];rfl
     have hsw:swapsWith (.ListComp (.Call (.Attribute o "pop" apos) [a] [] cpos) [⟨tg',iter,[],0⟩] sc p) (some (.Name x px)) pos.line X.env=pure (X.env.blockKind == .function&&X.env.kindOf x==some .local&&px.line==p.line && !(sc.names.any fun (n,k)=>n==x&&(k == .local || k == .cell))):=rfl;have g4:=mQ (K:=X.K) (rM (own:=1) (pick:=[i]) (t:=.nm 0) rfl);cases hb:(X.env.blockKind == .function&&X.env.kindOf x==some .local&&px.line==p.line && !(sc.names.any fun (n,k)=>n==x&&(k == .local || k == .cell))) with
     |false =>
      rw[hb] at hsw;exact cN (jo hN hi (C.c.loc x hl).1 (xg g1 C.c.calm g2 g3 g4 (oK k3)) hsw (C.c.loc x hl).2) fun D σ H h=>qN h
     |true =>
      rw[hb] at hsw;exact cN (oH g1 C.c.calm g2 g3 g4 (oK k3) hN hi (C.c.loc x hl).1 (C.c.loc x hl).2 hsw) fun D σ H h=>qN h
    ·cases h
   ·rw[if_neg hk] at h;cases h
  ·cases h
 ·cases h
theorem D3 (C:ve X S T):∀(n:Nat),(∀(st:Stmt) (c:St),cS n S st=some c->PS X st (tS X.K T c))/\∀(l:List Stmt) (c:bJ),wj n S l=some c->j6 X l (BY X.K T c):=by
 intro n
 induction n with
 |zero=>exact⟨fun st c h=>(by cases h),fun l c h=>(by cases h)⟩
 |succ n ih =>
  obtain⟨i1,i2⟩:=ih;refine⟨fun st c h=>?_,fun l c h=>?_⟩
  ·cases st with
   |Assign tgs e p =>
    have h:cAs n S e tgs=some c:=h;cases tgs with
    |nil=>cases h
    |cons tg r=>cases r with
     |cons _ _=>cases h
     |nil =>
      have h:(match Ad n S tg e with
       |some c=>some c
       |none=>C6 n S tg e)=some c:=h
      cases hp:Ad n S tg e with
      |some c'=>rw[hp] at h;cases h;exact GW C hp
      |none=>rw[hp] at h;exact FZ C h
   |AugAssign tg op e p=>cases h
   |Expr e p =>
    have h:Jf n S e=some c:=h;have plain:G6 n S e=some c->PS X (.Expr e p) (tS X.K T c):=fun h=>by
     unfold G6 at h;by_cases hc:iC e=true
     ·rw[if_pos hc] at h;cases h
     ·rw[if_neg hc,ag] at h;obtain⟨ce,h1,rfl⟩:=h;exact BM (fQ n C.c _ _ h1).1 (r6 (by simpa using hc))
    cases e with
    |Constant k x1 q=>cases k with
     |str s=>cases h;exact Gd
     |_=>exact plain h
    |Call g es ks q=>cases g with
     |Attribute o name apos=>cases ks with
      |nil =>
       exact BP C h
      |cons k ks=>exact plain h
     |_=>exact plain h
    |_=>exact plain h
   |Return o p=>cases o with
    |none=>cases h;exact BI
    |some e =>
     have h:(cE n S e).map .ret=some c:=h;rw[ag] at h;obtain⟨ce,h1,rfl⟩:=h;exact FT (fQ n C.c _ _ h1).1
   |If e a b p =>
    have h:((cE n S e).bind fun c=>(wj n S a).bind fun ca=>(wj n S b).map fun cb=>St.ite c ca cb)=some c:=h;rw[ah] at h;obtain⟨cc,h1,h⟩:=h;rw[ah] at h;obtain⟨ca,h2,h⟩:=h;rw[ag] at h;obtain⟨cb,h3,rfl⟩:=h;exact FN (fQ n C.c _ _ h1).2 (i2 _ _ h2) (i2 _ _ h3)
   |For tg iter b oe p =>
    have key:∀ c,HR n S tg iter (wj n S b) oe=some c->PS X (.For tg iter b oe p) (tS X.K T c):=by
     intro c h;cases oe with
      |cons _ _=>cases h
      |nil =>
       have h:(if gB iter then (vL S tg).bind fun t=>(wj n S b).bind fun cb=>(G7 S (cE n S) (isTup tg) iter).map fun it=>St.forr t it cb else none)=some c:=h;by_cases hs:gB iter=true
       ·rw[if_pos hs,ah] at h;obtain⟨t,h1,h⟩:=h;rw[ah] at h;obtain⟨cb,h3,h⟩:=h;rw[ag] at h;obtain⟨it,h2,rfl⟩:=h;exact Eg C.own C.c.calm (AY C.c (fQ n C.c) h2) (vD C.c h1) (i2 _ _ h3) (oK hs)
       ·rw[if_neg hs] at h;cases h
    exact key c h
   |While e b oe p=>cases oe with
    |cons _ _=>cases h
    |nil =>
     have h:((cE n S e).bind fun c=>(wj n S b).map fun cb=>St.whl c cb)=some c:=h;rw[ah] at h;obtain⟨cc,h1,h⟩:=h;rw[ag] at h;obtain⟨cb,h3,rfl⟩:=h;exact Fi C.own (fQ n C.c _ _ h1).2 (i2 _ _ h3)
   |Pass p=>cases h;exact B3
   |Raise a b p=>cases h;exact B5
   |Break p=>cases h;exact EX
   |Continue p=>cases h;exact Ef
   |_=>cases h
  ·cases l with
   |nil=>cases h;exact xt
   |cons st r =>
    unfold wj at h;rw[ah] at h;obtain⟨cc,h1,h⟩:=h;rw[ag] at h;obtain⟨cb,h3,rfl⟩:=h;exact tZ (i1 _ _ h1) (i2 _ _ h3)
end
structure Df where
 nm:Str
 st:Stmt
 ps:List Str
 N:List Str
 body:bJ
structure Pg where
 dfs:List Df
 yV:List Str
 fL:List Str
 gl:Nat->D
 fuel:Nat
noncomputable def Pg.fns (p:Pg):List Fn:=p.dfs.map fun d=>⟨d.ps.length,d.N.length,d.body⟩
noncomputable def Pg.run (p:Pg):Nat->Nat->List D->Rs (D×Bool):=Pc.run p.fns p.gl p.fuel
noncomputable def Pg.sc (p:Pg)(d:Df):Sc:=⟨d.N,aE d.st,p.dfs.map (·.nm),p.yV,p.fL⟩
noncomputable def Df.okB (p:Pg)(n:Nat)(d:Df):Bool :=
 decide ((aE d.st).kind = .function) && !(aE d.st).isCoroutine && !(aE d.st).isGenerator&&decide d.N.Nodup&&decide (d.N.take d.ps.length=d.ps)&&d.ps.all (fun x=>ka (aE d.st) x)&&(aE d.st).names.all (fun y=>decide (y.2≠.free))
structure Df.Ok (p:Pg)(d:Df):Prop where
 b:∃ n,wj n (p.sc d) (bM d.st)=some d.body
 S:cL d.N d.ps (aE d.st)
 bd:∀(kV doc pm:Value) (an:Option Addr) (cdv ct:Value) (us:List Value),us.length=d.ps.length->bindArgs (PySem.W.fnOf d.nm d.nm (eU d.st) (bM d.st) (aE d.st) .none kV doc pm an cdv ct) ⟨us,[]⟩=pure (d.ps.zip us)
theorem md {sc:Scope}{x:Str}(h:ka sc x=true):Loc sc x:=by
 unfold ka eI at h;split at h
 ·rename_i e;exact .inl e
 ·rename_i e;exact .inr e
 ·cases h
theorem tM {sc:Scope}{x:Str}(h:tF sc x=true):D2 sc x:=by
 unfold tF eI at h;split at h
 ·rename_i e;exact .inl e
 ·rename_i e;exact .inr (.inl e)
 ·rename_i e;exact .inr (.inr e)
 ·cases h
theorem wL {sc:Scope}{x:Str}(h:vP sc x=true):sc.names.lookup x=some .globalImplicit:=by
 unfold vP eI at h;split at h
 ·rename_i e;exact e
 ·cases h
theorem len0 {P:List Value->Prop}{us:List Value}(h:us.length=0)(f:P []):P us:=by
 cases us with
 |nil=>exact f
 |cons a r=>cases h
theorem HG {P:List Value->Prop}{us:List Value}(h:us.length=1)(f:∀ a,P [a]):P us:=by
 cases us with
 |nil=>cases h
 |cons a r=>exact len0 (P:=fun r=>P (a::r)) (Nat.succ.inj h) (f a)
theorem GV {P:List Value->Prop}{us:List Value}(h:us.length=2)(f:∀ a b,P [a,b]):P us:=by
 cases us with
 |nil=>cases h
 |cons a r=>exact HG (P:=fun r=>P (a::r)) (Nat.succ.inj h) (f a)
theorem CG {P:List Value->Prop}{us:List Value}(h:us.length=3)(f:∀ a b c,P [a,b,c]):P us:=by
 cases us with
 |nil=>cases h
 |cons a r=>exact GV (P:=fun r=>P (a::r)) (Nat.succ.inj h) (f a)
theorem len4 {P:List Value->Prop}{us:List Value}(h:us.length=4)(f:∀ a b c d,P [a,b,c,d]):P us:=by
 cases us with
 |nil=>cases h
 |cons a r=>exact CG (P:=fun r=>P (a::r)) (Nat.succ.inj h) (f a)
theorem Df.ok_of {p:Pg}{d:Df}{n:Nat}(h:d.okB p n=true)(hb:wj n (p.sc d) (bM d.st)=some d.body)
  (bd:∀(kV doc pm:Value) (an:Option Addr) (cdv ct:Value) (us:List Value),us.length=d.ps.length->bindArgs (PySem.W.fnOf d.nm d.nm (eU d.st) (bM d.st) (aE d.st) .none kV doc pm an cdv ct) ⟨us,[]⟩=pure (d.ps.zip us)):d.Ok p:=by
 unfold Df.okB at h;simp only[Bool.and_eq_true,decide_eq_true_eq,Bool.not_eq_true',List.all_eq_true] at h;obtain⟨⟨⟨⟨⟨⟨h1,h2⟩,h3⟩,h4⟩,h5⟩,h6⟩,h7⟩:=h;exact⟨⟨n,hb⟩,⟨h1,h2,h3,h4,h5,fun x hx=>md (h6 x hx),h7⟩,bd⟩
structure Pg.In (p:Pg)(K:Frag)(mg:Str->Option Value):Prop where
 fn:∀(i:Nat) (d:Df),p.dfs[i]? = some d->∃ f fd,L2.sR K d.nm d.nm d.st f fd/\mg d.nm=some (.ref f)
 gl:∀ i x,idxOf p.yV x=some i->∃ v u,mg x=some u/\RelV v u/\∀ H,Rep K H (p.gl i) v []
 blt:∀ x,p.fL.contains x=true->mg x=none
theorem mV {ds:List D}{n i:Nat}{d:D}{t:Tg}(h:(aF ds n)[i]? = some (some (d,t))):ds[i]? = some d/\t=cI d []:=by
 unfold aF at h;by_cases hi:i<ds.length
 ·rw[List.getElem?_append_left (by simpa using hi),List.getElem?_map] at h;rw[List.getElem?_eq_getElem hi] at h ⊢;simp only[Option.map_some,Option.some.injEq,Prod.mk.injEq] at h;obtain⟨h1,h2⟩:=h;subst h1;exact⟨rfl,h2.symm⟩
 ·rw[List.getElem?_append_right (by simpa using Nat.le_of_not_lt hi),List.getElem?_replicate] at h;split at h<;>cases h
theorem aK.parts {K:Frag}{H:Hp}:∀{ds:List D}{vs:List V}{G:List Addr},aK K H ds vs G->∃ F:Nat->List Addr,(∀ i d,ds[i]? = some d->∃ v,vs[i]? = some v/\Rep K H d v (F i))/\(∀ i,ds[i]? = none->F i=[])/\∀ i,∀ a∈F i,a∈G
 |_,_,_,.nil=>⟨fun _=>[],fun i d h=>(by simp at h),fun _ _=>rfl,fun _ _ h=>(nomatch h)⟩
 | _,_,_,.cons (d:=d) (v:=v) (ds:=ds) (vs:=vs) (G:=G1) (G':=G2) r s=>by
  obtain⟨F,h1,h2,h3⟩:=aK.parts s;refine⟨fun i=>match i with | 0=>G1 | j+1=>F j,fun i e h=>?_,fun i h=>?_,fun i a h=>?_⟩
  ·cases i with
   |zero=>cases h;exact⟨v,rfl,r⟩
   |succ j=>exact h1 j e (by simpa using h)
  ·cases i with
   |zero=>cases h
   |succ j=>exact h2 j (by simpa using h)
  ·cases i with
   |zero=>exact aw _ h
   |succ j=>exact ak _ (h3 j a h)
theorem entry {K:Frag}{H:Hp}{ds:List D}{vs:List V}{G:List Addr}{N:List Str}(hr:aK K H ds vs G)(hl:ds.length<=N.length):∃ F,RE K (fun a=>H a≠none) (aF ds N.length) (L2.start N vs) H F/\∀ i,∀ a∈F i,a∈G:=by
 obtain⟨F,h1,h2,h3⟩:=hr.parts;have flat:∀ i d t,(aF ds N.length)[i]? = some (some (d,t))->bO t=true->F i=[]:=fun i d t h o=>by
  obtain⟨e1,e2⟩:=mV h;obtain⟨v,_,rp⟩:=h1 i d e1;unfold cI at e2;by_cases hf:d.flat=true
  ·exact rp.flat hf
  ·rw[if_neg hf] at e2;subst e2;cases o
 refine⟨F,⟨?_,fun i d t h=>?_,fun i h=>?_,fun i d t h o=>?_,fun i d h a ha=>?_,fun a h=>h⟩,h3⟩
 ·simp only[aF,L2.start,List.length_append,List.length_map,List.length_replicate,hr.len]
 ·obtain⟨e1,e2⟩:=mV h;obtain⟨v,e3,rp⟩:=h1 i d e1;refine⟨v,?_,rp⟩;unfold L2.start;have hi:i<vs.length:=(List.getElem?_eq_some_iff.mp e3).1;rw[List.getElem?_append_left (by simpa using hi),List.getElem?_map,e3];rfl
 ·cases e:ds[i]? with
  |none=>exact h2 i e
  |some d =>
   refine absurd ?_ (h d (cI d []));unfold aF;have hi:i<ds.length:=(List.getElem?_eq_some_iff.mp e).1;rw[List.getElem?_append_left (by simpa using hi),List.getElem?_map,e];rfl
 ·rw[flat i d t h o];exact⟨bq,fun _ h=>(nomatch h),fun _ h=>(nomatch h)⟩
 ·rw[flat i d _ h rfl] at ha;cases ha
theorem qV {α:Type}{g:α->Str}:∀{l:List α}{x:Str}{i:Nat},idxOf (l.map g) x=some i->∃ a,l[i]? = some a/\g a=x:=by
 intro l x i h;have:=bW h;rw[List.getElem?_map,ag] at this;exact this
theorem lP {H H':Hp}(e:k7 (fun a=>H a≠none) H H'):aN H H':=fun b u h=>(e.keep b (by rw[h];exact fun z=>(by cases z))).trans h
section
variable {p:Pg}{P:Program}{w:World}{K:Frag}{mg:Str->Option Value}{base:Heap}
end
noncomputable def noL (K:Frag):Bool:=K.all fun p=>match p.2.cls with
 |.type n=>!(n == "list")
 |_=>true
theorem lookup_mem:∀{K:Frag}{a:Addr}{o:Obj},K.lookup a=some o->(a,o)∈K
 |[],_,_,h=>by cases h
 | (b,x)::r,a,o,h=>by
  rw[de] at h;cases e:a==b with
  |true =>
   rw[e] at h;cases h;rw[gu] at e;rw[e];exact ae
  |false=>rw[e] at h;exact aa _ (lookup_mem h)
theorem GK {K:Frag}{a:Addr}{o:Obj}(h:noL K=true)(l:K.lookup a=some o)(c:o.cls = .type "list"):False:=by
 unfold noL at h;rw[bw] at h;have:=h _ (lookup_mem l);rw[c] at this;simp at this
theorem qx {K:Frag}{H:Hp}:∀ ns:List Int,aK K H (ns.map D.int) (ns.map V.int) []
 |[]=>.nil
 |n::r=>.cons (.int n) (qx r)
theorem GJ {K:Frag}{H:Hp}{a:Addr}{ns:List Int}{f:List D->Rs (D×Bool)}{E:XK}{fr:Bool}(hL:noL K=true)(hS:mo K H a (ns.map V.int))(hf:f [.lst (ns.map D.int)] = .ok (.bl true,fr)):C3 K 1 f [.ref a] H (fun v _=>v = .bl true) E:=by
 rcases hS with h | ⟨o,its,n,h1,h2,_⟩
 ·refine⟨[.lst (ns.map D.int)],[a] ++ [],rfl,.cons (.lst h (qx ns)) .nil,(.bl true,fr),hf,fun v H' G' _ rp _ _=>?_⟩;exact rp.bl_inv.1
 ·exact (GK hL h1 h2).elim
noncomputable def vX (es:List DictEntry):Bool:=es.all (fun e=>match e.val with
  |.int _ _=>true
  |.none=>true
  |_=>false)&&es.any (fun e=>match e.key with
  |.str _ _=>true
  |_=>false)
noncomputable def noS (as:List Addr)(K:Frag):Bool:=K.all fun p=>as.contains p.1 || match p.2.data with
 |.dict es _=>!vX es.toList
 |_=>true
theorem pN.vals {es:List DictEntry}{kvs:List (Key×Option Int)}(h:pN es kvs):es.all (fun e=>match e.val with
  |.int _ _=>true
  |.none=>true
  |_=>false)=true:=by
 induction h with
 |nil=>rfl
 |cons hh hk hv r ih=>rw[dk,hv,ih];rfl
 |si hk hv r ih=>rw[dk,hv,ih];rfl
 |sn hk hv r ih=>rw[dk,hv,ih];rfl
theorem HZ {w:World}{K:Frag}(as:List Addr)(h:noS as K=true)(h0:∀ a∈as,∀ o es ep,K.lookup a=some o->o.data = .dict es ep->∀ e∈es.toList,∀ s t,e.key = .str s t->(a==sysModules)=false/\e.hash=hashStr w s):yR w K:=by
 intro a o es ep hl hd kvs he e hm s t hk;by_cases ha:a∈as
 ·exact h0 a ha o es ep hl hd e hm s t hk
 ·unfold noS at h;rw[bw] at h;have:=h _ (lookup_mem hl);dsimp only at this;rw[hd,show as.contains a=false by rw[Bool.eq_false_iff];intro z;exact ha (List.contains_iff_mem.mp z),Bool.false_or] at this;dsimp only at this;unfold vX at this;rw[he.vals,iw,eh] at this;have h2:es.toList.any (fun e=>match e.key with
   |.str _ _=>true
   |_=>false)=true:=by
   rw[List.any_eq_true];exact⟨e,hm,by rw[hk]⟩
  rw[h2] at this;cases this
def hashes (w:World):List DictEntry->Prop
 |[]=>True
 |e::r=>(match e.key with
  |.str s _=>e.hash=hashStr w s
  |_=>True)/\hashes w r
theorem D7 {w:World}{K:Frag}(h:noS [] K=true):yR w K:=HZ [] h fun a ha=>(nomatch ha)
def Has (K:Frag)(d:Df):Prop:=∃(f:Addr) (oc:Value) (od:Option Addr) (kV dc pm:Value) (an:Option Addr) (cd ct:Value) (sl:Array (Option Value)),
 PySem.W.nsIn K mainGlobals d.nm=some (some (.ref f))/\K.lookup f=some ⟨oc,od,.func (PySem.W.fnOf d.nm d.nm (eU d.st) (bM d.st) (aE d.st) .none kV dc pm an cd ct),sl⟩/\PySem.W.codeIn K cd d.nm=true/\PySem.W.keepIn K (.ref f)=true
def ug (K:Frag)(x:Str)(d:D):Prop:=∃ v u,PySem.W.nsIn K mainGlobals x=some (some u)/\RelV v u/\∀ H,Rep K H d v []
def vB {α:Type}(P:α->Prop):List α->Prop
 |[]=>True
 |a::r=>P a/\vB P r
theorem eO {α:Type}{P:α->Prop}:∀{l:List α},vB P l->∀ a∈l,P a
 |[],_,a,h=>by cases h
 | b::r,⟨h1,h2⟩,a,h=>by
  rcases dw.mp h with rfl | h
  ·exact h1
  ·exact eO h2 a h
structure vo (p:Pg)(K:Frag):Prop where
 fn:vB (Has K) p.dfs
 gl:∀ i x,idxOf p.yV x=some i->ug K x (p.gl i)
 blt:vB (fun x=>PySem.W.nsIn K mainGlobals x=some none) p.fL
theorem vo.isin {p:Pg}{K:Frag}{h:Heap}{mg:Str->Option Value}(s:vo p K)(X:K.In h)(G:h.Ns mainGlobals mg):p.In K mg where
 fn:=fun i d hd=>by
  obtain⟨f,oc,od,kV,dc,pm,an,cd,ct,sl,a,l,c,k⟩:=eO s.fn d (List.mem_of_getElem? hd);exact⟨f,_,EU (st:=d.st) l c k,du X G a⟩
 gl:=fun i x hx=>by
  obtain⟨v,u,a,b,c⟩:=s.gl i x hx;exact⟨v,u,du X G a,b,c⟩
 blt:=fun x hx=>PySem.W.mg_none_of X G (eO s.blt x (by simpa using hx))
end Pc
end
section
namespace Pc
open PySem
theorem aA {α β:Type}(a:α)(f:α->Rs β):(Rs.ok a).bind f=f a:=rfl
theorem aS {α:Type}(env:En)(a:α)(k:α->Fl):eZ env (.ok a) k=k a:=rfl
theorem aD (e:En)(k:En->Fl):(Fl.nx e).andThen k=k e:=rfl
theorem lO (d:D)(b:Bool)(k:En->Fl):(Fl.rt d b).andThen k = .rt d b:=rfl
theorem aM {α:Type}(a:α):iG (some a) = .ok a:=rfl
theorem aO (op:Operator)(i j:Int):pQ op (.int i) (.int j)=(Pc.binI op i j).map .int:=by cases op<;>rfl
theorem bU (i:Int)(R:List Nat):kJ (.int i) R = .mv []:=rfl
theorem nY:∀ l:List Int,D.flats (l.map D.int)=true
 |[]=>rfl
 |_::r=>nY r
theorem uo (n:Nat):∀ a b:List Int,a.length=b.length->Cg (D.eqf (n+1)) (a.map D.int) (b.map D.int)=some (a==b)
 |[],[],_=>rfl
 | x::a,y::b,h=>by
  simp only[List.map_cons,Cg,D.eqf,Option.bind_some];rw[uo n a b (by simpa using h)];simp
 |[],_::_,h=>by simp at h
 |_::_,[],h=>by simp at h
theorem wy (n:Nat)(a b:List Int):D.eqf (n+2) (.lst (a.map D.int)) (.lst (b.map D.int))=some (a==b):=by
 unfold D.eqf;by_cases h:a.length=b.length
 ·rw[if_pos (by simpa using h),uo n a b h]
 ·rw[if_neg (by simpa using h)];have:(a==b)=false:=by
   rw[fh];rintro rfl;exact h rfl
  rw[this]
theorem vH {x:Int}(h:0<=x):Builtin.bitAnd x 1=x%2:=by
 unfold Builtin.bitAnd;rw[cq h];show ((x.toNat &&& 1:Nat):Int)=_;rw[Nat.and_one_is_mod];omega
theorem pz {t:pE}{R:List Nat}{b:En->Fl}(J:Nat->En->Prop):∀(l:List D) (k:Nat) (env:En),J k env ->
  (∀(i:Nat) (d:D) (e:En),l[i]? = some d->J (k+i) e->∃ e1 e2,aX R t d e=some e1/\b e1 = .nx e2/\J (k+i+1) e2)->∃ e,bC t R b l env = .nx e/\J (k+l.length) e
 |[],k,env,h,_=>⟨env,rfl,h⟩
 | d::r,k,env,h,st=>by
  obtain⟨e1,e2,h1,h2,h3⟩:=st 0 d env rfl h;obtain⟨e,q1,q2⟩:=pz J r (k+1) e2 h3 fun i d' e hi hj=>by
   have:=st (i+1) d' e (by simpa using hi) (by rw[show k+(i+1)=k+1+i by omega];exact hj);rw[show k+(i+1)+1=k+1+i+1 by omega] at this;exact this
  refine⟨e,?_,by rw[cw,show k+(r.length+1)=k+1+r.length by omega];exact q2⟩;unfold bC;rw[h1];dsimp only;rw[h2];exact q1
end Pc
end
section
namespace Pc
open PySem PySem.Spec PyProof.Rows L2
theorem EC {K:Frag}{d:Df}{f:Addr}{oc:Value}{od:Option Addr}{kV dc pm:Value}{an:Option Addr}{cd ct:Value}{sl:Array (Option Value)}
 (a:PySem.W.nsIn K mainGlobals d.nm=some (some (.ref f))) (l:K.lookup f=some ⟨oc,od,.func (PySem.W.fnOf d.nm d.nm (eU d.st) (bM d.st) (aE d.st) .none kV dc pm an cd ct),sl⟩) (c:PySem.W.codeIn K cd d.nm=true) (k:PySem.W.keepIn K (.ref f)=true):Has K d :=
 ⟨f,oc,od,kV,dc,pm,an,cd,ct,sl,a,l,c,k⟩
theorem gl_int {K:Frag}{x:Str}{i:Int}{t:Tok}(h:PySem.W.nsIn K mainGlobals x=some (some (.int i t))):ug K x (.int i):=⟨.int i,_,h,⟨t,rfl⟩,fun _=>.int i⟩
def rZ (K:Frag)(g:Nat->D):Nat->List Str->Prop
 |_,[]=>True
 |i,x::r=>ug K x (g i)/\rZ K g (i+1) r
theorem tX {K:Frag}{g:Nat->D}:∀{l:List Str}{k i:Nat}{x:Str},rZ K g k l->idxOf l x=some i->ug K x (g (k+i))
 | y::r,k,i,x,⟨h1,h2⟩,e=>by
  unfold idxOf at e;by_cases hx:y=x
  ·rw[if_pos hx] at e;cases e;subst hx;exact h1
  ·rw[if_neg hx,ag] at e;obtain⟨j,hj,rfl⟩:=e;have:=tX h2 hj;rw[show k+1+j=k+(j+1) by omega] at this;exact this
theorem C2 {K:Frag}{g:Nat->D}{l:List Str}(h:rZ K g 0 l):∀ i x,idxOf l x=some i->ug K x (g i):=fun i x e=>by
 have:=tX h e
 rwa [fk] at this
end Pc
end
section
namespace Fl64
noncomputable def dbl (a:Nat):Nat:=if 64<=2*a then (2*a)^^^67 else 2*a
noncomputable def iY:Nat->Nat->Nat->Nat->Nat
 |0,p,_,_=>p
 |n+1,p,d,l=>if l=0 then p else iY n (if l%2=1 then p^^^d else p) (dbl d) (l / 2)
noncomputable def tm (a b:Nat):Nat:=iY 6 0 a b
noncomputable def allB (n:Nat)(f:Nat->Bool):Bool:=match n with
 |0=>true
 |k+1=>f k&&allB k f
theorem fF:∀{n:Nat}{f:Nat->Bool},allB n f=true->∀ i,i<n->f i=true
 |0,_,_,i,h=>absurd h (gm i)
 | k+1,f,h,i,hi=>by
  unfold allB at h;rw[ai] at h;rcases Nat.lt_succ_iff_lt_or_eq.mp hi with q | q
  ·exact fF h.2 i q
  ·subst q;exact h.1
theorem all2 {f:Nat->Nat->Bool}(h:allB 64 (fun a=>allB 64 (f a))=true){a b:Nat}(ha:a<64)(hb:b<64):f a b=true:=fF (fF h a ha) b hb
theorem bF {a b:Nat}(ha:a<64)(hb:b<64):tm a b<64:=by
 have:=all2 (f:=fun a b=>decide (tm a b<64)) (by decide +kernel) ha hb;exact dz this
theorem dQ {a b:Nat}(ha:a<64)(hb:b<64):tm a b=tm b a:=by
 have:=all2 (f:=fun a b=>decide (tm a b=tm b a)) (by decide +kernel) ha hb;exact dz this
theorem my {a:Nat}(ha:a<64):tm a 1=a:=by
 have:=fF (n:=64) (f:=fun a=>decide (tm a 1=a)) (by decide +kernel) a ha;exact dz this
theorem pq {a:Nat}(ha:a<64):tm 1 a=a:=by rw[dQ (by decide) ha,my ha]
theorem gY (a:Nat):tm a 0=0:=rfl
theorem cA {a:Nat}(ha:a<64):tm 0 a=0:=by rw[dQ (by decide) ha,gY]
theorem aV {a b:Nat}(ha:a<64)(hb:b<64):a^^^b<64:=Nat.xor_lt_two_pow (n:=6) ha hb
theorem Bx (b c:Nat):(b^^^c) / 2=(b / 2)^^^(c / 2):=by
 have:=@Nat.shiftRight_xor_distrib 1 b c;simpa[Nat.shiftRight_eq_div_pow] using this
theorem Cn (b c:Nat):(b^^^c)%2=(b%2+c%2)%2:=by
 have:=@Nat.xor_mod_two_pow b c 1;rw[Nat.pow_one] at this;rw[this];rcases Nat.mod_two_eq_zero_or_one b with hb | hb<;>rcases Nat.mod_two_eq_zero_or_one c with hc | hc<;>simp[hb,hc]
theorem kP:∀(n p d l:Nat),iY n p d l=p^^^iY n 0 d l
 |0,p,_,_=>by simp[iY]
 | n+1,p,d,l=>by
  unfold iY;by_cases h:l=0
  ·simp[h]
  ·rw[if_neg h,if_neg h,kP n,kP n (if l%2=1 then 0^^^d else 0)];by_cases o:l%2=1
   ·rw[if_pos o,if_pos o,cx,bt]
   ·rw[if_neg o,if_neg o,cx]
theorem mC (n d l:Nat):iY (n+1) 0 d l=(if l%2=1 then d else 0)^^^iY n 0 (dbl d) (l / 2):=by
 have z:∀ n d,iY n 0 d 0=0:=fun n d=>by cases n<;>simp[iY]
 conv=>lhs;unfold iY
 by_cases h:l=0
 ·subst h;simp[z]
 ·rw[if_neg h,kP];by_cases o:l%2=1
  ·rw[if_pos o,if_pos o,cx]
  ·rw[if_neg o,if_neg o]
theorem uy:∀(n d b c:Nat),iY n 0 d (b^^^c)=iY n 0 d b^^^iY n 0 d c
 |0,_,_,_=>by simp[iY]
 | n+1,d,b,c=>by
  rw[mC,mC,mC,Bx,uy n,Cn];have e:(if (b%2+c%2)%2=1 then d else 0)=(if b%2=1 then d else 0)^^^(if c%2=1 then d else 0):=by
   rcases Nat.mod_two_eq_zero_or_one b with hb | hb<;>rcases Nat.mod_two_eq_zero_or_one c with hc | hc<;>simp[hb,hc]
  rw[e];generalize (if b%2=1 then d else 0)=x;generalize (if c%2=1 then d else 0)=y;generalize iY n 0 (dbl d) (b / 2)=u;generalize iY n 0 (dbl d) (c / 2)=v;rw[bt,bt,<-bt y,Nat.xor_comm y u,bt u y v]
theorem jZ (a b c:Nat):tm a (b^^^c)=tm a b^^^tm a c:=uy 6 a b c
theorem kg {a b c:Nat}(ha:a<64)(hb:b<64)(hc:c<64):tm (a^^^b) c=tm a c^^^tm b c:=by
 rw[dQ (aV ha hb) hc,jZ,dQ hc ha,dQ hc hb]
noncomputable def gQ (c k:Nat):Nat:=if c / 2 ^ k%2=1 then 2 ^ k else 0
theorem zW {c:Nat}(hc:c<64):c=gQ c 0^^^(gQ c 1^^^(gQ c 2^^^(gQ c 3^^^(gQ c 4^^^gQ c 5)))):=by
 have:=fF (n:=64) (f:=fun c=>decide (c=gQ c 0^^^(gQ c 1^^^(gQ c 2^^^(gQ c 3^^^(gQ c 4^^^gQ c 5)))))) (by decide +kernel) c hc;exact dz this
noncomputable def asB (a b:Nat):Bool:=allB 6 fun k=>decide (tm (tm a b) (2 ^ k)=tm a (tm b (2 ^ k)))
theorem Co {a b k:Nat}(ha:a<64)(hb:b<64)(hk:k<6):tm (tm a b) (2 ^ k)=tm a (tm b (2 ^ k)):=by
 have:=all2 (f:=asB) (by decide +kernel) ha hb;exact dz (fF this k hk)
theorem mG {a b c k:Nat}(ha:a<64)(hb:b<64)(hk:k<6):tm (tm a b) (gQ c k)=tm a (tm b (gQ c k)):=by
 unfold gQ;by_cases h:c / 2 ^ k%2=1
 ·rw[if_pos h,Co ha hb hk]
 ·rw[if_neg h,gY,gY,gY]
theorem dE {a b c:Nat}(ha:a<64)(hb:b<64)(hc:c<64):tm (tm a b) c=tm a (tm b c):=by
 rw[zW hc];simp only[jZ];rw[mG ha hb (by decide),mG ha hb (by decide),mG ha hb (by decide),mG ha hb (by decide),mG ha hb (by decide),mG ha hb (by decide)]
end Fl64
end
section
namespace Pc
open PySem
theorem sY:∀(n a b:Nat),a<2 ^ n->(a^^^b)+(a &&& b)=a ||| b
 | 0,a,b,h=>by
  have:a=0:=by simpa using h
  subst this;simp
 | n+1,a,b,h=>by
  have ih:=sY n (a / 2) (b / 2) (by rw[jh] at h;omega);have x1:(a^^^b) / 2=(a / 2)^^^(b / 2):=by have:=@Nat.shiftRight_xor_distrib 1 a b;simpa[Nat.shiftRight_eq_div_pow] using this
  have x2:(a &&& b) / 2=(a / 2) &&& (b / 2):=by have:=@Nat.shiftRight_and_distrib 1 a b;simpa[Nat.shiftRight_eq_div_pow] using this
  have x3:(a ||| b) / 2=(a / 2) ||| (b / 2):=by have:=@Nat.shiftRight_or_distrib 1 a b;simpa[Nat.shiftRight_eq_div_pow] using this
  have y1:=@Nat.xor_mod_two_pow a b 1;have y2:=@Nat.and_mod_two_pow a b 1;have y3:=@Nat.or_mod_two_pow a b 1;rw[Nat.pow_one] at y1 y2 y3;have z:(a%2^^^b%2)+(a%2 &&& b%2)=a%2 ||| b%2:=by
   rcases eg a with ha | ha<;>rcases eg b with hb | hb<;>rw[ha,hb]<;>rfl
  have d1:=Nat.div_add_mod (a^^^b) 2;have d2:=Nat.div_add_mod (a &&& b) 2;have d3:=Nat.div_add_mod (a ||| b) 2;rw[x1,y1] at d1;rw[x2,y2] at d2;rw[x3,y3] at d3;omega
theorem vm (a b:Nat):Builtin.bitAnd (a:Int) (b:Int)=((a &&& b:Nat):Int):=by
 unfold Builtin.bitAnd;rw[cq (fv a),cq (fv b)];rfl
theorem x9 (a b:Nat):Builtin.bitOr (a:Int) (b:Int)=((a ||| b:Nat):Int):=by
 unfold Builtin.bitOr Builtin.bitAnd Builtin.bitNot;rw[cj (by omega),cj (by omega)];have e:∀ c:Nat,(-(-(c:Int) - 1) - 1).toNat=c:=fun c=>by omega
 show -(-((((-(-(a:Int) - 1) - 1).toNat ||| (-(-(b:Int) - 1) - 1).toNat:Nat):Int)) - 1) - 1=_;rw[e,e];omega
theorem cY (a b:Nat):Builtin.bitXor (a:Int) (b:Int)=((a^^^b:Nat):Int):=by
 unfold Builtin.bitXor;rw[vm,x9,<-sY a a b (Nat.lt_two_pow_self)];omega
noncomputable def lQ (g f:Nat):bJ:=(.cons (.ite (.cmp .Eq (.bin .Mod (.var 4) (.cst (.int (2)))) (.cst (.int (1)))) (.cons (.asg (.nm 2) (.bin .BitXor (.var 2) (.var 3)) false)
  .nil) .nil)
  (.cons (.asg (.nm 3) (.bin .Mult (.cst (.int (2))) (.var 3)) false)
  (.cons (.ite (.cmp .GtE (.var 3) (.glb g)) (.cons (.asg (.nm 3) (.bin .BitXor (.var 3) (.glb f)) false)
  .nil) .nil)
  (.cons (.asg (.nm 4) (.bin .FloorDiv (.var 4) (.cst (.int (2)))) false)
  .nil))))
noncomputable def vk (g f:Nat):bJ:=(.cons (.asg (.nm 2) (.cst (.int (0))) false)
  (.cons (.asg (.nm 3) (.var 0) false)
  (.cons (.asg (.nm 4) (.var 1) false)
  (.cons (.whl (.cmp .Gt (.var 4) (.cst (.int (0)))) (lQ g f))
  (.cons (.ret (.var 2))
  .nil)))))
abbrev sI (i:Int):Slot:=some (.int i,.own)
abbrev sN (i:Nat):Slot:=some (.int (i:Int),.own)
theorem Et:small 2=true:=by decide
theorem uX {T:Tb}{g f:Nat}(hg:T.gl g = .int 64)(hf:T.gl f = .int 67)(A B p d l:Int) :
  aC T (lQ g f) [sI A,sI B,sI p,sI d,sI l] = .nx [sI A,sI B,sI (if l%2=1 then Builtin.bitXor p d else p),sI (if 64<=2*d then Builtin.bitXor (2*d) 67 else 2*d),sI (l / 2)]:=by
 have e1:(l%2==1)=decide (l%2=1):=rfl;by_cases h1:l%2=1<;>by_cases h2:64<=2*d <;>
  simp[e1,lQ,aC,bI,ev,aA,aS,aM,aO,Pc.binI,ni,m6,D.eqf,truth,D.flat,bU,jM,put,Tg.drop,aD,hg,hf,h1,h2,Et]
theorem jy (T:Tb)(A B p d l:Int):((ev T (.cmp .Gt (.var 4) (.cst (.int 0))) [sI A,sI B,sI p,sI d,sI l]).bind fun p=>iG (truth p.1)) = .ok (decide (0<l)):=by
 simp[ev,aA,aM,ni,m6,truth,D.flat]
theorem pY {T:Tb}{g f:Nat}(hg:T.gl g = .int 64)(hf:T.gl f = .int 67)(A B:Int):∀(n fuel p d l:Nat),l<2 ^ n->n<fuel ->
  ∃ d' l':Int,jL (fun env=>(ev T (.cmp .Gt (.var 4) (.cst (.int 0))) env).bind fun p=>iG (truth p.1)) (aC T (lQ g f)) fuel [sI A,sI B,sN p,sN d,sN l] = .nx [sI A,sI B,sN (Fl64.iY n p d l),sI d',sI l']
 |n,0,p,d,l,_,hf'=>absurd hf' (gm _)
 | 0,fuel+1,p,d,l,hl,_=>by
  have:l=0:=by simpa using hl
  subst this;refine⟨d,0,?_⟩;rw[jL,jy];rfl
 | n+1,fuel+1,p,d,l,hl,hn=>by
  rw[jL,jy,aS];by_cases h0:l=0
  ·subst h0;refine⟨d,0,?_⟩;rfl
  ·have hp:decide ((0:Int)<(l:Int))=true:=by rw[bz];omega
   rw[if_pos hp,uX hg hf];have e1:(if (l:Int)%2=1 then Builtin.bitXor (p:Int) (d:Int) else (p:Int))=((if l%2=1 then p^^^d else p:Nat):Int):=by
    rw[cY];by_cases h:l%2=1
    ·rw[if_pos h,if_pos (by omega)]
    ·rw[if_neg h,if_neg (by omega)]
   have e2:(if 64<=2*(d:Int) then Builtin.bitXor (2*(d:Int)) 67 else 2*(d:Int))=((Fl64.dbl d:Nat):Int):=by
    unfold Fl64.dbl;by_cases h:64<=2*d
    ·rw[if_pos h,if_pos (by omega)];exact cY (2*d) 67
    ·rw[if_neg h,if_neg (by omega)];simp
   have e3:(l:Int) / 2=((l / 2:Nat):Int):=by omega
   rw[e1,e2,e3];obtain⟨d',l',h⟩:=pY hg hf A B n fuel (if l%2=1 then p^^^d else p) (Fl64.dbl d) (l / 2) (by rw[jh] at hl;omega) (by omega);refine⟨d',l',?_⟩;dsimp only;rw[h]
   conv=>rhs;unfold Fl64.iY
   rw[if_neg h0]
noncomputable def ret (f:Fl):Rs (D×Bool):=match f with
 |.rt d fr=>.ok (d,fr)
 |.nx _=>.ok (.non,true)
 |.xc e _=>.exc e
 |_=>.bad
theorem bE {fns:List Fn}{gl:Nat->D}{fuel n i:Nat}{F:Fn}{ds:List D}(h:fns[i]? = some F)(hl:ds.length=F.ps):Pc.run fns gl fuel (n+1) i ds=ret (aC ⟨Pc.run fns gl fuel n,gl,fuel⟩ F.body (aF ds F.slots)):=by
 unfold Pc.run;rw[h];dsimp only;rw[if_pos hl];rfl
theorem AB {T:Tb}{g f:Nat}(hg:T.gl g = .int 64)(hf:T.gl f = .int 67)(hfu:7<=T.fuel)(a b:Nat)(hb:b<64):ret (aC T (vk g f) (aF [.int a,.int b] 5)) = .ok (.int (Fl64.tm a b:Nat),true):=by
 have hst:aF [.int a,.int b] 5=[sN a,sN b,none,none,none]:=rfl;rw[hst];unfold vk;have h1:bI T (.asg (.nm 2) (.cst (.int 0)) false) [sN a,sN b,none,none,none] = .nx [sN a,sN b,sI 0,none,none]:=rfl;have h2:bI T (.asg (.nm 3) (.var 0) false) [sN a,sN b,sI 0,none,none] = .nx [sN a,sN b,sI 0,sN a,none]:=rfl;have h3:bI T (.asg (.nm 4) (.var 1) false) [sN a,sN b,sI 0,sN a,none] = .nx [sN a,sN b,sI 0,sN a,sN b]:=rfl;rw[aC,h1,aD,aC,h2,aD,aC,h3,aD,aC];obtain⟨d',l',h⟩:=pY (T:=T) hg hf a b 6 T.fuel 0 a b hb (by omega);have h4:bI T (.whl (.cmp .Gt (.var 4) (.cst (.int 0))) (lQ g f)) [sN a,sN b,sI 0,sN a,sN b] = .nx [sN a,sN b,sN (Fl64.tm a b),sI d',sI l']:=by
  rw[bI];exact h
 rw[h4,aD];show ret (aC T (.cons (.ret (.var 2)) .nil) [sN a,sN b,sI ((Fl64.tm a b:Nat):Int),sI d',sI l'])=_;generalize ((Fl64.tm a b:Nat):Int)=x;rfl
theorem Ba {a m:Int}(h0:0<=a)(h1:a<m):∃ n:Nat,a=(n:Int)/\(n:Int)<m:=⟨a.toNat,by omega,by omega⟩
abbrev sS (S:List D):Slot:=some (.lst S,.sh [])
theorem y6 {x:Int}(h0:0<=x)(h1:x<2147483648):small x=true:=cq ⟨by omega,by omega⟩
theorem iK {n k:Nat}(h:k<n):nt n (k:Int)=some k:=by
 unfold nt;rw[if_pos (by omega),if_pos (by omega),bo]
theorem qQ:∀(n:Nat) (a:Int) (i:Nat) (d:D),(bB a 1 n)[i]? = some d->i<n/\d = .int (a+i)
 |0,a,i,d,h=>by simp[bB] at h
 |n+1,a,0,d,h=>by simp[bB] at h;exact⟨by omega,by rw[<-h];simp⟩
 | n+1,a,i+1,d,h=>by
  rw[bB,List.getElem?_cons_succ] at h;obtain⟨h1,h2⟩:=qQ n (a+1) i d h;refine⟨by omega,?_⟩;rw[h2];congr 1;omega
theorem uu (env:En):lock [] env=env:=by
 unfold lock;have:∀(l:En) (k:Nat),(l.mapIdx fun i (s:Slot)=>match s with
  | some (d,.own)=>if ([]:List Nat).contains i then some (d,.lk) else some (d,.own)
  |s=>s)=l:=fun l k=>by
  rw[List.mapIdx_eq_iff];intro i;cases h:l[i]? with
  |none=>rfl
  |some s =>
   cases s with
   |none=>rfl
   |some p=>obtain⟨d,t⟩:=p;cases t<;>rfl
 exact this env 0
theorem fin (T:Tb)(e:En):ret (aC T (.cons (.ret (.cst (.bl true))) .nil) e) = .ok (.bl true,true):=rfl
theorem va (e0 env:En):unlock [] e0 env=env:=by
 unfold unlock;rw[List.mapIdx_eq_iff];intro i;cases h:env[i]? with
 |none=>rfl
 |some s =>
  cases s with
  |none=>rfl
  |some p =>
   obtain⟨d,t⟩:=p;cases t with
   |lk =>
    simp only[Option.map_some];split<;>rfl
   |own=>rfl
   |sh R=>rfl
theorem cF {T:Tb}{t:pE}{it:sO}{b:bJ}{env e:En}{l:List D}(hit:fS T it env = .ok (l,[]))(h:bC t [] (aC T b) l env = .nx e):bI T (.forr t it b) env = .nx e:=by
 rw[bI,hit,aS];dsimp only;rw[uu,h];dsimp only;rw[va]
end Pc
end
section
namespace Pc
open PySem PySem.Spec PyProof.Rows L2
section
variable {X:Cx}
end
def Bf (B:Heap)(fr:List Addr)(H':Hp)(h h':Heap):Prop:=∀ b o,h'.get? b=some o->b∈fr\/B.get? b=some o\/(h.get? b=none/\H' b=none)
theorem sW {P:Program}{w:World}{H:Hp}{h h':Heap}(x:lh P w H h)(k:∀ b o,H b≠none->h.get? b=some o->h'.get? b=some o):lh P w H h':=fun a o e =>
 (x a o e).stay (fun b u hb q=>k b u (by rcases hb with rfl | hb<;>(intro z;simp_all)) q) (fun _ q=>q) fun _ _ q=>q
structure DR (X:Cx)(H H':Hp)(s:Shared)(B h:Heap):Prop where
 un:Un (gT X.stack) [] H H' s.heap h
 hok:lh X.prog X.w H' h
 bf:Bf B (gT X.stack) H' s.heap h
section
variable {X:Cx}{pins:List (Addr×Obj)}{σ:L2.St}{H H':Hp}{s:Shared}{B h h':Heap}
theorem DR.frFree (F:DR X H H' s B h)(I:Inv X pins σ H s):∀ b∈gT X.stack,H' b=none:=fun b hb=>by
 obtain⟨_,o,e,_⟩:=I.stack.mem hb;exact F.un.free b o e (I.stkFree b hb) (by simp)
theorem DR.next (F:DR X H H' s B h)(I:Inv X pins σ H s)(st:B.StaysIn h')(fr:∀ b∈gT X.stack,∃ o,h.get? b=some o/\∀ vs,o.data≠.fields vs)(ut:h.UpToSlots h'):DR X H H' s B h':=by
 have keep:∀ b o,h.get? b=some o->b∉gT X.stack->(s.heap.get? b≠none\/H' b≠none)->h'.get? b=some o:=fun b o e hf hn=>by
  rcases F.bf b o e with z | z | ⟨z1,z2⟩
  ·exact absurd z hf
  ·exact st b o z
  ·rcases hn with hn | hn
   ·exact absurd z1 hn
   ·exact absurd z2 hn
 have slot:∀ b o,h.get? b=some o->b∈gT X.stack->∃ sl,h'.get? b=some {o with slots:=sl}:=fun b o e hf=>by
  obtain⟨o',e',hd⟩:=fr b hf;rw[e] at e';cases e';exact ut b o e hd
 refine⟨⟨fun b o e n hf _=>?_,fun b o e n hf _=>?_,fun b o e n hx=>F.un.free b o e n hx,fun b o e hx=>?_,F.un.tups,F.un.frzs,F.un.tbls⟩,sW F.hok fun b o hb e=>?_,fun b o e=>?_⟩
 ·exact keep b o (F.un.keep b o e n hf (by simp)) hf (.inl (by rw[e];simp))
 ·obtain⟨sl,e1⟩:=F.un.slot b o e n hf (by simp);obtain⟨sl',e2⟩:=slot b _ e1 hf;exact⟨sl',e2⟩
 ·obtain⟨o1,e1⟩:=F.un.there b o e (by simp);by_cases hf:b∈gT X.stack
  ·obtain⟨sl',e2⟩:=slot b _ e1 hf;exact⟨_,e2⟩
  ·exact⟨o1,keep b o1 e1 hf (.inl (by rw[e];simp))⟩
 ·exact keep b o e (fun z=>hb (F.frFree I b z)) (.inr hb)
 ·by_cases hf:b∈gT X.stack
  ·exact .inl hf
  ·cases e1:h.get? b with
   |none =>
    refine .inr (.inr ⟨?_,?_⟩)
    ·cases e0:s.heap.get? b with
     |none=>rfl
     |some o0 =>
      obtain⟨o1,e2⟩:=F.un.there b o0 e0 (by simp);rw[e1] at e2;cases e2
    ·cases e0:H' b with
     |none=>rfl
     |some u =>
      obtain⟨ob,e2⟩:=eJ.live' (F.hok b u e0);rw[e1] at e2;cases e2
   |some o1 =>
    rcases F.bf b o1 e1 with z | z | z
    ·exact absurd z hf
    ·have:=st b o1 z;rw[e] at this;cases this;exact .inr (.inl z)
    ·exact .inr (.inr z)
theorem DR.inv {g':Array GenState}{d':Drawn}{t':Nat}(F:DR X H H' s B h)(I:Inv X pins σ H s)(hg:AllBare g'):Inv X pins σ H' {s with heap:=h,gens:=g',drawn:=d',toks:=t'} :=
 I.call (ch:=[]) F.un F.hok hg fun b z=>nomatch z
theorem gN {a:Addr}{C a0:Value}(f:Heap.FlyingW B X.stack a C a0 h):∀ b∈gT X.stack,∃ o,h.get? b=some o/\∀ vs,o.data≠.fields vs:=fun b hb=>(f.2.2.1.mem hb).2
theorem mY {a L:Addr}{C a0:Value}(f:Heap.HeldW B X.stack a C a0 L h):∀ b∈gT X.stack,∃ o,h.get? b=some o/\∀ vs,o.data≠.fields vs:=fun b hb=>(f.2.2.1.mem hb).2
abbrev markX (X:Cx)(a:Addr):Cx:={X with A:=X.A.mark (some (.ref a)),calm:=false,xe:=fun _ _=>False}
theorem pd (I:Inv X pins σ H s)(a:Addr)(hf:(X.A.mark (some (.ref a))).frames=some X.stack):Inv (markX X a) pins σ H s :=
 ⟨⟨I.ok.mod,I.ok.kind,I.ok.glob,I.ok.blt,I.ok.above,I.ok.inj,I.ok.has,I.ok.cab,fun z=>(by cases z),hf,I.ok.stk,I.ok.exf,I.ok.bs,I.ok.bsz,I.ok.noex,I.ok.exfs,I.ok.funs,I.ok.frf⟩,I.os,I.bare,I.base,I.loc,I.cell,I.free,I.freeC,I.pin,I.hok,I.len⟩
theorem jx {a:Addr}(I:Inv (markX X a) pins σ H s)(ok:X.Ok):Inv X pins σ H s:=⟨ok,I.os,I.bare,I.base,I.loc,I.cell,I.free,I.freeC,I.pin,I.hok,I.len⟩
theorem x5 {a:Addr}{D:Ends}{f:Flow}{s':Shared}(ok:X.Ok)(h:SP (markX X a) pins D f s'):SP X pins D f s':=by
 cases f with
 |next=>obtain⟨σ',H',I,q⟩:=h;exact⟨σ',H',jx I ok,q⟩
 |brk=>obtain⟨σ',H',I,q⟩:=h;exact⟨σ',H',jx I ok,q⟩
 |cont=>obtain⟨σ',H',I,q⟩:=h;exact⟨σ',H',jx I ok,q⟩
 |ret u=>obtain⟨v,σ',H',I,r,q⟩:=h;exact⟨v,σ',H',jx I ok,r,q⟩
end
section
variable {M:Model}{A:Around}{E:Value->Shared->Prop}{prog:Program}{w:World}
theorem mT {nm q:Str}{C N:Addr}{bs bm:List Value}{hdct:Bool}{sn:List Str}{sub:List Value}{ab:Bool}{col:Option Bool}{dd:Option Addr}{k0 k1 k2 k3 k5:Option Value}{newId:String}
  {nm' q':Str}{C' N':Addr}{bs' bm':List Value}{hdct':Bool}{sn':List Str}{sub':List Value}{ab':Bool}{col':Option Bool}{dd':Option Addr}{j0 j1 j2 j3 j5:Option Value}{newId':String}
  {h:Heap}{g:Array GenState}{d:Drawn}{t:Nat}{os:OsState}{e:Addr}{oe:Obj}{Q:Bool->Shared->Prop}
  (hC:h.get? C=some (excClassObj nm q C N bs bm hdct sn sub ab col dd k0 k1 k2 k3 k5 newId)) (hC':h.get? C'=some (excClassObj nm' q' C' N' bs' bm' hdct' sn' sub' ab' col' dd' j0 j1 j2 j3 j5 newId')) (he:h.get? e=some oe) (hcls:oe.cls = .ref C)
  (hbase:bm'.contains (.type "BaseException")=true) (hq:Q ((Value.ref C::bm).contains (.ref C')) ⟨h,g,d,t,os⟩):wpAny M A (excMatches (.ref e) (.ref C')) Q E ⟨h,g,d,t,os⟩:=by
 have hcB:(Value.ref C'::bm').contains (.type "BaseException")=true:=by rw[ey,hbase,Bool.or_true]
 have f:=tc_notTuple;unfold excMatches
 repeat (first | (with_reducible refine wpAny_loadPart_at he ?_;rw[hcls]) | with_reducible refine wpAny_loadPart_at hC' ?_ | (with_reducible refine wpAny_isSubtype_exc hC' ?_;rw[hcB]) | (with_reducible refine wpAny_isSubtype_exc hC ?_) | wp_step)
 cases hb:(Value.ref C::bm).contains (.ref C')<;>(rw[hb] at hq;first | exact hq | (wp_walk;exact hq))
end
section
variable {X:Cx}{pins:List (Addr×Obj)}{σ:L2.St}{H:Hp}{s:Shared}{D:Ends}
end
section
variable {X:Cx}{pins:List (Addr×Obj)}{σ:L2.St}{H:Hp}{s:Shared}{D:Ends}
theorem uz {M:Model}{A:Around}{E:Value->Shared->Prop}{i:Nat}{x:Str}{v:V}{Q:Unit->Shared->Prop}(I:Inv X pins σ H s)(hN:X.N.Nodup)(hi:X.N[i]? = some x)(hk:X.env.scope.names.lookup x=some .local)(hv:σ[i]? = some (some v))
  (h:∀ s',Inv X pins (σ.set i none) H s'->Q () s'):wpAny M A (unbindName X.env x) Q E s:=by
 obtain⟨m,hn,hl⟩:=id I.loc;have hcls:(X.env.scope.kind == .class || (X.env.scope.kind == .module&&X.env.locals != X.env.globals))=false:=by rw[I.ok.kind];rfl
 have hiσ:i<σ.length:=by rw[I.len];exact (List.getElem?_eq_some_iff.mp hi).1
 have cne:=I.cne;have tracked:∀{a:Addr}{h':Heap},(∃ o,s.heap.get? a=some o/\H a=none)->Heap.SameBut a s.heap h'->lh X.prog X.w H h':=fun {a h'} ha hs b ob e=>by
  obtain⟨_,_,hfree⟩:=ha;refine (I.hok b ob e).stay (fun c w' hc q=>(hs.2 c ?_).trans q) (fun _ q=>q) fun _ _ q=>q
  rintro rfl;rcases hc with rfl | hc
  ·rw[hfree] at e;cases e
  ·rw[hfree] at hc;cases hc
 have hm:∃ u,m x=some u:=by
  obtain⟨u,_,q⟩:=hl i x v hi hv (.inl hk);rcases q with ⟨_,e⟩ | ⟨k,_⟩
  ·exact⟨u,e⟩
  ·have:X.env.kindOf x=some .local:=hk;rcases k with k | k<;>(rw[this] at k;cases k)
 obtain⟨u,hu⟩:=hm;refine wpAny_unbindName_local hk hn hu hcls fun h' u' hn' hs=>?_
 obtain⟨oL,_,_,hoL,_⟩:=id hn;refine h _ ⟨I.ok,I.os,I.bare,⟨fun b o e n hb hx=>?_,fun b o e n hb hx=>?_,I.base.free,fun b o e hx=>?_,I.base.tups,I.base.frzs,I.base.tbls⟩,⟨_,hn',fun j y v' e1 e2 e3=>?_⟩,fun y c e=>?_,I.free,I.freeC,fun p hp=>?_,tracked ⟨oL,hoL,I.free⟩ hs,by simpa using I.len⟩
 ·exact (hs.2 b (bu (av (Heap.lt_size e) I.ok.above))).trans (I.base.keep b o e n hb hx)
 ·obtain⟨sl,e1⟩:=I.base.slot b o e n hb hx;exact⟨sl,(hs.2 b (bu (av (Heap.lt_size e) I.ok.above))).trans e1⟩
 ·obtain⟨o',e1⟩:=I.base.there b o e hx;exact⟨o',(hs.2 b (bu (av (Heap.lt_size e) I.ok.above))).trans e1⟩
 ·by_cases hj:j=i
  ·subst hj;rw[List.getElem?_set_self hiσ] at e2;cases e2
  ·rw[List.getElem?_set_ne (cm hj)] at e2;obtain⟨u',r',q⟩:=hl j y v' e1 e2 e3;refine⟨u',r',?_⟩;rcases q with ⟨k,e⟩ | ⟨k,c,e,z⟩
   ·refine .inl ⟨k,?_⟩;have:y≠x:=fun e=>hj (oJ hN e1 (e ▸ hi))
    simp[this,e]
   ·exact .inr ⟨k,c,e,z.sameBut hs (cne y c e)⟩
 ·obtain⟨w',z⟩:=I.cell y c e;exact⟨w',z.sameBut hs (cne y c e)⟩
 ·obtain⟨e,n,ne,nf,d⟩:=I.pin p hp;exact⟨(hs.2 p.1 ne).trans e,n,ne,nf,d⟩
theorem kl {M:Model}{A:Around}{E:Value->Shared->Prop}{i:Nat}{x:Str}{pos:Pos}{Q:Unit->Shared->Prop}(I:Inv X pins σ H s)(hN:X.N.Nodup)(hi:X.N[i]? = some x)(hk:X.env.scope.names.lookup x=some .local)
  (h:∀ s',Inv X pins (σ.set i none) H s'->Q () s'):wpAny M A (do bindName X.env x .none;unbindBehindTheSuite X.env x pos) Q E s:=by
 refine wpAny_bind (wpAny_bindName (iW I hN hi (.inl hk) (show RelV .non .none from rfl) (fun s1 I1=>?_) (.inr hk)));unfold unbindBehindTheSuite;refine wpAny_onRaise (uz I1 hN hi hk (List.getElem?_set_self (by rw[I.len];exact (List.getElem?_eq_some_iff.mp hi).1)) fun s2 I2=>h s2 ?_);rw[List.set_set] at I2;exact I2
abbrev kG (X:Cx)(a:Addr)(o:Obj):Cx:={X with A:=X.A.mark (some (.ref a)),calm:=false,xe:=fun _ _=>False,pn:=(a,o)::X.pn}
theorem yN (I:Inv X pins σ H s)(a:Addr)(o:Obj)(hf:(X.A.mark (some (.ref a))).frames=some X.stack)(ha:s.heap.get? a=some o/\H a=none/\a≠X.env.locals/\a∉X.fs/\∀ v,o.data≠.cell v):Inv (kG X a o) pins σ H s :=
 ⟨⟨I.ok.mod,I.ok.kind,I.ok.glob,I.ok.blt,I.ok.above,I.ok.inj,I.ok.has,I.ok.cab,fun z=>(by cases z),hf,I.ok.stk,I.ok.exf,I.ok.bs,I.ok.bsz,I.ok.noex,I.ok.exfs,I.ok.funs,I.ok.frf⟩,I.os,I.bare,I.base,I.loc,I.cell,I.free,I.freeC,fun p hp=>by
  rcases dw.mp hp with rfl | hp
  ·exact ha
  ·exact I.pin p hp,I.hok,I.len⟩
theorem hV {a:Addr}{o:Obj}(I:Inv (kG X a o) pins σ H s)(ok:X.Ok):Inv X pins σ H s:=⟨ok,I.os,I.bare,I.base,I.loc,I.cell,I.free,I.freeC,fun p hp=>I.pin p (aa _ hp),I.hok,I.len⟩
noncomputable def zN (D:Ends)(i:Nat):Ends:={nx:=fun σ H=>D.nx (σ.set i none) H,rt:=D.rt,bk:=fun σ H=>D.bk (σ.set i none) H,ct:=fun σ H=>D.ct (σ.set i none) H}
end
inductive jB (h:Heap) (bmB:List Value) (ns:List Str):List Value->Prop
 | base:jB h bmB ns bmB
 | own {A:Addr}{c0:Value}{dd:Option Addr}{cd:ClassData}{sl:Array (Option Value)}{mA:Str->Option Value}{tl:List Value} :
   h.get? A=some {cls:=c0,dict:=dd,data:=.cls cd,slots:=sl}->h.Ns cd.ns mA->(∀ n∈ns,mA n=none)->jB h bmB ns tl->jB h bmB ns (.ref A::tl)
noncomputable def sA:List Str:=["__getattribute__","__getattr__","__class__"]
section
variable {M:Model}{A:Around}{E:Value->Shared->Prop}{h:Heap}{g:Array GenState}{d:Drawn}{t:Nat}{os:OsState}
theorem yQ {bmB tl:List Value}{ns:List Str}{n:Str}{y:Option Value}{Q:Option Value->Shared->Prop}(hn:n∈ns)(T:jB h bmB ns tl)(hrest:lookupAlong bmB n=pure y)(hq:Q y ⟨h,g,d,t,os⟩) :
  wpAny M A (lookupAlong tl n) Q E ⟨h,g,d,t,os⟩:=by
 induction T with
 |base=>rw[hrest];exact wpAny_pure hq
 |own hA hN hni _ ih =>
  rw[lookupAlong_cons];refine wpAny_bind (wpAny_classOwn_cls hA hN ?_);rw[hni n hn];exact ih
variable {nm q:Str}{C N:Addr}{bs bm bmB:List Value}{hdct:Bool}{sn:List Str}{sub:List Value}{ab:Bool}{col:Option Bool}{dd:Option Addr}{k0 k1 k2 k3 k5:Option Value}{B newId:String}
theorem fN {mN:Str->Option Value}{ns:List Str}{n:Str}{y:Option Value}{Q:Option Value->Shared->Prop}(hn:n∈ns)
  (hC:h.get? C=some (excClassObj nm q C N bs bm hdct sn sub ab col dd k0 k1 k2 k3 k5 newId)) (hN:h.Ns N mN) (hmN:∀ n∈ns,mN n=none) (T:jB h bmB ns bm) (hbm:mroOf (.type B)=pure bmB)
  (hB:typeLookup (.type B) n=pure y) (hq:Q y ⟨h,g,d,t,os⟩):wpAny M A (typeLookup (.ref C) n) Q E ⟨h,g,d,t,os⟩:=by
 have hrest:lookupAlong bmB n=pure y:=by rw[typeLookup_eq,hbm] at hB;exact hB
 rw[typeLookup_eq];refine wpAny_bind (wpAny_mroOf_exc hC ?_);rw[lookupAlong_cons];refine wpAny_bind (wpAny_classOwn_exc hC hN ?_);rw[hmN n hn];exact yQ hn T hrest hq
end
theorem yY:typeLookup (.type "ValueError") "__class__" = pure (some (.builtin "object.__class__")):=by rw[typeLookup_type,builtinLookup_eq_fast];kernel_rfl
abbrev iX:List Value:=[.type "ValueError",.type "Exception",.type "BaseException",.type "object"]
section
variable {prog:Program}{w:World}{A:Around}{E:Value->Shared->Prop}{h:Heap}{g:Array GenState}{d:Drawn}{t:Nat}{os:OsState}{a:Addr}{o:Obj}
 {nm q:Str}{C N:Addr}{bs bm:List Value}{hdct:Bool}{sn:List Str}{sub:List Value}{ab:Bool}{col:Option Bool}{dd:Option Addr}{k0 k1 k2 k3 k5:Option Value}{newId:String}{mN:Str->Option Value}
theorem Cw {R:Result->Shared->Prop}(hC:h.get? C=some (excClassObj nm q C N bs bm hdct sn sub ab col dd k0 k1 k2 k3 k5 newId))(T:OwnTail h iX bm)(hx:h.get? a=some o)(hc:o.cls = .ref C)(hq:R (.ok (.ret (.ref C))) ⟨h,g,d,t,os⟩) :
  codeAny (model prog w) A (.call (.builtin "getset_descriptor.__get__") ⟨[.builtin "object.__class__",.ref a,.ref C],[]⟩) R ⟨h,g,d,t,os⟩:=by
 have hT5:(⟨h,g,d,t,os⟩:Shared).TypeIs (.builtin "object.__class__") "getset_descriptor":=F.typeOf_object_class;have hcB:(Value.ref C::bm).contains (.type (".".intercalate ("object.__class__".cutAt '.').dropLast))=true:=by
  rw[F.owner_object_class,ey,T.hasType (show iX.contains (.type "object")=true by decide)];rfl
 refine codeAny_call_builtin F.slot_gs_get.plain F.entry_gs_get (F.slot_gs_get.check _ _ _ _ _ _ _ _ hT5 (F.args_gs_get _ _ _) ?_)
 repeat (any_goals (first | assumption | (with_reducible refine wpAny_loadPart_at hx ?_;rw[hc]) | (with_reducible refine wpAny_isSubtype_exc hC ?_;rw[hcB]) | wp_step))
 refine⟨Code.quiet_builtin _ (by decide +kernel),codeAny_builtin F.entry_object_class ?_⟩
 repeat (any_goals (first | assumption | (with_reducible refine wpAny_loadPart_at hx ?_;rw[hc]) | wp_step))
theorem tN {M:Model}{nameV:Value}{Q:Unit->Shared->Prop}(hC:h.get? C=some (excClassObj nm q C N bs bm hdct sn sub ab col dd k0 k1 k2 k3 k5 newId))(T:OwnTail h iX bm)
  (hx:h.get? a=some o) (hc:o.cls = .ref C) (hq:Q () ⟨h,g,d,t,os⟩):wpAny M A (checkBuiltinCall "BaseException.__getattribute__" ⟨[.ref a,nameV],[]⟩) Q E ⟨h,g,d,t,os⟩:=by
 have hk:builtinKind "BaseException.__getattribute__" = some .slot:=by decide +kernel
 have hsplit:splitId "BaseException.__getattribute__" = some ("BaseException","__getattribute__"):=by decide +kernel
 have hcB:(Value.ref C::bm).contains (.type "BaseException")=true:=by rw[ey,T.hasType (show iX.contains (.type "BaseException")=true by decide)];rfl
 have ha:=F.args_bexc_ga (.ref a) nameV;simp only[checkBuiltinCall,hk,hsplit];refine wpAny_bind ?_
 ·unfold isInstance
  repeat (first | (with_reducible refine wpAny_loadPart_at hx ?_;rw[hc]) | (with_reducible refine wpAny_isSubtype_exc hC ?_;rw[hcB]) | wp_step)
  exact hq
theorem xJ {tk:Tok}{Q:Fin->Shared->Prop}(hC:h.get? C=some (excClassObj nm q C N bs bm hdct sn sub ab col dd k0 k1 k2 k3 k5 newId))(hN:h.Ns N mN)(hmN:∀ n∈sA,mN n=none)(T:OwnTail h iX bm)(TN:jB h iX sA bm)
  (hx:h.get? a=some o) (hc:o.cls = .ref C) (hq:Q (.done (.ret (.ref C))) ⟨h,g,d,t,os⟩) :
  wpAny (model prog w) A (Builtin.«object.__getattribute__» ⟨[.ref a,.str "__class__" tk],[]⟩) Q E ⟨h,g,d,t,os⟩:=by
 have hT5:(⟨h,g,d,t,os⟩:Shared).TypeIs (.builtin "object.__class__") "getset_descriptor":=F.typeOf_object_class;have f5:=F.typeOf_object_class;have f6:=F.slot_gs_get.lookup;have f7:=F.slot_gs_set.lookup;have hmA:("__class__" : Str)∈sA:=.tail _ (.tail _ (.head _))
 repeat (any_goals (first | assumption | (with_reducible refine wpAny_loadPart_at hx ?_;rw[hc]) | with_reducible refine fN hmA hC hN hmN TN F.attrBase_ValueError.mro yY ?_ | wp_step))
 refine Cw hC T hx hc ?_
 repeat (any_goals (first | assumption | wp_step))
theorem AA {tk:Tok}{R:Result->Shared->Prop}(hC:h.get? C=some (excClassObj nm q C N bs bm hdct sn sub ab col dd k0 k1 k2 k3 k5 newId))(hN:h.Ns N mN)(hmN:∀ n∈sA,mN n=none)(T:OwnTail h iX bm)(TN:jB h iX sA bm)
  (hx:h.get? a=some o) (hc:o.cls = .ref C) (hq:R (.ok (.ret (.ref C))) ⟨h,g,d,t,os⟩) :
  codeAny (model prog w) A (.call (.builtin "BaseException.__getattribute__") ⟨[.ref a,.str "__class__" tk],[]⟩) R ⟨h,g,d,t,os⟩ :=
 codeAny_call_builtin F.attrBase_ValueError.ga.plain F.entry_bexc_ga (tN hC T hx hc (xJ hC hN hmN T TN hx hc hq))
theorem GP {tk:Tok}{fill expr:Bool}{Q:Value->Shared->Prop}(hC:h.get? C=some (excClassObj nm q C N bs bm hdct sn sub ab col dd k0 k1 k2 k3 k5 newId))(hN:h.Ns N mN)(hmN:∀ n∈sA,mN n=none)(T:OwnTail h iX bm)(TN:jB h iX sA bm)
  (hx:h.get? a=some o) (hc:o.cls = .ref C) (hq:Q (.ref C) ⟨h,g,d,t,os⟩) :
  wpAny (model prog w) A (getAttrBy (.ref a) (.str "__class__" tk) fill expr) Q E ⟨h,g,d,t,os⟩:=by
 have f3:=F.attrBase_ValueError.ga.bind (.ref a);have hx0:(expr&&onTheHeap (Value.builtin "BaseException.__getattribute__"))=false:=by cases expr<;>rfl
 have hx2:(Value.builtin "BaseException.__getattribute__" == Value.builtin "object.__getattribute__")=false:=by decide +kernel
 have hx1:(onTheHeap (Value.ref C)&&Value.builtin "BaseException.__getattribute__" == Value.builtin "object.__getattribute__")=false:=by rw[hx2];rfl
 have hm1:("__getattribute__" : Str)∈sA:=.head _;have hm2:("__getattr__" : Str)∈sA:=.tail _ (.head _)
 repeat (any_goals (first | assumption | (with_reducible refine wpAny_loadPart_at hx ?_;rw[hc]) | with_reducible refine fN hm1 hC hN hmN TN F.attrBase_ValueError.mro F.attrBase_ValueError.ga.lookup ?_ | with_reducible refine fN hm2 hC hN hmN TN F.attrBase_ValueError.mro F.attrBase_ValueError.noGetattr ?_ | wp_step))
 refine AA hC hN hmN T TN hx hc ?_
 repeat (any_goals (first | assumption | wp_step))
theorem Ay {Q:Option Value->Shared->Prop}(hC:h.get? C=some (excClassObj nm q C N bs bm hdct sn sub ab col dd k0 k1 k2 k3 k5 newId))(hN:h.Ns N mN)(hmN:∀ n∈sA,mN n=none)(T:OwnTail h iX bm)(TN:jB h iX sA bm)
  (hx:h.get? a=some o) (hc:o.cls = .ref C) (hq:Q (some (.ref C)) ⟨h,g,d,t+1,os⟩):wpAny (model prog w) A (getAttr? (.ref a) "__class__") Q E ⟨h,g,d,t,os⟩:=by
 unfold getAttr? getAttrBy?
 repeat (any_goals (first | assumption | with_reducible apply GP hC hN hmN T TN hx hc | wp_step))
end
section
variable {prog:Program}{w:World}{A:Around}{E:Value->Shared->Prop}{h:Heap}{g:Array GenState}{d:Drawn}{t:Nat}{os:OsState}{a:Addr}{o:Obj}
 {nm q:Str}{C N:Addr}{bs bm:List Value}{hdct:Bool}{sn:List Str}{sub:List Value}{ab:Bool}{col:Option Bool}{dd:Option Addr}{k0 k1 k2 k3 k5:Option Value}{newId:String}{mN:Str->Option Value}
 {nm' q':Str}{C' N':Addr}{bs' bm':List Value}{hdct':Bool}{sn':List Str}{sub':List Value}{ab':Bool}{col':Option Bool}{dd':Option Addr}{j0 j1 j2 j3 j5:Option Value}{newId':String}
theorem yO:isSubtype (.type "type") (.type "type")=pure true:=by rw[isSubtype_type];kernel_rfl
theorem ub {dep:Int}{tk:Tok}{Q:Fin->Shared->Prop}(hC:h.get? C=some (excClassObj nm q C N bs bm hdct sn sub ab col dd k0 k1 k2 k3 k5 newId))(hN:h.Ns N mN)(hmN:∀ n∈sA,mN n=none)(T:OwnTail h iX bm)(TN:jB h iX sA bm)
  (hD:h.get? C'=some (excClassObj nm' q' C' N' bs' bm' hdct' sn' sub' ab' col' dd' j0 j1 j2 j3 j5 newId')) (hx:h.get? a=some o) (hc:o.cls = .ref C)
  (hq:∀ t',Q (.done (.ret (.bool ((Value.ref C::bm).contains (.ref C'))))) ⟨h,g,d,t',os⟩) :
  wpAny (model prog w) A (Builtin.«isinstance.nested» ⟨[.ref a,.ref C',.int dep tk],[]⟩) Q E ⟨h,g,d,t,os⟩:=by
 have f:=yO;by_cases e:(Value.ref C==Value.ref C')=true
 ·have hq1:=hq t;have:(Value.ref C::bm).contains (.ref C')=true:=by
   rw[ey,gu.mp e];simp
  rw[this] at hq1
  repeat (any_goals (first | assumption | (with_reducible refine wpAny_loadPart_at hx ?_;rw[hc]) | wp_step))
 ·have e':(Value.ref C==Value.ref C')=false:=by simpa using e
  cases hb:(Value.ref C::bm).contains (.ref C') with
  |true =>
   have hq1:=hq t;rw[hb] at hq1
   repeat (any_goals (first | assumption | (with_reducible refine wpAny_loadPart_at hx ?_;rw[hc]) | with_reducible refine wpAny_loadPart_at hD ?_ | (with_reducible refine wpAny_isSubtype_exc hC ?_;rw[hb]) | wp_step))
  |false =>
   have hq1:=hq (t+1);rw[hb] at hq1
   repeat (any_goals (first | assumption | (with_reducible refine wpAny_loadPart_at hx ?_;rw[hc]) | with_reducible refine wpAny_loadPart_at hD ?_ | with_reducible refine wpAny_loadPart_at hC ?_ | (with_reducible refine wpAny_isSubtype_exc hC ?_;rw[hb]) | with_reducible apply Ay hC hN hmN T TN hx hc | wp_step))
theorem zi {dep:Int}{tk:Tok}{Q:Fin->Shared->Prop}(hC:h.get? C=some (excClassObj nm q C N bs bm hdct sn sub ab col dd k0 k1 k2 k3 k5 newId))(T:OwnTail h iX bm)
  (hx:h.get? a=some o) (hc:o.cls = .ref C) (hq:Q (.done (.ret (.bool true))) ⟨h,g,d,t,os⟩) :
  wpAny (model prog w) A (Builtin.«isinstance.nested» ⟨[.ref a,.type "ValueError",.int dep tk],[]⟩) Q E ⟨h,g,d,t,os⟩:=by
 have hb:(Value.ref C::bm).contains (.type "ValueError")=true:=by rw[ey,T.hasType (show iX.contains (.type "ValueError")=true by decide)];rfl
 have hty:typeOf (.type "ValueError")=pure (.type "type"):=by kernel_rfl
 have e':(Value.ref C==Value.type "ValueError")=false:=rfl
 repeat (any_goals (first | assumption | (with_reducible refine wpAny_loadPart_at hx ?_;rw[hc]) | (with_reducible refine wpAny_isSubtype_exc hC ?_;rw[hb]) | wp_step))
end
noncomputable def Ea (K:PySem.W.Frag):List Value->Bool
 |[]=>iX == []
 |v::r=>(v::r)==iX || match v with
  |.ref A=>(match K.lookup A with
   |some ⟨_,_,.cls cd,_⟩=>PySem.W.nsOkIn K cd.ns&&sA.all (fun n=>PySem.W.nsIn K cd.ns n==some none)&&Ea K r
   |_=>false)
  |_=>false
noncomputable def excQ (K:PySem.W.Frag)(C:Addr):Bool:=PySem.W.excIn K C iX "ValueError.__new__" && (match K.lookup C with
 |some ⟨_,_,.cls cd,_⟩=>PySem.W.nsOkIn K cd.ns&&sA.all (fun n=>PySem.W.nsIn K cd.ns n==some none)&&Ea K cd.mro.tail
 |_=>false)
noncomputable def eK (K:PySem.W.Frag)(C D:Addr):Bool:=match K.lookup C with
 |some ⟨_,_,.cls cd,_⟩=>cd.mro.contains (.ref D)
 |_=>false
structure ExcF (K:PySem.W.Frag)(h:Heap)(C:Addr)(bm:List Value):Prop where
 ex:∃ nm q N bs hdct sn sub ab col dd k0 k1 k2 k3 k5 mN,h.get? C=some (excClassObj nm q C N bs bm hdct sn sub ab col dd k0 k1 k2 k3 k5 "ValueError.__new__")/\h.Ns N mN/\∀ n∈sA,mN n=none
 tail:OwnTail h iX bm
 tn:jB h iX sA bm
 over:∀ D,eK K C D=(Value.ref C::bm).contains (.ref D)
noncomputable def lB (K:PySem.W.Frag)(D:Addr):Bool:=match K.lookup D with
 |some ⟨.type "type",_,.cls cd,sl⟩=>(match cd.mro,sl.toList with
  | .ref C'::_,[_,_,_,_,some (.builtin _),_]=>C'==D && !cd.hasDel
  |_,_=>false)
 |_=>false
theorem kh {K:PySem.W.Frag}{h:Heap}{D:Addr}(kin:K.In h)(q:lB K D=true) :
  ∃ bm N nm qn bs hdct sn sub ab col dd k0 k1 k2 k3 k5 newId,h.get? D=some (excClassObj nm qn D N bs bm hdct sn sub ab col dd k0 k1 k2 k3 k5 newId):=by
 unfold lB at q;split at q
 ·rename_i dd cd sl ho;split at q
  ·rename_i C' bm k0 k1 k2 k3 n k5 hm hs;simp only[Bool.and_eq_true,beq_iff_eq,Bool.not_eq_true'] at q;obtain⟨rfl,hdel⟩:=q;obtain⟨nm,bs,mro,ns,qn,hd,sn,sub,ab,col,del⟩:=cd;dsimp only at hm hdel;subst hm hdel;have hsl:sl = #[k0,k1,k2,k3,some (.builtin n),k5]:=by
    obtain⟨l⟩:=sl;simp only at hs;rw[hs]
   subst hsl;exact⟨bm,ns,nm,qn,bs,hd,sn,sub,ab,col,dd,k0,k1,k2,k3,k5,n,kin _ _ ho⟩
  ·cases q
 ·cases q
def D9 (K:PySem.W.Frag)(C:Addr):Prop:=∀{h:Heap},K.In h->∃ bm,ExcF K h C bm
section
variable {prog:Program}{w:World}{A:Around}{E:Value->Shared->Prop}{K:PySem.W.Frag}
theorem CS {s:Shared}{a C D:Addr}{o:Obj}{Q:Value->Shared->Prop}(kin:K.In s.heap)(qC:D9 K C)(qD:lB K D=true)(hx:s.heap.get? a=some o)(hc:o.cls = .ref C)(hq:∀ t',Q (.bool (eK K C D)) {s with toks:=t'}) :
  wpAny (model prog w) A (call (.builtin "isinstance") [.ref a,.ref D]) Q E s:=by
 obtain⟨bm,FC⟩:=qC kin;obtain⟨nm,q,N,bs,hdct,sn,sub,ab,col,dd,k0,k1,k2,k3,k5,mN,hC,hN,hmN⟩:=FC.ex;obtain⟨bm',N',nm',q',bs',hdct',sn',sub',ab',col',dd',j0,j1,j2,j3,j5,nI,hD⟩:=kh kin qD;obtain⟨h,g,d,t,os⟩:=s;refine call_isinstance_of (ub hC hN hmN FC.tail FC.tn hD hx hc fun t'=>?_) (by intro e;cases e);rw[<-FC.over D];exact hq t'
theorem Dc {s:Shared}{a C:Addr}{o:Obj}{Q:Value->Shared->Prop}(kin:K.In s.heap)(qC:D9 K C)(hx:s.heap.get? a=some o)(hc:o.cls = .ref C)(hq:Q (.bool true) s) :
  wpAny (model prog w) A (call (.builtin "isinstance") [.ref a,.type "ValueError"]) Q E s:=by
 obtain⟨bm,FC⟩:=qC kin;obtain⟨nm,q,N,bs,hdct,sn,sub,ab,col,dd,k0,k1,k2,k3,k5,mN,hC,hN,hmN⟩:=FC.ex;obtain⟨h,g,d,t,os⟩:=s;exact call_isinstance_of (zi hC FC.tail hx hc hq) (by intro e;cases e)
theorem CN {a C D:Addr}{o:Obj}(qC:D9 K C)(qD:lB K D=true)(hc:o.cls = .ref C):Answers (fun s=>K.In s.heap/\s.heap.get? a=some o) (.ref a) (.ref D) (eK K C D):=by
 intro dep tk prog w A R s hs;obtain⟨⟨kin,hx⟩,hq⟩:=hs;obtain⟨bm,FC⟩:=qC kin;obtain⟨nm,q,N,bs,hdct,sn,sub,ab,col,dd,k0,k1,k2,k3,k5,mN,hC,hN,hmN⟩:=FC.ex;obtain⟨bm',N',nm',q',bs',hdct',sn',sub',ab',col',dd',j0,j1,j2,j3,j5,nI,hD⟩:=kh kin qD;obtain⟨h,g,d,t,os⟩:=s;refine ub hC hN hmN FC.tail FC.tn hD hx hc fun t'=>?_
 rw[<-FC.over D];exact hq t'
theorem xA {a C:Addr}{o:Obj}(qC:D9 K C)(hc:o.cls = .ref C):∀{Ds:List Addr},(∀ D∈Ds,lB K D=true)->AnswersAll (fun s=>K.In s.heap/\s.heap.get? a=some o) (.ref a) (Ds.map Value.ref) (Ds.map (eK K C))
 |[],_=>trivial
 |D::Ds,h=>⟨CN qC (h D ae) hc,xA qC hc fun x hx=>h x (aa _ hx)⟩
theorem CQ {s:Shared}{a C tp:Addr}{o ot:Obj}{n:Nat}{Ds:List Addr}{Q:Value->Shared->Prop}(kin:K.In s.heap)(qC:D9 K C)(qD:∀ D∈Ds,lB K D=true)(hx:s.heap.get? a=some o)(hc:o.cls = .ref C)
  (ht:s.heap.get? tp=some ot) (htc:ot.cls = .type "tuple") (htd:ot.data = .seq (Ds.map Value.ref).toArray n) (hq:∀ t',Q (.bool ((Ds.map (eK K C)).any id)) {s with toks:=t'}) :
  wpAny (model prog w) A (call (.builtin "isinstance") [.ref a,.ref tp]) Q E s:=by
 refine call_isinstance_of ?_ (by intro e;cases e);obtain⟨h,g,d,t,os⟩:=s;have hT2:(⟨h,g,d,t,os⟩:Shared).TypeIs (.ref tp) "tuple":=⟨_,ht,htc⟩;have f1:=F.isi_sub_tuple;have ne:(Value.ref C==Value.ref tp)=false:=by
  rw[fh];intro e;cases e;obtain⟨bm,FC⟩:=qC kin;obtain⟨nm,q,N,bs,hdct,sn,sub,ab,col,dd,k0,k1,k2,k3,k5,mN,hC,hN,hmN⟩:=FC.ex;rw[ht] at hC;cases hC;cases htd
 repeat (any_goals (first | assumption | (with_reducible refine wpAny_loadPart_at hx ?_;rw[hc]) | with_reducible refine wpAny_seqItems ht htd ?_ | wp_step))
 refine wpAny_arrayLoop ?_;simp only[Option.getD_some,List.toList_toArray];refine isinstance_items (dep:=0) (P:=fun s=>K.In s.heap/\s.heap.get? a=some o) (fun s tk h=>h) (Ds.map Value.ref) (Ds.map (eK K C)) _ _ (xA qC hc qD) ⟨kin,hx⟩ fun tk'=>?_
 cases hv:(Ds.map (eK K C)).any id with
 |true =>
  simp only[if_true]
  repeat (any_goals (first | assumption | wp_step))
  exact hv ▸ hq tk'
 |false =>
  simp only[Bool.false_eq_true,if_false]
  repeat (any_goals (first | assumption | wp_step))
  exact hv ▸ hq tk'
end
section
variable {X:Cx}{pins:List (Addr×Obj)}{σ:L2.St}{H:Hp}{s:Shared}{D:Ends}{k:Nat}{f:Addr}{fd:FuncData}{ps:List Str}{sp:Sp}{dvs:List V}{ds:List Value}{W:Value->Hp->Prop}
end
section
variable {X:Cx}{a C:Addr}{o:Obj}
def BQ (K:PySem.W.Frag)(a C:Addr):List V->Hp->VK->Prop:=fun xs H Q =>
 (∃ D,xs=[.ref a,.ref D]/\lB K D=true/\Q (.bl (eK K C D)) H)\/(xs=[.ref a,.ty "ValueError"]/\Q (.bl true) H) \/
  ∃(p:Addr) (Ds:List Addr),xs=[.ref a,.ref p]/\H p=some (.tup (Ds.map V.ref))/\(∀ D∈Ds,lB K D=true)/\Q (.bl ((Ds.map (eK K C)).any id)) H
theorem qt:∀{Ds:List Addr}{us:List Value},aR (Ds.map V.ref) us->us=Ds.map Value.ref
 |[],_,.nil=>rfl
 | D::Ds,_,.cons r v=>by
  rw[qt v];have r:_=Value.ref D:=r;rw[r];rfl
theorem kW (qC:D9 X.K C)(hc:o.cls = .ref C):jK (kG X a o) (.builtin "isinstance") (BQ X.K a C):=by
 intro pins s σ H xs us Q I r h;have hx:s.heap.get? a=some o:=(I.pin (a,o) (aw _ ae)).1;have kin:X.K.In s.heap:=I.kIn;rcases h with ⟨D,rfl,qD,q⟩ | ⟨rfl,q⟩ | ⟨p,Ds,rfl,hp,qD,q⟩
 ·obtain⟨u,w',rfl,r1,r2⟩:=r.two;cases r1;cases r2;exact CS kin qC qD hx hc fun t'=>⟨.bl _,H,I.kept (t':=t') fun b o e=>e,rfl,q⟩
 ·obtain⟨u,w',rfl,r1,r2⟩:=r.two;cases r1;cases r2;exact Dc kin qC hx hc ⟨.bl true,H,I,rfl,q⟩
 ·obtain⟨u,w',rfl,r1,r2⟩:=r.two;cases r1;cases r2;obtain⟨_,its,rv,ot,e1,e2,n,e3⟩:=I.hok p _ hp;have:=qt rv;subst this;exact CQ kin qC qD hx hc e1 e2 e3 fun t'=>⟨.bl _,H,I.kept (t':=t') fun b o e=>e,rfl,q⟩
end
def Df.Bd (d:Df):Prop:=∀(kV doc pm:Value) (an:Option Addr) (cdv ct:Value) (us:List Value),us.length=d.ps.length->bindArgs (PySem.W.fnOf d.nm d.nm (eU d.st) (bM d.st) (aE d.st) .none kV doc pm an cdv ct) ⟨us,[]⟩=pure (d.ps.zip us)
def Df.OkX (p:Pg)(fo:List Str)(d:Df):Prop:=d.Ok p\/(d.Bd/\d.nm∈fo)
theorem Df.OkX.bd {p:Pg}{fo:List Str}{d:Df}(h:d.OkX p fo):d.Bd:=by
 rcases h with h | h
 ·exact h.bd
 ·exact h.1
theorem iR {p:Pg}{d:Df}{n:Nat}(h:d.okB p n=true):cL d.N d.ps (aE d.st):=by
 unfold Df.okB at h;simp only[Bool.and_eq_true,decide_eq_true_eq,Bool.not_eq_true',List.all_eq_true] at h;obtain⟨⟨⟨⟨⟨⟨h1,h2⟩,h3⟩,h4⟩,h5⟩,h6⟩,h7⟩:=h;exact⟨h1,h2,h3,h4,h5,fun x hx=>md (h6 x hx),h7⟩
section
variable {p:Pg}{P:Program}{w:World}{K:Frag}{mg:Str->Option Value}{base:Heap}
def uw (p:Pg)(P:Program)(w:World)(K:Frag)(mg:Str->Option Value)(base:Heap)(n:Nat):Prop:=∀(i:Nat) (d:Df),p.dfs[i]? = some d->∀ f fd,L2.sR K d.nm d.nm d.st f fd->lX P w K mg base sj n f fd d.ps (C3 K d.ps.length (p.run n i))
def rS (p:Pg)(fo:List Str)(P:Program)(w:World)(K:Frag)(mg:Str->Option Value)(base:Heap):Prop:=∀(n i:Nat) (d:Df),p.dfs[i]? = some d->d.nm∈fo->uw p P w K mg base n->∀ f fd,L2.sR K d.nm d.nm d.st f fd->lX P w K mg base sj (n+1) f fd d.ps (C3 K d.ps.length (p.run (n+1) i))
theorem CL {fo:List Str}(hp:∀ d∈p.dfs,d.OkX p fo)(hi:p.In K mg)(hh:yR w K)(hf:rS p fo P w K mg base):∀ n,uw p P w K mg base n:=by
 intro n
 induction n with
 |zero =>
  intro i d hd f fd F;refine⟨fun vs H Q E h=>wG h,fun A outer s H args us vs Q E hr he hb hv hs=>?_⟩;obtain⟨ds,G,_,_,r,h,_⟩:=hs;cases h
 |succ n ih =>
  intro i d hd f fd F;rcases hp d (List.mem_of_getElem? hd) with ⟨⟨m,hb⟩,S,_⟩ | ⟨_,hn⟩
  rotate_left
  ·exact hf n i d hd hn ih f fd F
  refine F.ok S (fun vs H Q E h=>wG h) fun cdv A outer s H vs Q E hr hs=>?_
  have C:ve (eW sj P w K mg base d.N d.nm (aE d.st) f cdv A outer s H E).nox (p.sc d) ⟨p.run n,p.gl,p.fuel⟩:=by
   refine⟨⟨rfl,S.nd,fun x h=>tM h,fun x h=>⟨md h,.inl rfl⟩,fun x h=>wL h,fun x h=>h,?_,rfl,fun j x hj=>?_,fun j x hj=>hi.gl j x hj,fun x h=>hi.blt x h⟩,rfl,S.kind,PassesOwn.never⟩
   ·exact⟨gv (Nat.add_le_add_left (by decide:40<=64) _) hr.units,hh⟩
   ·obtain⟨e,he,hx⟩:=qV hj;obtain⟨f',fd',F',M'⟩:=hi.fn j e he;have B':=F'.binds (hp e (List.mem_of_getElem? he)).bd;subst hx;refine⟨f',fd',e.ps,n,ih j e he f' fd' F',hr,M',F'.kp,B',fun ds r h=>?_⟩;have h:p.run n j ds = .ok r:=h;cases n with
    |zero=>cases h
    |succ n =>
     unfold Pg.run Pc.run at h;have:p.fns[j]? = some ⟨e.ps.length,e.N.length,e.body⟩:=by unfold Pg.fns;rw[List.getElem?_map,he];rfl
     rw[this] at h;dsimp only at h;by_cases hl:ds.length=e.ps.length
     ·exact hl
     ·rw[if_neg hl] at h;cases h
  refine⟨_,(D3 C m).2 _ _ hb,?_⟩;obtain⟨ds,G,hl,rs,r,hrun,k⟩:=hs;unfold Pg.run Pc.run at hrun;have:p.fns[i]? = some ⟨d.ps.length,d.N.length,d.body⟩:=by unfold Pg.fns;rw[List.getElem?_map,hd];rfl
  rw[this] at hrun;dsimp only at hrun;rw[if_pos hl] at hrun;have hN:ds.length<=d.N.length:=by
   rw[hl,<-S.pre,eu];exact je _ _
  obtain⟨F0,re,hF⟩:=entry rs hN;refine⟨fun a=>H a≠none,fun a=>H a=none\/a∈G,aF ds d.N.length,F0,re,fun j a ha=>.inr (hF j a ha),fun a h=>.inl (Classical.not_not.mp h),?_⟩;show post K _ _ _ _ H _ (aC ⟨p.run n,p.gl,p.fuel⟩ d.body (aF ds d.N.length));have hrun:(match aC ⟨p.run n,p.gl,p.fuel⟩ d.body (aF ds d.N.length) with
   |.rt d fr=>Rs.ok (d,fr)
   |.nx _=>.ok (.non,true)
   |.xc e _=>.exc e
   |_=>.bad) = .ok r:=hrun
  cases hq:aC ⟨p.run n,p.gl,p.fuel⟩ d.body (aF ds d.N.length) with
  |rt dd fr =>
   rw[hq] at hrun;cases hrun;intro v H' G' rp ev z fz;exact k v H' G' (lP ev) rp z fun hf=>let ⟨a,b⟩:=fz hf;⟨a,fun x hx=>⟨Classical.not_not.mp (b x hx).1,(b x hx).2⟩⟩
  |nx e =>
   rw[hq] at hrun;cases hrun;intro σ' H' F' af;exact k .non H' [] (lP af.ev) .non (fun _ h=>(nomatch h)) fun _=>⟨bq,fun _ h=>(nomatch h)⟩
  |bk e=>rw[hq] at hrun;cases hrun
  |ct e=>rw[hq] at hrun;cases hrun
  |xc e e'=>rw[hq] at hrun;cases hrun
  |bad=>rw[hq] at hrun;cases hrun
end
theorem Ji {l:PySem.W.OpenLaw}{q:Program}{loose:List Str}{XP:(Str->Option Value)->Heap->Prop}{YP:World->Heap->Prop}{d:DefRec}{K:Params->PySem.W.Frag}(p:Pg)(fo:List Str)(n i:Nat)(x:Str)(e:Df)(hn:l.most=some 63)(hdf:d.params.defaults=[])
  (hY:∀(w:World) (h:Heap),YP w h->(K w.params).In h) (hd:p.dfs[i]? = some e) (hps:e.ps=[x]) (hnm:d.name=e.nm) (hr:gS n callerA) (ok:vB (Df.OkX p fo) p.dfs) (st:∀ w:World,vo p (K w.params)) (hL:∀ w:World,noL (K w.params)=true) (hH:∀ w:World,yR w (K w.params))
  (hf:∀(w:World) (mg:Str->Option Value) (h base:Heap),(K w.params).In h->h.Ns mainGlobals mg->p.In (K w.params) mg->rS p fo l.prog w (K w.params) mg base)
  (law:∀ ns:List Int,ns.length<=63->∃ fr,p.run n i [.lst (ns.map D.int)] = .ok (.bl true,fr)) :
  PySem.W.WalkO q loose XP YP l.row.toRowW d [] (fun f vs=>PySem.call f vs):=by
 refine L2.Ck (n:=63) (k:=n) (x:=x) (CX:=fun _=>sj) (sp:=fun w=>C3 (K w.params) 1 (p.run n i)) hn (by decide) hdf hr hY (fun w mg fa h KX G hm=>?_) (fun w H a ns hl _ hS=>?_) fun _ _ _ _ _ z=>z
 ·have I:=(st w).isin KX G;obtain⟨f,fd,F,m⟩:=I.fn i e hd;rw[hnm,m] at hm;obtain rfl:f=fa:=by cases hm;rfl
  refine⟨fd,fun s u=>?_,fun base kb nb=>?_⟩
  ·obtain⟨oc,od,kV,doc,pm,an,cdv,ct,osl,rfl,lk,hcd⟩:=F.ex;have:=(eO ok e (List.mem_of_getElem? hd)).bd kV doc pm an cdv ct [u] (by rw[hps];rfl);rw[hps] at this;exact .of_eq this
  ·have:=CL (P:=l.prog) (w:=w) (base:=base) (eO ok) I (hH w) (hf w mg h base KX G I) n i e hd f fd F;rw[hps] at this;exact this
 ·obtain⟨fr,h⟩:=law ns hl;exact GJ (hL w) hS h
def Cls (K:Frag)(x:Str)(C:Addr):Prop:=PySem.W.nsIn K mainGlobals x=some (some (.ref C))/\excQ K C=true
structure lK (k:Nat)(A:Around):Prop where
 hd:A.handled=none
 dp:A.depth+3*k+6<recursionLimit
 un:A.units+16*k+203<cLine
theorem lK.of {k:Nat}{A:Around}(r:gS (k+1) A)(env:Env):lK k (A.deeper env) :=
 ⟨r.hd,by have:=r.dp;show A.depth+1+3*k+6<_;omega,by have:=r.un;show A.units+3+16*k+203<_;omega⟩
theorem lK.deeper {k:Nat}{A:Around}(r:lK k A)(env:Env):gS k (A.deeper env) :=
 ⟨r.hd,by have:=r.dp;show A.depth+1+3*k+5<_;omega,by have:=r.un;show A.units+3+16*k+200<_;omega⟩
structure kH (P:Program)(w:World)(K:PySem.W.Frag)(mg:Str->Option Value)(base:Heap)(CX:sP)(RP:Around->Prop)(f:Addr)(fd:FuncData)(ps:List Str)(sp:Sp):Prop where
 len:∀ vs H Q E,sp vs H Q E->vs.length=ps.length
 run:∀(A:Around) (outer:List Env) (s:Shared) (H:Hp) (args:PySem.Args) (us:List Value) (vs:List V) (Q:VK) (E:XK),RP A->yh P w K mg base A outer s H->BindsTo s fd args (ps.zip us)->aR vs us->sp vs H Q E ->
  codeAny (model P w) A (.call (.ref f) args) (CR CX outer P w H s Q E) s
section
variable {P:Program}{w:World}{K:PySem.W.Frag}{mg:Str->Option Value}{base:Heap}{f:Addr}{fd:FuncData}{ps N:List Str}{sp:Sp}
theorem kH.plain {CX:sP}{k:Nat}(F:kH P w K mg base CX (gS k) f fd ps sp):lX P w K mg base CX k f fd ps sp:=⟨F.len,F.run⟩
theorem vN {CX:sP}{RP:Around->Prop}{x qual:Str}{st:Stmt}(F:L2.sR K x qual st f fd)(S:cL N ps (aE st))(hRP:∀ A,RP A->A.handled=none/\A.depth<recursionLimit)(len:∀ vs H Q E,sp vs H Q E->vs.length=ps.length)
  (hbody:∀(cdv:Value) (A:Around) (outer:List Env) (s:Shared) (H:Hp) (vs:List V) (Q:VK) (E:XK),RP A->sp vs H Q E ->
   ∃ t,j6 (eW CX P w K mg base N qual (aE st) f cdv A outer s H E) (bM st) t/\t {nx:=fun _ H'=>Q .non H',rt:=Q} (L2.start N vs) H):kH P w K mg base CX RP f fd ps sp:=by
 obtain⟨oc,od,kV,doc,pm,an,cdv,ct,osl,rfl,lk,hcd⟩:=F.ex;refine⟨len,fun A outer s H args us vs Q E hr e0 hb r hsp=>?_⟩;have hl:=len _ _ _ _ hsp;have KX:K.In s.heap:=e0.mod.kin.keeps fun b o e=>(e0.bs b o e).1
 have lim:s.heap.NoLimit:=e0.mod.nolimit.keeps fun b o e=>(e0.bs b o e).1
 have hkind:∀ y∈ps.zip us,(aE st).names.lookup y.1=some .local\/((aE st).names.lookup y.1=some .cell/\((cellsFrom (s.heap.objs.size+1) (aE st).names []).lookup y.1).isSome=true):=fun ⟨n,v⟩ hy=>by
  rcases S.par n (fw hy).1 with q | q
  ·exact .inl q
  ·exact .inr ⟨q,ig _ _ _ (.inl q)⟩
 refine codeAny_call_function (hRP A hr).2 (KX _ _ lk) rfl S.co S.gen rfl (i5 KX hcd) (hb _ _ _ _ ?_);refine wpAny_newFunctionEnv_cells S.kind hkind fun env he s1 x=>?_
 subst he;refine⟨lim.keeps x.toInCall.keep,codeAny_func ?_⟩;obtain⟨t,ht,hq⟩:=hbody cdv A outer s H vs Q E hr hsp;have I:Inv (eW CX P w K mg base N qual (aE st) f cdv A outer s H E) [] (L2.start N vs) H s1:=mw S (hRP A hr).1 e0 hl r x;refine wpAny_mono (ht [] s1 (L2.start N vs) H _ I hq) (fun fl s' hs=>?_) fun e s' hs=>hs
 have fin:∀{σ':L2.St}{H':Hp}{v:V}{u:Value},Inv (eW CX P w K mg base N qual (aE st) f cdv A outer s H E) [] σ' H' s'->RelV v u->Q v H'->CE outer P w H s Q u s' :=
  fun {σ' H' v u} J rv q=>⟨v,H',J.os,J.bare,J.base,J.hok,rv,q⟩
 cases fl with
 |ret u =>
  obtain⟨v,σ',H',J,rv,q⟩:=hs;exact fin J rv q
 |next =>
  obtain⟨σ',H',J,q⟩:=hs;exact fin (v:=V.non) (u:=Value.none) J rfl q
 |brk =>
  obtain⟨_,_,_,q⟩:=hs;exact False.elim q
 |cont =>
  obtain⟨_,_,_,q⟩:=hs;exact False.elim q
end
section
variable {X:Cx}{pins:List (Addr×Obj)}{σ:L2.St}{H:Hp}{s:Shared}{D:Ends}{RP:Around->Prop}{f:Addr}{fd:FuncData}{ps:List Str}{sp:Sp}{dvs:List V}{ds:List Value}{W:Value->Hp->Prop}
end
section
variable {X:Cx}{S:Sc}{T:Tb}
theorem PS.nox {st:Stmt}{t:TS}(h:PS X.nox st t):PS X st t:=fun pins s σ H D I hw=>by
 have:=h pins s σ H D (I.wish _) hw;refine wpAny_mono this (fun f s1 q=>?_) fun _ _ z=>z.elim
 cases f with
 |next=>obtain⟨σ',H',J,q⟩:=q;exact⟨σ',H',J.unwish,q⟩
 |brk=>obtain⟨σ',H',J,q⟩:=q;exact⟨σ',H',J.unwish,q⟩
 |cont=>obtain⟨σ',H',J,q⟩:=q;exact⟨σ',H',J.unwish,q⟩
 |ret u=>obtain⟨v,σ',H',J,r,q⟩:=q;exact⟨v,σ',H',J.unwish,r,q⟩
def IZ (K:Frag)(T:Tb)(cs:bJ)(u:TS):TS:=fun D σ H=>∃ P Z env F,RE K P env σ H F/\(∀ i,∀ a∈F i,Z a)/\(∀ a,¬ P a->Z a)/\post K P Z env F H {D with nx:=u D} (aC T cs env)
end
section
variable {p:Pg}{P:Program}{w:World}{K:Frag}{mg:Str->Option Value}{base:Heap}
theorem Ep {fo:List Str}{n:Nat}{CX:sP}{N:List Str}{nm:Str}{sc:Scope}{ps:List Str}{f:Addr}{cdv:Value}{A:Around}{outer:List Env}{s:Shared}{H:Hp}{E:XK}(hp:∀ d∈p.dfs,d.OkX p fo)(hi:p.In K mg)(hh:yR w K)(ih:uw p P w K mg base n)(S:cL N ps sc)
  (hr:gS n (A.deeper (envOfC nm sc s.heap.objs.size f cdv))):ve (eW CX P w K mg base N nm sc f cdv A outer s H E).nox ⟨N,sc,p.dfs.map (·.nm),p.yV,p.fL⟩ ⟨p.run n,p.gl,p.fuel⟩:=by
 refine⟨⟨rfl,S.nd,fun x h=>tM h,fun x h=>⟨md h,.inl rfl⟩,fun x h=>wL h,fun x h=>h,?_,rfl,fun j x hj=>?_,fun j x hj=>hi.gl j x hj,fun x h=>hi.blt x h⟩,rfl,S.kind,PassesOwn.never⟩
 ·exact⟨gv (Nat.add_le_add_left (by decide:40<=64) _) hr.units,hh⟩
 ·obtain⟨e,he,hx⟩:=qV hj;obtain⟨f',fd',F',M'⟩:=hi.fn j e he;have B':=F'.binds (hp e (List.mem_of_getElem? he)).bd;subst hx;refine⟨f',fd',e.ps,n,ih j e he f' fd' F',hr,M',F'.kp,B',fun ds r h=>?_⟩;have h:p.run n j ds = .ok r:=h;cases n with
  |zero=>cases h
  |succ n =>
   unfold Pg.run Pc.run at h;have:p.fns[j]? = some ⟨e.ps.length,e.N.length,e.body⟩:=by unfold Pg.fns;rw[List.getElem?_map,he];rfl
   rw[this] at h;dsimp only at h;by_cases hl:ds.length=e.ps.length
   ·exact hl
   ·rw[if_neg hl] at h;cases h
end
section
variable {X:Cx}{pins:List (Addr×Obj)}{σ:L2.St}{H:Hp}{s:Shared}{D:Ends}{W:Value->Hp->Prop}
end
def jJ (h:Heap)(e:Addr)(od:Option Addr):Prop:=∃ o,h.get? e=some o/\o.dict=od
theorem pD (o:Obj)(f):(o.mapFields f).dict=o.dict:=by
 unfold Obj.mapFields;split<;>rfl
section
variable {M:Model}{A:Around}{E:Value->Shared->Prop}{s:Shared}{base:Heap}{env:Env}{outer l:List Env}{L e:Addr}{oe:Obj}{vs:Array Value}{head a0 cls fl:Value}{hadNext:Bool}{od:Option Addr}
theorem AX {Q:Unit->Shared->Prop}(fr:A.frames=some (env::outer))(ff:s.heap.FunFrames base (env::outer))(ef:env.frame=some L)(at_:s.heap.get? e=some oe)(st:base.StaysIn s.heap)(nw:base.get? e=none)(da:oe.data = .fields vs)(sz:1<vs.size)
  (v0:vs[0]? = some a0) (k:∀ h',Heap.NotedW base (env::outer) e oe.cls a0 (rawInt L) s.heap h'->jJ h' e oe.dict->Q () {s with heap:=h'}) :
  wpAny M A (do let a <- frameOf env;let pl <- entryPlaceOf L hadNext;let b <- EntryCells.newEntry head a .none (rawInt L) .none pl;setField (.ref e) 1 b) Q E s:=by
 have nofr:e∉(env::outer).filterMap (·.frame):=fun z=>by
  obtain⟨_,o,ho,nf⟩:=ff.mem z;rw[at_] at ho;cases ho;exact nf vs da
 refine wpAny_bind (wpAny_frameOf_fun fr ff ef fun g so=>wpAny_bind (wpAny_entryPlaceOf fun pl hp=>?_));unfold EntryCells.newEntry newFields;refine wpAny_bind (wpAny_newObj_type ?_ (hp.sizeOk5 _ _ _ _ _));have at1:g.get? e=some oe:=(so.2.1 e nofr).trans at_;have st1:base.StaysIn g:=fun b o q=>(so.2.1 b fun z=>by rw[(ff.mem z).1] at q;cases q).trans (st b o q)
 generalize hT:({cls:=.type "traceback",dict:=none,data:=.fields ([head,.ref L,.none,rawInt L,.none]++(if pl.isEmpty then List.replicate 6 Value.none else pl)).toArray}:Obj)=oT;have frT:oT.isFreed=false:=by subst hT;rfl
 have daT:oT.data = .fields ([head,.ref L,.none,rawInt L,.none]++(if pl.isEmpty then List.replicate 6 Value.none else pl)).toArray:=by subst hT;rfl
 have at2:=Heap.get?_push_of_some oT at1;refine wpAny_setField at2 da sz (k _ ?_ ?_)
 ·have ne:g.objs.size≠e:=Nat.ne_of_gt (Heap.lt_size at1);have da3:=Obj.data_mapFields da (·.setIfInBounds 1 (Value.ref g.objs.size));have at3:=Heap.get?_update_self (Obj.mapFields (·.setIfInBounds 1 (Value.ref g.objs.size))) at2 (Obj.isFreed_of_fields da3);have tb3:=(Heap.get?_update_other (g.push oT) (Obj.mapFields (·.setIfInBounds 1 (Value.ref g.objs.size))) (cm ne)).trans (Heap.get?_push_size g frT);have kp:∀ b o,b≠e->g.get? b=some o->((g.push oT).update e (Obj.mapFields (·.setIfInBounds 1 (Value.ref g.objs.size)))).get? b=some o:=fun b o hb q =>
   (Heap.get?_update_other _ _ (cm hb)).trans (Heap.get?_push_of_some _ q)
  have nrec:∀ b o,s.heap.get? b=some o->(∀ ws,o.data≠.fields ws)->b≠e:=fun b o q nf z=>by
   subst z;rw[at_] at q;cases q;exact nf vs da
  refine⟨fun b o q=>kp b o (fun z=>by rw[z,nw] at q;cases q) (st1 b o q),ff.of_keeps fun b o q nf=>?_,⟨_,_,g.objs.size,_,_,at3,⟨Obj.cls_mapFields _ _,by rw[Array.getElem?_setIfInBounds_ne (by decide)];exact v0⟩,da3,by simp[sz],st1.fresh,ne,tb3,daT,?_⟩,fun b o q nf=>?_⟩
  ·obtain⟨sl,q1⟩:=so.2.2 b o q;exact⟨_,kp b _ (nrec b o q nf) q1,rfl⟩
  ·rcases hp with rfl | ⟨_,_,_,_,_,_,_,rfl⟩<;>simp
  ·obtain⟨sl,q1⟩:=so.2.2 b o q;exact⟨sl,kp b _ (nrec b o q nf) q1⟩
 ·exact⟨_,Heap.get?_update_self _ at2 (Obj.isFreed_of_fields (Obj.data_mapFields da _)),pD _ _⟩
theorem sf {Q:Unit->Shared->Prop}(st:base.StaysIn s.heap)(ff:s.heap.FunFrames base l)(tr:s.heap.TracedAtW base e cls a0 fl)(dc:jJ s.heap e od)
  (k:∀ h',base.StaysIn h'->h'.FunFrames base l->h'.TracedW base e cls a0->(∀ b o,s.heap.get? b=some o->(∀ ws,o.data≠.fields ws)->h'.get? b=some o)->jJ h' e od->Q () {s with heap:=h'}) :
  wpAny M A (setFlight (.ref e) none) Q E s:=by
 obtain⟨ob,ws,T,oT,ts,e1,e2,e3,e4,e5,e6,e7,e8,e9⟩:=tr;have z3:3<ts.size:=(Array.getElem?_eq_some_iff.mp e9).1;have ot:∀ b,b≠T->(s.heap.update T (Obj.mapFields (·.setIfInBounds 3 ((none:Option Addr).elim Value.none fun f=>rawInt f)))).get? b=s.heap.get? b:=fun b hb=>Heap.get?_update_other _ _ (cm hb)
 have nrec:∀ b o,s.heap.get? b=some o->(∀ us,o.data≠.fields us)->b≠T:=fun b o q nf z=>by
  subst z;rw[e7] at q;cases q;exact nf ts e8
 unfold setFlight;refine wpAny_bind (wpAny_field e1 e3 e4 ?_);rw[if_pos (show (Value.ref T != Value.none)=true from by simp)];refine wpAny_setField e7 e8 z3 (k _ (fun b o q=>(ot b fun z=>by rw[z,e5] at q;cases q).trans (st b o q)) (ff.of_keeps fun b o q nf=>⟨o,(ot b (nrec b o q nf)).trans q,rfl⟩) ?_ (fun b o q nf=>(ot b (nrec b o q nf)).trans q) ?_)
 ·exact⟨ob,ws,T,_,_,(ot e (Ne.symm e6)).trans e1,e2,e3,e4,e5,e6,Heap.get?_update_self _ e7 (Obj.isFreed_of_fields (Obj.data_mapFields e8 _)),Obj.data_mapFields e8 _,by simp[z3]⟩
 ·obtain⟨o,q1,q2⟩:=dc;exact⟨o,(ot e (cm e6)).trans q1,q2⟩
theorem Ge {Q:Unit->Shared->Prop}(fr:A.frames=some (env::outer))(ff:s.heap.FunFrames base (env::outer))(ef:env.frame=some L)(at_:s.heap.get? e=some oe)(st:base.StaysIn s.heap)(nw:base.get? e=none)(da:oe.data = .fields vs)(v1:vs[1]? = some .none)
  (v0:vs[0]? = some a0) (k:∀ h',Heap.FlyingW base outer e oe.cls a0 h'->s.heap.UpToSlots h'->jJ h' e oe.dict->Q () {s with heap:=h'}):wpAny M A (leaving env (.ref e)) Q E s:=by
 unfold leaving noteFrame;simp only[ef];refine wpAny_bind (wpAny_bind (wpAny_field at_ da v1 ?_));rw[if_neg (by decide)];refine AX fr ff ef at_ st nw da (Array.getElem?_eq_some_iff.mp v1).1 v0 fun g ⟨n1,n2,n3,n4⟩ dc=>?_
 refine sf (s:={s with heap:=g}) n1 n2 n3 dc fun h' k1 k2 k3 k4 k5=>k h' ⟨k1,nw,?_,k3⟩ (fun b o q nf=>?_) k5
 ·obtain⟨_,_,z⟩:=k2;exact z
 ·obtain⟨sl,q1⟩:=n4 b o q nf;exact⟨sl,k4 b _ q1 nf⟩
theorem IS {Q:Unit->Shared->Prop}(fr:A.frames=some (env::outer))(ef:env.frame=some L)(f:Heap.FlyingW base (env::outer) e cls a0 s.heap)(dc:jJ s.heap e od)
  (k:∀ h',Heap.HeldW base (env::outer) e cls a0 L h'->s.heap.UpToSlots h'->jJ h' e od->Q () {s with heap:=h'}):wpAny M A (noteFrame (.ref e) env) Q E s:=by
 obtain⟨f1,f2,f3,ob,ws,T,oT,ts,e1,⟨rfl,e2⟩,e3,e4,e5,e6,e7,e8,e9⟩:=f;have hdic:ob.dict=od:=by
  obtain⟨o,q1,q2⟩:=dc;rw[e1] at q1;cases q1;exact q2
 unfold noteFrame;simp only[ef];refine wpAny_bind (wpAny_field e1 e3 e4 ?_);rw[if_pos (show (Value.ref T != Value.none)=true from by simp)];refine wpAny_bind (wpAny_field e7 e8 e9 ?_);rw[if_neg (show ¬ ((Value.none==rawInt L)=true) from by simp[rawInt])];refine wpAny_bind (wpAny_setField e7 e8 (Array.getElem?_eq_some_iff.mp e9).1 ?_);have ot:∀ b,b≠T->(s.heap.update T (Obj.mapFields (·.setIfInBounds 3 Value.none))).get? b=s.heap.get? b:=fun b hb=>Heap.get?_update_other _ _ (cm hb)
 have nrec:∀ b o,s.heap.get? b=some o->(∀ us,o.data≠.fields us)->b≠T:=fun b o q nf z=>by
  subst z;rw[e7] at q;cases q;exact nf ts e8
 refine AX fr (f3.of_keeps fun b o q nf=>⟨o,(ot b (nrec b o q nf)).trans q,rfl⟩) ef ((ot e (cm e6)).trans e1) (fun b o q=>(ot b fun z=>by rw[z,e5] at q;cases q).trans (f1 b o q)) f2 e3 (Array.getElem?_eq_some_iff.mp e4).1 e2 fun h' ⟨n1,n2,n3,n4⟩ d'=>?_
 exact k h' ⟨n1,f2,n2,n3⟩ (fun b o q nf=>n4 b o ((ot b (nrec b o q nf)).trans q) nf) (hdic ▸ d')
theorem FD {Q:Unit->Shared->Prop}(f:Heap.HeldW base l e cls a0 L s.heap)(dc:jJ s.heap e od)(k:∀ h',Heap.FlyingW base l e cls a0 h'->s.heap.UpToSlots h'->jJ h' e od->Q () {s with heap:=h'}):wpAny M A (setFlight (.ref e) none) Q E s:=by
 obtain⟨f1,f2,f3,f4⟩:=f;exact sf f1 f3 f4 dc fun h' k1 k2 k3 k4 k5=>k h' ⟨k1,f2,k2,k3⟩ (fun b o q nf=>⟨o.slots,k4 b o q nf⟩) k5
theorem Gm {Q:Unit->Shared->Prop}(f:Heap.FlyingW base l e cls a0 s.heap)(dc:jJ s.heap e od)(k:∀ h',Heap.FlyingW base l e cls a0 h'->s.heap.UpToSlots h'->jJ h' e od->Q () {s with heap:=h'}):wpAny M A (setFlight (.ref e) none) Q E s:=by
 obtain⟨f1,f2,f3,f4⟩:=f;exact sf f1 f3 f4.at dc fun h' k1 k2 k3 k4 k5=>k h' ⟨k1,f2,k2,k3⟩ (fun b o q nf=>⟨o.slots,k4 b o q nf⟩) k5
end
def BD (x:Str)(h:Heap)(e:Addr)(n:Int):Prop:=∃ dx m u,jJ h e (some dx)/\h.Ns dx m/\m x=some (.int n u)
noncomputable def xD (K:PySem.W.Frag)(ns:List Str):List Value->Bool
 |[]=>iX == []
 |v::r=>(v::r)==iX || match v with
  |.ref A=>(match K.lookup A with
   |some ⟨_,_,.cls cd,_⟩=>PySem.W.nsOkIn K cd.ns&&ns.all (fun n=>PySem.W.nsIn K cd.ns n==some none)&&xD K ns r
   |_=>false)
  |_=>false
theorem tw {K:PySem.W.Frag}{h:Heap}{ns:List Str}(kin:K.In h):∀{l:List Value},xD K ns l=true->jB h iX ns l
 | [],e=>by
  have e:(iX==([]:List Value))=true:=e;rw[<-gu.mp e];exact .base
 | v::r,e=>by
  unfold xD at e;rcases Bool.or_eq_true_iff.mp e with q | q
  ·rw[gu.mp q];exact .base
  ·split at q
   ·split at q
    ·rename_i ho;simp only[Bool.and_eq_true,List.all_eq_true,beq_iff_eq] at q;exact .own (kin _ _ ho) (.of_isNs (PySem.W.isNs_of_in kin q.1.1)) (fun n hn=>PySem.W.nsMap_none_of_in kin q.1.1 (q.1.2 n hn)) (tw kin q.2)
    ·cases q
   ·cases q
theorem uZ {K:PySem.W.Frag}{h:Heap}{N:Addr}{m:Str->Option Value}{n:Str}{v:Value}(kin:K.In h)(G:h.Ns N m)(e:PySem.W.nsIn K N n=some (some v)):m n=some v:=by
 obtain⟨o,es,ep,ho,hd,_,hf⟩:=G;unfold PySem.W.nsIn at e;split at e
 ·rename_i q;have:=kin _ _ q;rw[ho] at this;cases this;cases hd;split at e
  ·rename_i he;rw[<-hf];unfold nsFind findBy;rw[<-Array.find?_toList,he];simpa using e
  ·split at e<;>cases e
 ·cases e
noncomputable def xY (K:PySem.W.Frag)(C:Addr)(ns:List Str)(fI:Addr):Bool:=match K.lookup C with
 |some ⟨.type "type",_,.cls cd,sl⟩=>(match cd.mro,sl.toList with
  | .ref C'::bm,[_,_,_,_,some (.builtin n),_]=>C'==C&&n == "ValueError.__new__" && !cd.hasDel&&cd.hasDict&&PySem.W.tailIn K iX bm&&xD K ns bm&&PySem.W.nsOkIn K cd.ns&&ns.all (fun n=>PySem.W.nsIn K cd.ns n==some none)&&PySem.W.nsIn K cd.ns "__init__" == some (some (.ref fI))
  |_,_=>false)
 |_=>false
structure IniF (K:PySem.W.Frag)(h:Heap)(C:Addr)(ns:List Str)(fI:Addr)(bm:List Value):Prop where
 ex:∃ nm q N bs sn sub ab col dd k0 k1 k2 k3 k5 mN,h.get? C=some (excClassObj nm q C N bs bm true sn sub ab col dd k0 k1 k2 k3 k5 "ValueError.__new__")/\h.Ns N mN/\(∀ n∈ns,mN n=none)/\mN "__init__" = some (.ref fI)
 tail:OwnTail h iX bm
 tn:jB h iX ns bm
theorem lG {K:PySem.W.Frag}{h:Heap}{C fI:Addr}{ns:List Str}(kin:K.In h)(q:xY K C ns fI=true):∃ bm,IniF K h C ns fI bm:=by
 unfold xY at q;split at q
 ·rename_i dd cd sl ho;split at q
  ·rename_i C' bm k0 k1 k2 k3 n k5 hm hs;simp only[Bool.and_eq_true,beq_iff_eq,Bool.not_eq_true',List.all_eq_true] at q;obtain⟨⟨⟨⟨⟨⟨⟨⟨rfl,rfl⟩,hdel⟩,hdc⟩,ht⟩,hnt⟩,hok⟩,hnn⟩,hi⟩:=q;obtain⟨nm,bs,mro,ns',qn,hd,sn,sub,ab,col,del⟩:=cd;dsimp only at hm hdel hok hi hdc hnn;subst hm hdel hdc;have hsl:sl = #[k0,k1,k2,k3,some (.builtin "ValueError.__new__"),k5]:=by
    obtain⟨l⟩:=sl;simp only at hs;rw[hs]
   subst hsl;have G:h.Ns ns' _:=.of_isNs (PySem.W.isNs_of_in kin hok);exact⟨bm,⟨nm,qn,ns',bs,sn,sub,ab,col,dd,k0,k1,k2,k3,k5,_,kin _ _ ho,G,fun n hn=>PySem.W.nsMap_none_of_in kin hok (hnn n hn),uZ kin G hi⟩,PySem.W.tail_of_in kin ht,tw kin hnt⟩
  ·cases q
 ·cases q
theorem tQ {self:Value}{what:Str}{h:Heap}{bm:List Value}(T:OwnTail h iX bm):refuseLoop self what bm=refuseLoop self what iX:=by
 induction T with
 |base=>rfl
 |own _ _ _ _ ih=>rw[refuseLoop_ref];exact ih
section
variable {prog:Program}{w:World}{A:Around}{E:Value->Shared->Prop}{h:Heap}{g:Array GenState}{d:Drawn}{t:Nat}{os:OsState}{e:Addr}{oe:Obj}{vs:Array Value}{ns:List Str}
 {nm q:Str}{C N:Addr}{bs bm:List Value}{sn:List Str}{sub:List Value}{ab:Bool}{col:Option Bool}{dd:Option Addr}{k0 k1 k2 k3 k5:Option Value}{newId:String}{mN:Str->Option Value}{x:Str}{v:Value}
theorem zX {M:Model}{nameV:Value}{Q:Unit->Shared->Prop}(hC:h.get? C=some (excClassObj nm q C N bs bm true sn sub ab col dd k0 k1 k2 k3 k5 newId))(T:OwnTail h iX bm)(he:h.get? e=some oe)(hc:oe.cls = .ref C)(hq:Q () ⟨h,g,d,t,os⟩) :
  wpAny M A (checkBuiltinCall "object.__setattr__" ⟨[.ref e,nameV,v],[]⟩) Q E ⟨h,g,d,t,os⟩:=by
 have SF:=F.store_ValueError;have hcB:(Value.ref C::bm).contains (.type "object")=true:=by rw[ey,T.hasType (show iX.contains (.type "object")=true by decide),Bool.or_true]
 have ha:=SF.args (.ref e) nameV v;simp only[checkBuiltinCall,SF.kind,SF.split];refine wpAny_bind ?_;unfold isInstance
 repeat (first | (with_reducible refine wpAny_loadPart_at he ?_;rw[hc]) | (with_reducible refine wpAny_isSubtype_exc hC ?_;rw[hcB]) | wp_step)
 exact hq
theorem set_own {Q:Unit->Shared->Prop}(hC:h.get? C=some (excClassObj nm q C N bs bm true sn sub ab col dd k0 k1 k2 k3 k5 newId))(hN:h.Ns N mN)(hmN:∀ n∈ns,mN n=none)(T:OwnTail h iX bm)(TN:jB h iX ns bm)(n1:("__setattr__" : Str)∈ns) (n2:x∈ns)
  (hB:typeLookup (.type "ValueError") x=pure none) (he:h.get? e=some oe) (hc:oe.cls = .ref C) (hdn:oe.dict=none) (hd:oe.data = .fields vs)
  (hq:∀ h' tk dx,h'.get? e=some {oe with dict:=some dx}->h.get? dx=none->h'.Ns dx (fun y=>if y=x then some v else none)->(∀ b o,b≠e->h.get? b=some o->h'.get? b=some o)->Q () ⟨h',g,d,tk,os⟩) :
  wpAny (model prog w) A (setAttr (.ref e) x v) Q E ⟨h,g,d,t,os⟩:=by
 have SF:=F.store_ValueError;have f3:=SF.slot.bind (.ref e);unfold setAttr callSpecial? specialOf
 repeat (any_goals (first | assumption | (with_reducible refine wpAny_loadPart_at he ?_;rw[hc]) | with_reducible refine fN n1 hC hN hmN TN SF.mro SF.slot.lookup ?_ | wp_step))
 refine codeAny_call_builtin SF.slot.plain SF.entry (zX hC T he hc ?_);have hpass:=SF.passes (.ref e);unfold Builtin.«object.__setattr__»
 repeat (first | rw[refuse_eq] | (rw[refuseLoop_ref,tQ T,hpass]) | (with_reducible refine wpAny_loadPart_at he ?_;rw[hc]) | with_reducible refine wpAny_mroOf_exc hC ?_ | with_reducible refine fN n2 hC hN hmN TN SF.mro hB ?_ | wp_step)
 rw[hdn,if_neg (by simp[typeHasDict])];split
 ·rename_i z;cases z
 split
 ·rename_i z;rw[hd] at z;cases z
 have he1:(h.push {cls:=.type "dict",data:=.dict #[]}).get? e=some oe:=Heap.get?_push_of_some _ he;have ne:e≠h.objs.size:=bu (Heap.lt_size he);refine wpAny_bind (wpAny_alloc' (wpAny_bind (wpAny_update' he1 (wpAny_pure ?_))));have gd:((h.push {cls:=.type "dict",data:=.dict #[]}).update e fun o=>{cls:=o.cls,dict:=some h.objs.size,data:=o.data,slots:=o.slots}).get? h.objs.size=some {cls:=.type "dict",data:=.dict #[]} :=
  (Heap.get?_update_ne _ _ _ _ ne.symm).trans (Heap.get?_push_at rfl rfl)
 have nd:((h.push {cls:=.type "dict",data:=.dict #[]}).update e fun o=>{cls:=o.cls,dict:=some h.objs.size,data:=o.data,slots:=o.slots}).Ns h.objs.size (fun _=>none) :=
  ⟨_,#[],_,gd,rfl,fun _ z=>absurd z (by simp),fun _=>rfl⟩
 show wpAny _ _ (Builtin.ObjectAttr.storeInDict h.objs.size (.str x _) x v) _ _ _;unfold Builtin.ObjectAttr.storeInDict Builtin.ObjectAttr.newKeyGuard;refine wpAny_bind (wpAny_pure (wpAny_bind (wpAny_nsSet1 (Heap.Ns1.of_empty nd) fun h' hn' hs=>?_)));obtain⟨oD,esD,epD,hoD,hdD,hcD⟩:=hn'.count (Within.cons x v Within.nil);refine wpAny_bind (wpAny_lookBehind hoD (by rw[hdD];exact pastItsLine_dict (br hcD (by rw[cw,List.length_nil,sizeLine_eq];omega))) ?_)
 repeat (any_goals (first | assumption | wp_step))
 refine hq h' _ h.objs.size ?_ (Heap.get?_none_of_le (au _)) hn'.ns fun b o hb q=>?_
 ·refine (hs.2 e ne).trans (Heap.get?_update_self _ he1 ?_);have fr:=(Heap.get?_some_iff.mp he).2;obtain⟨oc,od,odt,osl⟩:=oe;cases odt<;>first | rfl | exact fr
 ·exact (hs.2 b (bu (Heap.lt_size q))).trans ((Heap.get?_update_ne _ _ _ _ hb).trans (Heap.get?_push_of_some _ q))
end
abbrev rA (C:Addr)(t0:Addr):Obj:={cls:=.ref C,data:=.fields #[.ref t0,.none,.none,.none,.bool false,.none]}
section
variable {prog:Program}{w:World}{A:Around}{E:Value->Shared->Prop}{h:Heap}{g:Array GenState}{d:Drawn}{t:Nat}{os:OsState}{e t0:Addr}{us:List Value}
 {nm q:Str}{C N fI:Addr}{bs bm:List Value}{hdct:Bool}{sn:List Str}{sub:List Value}{ab:Bool}{col:Option Bool}{dd:Option Addr}{k0 k1 k2 k3 k5:Option Value}{mN:Str->Option Value}
theorem xK {Q:Value->Shared->Prop}(hC:h.get? C=some (excClassObj nm q C N bs bm hdct sn sub ab col dd k0 k1 k2 k3 k5 "ValueError.__new__")) (T:OwnTail h iX bm) (he:h.get? e=some (rA C t0)) (hl:us.length<=sizeLine)
  (hq:∀ h' t1,h'.get? e=some (rA C t1)->h.get? t1=none->(∀ b o,b≠e->h.get? b=some o->h'.get? b=some o)->Q .none ⟨h',g,d,t,os⟩) :
  wpAny (model prog w) A (call (.builtin "ValueError.__init__") (.ref e::us)) Q E ⟨h,g,d,t,os⟩:=by
 have FB:=PySem.F.excBase_ValueError;refine wpAny_call (codeAny_call_builtin FB.init.plain FB.initEntry (wpAny_check_init_subT FB T hC he rfl ?_))
 wp_walk
 have ne:e≠h.objs.size:=bu (Heap.lt_size he);refine hq _ h.objs.size ?_ (Heap.get?_none_of_le (au _)) fun b o hb z=>?_
 ·rw[Heap.get?_update_self _ (Heap.get?_push_of_some _ he) rfl];rfl
 ·rw[Heap.get?_update_other _ _ (cm hb)];exact Heap.get?_push_of_some _ z
theorem xP {Q:Value->Shared->Prop}(hC:h.get? C=some (excClassObj nm q C N bs bm hdct sn sub ab col dd k0 k1 k2 k3 k5 "ValueError.__new__")) (hN:h.Ns N mN) (T:OwnTail h iX bm) (hi:mN "__init__" = some (.ref fI)) {oI:Obj}(hf:h.get? fI=some oI) (hfc:oI.cls = .type "function") (hl:us.length<=sizeLine)
  (hq:∀ h' e t0,h'.get? e=some (rA C t0)->h.get? e=none->(∀ b o,h.get? b=some o->h'.get? b=some o) ->
   wpAny (model prog w) (A.under (.builtin "type.__call__" ⟨.ref C::us,[]⟩)) (call (.ref fI) (.ref e::us)) (fun r s'=>r = .none/\Q (.ref e) s') E ⟨h',g,d,t,os⟩) :
  wpAny (model prog w) A (call (.ref C) us) Q E ⟨h,g,d,t,os⟩:=by
 have FB:=PySem.F.excBase_ValueError;have f1:=tc_lookup;have f2:=tc_bind (.ref C);have hT:(⟨h,g,d,t,os⟩:Shared).TypeIs (.ref C) "type":=⟨_,hC,rfl⟩;refine wpAny_call (codeAny_of_tree ?_);show wpAny _ _ (callAny (.ref C) _) _ _ _
 repeat (any_goals (first | assumption | with_reducible refine wpAny_loadPart_at hC ?_ | wp_step))
 refine⟨rfl,codeAny_call_builtin_at (Code.quiet_builtin _ (by decide +kernel)) entry_typeCall (wpAny_check_type_call_sub hC ?_)⟩
 repeat (first | with_reducible refine wpAny_loadPart_at hC ?_ | with_reducible refine wpAny_madeBy_exc hC ?_ | wp_step)
 refine codeAny_call_builtin_code (Code.quiet_builtin _ FB.quiet) (wpAny_check_new_subT FB T hC (codeAny_exc_new_subT FB T hC ?_ hl));show wpAny _ _ _ _ _ ⟨(h.push {cls:=.type "tuple",data:=.seq us.toArray}).push (rA C h.objs.size),g,d,t,os⟩;generalize htu:({cls:=.type "tuple",data:=.seq us.toArray}:Obj)=ot;have kp:∀ b o,h.get? b=some o->((h.push ot).push (rA C h.objs.size)).get? b=some o:=fun b o z=>Heap.get?_push_of_some _ (Heap.get?_push_of_some _ z)
 have hC1:=kp _ _ hC;have hf1:=kp _ _ hf;have hN1:=hN.keeps kp;have hg:((h.push ot).push (rA C h.objs.size)).get? (h.objs.size+1)=some (rA C h.objs.size):=by
  subst htu
  heap_get
 have hcC:(Value.ref C::bm).contains (.ref C)=true:=by simp
 unfold isInstance
 repeat (first | with_reducible refine wpAny_loadPart_at hg ?_ | (with_reducible refine wpAny_isSubtype_exc hC1 ?_;rw[hcC]) | wp_step)
 show wpAny _ _ (typeLookup (.ref C) _) _ _ _;refine wpAny_typeLookup_tail hC1 hN1 (T.keeps kp) FB.mroIs FB.init.lookup ?_;rw[hi];refine wpAny_holding (wpAny_bind ?_);unfold bindSpecial;refine wpAny_bind (wpAny_typeOf (T:="function") ⟨_,hf1,hfc⟩ ?_);rw[if_pos (by decide)];refine wpAny_pure (wpAny_bind (wpAny_mono (hq _ _ _ hg (Heap.get?_none_of_le (Nat.le_succ _)) kp) (fun r s' z=>?_) fun _ _ z=>z));obtain⟨rfl,z⟩:=z
 wp_walk
 exact z
end
abbrev ins (x:Str):List Str:=["__getattribute__","__getattr__","__class__","__setattr__",x]
abbrev C7 (C t0 dx:Addr):Obj:={cls:=.ref C,dict:=some dx,data:=.fields #[.ref t0,.none,.none,.none,.bool false,.none]}
structure DI (st:Stmt)(S x:Str):Prop where
 ex:∃(c1 c2:Str) (p1 p2 p3 p4 p5 p6 p7 p8 p9 p10 p11 p12 p13 p14:Pos),bM st=[.Expr (.Call (.Attribute (.Name S p1) "__init__" p2) [.Name "self" p3,.JoinedStr [.Constant (.str c1) 0 p4,.FormattedValue (.Name x p5) (-1) none p6,.Constant (.str c2) 0 p7] p8] [] p9) p10,
   .Assign [.Attribute (.Name "self" p11) x p12] (.Name x p13) p14] /\
  (p2.endLine==p9.line)=true/\c1.length<=1000/\c2.length<=1000
 sc:cL ["self",x] ["self",x] (aE st)
 gl:(aE st).names.lookup S=some .globalImplicit
 l1:(aE st).names.lookup ("self" : Str)=some .local
 l2:(aE st).names.lookup x=some .local
 ne:x≠"self"
 db:(S==("__debug__" : Str))=false/\(x==("__debug__" : Str))=false
structure Bq (K:PySem.W.Frag)(mg:Str->Option Value)(S x qual:Str)(C cS fI:Addr)(fd:FuncData)(st:Stmt):Prop where
 hS:mg S=some (.ref cS)
 cls:xY K C (ins x) fI=true
 keep:PySem.W.keepIn K (.ref C)=true
 ga:PySem.W.specialIn K (.ref cS) "__getattribute__" = some (some (.builtin "type.__getattribute__"))
 rd:PySem.W.readsIn K cS (.type "type")=true
 fc:PySem.W.findCls K (.ref cS) (.type "type") "__init__" = some (.val (.builtin "ValueError.__init__"))
 F:L2.sR K "__init__" qual st fI fd
 ft:(K.lookup fI).any (fun o=>o.cls == .type "function")=true
 bd:Binds K fd ["self",x] []
 s:DI st S x
 nx:typeLookup (.type "ValueError") x=pure none
theorem log2_small {n:Int}(h:n.natAbs<2 ^ 64):n.natAbs.log2<1920:=by
 by_cases z:n.natAbs=0
 ·rw[z];decide
 ·have:=(Nat.log2_lt z).mpr h;omega
section
variable {P:Program}{w:World}{K:PySem.W.Frag}{mg:Str->Option Value}{base:Heap}{A:Around}{E:Value->Shared->Prop}{s:Shared}{e t0 C cS fI:Addr}{fd:FuncData}{st:Stmt}{S x qual:Str}{n:Int}{u:Tok}
theorem Bw {Q:Value->Shared->Prop}(mod:Mod K mg base)(ks:∀ b o,base.get? b=some o->s.heap.get? b=some o)(k:Bq K mg S x qual C cS fI fd st)(hn:n.natAbs<2 ^ 64)(hd:A.depth<recursionLimit)(he:s.heap.get? e=some (rA C t0))(hb:base.get? e=none)
  (hq:∀ s' t1 dx,s'.os=s.os->s'.gens=s.gens->s'.drawn=s.drawn->s'.heap.get? e=some (C7 C t1 dx)->(∃ m,s'.heap.Ns dx m/\m x=some (.int n u))->s.heap.get? dx=none->(∀ b o,b≠e->s.heap.get? b=some o->s'.heap.get? b=some o)->Q .none s') :
  wpAny (model P w) A (call (.ref fI) [.ref e,.int n u]) Q E s:=by
 obtain⟨oc,od,kV,doc,pm,an,cdv,ct,osl,rfl,lk,hcd⟩:=k.F.ex;obtain⟨c1,c2,p1,p2,p3,p4,p5,p6,p7,p8,p9,p10,p11,p12,p13,p14,hbody,hline,hc1,hc2⟩:=k.s.ex;have KX:K.In s.heap:=mod.kin.keeps ks;have lim:s.heap.NoLimit:=mod.nolimit.keeps ks;have sc:=k.s.sc;have hkind:∀ y∈[("self" : Str),x].zip [Value.ref e,.int n u],(aE st).names.lookup y.1=some .local\/((aE st).names.lookup y.1=some .cell/\((cellsFrom (s.heap.objs.size+1) (aE st).names []).lookup y.1).isSome=true):=fun y hy=>by
  rcases dw.mp hy with rfl | hy
  ·exact .inl k.s.l1
  ·rcases dw.mp hy with rfl | hy
   ·exact .inl k.s.l2
   ·cases hy
 refine wpAny_call (codeAny_call_function hd (KX _ _ lk) rfl sc.co sc.gen rfl (i5 KX hcd) (k.bd s [.ref e,.int n u] KX rfl _ _ _ _ ?_));refine wpAny_newFunctionEnv_cells sc.kind hkind fun env henv s1 x1=>?_
 subst henv;refine⟨lim.keeps x1.toInCall.keep,codeAny_func ?_⟩;show wpAny _ (A.deeper (envOfC qual (aE st) s.heap.objs.size fI cdv)) (execs (bM st) (envOfC qual (aE st) s.heap.objs.size fI cdv)) _ _ _;rw[hbody];have hk0:(envOfC qual (aE st) s.heap.objs.size fI cdv).scope.kind = .function:=sc.kind;have hns:s1.heap.Ns s.heap.objs.size (bindL (envOfC qual (aE st) s.heap.objs.size fI cdv).kindOf ([("self" : Str),x].zip [Value.ref e,.int n u]) fun _=>none):=x1.toInCall.ns;obtain⟨h1,tk,rfl,kp1⟩:=x1.done;have nd:[("self" : Str),x].Nodup:=sc.nd;have m1:=kj (m:=fun _=>none) (kindOf:=(envOfC qual (aE st) s.heap.objs.size fI cdv).kindOf) (vs:=[Value.ref e,.int n u]) (i:=0) nd rfl rfl k.s.l1;have m2:=kj (m:=fun _=>none) (kindOf:=(envOfC qual (aE st) s.heap.objs.size fI cdv).kindOf) (vs:=[Value.ref e,.int n u]) (i:=1) nd rfl rfl k.s.l2;generalize hm:bindL (envOfC qual (aE st) s.heap.objs.size fI cdv).kindOf ([("self" : Str),x].zip [Value.ref e,.int n u]) (fun _=>none)=m at m1 m2 hns;have hns:h1.Ns s.heap.objs.size m:=hns;have ld1:∀{A':Around}{E':Value->Shared->Prop}{s':Shared}{p:Pos}{Q':Value->Shared->Prop},s'.heap.Ns s.heap.objs.size m->Q' (.ref e) s'->wpAny (model P w) A' (eval (.Name "self" p) (envOfC qual (aE st) s.heap.objs.size fI cdv)) Q' E' s' :=
  fun hn' hq'=>wpAny_Name (wpAny_loadName_local hk0 k.s.l1 hn' m1 hq') (by decide)
 have ld2:∀{A':Around}{E':Value->Shared->Prop}{s':Shared}{p:Pos}{Q':Value->Shared->Prop},s'.heap.Ns s.heap.objs.size m->Q' (.int n u) s'->wpAny (model P w) A' (eval (.Name x p) (envOfC qual (aE st) s.heap.objs.size fI cdv)) Q' E' s' :=
  fun hn' hq'=>wpAny_Name (wpAny_loadName_local hk0 k.s.l2 hn' m2 hq') k.s.db.2
 have hlog:=log2_small hn;have kb:∀ b o,base.get? b=some o->h1.get? b=some o:=fun b o z=>kp1 b o (ks b o z)
 have K1:K.In h1:=mod.kin.keeps kb;have eL:e≠s.heap.objs.size:=bu (Heap.lt_size he);have he1:=kp1 _ _ he;obtain⟨bm,FI⟩:=lG K1 k.cls;obtain⟨nm,q,N,bs,sn,sub,ab,col,dd,k0,k1,k2,k3,k5,mN,hC,hN,hmN,hi⟩:=FI.ex;have neC:C≠e:=fun z=>by rw[z,he1] at hC;cases hC
 refine wpAny_execs_cons (wpAny_Expr_any ?_ (by simp[interactive,hk0]) rfl);rw[arm_eval_Call];refine wpAny_bind (Calls.Name_function_global hk0 k.s.gl (Calls.loadGlobal_global (mg:=mg) (show Heap.Ns _ mainGlobals mg from mod.glob.keeps kb) k.hS ?_) k.s.db.1);refine wpAny_bind (wpAny_standAt ?_);have hpos:methodCallPos true (.Name S p1) (envOfC qual (aE st) s.heap.objs.size fI cdv) p2 p9=pure p9:=by unfold methodCallPos;simp[hline]
 unfold methodCall;rw[show methodCallForm _ _ _=true from rfl];refine wpAny_bind (wpAny_holding (PySem.W.method_cls (name:="__init__") K1 k.ga (PySem.W.cls_value (name:="__init__") K1 k.rd k.fc rfl ?_)));refine wpAny_bind (wpAny_of_eq hpos ?_);refine PySem.W.callWith_of (P:=fun _=>True) rfl (fun h _=>⟨.machine,.inr (.inl rfl),.now⟩) ?_;refine Calls.evalArgs_plain (Calls.spliced_cons (ld1 hns (Calls.spliced_cons ?_)));have l1:(Str.ofString (toString n)).length<=2000:=by
  rw[PySem.ofString_length];have:=int_text_length_le (k:=1920) (by decide) hlog;omega
 show wpAny _ _ (eval (.JoinedStr [.Constant (.str c1) 0 p4,.FormattedValue (.Name x p5) (-1) none p6,.Constant (.str c2) 0 p7] p8) (envOfC qual (aE st) s.heap.objs.size fI cdv)) _ _ _;refine wpAny_JoinedStr (Calls.Constant_str ⟨c1,_,rfl,?_,wpAny_FormattedValue_plain (ld2 hns (wpAny_formatField_int hlog ⟨_,_,rfl,?_,Calls.Constant_str ⟨c2,_,rfl,?_,?_,Calls.spliced_nil ⟨trivial,?_⟩⟩⟩))⟩)
 any_goals (simp only[strLen_append,sizeLine_eq];have:(Str.empty).length=0:=rfl;omega)
 refine xK hC FI.tail he1 (by rw[sizeLine_eq];exact (by decide:1<=16777216)) fun h2 t1 he2 hn2 kp2=>?_
 have ns2:h2.Ns s.heap.objs.size m:=by
  obtain⟨o,es,ep,z,r⟩:=hns;exact⟨o,es,ep,kp2 _ _ (cm eL) z,r⟩
 have kb2:∀ b o,base.get? b=some o->h2.get? b=some o:=fun b o z=>kp2 b o (fun y=>by rw[y,hb] at z;cases z) (kb b o z)
 obtain⟨bm',FI2⟩:=lG (mod.kin.keeps kb2) k.cls;obtain⟨nm',q',N',bs',sn',sub',ab',col',dd',j0,j1,j2,j3,j5,mN',hC2,hN2,hmN2,hi2⟩:=FI2.ex;refine wpAny_execs_cons (plainObj_wpAny_Assign_Attribute (ld2 ns2 (ld1 ns2 ?_)) rfl);refine set_own (oe:=rA C t1) hC2 hN2 hmN2 FI2.tail FI2.tn (by simp) (by simp) k.nx he2 rfl rfl rfl fun h3 tk3 dx he3 hdx hn3 kp3=>?_
 refine wpAny_execs_nil (hq _ t1 dx rfl rfl rfl he3 ⟨_,hn3,by simp⟩ ?_ fun b o hbe z=>kp3 b o hbe (kp2 b o hbe (kp1 b o z)));cases z:s.heap.get? dx with
 |none=>rfl
 |some o =>
  by_cases y:dx=e
  ·rw[y,he2] at hdx;cases hdx
  ·rw[kp2 dx o y (kp1 dx o z)] at hdx;cases hdx
end
def HK (x:Str)(B:Heap)(fr:List Addr)(h:Heap)(a:Addr)(n:Nat):Prop:=∃ dx m u,jJ h a (some dx)/\h.Ns dx m/\m x=some (.int n u)/\B.get? dx=none/\dx∉fr
def EJ (x:Str)(P:Program)(w:World):sP:=fun outer H s E e s'=>∃ a C a0 H' B n,e = .ref a/\s'.os=s.os/\AllBare s'.gens/\Un (gT outer) [] H H' s.heap s'.heap/\lh P w H' s'.heap /\
 Heap.FlyingW B outer a C a0 s'.heap/\Bf B (gT outer) H' s.heap s'.heap/\HK x B (gT outer) s'.heap a n/\E C (some n) H'
section
variable {M:Model}{A:Around}{E:Value->Shared->Prop}{s:Shared}{env:Env}{nm q:Str}{C N:Addr}{bs bm:List Value}{hdct:Bool}{sn:List Str}{sub:List Value}{ab:Bool}{col:Option Bool}{dd:Option Addr}{k0 k1 k2 k3 k5:Option Value}{newId:String}
theorem xN {y:Sem Value}{Q:Flow->Shared->Prop}(hbase:bm.contains (.type "BaseException")=true) (hh:A.handled=none)
  (h:wpAny M A y (fun v s₁=>∃ e t dx,v = .ref e/\s₁.heap.get? C=some (excClassObj nm q C N bs bm hdct sn sub ab col dd k0 k1 k2 k3 k5 newId)/\s₁.heap.get? e=some (C7 C t dx)/\E (.ref e) s₁) E s) :
  wpAny M A (raiseStmt env (some y) none) Q E s:=by
 have hcB:(Value.ref C::bm).contains (.type "BaseException")=true:=by rw[ey,hbase,Bool.or_true]
 unfold raiseStmt;refine wpAny_bind (wpAny_mono h (fun v s₁ h₁=>?_) fun _ _ z=>z);obtain⟨e,t,dx,rfl,hC,he,hE⟩:=h₁;obtain⟨hp,g,d,tk,os⟩:=s₁
 repeat (first | with_reducible refine wpAny_loadPart_at he ?_ | with_reducible refine wpAny_loadPart_at hC ?_ | (with_reducible refine wpAny_isSubtype_exc hC ?_;rw[hcB]) | wp_step)
 exact wpAny_raiseNew_none hh hE
end
section
variable {X:Cx}
theorem yF {y S x qual:Str}{C cS fI:Addr}{fd:FuncData}{st:Stmt}{np cpos pos:Pos}{e:Expr}{t:TA}{W:Nat->Hp->Prop}(hc:X.calm=true)(hdp:X.A.depth+1<recursionLimit)(hg:Gl X y)(hm:X.mg y=some (.ref C))(k:Bq X.K X.mg S x qual C cS fI fd st)(ha:PA X [e] t)
  (hw:∀(pins:List (Addr×Obj)) (σ:L2.St) (H:Hp) (s:Shared) (h':Heap) (tk:Nat) (a t1 dx:Addr) (n:Nat) (u:Tok),W n H->Inv X pins σ H s->s.heap.get? a=none->h'.get? a=some (C7 C t1 dx)->(∃ m,h'.Ns dx m/\m x=some (.int n u))->s.heap.get? dx=none ->
   (∀ b o,s.heap.get? b=some o->h'.get? b=some o)->X.xe (.ref a) {s with heap:=h',toks:=tk})
  (he:starEach [e] X.env=[(false,eval e X.env)]:=by rfl) (hd:(y==("__debug__" : Str))=false:=by decide) :
  PS X (.Raise (some (.Call (.Name y np) [e] [] cpos)) none pos) (fun D σ H=>t σ H fun vs H'=>∃ n:Nat,vs=[.int n]/\n<2 ^ 64/\W n H'):=by
 intro pins s σ H D I h;obtain⟨bm,FI⟩:=lG I.ok.mod.kin k.cls;obtain⟨nm,q,N,bs,sn,sub,ab,col,dd,k0,k1,k2,k3,k5,mN,hC,hN,hmN,hi⟩:=FI.ex;rw[arm_exec_Raise];simp only[evalOpt,Option.map];refine wpAny_bind (wpAny_standAt (xN (C:=C) (nm:=nm) (q:=q) (N:=N) (bs:=bs) (bm:=bm) (hdct:=true) (sn:=sn) (sub:=sub) (ab:=ab) (col:=col) (dd:=dd) (k0:=k0) (k1:=k1) (k2:=k2) (k3:=k3) (k5:=k5) (newId:="ValueError.__new__")
  (FI.tail.hasType (show iX.contains (.type "BaseException")=true by decide)) (I.ok.hd hc) ?_))
 refine wpAny_bind (wpAny_mono (wpAny_Call_ofName (hU I hg hm ?_ hd)) (fun v s₃ h₃=>wpAny_bind (wpAny_standAt (wpAny_pure h₃))) fun _ _ z=>z);refine i7 (h₀:=X.base) I.ok.mod.kin k.keep (wpAny_mono (ha cpos pins s σ H _ I h) (fun us s1 ⟨vs,H1,I1,r,n,hv,hn,hW⟩=>⟨I1.kIn,?_⟩) fun _ _ z=>z) he rfl;subst hv;obtain⟨u,rfl⟩:∃ u,us=[.int n u]:=by
  cases r with
  |cons r1 r2 =>
   cases r2;obtain⟨u,rfl⟩:=(show ∃ u,_=Value.int n u from r1);exact⟨u,rfl⟩
 obtain⟨oc,od,kV,doc,pm,an,cdv,ct,osl,rfl,lk,hcd⟩:=k.F.ex;have ft:=k.ft;rw[show List.lookup fI X.K=_ from lk] at ft;have hC1:=I1.bk _ _ hC;obtain⟨h1,g1,d1,tk1,os1⟩:=s1;refine xP hC1 (hN.keeps I1.bk) (FI.tail.keeps I1.bk) hi (I1.kIn _ _ lk) (by simpa using ft) (by rw[sizeLine_eq];exact (by decide:1<=16777216)) fun h2 a t0 ha0 hna kp=>?_
 have kb:∀ b o,X.base.get? b=some o->h2.get? b=some o:=fun b o z=>kp b o (I1.bk b o z)
 refine Bw (n:=n) I.ok.mod kb k (by simpa using hn) (by rw[depth_under_make];exact hdp) ha0 (by
  cases z:X.base.get? a with
  |none=>rfl
  |some o=>have:=I1.bk _ _ z;rw[hna] at this;cases this) fun s3 t1 dx e1 e2 e3 e4 e5 e6 e7=>⟨rfl,a,t1,dx,rfl,?_,e4,?_⟩
 ·exact e7 _ _ (fun z=>by rw[z,hna] at hC1;cases hC1) (kp _ _ hC1)
 ·obtain⟨h3,g3,d3,tk3,os3⟩:=s3;cases e1;cases e2;cases e3;refine hw pins σ H1 ⟨h1,g1,d1,tk1,os1⟩ h3 tk3 a t1 dx n u hW I1 hna e4 e5 ?_ fun b o z=>e7 b o (fun y=>by rw[y,hna] at z;cases z) (kp b o z)
  cases z:h1.get? dx with
  |none=>rfl
  |some o =>
   have:=kp _ _ z;have e6:h2.get? dx=none:=e6;rw[e6] at this;cases this
theorem xG {P:Program}{w:World}{K:PySem.W.Frag}{mg:Str->Option Value}{base:Heap}{N:List Str}{qual:Str}{scope:Scope}{f:Addr}{cd:Value}{A:Around}{outer:List Env}{s:Shared}{H:Hp}{E:XK}{CX:sP}
  {pins:List (Addr×Obj)}{σ:L2.St}{H1:Hp}{s1:Shared}{h2 h':Heap}{a:Addr}{C a0:Value}(I:Inv (eW CX P w K mg base N qual scope f cd A outer s H E) pins σ H1 s1) (kp:∀ b o,s1.heap.get? b=some o->h2.get? b=some o)
  (fl:Heap.FlyingW (PySem.W.hideAll s1.heap (gT (envOfC qual scope s.heap.objs.size f cd::outer))) outer a C a0 h') (uts:h2.UpToSlots h') :
  Un (gT outer) [] H H1 s.heap h'/\lh P w H1 h'/\Bf (PySem.W.hideAll s1.heap (gT (envOfC qual scope s.heap.objs.size f cd::outer))) (gT outer) H1 s.heap h':=by
 have hst:=I.stack;have L0:∀ b o,s.heap.get? b=some o->b≠s.heap.objs.size:=fun b o e=>bu (Heap.lt_size e)
 have fr:gT (envOfC qual scope s.heap.objs.size f cd::outer)=s.heap.objs.size::gT outer:=rfl;have stay:∀ b o,s1.heap.get? b=some o->b≠s.heap.objs.size->b∉gT outer->h'.get? b=some o:=fun b o e h1 h2=>fl.1 b o (PySem.W.hideAll_get _ e (by
  rw[fr];intro z;rcases dw.mp z with z | z
  ·exact h1 z
  ·exact h2 z))
 have fslot:∀ b o,s1.heap.get? b=some o->b∈gT outer->∃ sl,h'.get? b=some {o with slots:=sl}:=fun b o e hb=>by
  obtain⟨_,o',e',hd⟩:=hst.mem (b:=b) (show b∈s.heap.objs.size::gT outer from aa _ hb);rw[e] at e';cases e';exact uts b o (kp b o e) hd
 have bs:=I.base;have nofr:∀ b,H1 b≠none->b≠s.heap.objs.size/\b∉gT outer:=fun b hb=>by
  have:=I.stkFree;refine⟨fun z=>hb (this b (show b∈s.heap.objs.size::gT outer by rw[z];exact ae)),fun z=>hb (this b (show b∈s.heap.objs.size::gT outer from aa _ z))⟩
 refine⟨⟨fun b o e n hf _=>?_,fun b o e n hf _=>?_,fun b o e n _=>bs.free b o e n (by simp[eW]),fun b o e _=>?_,bs.tups,bs.frzs,bs.tbls⟩,sW I.hok fun b o hb e=>stay b o e (nofr b hb).1 (nofr b hb).2,fun b o e=>?_⟩
 ·exact stay b o (bs.keep b o e n hf (by simp[eW])) (L0 b o e) hf
 ·obtain⟨sl,e1⟩:=bs.slot b o e n hf (by simp[eW]);obtain⟨sl',e2⟩:=fslot b _ e1 hf;exact⟨sl',e2⟩
 ·obtain⟨o1,e1⟩:=bs.there b o e (by simp[eW]);by_cases hf:b∈gT outer
  ·obtain⟨sl',e2⟩:=fslot b _ e1 hf;exact⟨_,e2⟩
  ·exact⟨o1,stay b o1 e1 (L0 b o e) hf⟩
 ·by_cases hf:b∈gT outer
  ·exact .inl hf
  ·cases e1:s1.heap.get? b with
   |none =>
    refine .inr (.inr ⟨?_,?_⟩)
    ·cases e0:s.heap.get? b with
     |none=>rfl
     |some o0 =>
      obtain⟨o1,e2⟩:=bs.there b o0 e0 (by simp[eW]);rw[e1] at e2;cases e2
    ·cases e0:H1 b with
     |none=>rfl
     |some u =>
      obtain⟨ob,e2⟩:=eJ.live' (I.hok b u e0);rw[e1] at e2;cases e2
   |some o1 =>
    by_cases hL:b=s.heap.objs.size
    ·refine .inr (.inr ⟨?_,?_⟩)
     ·rw[hL];cases e0:s.heap.get? s.heap.objs.size with
      |none=>rfl
      |some o0=>exact absurd rfl (L0 _ _ e0)
     ·cases e0:H1 b with
      |none=>rfl
      |some u=>exact absurd hL (nofr b (by rw[e0];simp)).1
    ·have:=stay b o1 e1 hL hf;rw[e] at this;cases this;refine .inr (.inl (PySem.W.hideAll_get _ e1 ?_));rw[fr];intro z;rcases dw.mp z with z | z
     ·exact hL z
     ·exact hf z
theorem xF {x:Str}{P:Program}{w:World}{K:PySem.W.Frag}{mg:Str->Option Value}{base:Heap}{N:List Str}{qual:Str}{scope:Scope}{f:Addr}{cd:Value}{A:Around}{outer:List Env}{s:Shared}{H:Hp}{E:XK}
  {pins:List (Addr×Obj)}{σ:L2.St}{H1:Hp}{s1:Shared}{h2:Heap}{tk:Nat}{a t1 dx C:Addr}{n:Nat}{u:Tok}(I:Inv (eW (EJ x P w) P w K mg base N qual scope f cd A outer s H E) pins σ H1 s1) (hna:s1.heap.get? a=none) (he:h2.get? a=some (C7 C t1 dx))
  (hm:∃ m,h2.Ns dx m/\m x=some (.int n u)) (hdx:s1.heap.get? dx=none) (kp:∀ b o,s1.heap.get? b=some o->h2.get? b=some o) (hE:E (.ref C) (some n) H1):(eW (EJ x P w) P w K mg base N qual scope f cd A outer s H E).xe (.ref a) {s1 with heap:=h2,toks:=tk}:=by
 have hst:=I.stack;have hin:∀ env∈(envOfC qual scope s.heap.objs.size f cd::outer),∀ b,env.frame=some b->b∈gT (envOfC qual scope s.heap.objs.size f cd::outer):=fun env he b hb=>List.mem_filterMap.mpr ⟨env,he,hb⟩
 have hid:∀ b,s1.heap.get? b=none->(PySem.W.hideAll s1.heap (gT (envOfC qual scope s.heap.objs.size f cd::outer))).get? b=none:=fun b hb=>by
  cases z:(PySem.W.hideAll s1.heap (gT (envOfC qual scope s.heap.objs.size f cd::outer))).get? b with
  |none=>rfl
  |some o=>have:=PySem.W.of_hideAll _ z;rw[hb] at this;cases this
 show wpAny (model P w) (A.deeper (envOfC qual scope s.heap.objs.size f cd)) (leaving (envOfC qual scope s.heap.objs.size f cd) (.ref a)) _ _ _;refine Ge (base:=PySem.W.hideAll s1.heap (gT (envOfC qual scope s.heap.objs.size f cd::outer))) (s:={s1 with heap:=h2,toks:=tk}) (outer:=outer) I.ok.frames ((PySem.W.funFrames_hide hst hin).of_keeps fun b o hb _=>⟨o,kp b o hb,rfl⟩) rfl he
  (fun b o q=>kp b o (PySem.W.of_hideAll _ q)) (hid a hna) rfl rfl rfl fun h' fl uts dc=>?_
 obtain⟨r1,r2,r3⟩:=xG I kp fl uts;obtain⟨m,m1,m2⟩:=hm;refine⟨a,.ref C,.ref t1,H1,_,n,rfl,I.os,I.bare,r1,r2,fl,r3,⟨dx,m,u,dc,uts.ns m1,m2,hid dx hdx,fun z=>?_⟩,hE⟩;obtain⟨_,o,e1,_⟩:=hst.mem (b:=dx) (show dx∈s.heap.objs.size::gT outer from aa _ z);rw[hdx] at e1;cases e1
end
inductive Rb where
 | fin (cs:bJ)
 | seq (cs:bJ) (c:Ex) (n:Nat) (r:Rb)
noncomputable def uk (T:Tb):Rb->En->Option ((D×Bool) ⊕ Nat)
 |.fin cs,env=>match aC T cs env with
  |.rt d fr=>some (.inl (d,fr))
  |.nx _=>some (.inl (.non,true))
  |_=>none
 |.seq cs c n r,env=>match aC T cs env with
  |.rt d fr=>some (.inl (d,fr))
  |.nx e1=>match ev T c e1 with
   |.ok p=>match truth p.1 with
    |some true=>some (.inr n)
    |some false=>uk T r e1
    |none=>none
   |_=>none
  |_=>none
noncomputable def Rb.add (cs:St):Rb->Rb
 |.fin l=>.fin (.cons cs l)
 |.seq l c n r=>.seq (.cons cs l) c n r
noncomputable def rP (y:Str):List Stmt->Option Nat
 | [.Raise (some (.Call (.Name y' _) [.Constant (.int (.ofNat k)) _ _] [] _)) none _]=>if y'=y/\k<2 ^ 64 then some k else none
 |_=>none
noncomputable def cR (m:Nat)(S:Sc)(y:Str):List Stmt->Option Rb
 |[]=>some (.fin .nil)
 |st::rest=>(cR m S y rest).bind fun r=>match st with
  |.If e a b _=>(match rP y a with
   |some k=>if b.isEmpty then (cE m S e).map fun c=>Rb.seq .nil c k r else none
   |none=>(cS m S st).map fun c=>r.add c)
  |_=>(cS m S st).map fun c=>r.add c
def tIfr (K:Frag)(T:Tb)(c:Ex)(w:Hp->Prop)(u:TS):TS:=fun D σ H=>∃(P Z:Addr->Prop) (env:En) (F:Nat->List Addr),RE K P env σ H F/\(∀ i,∀ a∈F i,Z a)/\(∀ a,¬ P a->Z a)/\∃ p k,ev T c env = .ok p/\truth p.1=some k/\∀ H',aN H H'->if k then w H' else u D σ H'
def tR (K:Frag)(T:Tb)(W:Nat->Hp->Prop):Rb->TS
 |.fin cs=>BY K T cs
 |.seq cs c n r=>IZ K T cs (tIfr K T c (W n) (tR K T W r))
section
variable {X:Cx}{S:Sc}{T:Tb}{W:Nat->Hp->Prop}
theorem uF {y:Str}:∀{a:List Stmt}{k:Nat},rP y a=some k->∃ p1 j p2 p3 p4,a=[.Raise (some (.Call (.Name y p1) [.Constant (.int (k:Int)) j p2] [] p3)) none p4]/\k<2 ^ 64:=by
 intro a k h;unfold rP at h;split at h
 ·split at h
  ·rename_i z;cases h;obtain⟨rfl,z⟩:=z;exact⟨_,_,_,_,_,rfl,z⟩
  ·cases h
 ·cases h
theorem Ey {st:Stmt}{rest:List Stmt}{cs:St}{r:Rb}(h1:PS X st (tS X.K T cs))(h2:j6 X rest (tR X.K T W r)):j6 X (st::rest) (tR X.K T W (r.add cs)):=by
 cases r with
 |fin l=>exact tZ h1 h2
 |seq l c n r =>
  refine nG (gL h1 h2) fun D σ H ⟨P,Z,env,F,re,hz,zp,h⟩=>⟨P,Z,env,F,re,hz,zp,?_⟩
  unfold aC at h;cases hs:bI T cs env with
  |nx env' =>
   rw[hs] at h;exact fun σ' H' F' af=>⟨P,Z,env',F',af.re,af.z,zp,post.trans af h⟩
  |bk env'=>rw[hs] at h;exact h
  |ct env'=>rw[hs] at h;exact h
  |rt d fr=>rw[hs] at h;exact h
  |xc e env'=>rw[hs] at h;exact h
  |bad=>rw[hs] at h;exact h
theorem DJ {y:Str}{m:Nat}(C:ve X.nox S T)(hr:∀ k p1 j p2 p3 p4,k<2 ^ 64->PS X (.Raise (some (.Call (.Name y p1) [.Constant (.int ((k:Nat):Int)) j p2] [] p3)) none p4) (fun D σ H=>W k H)) :
  ∀(l:List Stmt) (r:Rb),cR m S y l=some r->j6 X l (tR X.K T W r)
 | [],r,h=>by
  cases h;exact xt
 | st::l,r,h=>by
  unfold cR at h;obtain⟨r1,h1,h2⟩:=ah.mp h;clear h;have ih:=DJ C hr l r1 h1;have gen:∀{c:St},cS m S st=some c->j6 X (st::l) (tR X.K T W (r1.add c)):=fun hc=>Ey (PS.nox ((D3 C m).1 _ _ hc)) ih
  split at h2
  ·split at h2
   ·rename_i k hk;obtain⟨p1,j,p2,p3,p4,rfl,hk2⟩:=uF hk;split at h2
    ·rename_i hb;obtain⟨c,hc,rfl⟩:=ag.mp h2;rw[List.isEmpty_iff] at hb;subst hb;refine nG (gL (Ax (PT.nox (fQ m C.c _ _ hc).2) (jv (hr k p1 j p2 p3 p4 hk2)) r8) ih) fun D σ H h=>?_
     obtain⟨P,Z,env,F,re,hz,zp,h⟩:=h;unfold aC at h;obtain⟨P,Z,env,F,re,hz,zp,p,b,e1,e2,h⟩:=h σ H F (After.same re hz (aN.refl _));refine⟨P,env,F,re,p,b,e1,e2,fun H' sm=>?_⟩;have:=h H' sm;cases b with
     |true=>exact this
     |false=>exact this
    ·cases h2
   ·obtain⟨c,hc,rfl⟩:=ag.mp h2;exact gen hc
  ·obtain⟨c,hc,rfl⟩:=ag.mp h2;exact gen hc
theorem DS {K:Frag}{P Z:Addr->Prop}{D:Ends}(hnx:∀ σ' H',D.rt .non H'->D.nx σ' H')(zp:∀ a,¬ P a->Z a):∀(r:Rb) {env:En}{σ:L2.St}{H:Hp}{F:Nat->List Addr},RE K P env σ H F->(∀ i,∀ a∈F i,Z a)->(match uk T r env with
  | some (.inl (d,fr))=>∀ v H' G,Rep K H' d v G->k7 P H H'->(∀ a∈G,Z a)->(fr=true->G.Nodup/\∀ a∈G,¬ P a/\∃ vs:ML,H' a=some vs.o)->D.rt v H'
  | some (.inr k)=>∀ H',k7 P H H'->W k H'
  |none=>False)->tR K T W r D σ H
 | .fin cs,env,σ,H,F,re,hz,h=>by
  refine⟨P,Z,env,F,re,hz,zp,?_⟩;unfold uk at h;cases hq:aC T cs env with
  |rt d fr=>rw[hq] at h;exact h
  |nx e =>
   rw[hq] at h;intro σ' H' F' af;exact hnx _ _ (h .non H' [] .non af.ev (fun _ h=>(nomatch h)) fun _=>⟨bq,fun _ h=>(nomatch h)⟩)
  |bk e=>rw[hq] at h;exact h.elim
  |ct e=>rw[hq] at h;exact h.elim
  |xc e e'=>rw[hq] at h;exact h.elim
  |bad=>rw[hq] at h;exact h.elim
 | .seq cs c n r,env,σ,H,F,re,hz,h=>by
  refine⟨P,Z,env,F,re,hz,zp,?_⟩;unfold uk at h;cases hq:aC T cs env with
  |rt d fr=>rw[hq] at h;exact h
  |nx e =>
   rw[hq] at h;intro σ' H' F' af;dsimp only at h;cases hc:ev T c e with
   |ok p =>
    rw[hc] at h;dsimp only at h;cases ht:truth p.1 with
    |none=>rw[ht] at h;exact h.elim
    |some b =>
     rw[ht] at h;refine⟨P,Z,e,F',af.re,af.z,zp,p,b,hc,ht,fun H2 sm=>?_⟩;have af2:=After.same (Z:=Z) af.re af.z sm;cases b with
     |true=>exact h H2 (af.ev.trans af2.ev)
     |false =>
      show if false=true then _ else _
      rw[if_neg az];refine DS hnx zp r af2.re af2.z ?_;dsimp only at h;cases hr:uk T r e with
      |none=>rw[hr] at h;exact h
      |some z =>
       rw[hr] at h;cases z with
       |inl q=>exact fun v H' G r1 r2 r3 r4=>h v H' G r1 (af.ev.trans (af2.ev.trans r2)) r3 r4
       |inr k=>exact fun H' r2=>h H' (af.ev.trans (af2.ev.trans r2))
   |exc x=>rw[hc] at h;exact h.elim
   |bad=>rw[hc] at h;exact h.elim
  |bk e=>rw[hq] at h;exact h.elim
  |ct e=>rw[hq] at h;exact h.elim
  |xc e e'=>rw[hq] at h;exact h.elim
  |bad=>rw[hq] at h;exact h.elim
end
section
variable {p:Pg}{P:Program}{w:World}{K:Frag}{mg:Str->Option Value}{base:Heap}
def spX (K:Frag)(n:Nat)(C:Addr)(f:List D->Option ((D×Bool) ⊕ Nat)):Sp:=fun vs H Q E=>∃ ds G,ds.length=n/\aK K H ds vs G/\(match f ds with
 | some (.inl (d,fr))=>∀ v H' G',aN H H'->Rep K H' d v G'->(∀ a∈G',H a=none\/a∈G)->(fr=true->G'.Nodup/\∀ a∈G',H a=none/\∃ vs:ML,H' a=some vs.o)->Q v H'
 | some (.inr k)=>∀ H',aN H H'->E (.ref C) (some k) H'
 |none=>False)
theorem Dt {n:Nat}{C:Addr}{f:List D->Option ((D×Bool) ⊕ Nat)}{vs:List V}{H:Hp}{Q:VK}{E:XK}(h:spX K n C f vs H Q E):vs.length=n:=by
 obtain⟨ds,G,h1,h2,_⟩:=h;rw[<-h1,h2.len]
theorem wJ {fo:List Str}{n m:Nat}{d:Df}{rb:Rb}{S x y qual:Str}{C cS fI f:Addr}{fd fdI:FuncData}{stI:Stmt}(hp:∀ d∈p.dfs,d.OkX p fo)(hi:p.In K mg)(hh:yR w K)(ih:uw p P w K mg base n)(Sc:cL d.N d.ps (aE d.st))(F:L2.sR K d.nm d.nm d.st f fd)
  (hc:cR m (p.sc d) y (bM d.st)=some rb) (hg:(aE d.st).names.lookup y=some .globalImplicit) (hm:mg y=some (.ref C)) (k:Bq K mg S x qual C cS fI fdI stI) (hd:(y==("__debug__" : Str))=false) :
  kH P w K mg base (EJ x P w) (lK n) f fd d.ps (spX K d.ps.length C fun ds=>uk ⟨p.run n,p.gl,p.fuel⟩ rb (aF ds d.N.length)):=by
 refine vN F Sc (fun A r=>⟨r.hd,by have:=r.dp;omega⟩) (fun vs H Q E h=>Dt h) fun cdv A outer s H vs Q E hr hs=>?_
 refine⟨_,DJ (W:=fun n H'=>E (.ref C) (some n) H') (Ep hp hi hh ih Sc (hr.deeper _)) (fun k0 p1 j p2 p3 p4 hk=>?_) _ _ hc,?_⟩
 ·refine cN (yF (C:=C) (W:=fun n H'=>E (.ref C) (some n) H') rfl ?_ hg hm k (aW sg fE) (fun pins σ H1 s1 h' tk a t1 dx n u hW I e1 e2 e3 e4 e5=>xF I e1 e2 e3 e4 e5 hW) rfl hd) fun D σ H' h=>?_
  ·show A.depth+1+1<_;have:=hr.dp;omega
  ·exact⟨k0,rfl,hk,h⟩
 obtain⟨ds,G,hlen,rs,k⟩:=hs;dsimp only at k;have hN:ds.length<=d.N.length:=by
  rw[hlen,<-Sc.pre,eu];exact je _ _
 obtain⟨F0,re,hF⟩:=entry rs hN;refine DS (P:=fun a=>H a≠none) (Z:=fun a=>H a=none\/a∈G) (fun σ' H' h=>h) (fun a h=>.inl (Classical.not_not.mp h)) rb re (fun j a ha=>.inr (hF j a ha)) ?_;show match uk ⟨p.run n,p.gl,p.fuel⟩ rb (aF ds d.N.length) with
  | some (.inl (d,fr))=>_
  | some (.inr k)=>_
  |none=>False
 cases hq:uk ⟨p.run n,p.gl,p.fuel⟩ rb (aF ds d.N.length) with
 |none=>rw[hq] at k;exact k
 |some z =>
  rw[hq] at k;cases z with
  |inl q =>
   intro v H' G' rp ev z fz;exact k v H' G' (lP ev) rp z fun hf=>let ⟨a,b⟩:=fz hf;⟨a,fun x hx=>⟨Classical.not_not.mp (b x hx).1,(b x hx).2⟩⟩
  |inr j=>exact fun H' ev=>k H' (lP ev)
end
noncomputable def nZ (K:PySem.W.Frag)(C:Addr):Bool:=lB K C&&(match K.lookup C with
 |some ⟨_,_,.cls cd,_⟩=>cd.mro.tail.contains (.type "BaseException")
 |_=>false)
theorem uG {K:PySem.W.Frag}{h:Heap}{D:Addr}(kin:K.In h)(q:nZ K D=true) :
  ∃ bm N nm qn bs hdct sn sub ab col dd k0 k1 k2 k3 k5 newId,h.get? D=some (excClassObj nm qn D N bs bm hdct sn sub ab col dd k0 k1 k2 k3 k5 newId)/\bm.contains (.type "BaseException")=true:=by
 unfold nZ at q;rw[ai] at q;obtain⟨bm,N,nm,qn,bs,hdct,sn,sub,ab,col,dd,k0,k1,k2,k3,k5,newId,hD⟩:=kh kin q.1;refine⟨bm,N,nm,qn,bs,hdct,sn,sub,ab,col,dd,k0,k1,k2,k3,k5,newId,hD,?_⟩;have q2:=q.2;split at q2
 ·rename_i ho;have:=kin _ _ ho;rw[hD] at this;injection this with this
  injection this with _ _ hdat _
  injection hdat with hdat
  subst hdat;exact q2
 ·cases q2
theorem um {K:PySem.W.Frag}{h:Heap}{C D N:Addr}{nm q:Str}{bs bm:List Value}{hdct:Bool}{sn:List Str}{sub:List Value}{ab:Bool}{col:Option Bool}{dd:Option Addr}{k0 k1 k2 k3 k5:Option Value}{newId:String}(kin:K.In h)
  (hC:h.get? C=some (excClassObj nm q C N bs bm hdct sn sub ab col dd k0 k1 k2 k3 k5 newId)) (ho:eK K C D=true):(Value.ref C::bm).contains (.ref D)=true:=by
 unfold eK at ho;split at ho
 ·rename_i hl;have:=kin _ _ hl;rw[hC] at this;injection this with this
  injection this with _ _ hdat _
  injection hdat with hdat
  subst hdat;exact ho
 ·cases ho
theorem jB.less {h:Heap}{bmB:List Value}{ns ns':List Str}{l:List Value}(x:jB h bmB ns l)(hs:∀ n∈ns',n∈ns):jB h bmB ns' l:=by
 induction x with
 |base=>exact .base
 |own a b c _ ih=>exact .own a b (fun n hn=>c n (hs n hn)) ih
theorem xw {x:Str}:∀ n∈sA,n∈ins x:=fun n hn=>by
 simp only[sA,List.mem_cons,List.not_mem_nil,or_false] at hn;rcases hn with rfl | rfl | rfl<;>simp
theorem B6 {K:PySem.W.Frag}{C fI:Addr}{x:Str}(q:xY K C (ins x) fI=true):D9 K C:=fun {h} kin=>by
 obtain⟨bm,FI⟩:=lG kin q;obtain⟨nm,qn,N,bs,sn,sub,ab,col,dd,k0,k1,k2,k3,k5,mN,hC,hN,hmN,hi⟩:=FI.ex;refine⟨bm,⟨nm,qn,N,bs,true,sn,sub,ab,col,dd,k0,k1,k2,k3,k5,mN,hC,hN,fun n hn=>hmN n (xw n hn)⟩,FI.tail,FI.tn.less xw,fun D=>?_⟩;unfold xY at q;split at q
 ·rename_i ho;have:=kin _ _ ho;rw[hC] at this;injection this with this
  injection this with _ _ hdat _
  injection hdat with hdat
  subst hdat;unfold eK;rw[ho]
 ·cases q
section
variable {X:Cx}{pins:List (Addr×Obj)}{σ:L2.St}{H:Hp}{s:Shared}{D:Ends}{x:Str}{W:Value->Nat->Hp->Prop}
def sF (x:Str)(X:Cx)(pins:List (Addr×Obj))(σ:L2.St)(W:Value->Nat->Hp->Prop)(e:Value)(s1:Shared):Prop :=
 ∃ H0 s0 a C a0 H' B n,Inv X pins σ H0 s0/\e = .ref a/\s1.os=s0.os/\AllBare s1.gens/\DR X H0 H' s0 B s1.heap/\Heap.FlyingW B X.stack a C a0 s1.heap/\HK x B (gT X.stack) s1.heap a n/\W C n H'
theorem qr {RP:Around->Prop}{f:Addr}{fd:FuncData}{ps:List Str}{sp:Sp}{dvs:List V}{ds:List Value}{y:Str}{p pos:Pos}{e:Expr}{es:List Expr}{t:TA}{Q:VK}(F:kH X.prog X.w X.K X.mg X.base (EJ x X.prog X.w) RP f fd ps sp)(hr:RP X.A)(hg:Gl X y)(hm:X.mg y=some (.ref f))(hk:PySem.W.keepIn X.K (.ref f)=true)(hb:Binds X.K fd ps ds)(hd:aR dvs ds)
  (I:Inv X pins σ H s) (ha:PA X.nox (e::es) t) (h:t σ H fun vs H1=>sp (vs++dvs) H1 Q (fun C o H'=>∃ n,o=some n/\W C n H')) (hdb:(y==("__debug__" : Str))=false:=by decide)
  (he:starEach (e::es) X.env=(false,eval e X.env)::starEach es X.env:=by rfl) (hpl:(backTo pos (starEach es X.env)).any (·.1)=false:=by rfl) :
  wpAny (model X.prog X.w) X.A (eval (.Call (.Name y p) (e::es) [] pos) X.env) (EP X pins σ Q) (sF x X pins σ W) s:=by
 refine wpAny_Call_Name_kw (hU I hg hm ?_ hdb);refine i7 (h₀:=X.base) I.ok.mod.kin hk (wpAny_mono (ha pos pins s σ H _ (I.wish _) h) (fun us s1 ⟨vs,H1,I1,r,q⟩=>⟨I1.unwish.kIn,?_⟩) fun _ _ z=>False.elim z) he hpl;have I:=I1.unwish;have r2:aR (vs++dvs) (us++ds):=r.append hd;have hl:(us++ds).length=ps.length:=by rw[<-r2.length];exact F.len _ _ _ _ q
 refine wpAny_call (codeAny_mono (F.run X.A X.stack s1 H1 ⟨us,[]⟩ (us++ds) (vs++dvs) Q _ hr I.env0 (hb s1 us I.kIn hl) r2 q) fun r s' hq=>?_);cases r with
 |error e =>
  have hq:EJ x X.prog X.w X.stack H1 s1 (fun C o H'=>∃ n,o=some n/\W C n H') e s':=hq;obtain⟨a,C,a0,H',B,n,e1,e2,e3,e4,e5,e6,e7,e8,n',e9,e10⟩:=hq;cases e9;exact⟨H1,s1,a,C,a0,H',B,n,I,e1,e2,e3,⟨e4,e5,e7⟩,e6,e8,e10⟩
 |ok fl =>
  cases fl with
  |ret u=>exact I.after hq
  |next=>exact False.elim hq
  |brk=>exact False.elim hq
  |cont=>exact False.elim hq
theorem xI {E':Value->Shared->Prop}{e:Expr}{pos:Pos}{Q:VK}(I:Inv X pins σ H s)(h:wpAny (model X.prog X.w) X.A (eval e X.env) (EP X pins σ Q) E' s)(hq:∀ v H',Q v H'->D.nx σ H')(hs:swapsWith e none pos.line X.env=pure false:=by rfl) :
  wpAny (model X.prog X.w) X.A (execs [.Expr e pos] X.env) (SP X pins D) E' s:=by
 refine wpAny_execs_cons (wpAny_mono (Q:=SP X pins D) (wpAny_Expr_any (wpAny_mono h (fun v s1 ⟨x,H1,I1,r1,q1⟩=>⟨σ,H1,I1,hq x H1 q1⟩) fun _ _ z=>z) I.quiet hs) (fun f s1 q=>?_) fun _ _ z=>z);cases f with
 |next=>exact wpAny_execs_nil q
 |ret v=>exact q
 |brk=>exact q
 |cont=>exact q
theorem zf {E':Value->Shared->Prop}{i:Nat}{y:Str}{e:Expr}{pos pos':Pos}{Q:VK}(hN:X.N.Nodup)(hi:X.N[i]? = some y)(hx:Loc X.env.scope y)(I:Inv X pins σ H s)(h:wpAny (model X.prog X.w) X.A (eval e X.env) (EP X pins σ Q) E' s)(hq:∀ v H',Q v H'->D.nx (σ.set i (some v)) H')
  (hs:swapsWith e (some (.Name y pos')) pos.line X.env=pure false:=by rfl) (hf:X.fn y=true\/X.env.scope.names.lookup y=some .local:=by first | exact .inl rfl | exact .inr rfl | assumption) :
  wpAny (model X.prog X.w) X.A (execs [.Assign [.Name y pos'] e pos] X.env) (SP X pins D) E' s:=by
 refine wpAny_execs_cons (wpAny_mono (Q:=SP X pins D) (wpAny_Assign_Name (dB h fun v s1 ⟨y,H1,I1,r1,q1⟩=>iW I1 hN hi hx r1 (fun s2 I2=>⟨_,H1,I2,hq _ _ q1⟩) hf) hs) (fun f s1 q=>?_) fun _ _ z=>z);cases f with
 |next=>exact wpAny_execs_nil q
 |ret v=>exact q
 |brk=>exact q
 |cont=>exact q
theorem yu (hs:X.stack=X.env::X.outer)(hf:X.env.frame=some X.env.locals)(ok:X.Ok){body:List Stmt}{y:Str}{Cd:Addr}{np hp pos:Pos}{b₀:Stmt}{suite:List Stmt}{ts:TS}(hg:Gl X y)(hm:X.mg y=some (.ref Cd))(qD:nZ X.K Cd=true)(hsu:∀ a,j6 (markX X a) (b₀::suite) ts)
  (hw:∀ C n H',W C n H'->(∃ c,C = .ref c/\lB X.K c=true/\eK X.K c Cd=true)/\ts D σ H') (hd:(y==("__debug__" : Str))=false:=by decide)
  (hb:wpAny (model X.prog X.w) X.A (execs body X.env) (SP X pins D) (sF x X pins σ W) s) :
  wpAny (model X.prog X.w) X.A (exec (.Try body [.ExceptHandler (some (.Name y np)) none (b₀::suite) hp] [] [] pos) X.env) (SP X pins D) X.xe s:=by
 refine wpAny_Try_except (wpAny_mono hb (fun f s1 h1=>?_) fun e s1 h1=>?_)
 ·cases f with
  |next=>exact wpAny_pure h1
  |brk=>exact h1
  |cont=>exact h1
  |ret u=>exact h1
 obtain⟨H0,s0,a,C,a0,H',B,n,I0,rfl,ho,hbr,F1,f1,at1,w1⟩:=h1;obtain⟨⟨c,rfl,qC,oC⟩,hts⟩:=hw C n H' w1;have f1':=f1;rw[hs] at f1';refine wpAny_looks_onW (by rw[ok.frames,hs]) hf f1' fun h2 g2 u2=>?_
 rw[<-hs] at g2;have F2:=F1.next I0 g2.1 (gN f1) u2;refine wpAny_landsW g2 fun h3 f3 u3=>?_
 have F3:=F2.next I0 f3.1 (mY g2) u3;have back:∀ h,({s1 with heap:=h}:Shared)={s0 with heap:=h,gens:=s1.gens,drawn:=s1.drawn,toks:=s1.toks}:=fun h=>by
  cases s1;cases s0;cases ho;rfl
 have I3:Inv X pins σ H' {s1 with heap:=h3}:=by
  rw[back];exact F3.inv I0 hbr
 refine wpAny_handleBy_cons (codeAny_handlers_test (hU (X:=markX X a) (pd I3 a ok.frames) hg hm ?_ hd)) (by intro q;cases q);obtain⟨bm',N',nm',qn',bs',hdct',sn',sub',ab',col',dd',j0,j1,j2,j3,j5,nI',hD,hB⟩:=uG I3.kIn qD;obtain⟨bm,N,nm,qn,bs,hdct,sn,sub,ab,col,dd,k0,k1,k2,k3,k5,nI,hC⟩:=kh I3.kIn qC;obtain⟨oe,he,hcl⟩:=f3.there;refine mT hC hD he hcl hB ?_;rw[um I3.kIn hC oC];refine codeAny_handlers_suite (lands_againW f3 fun h4 f4 u4=>?_);have F4:=F3.next I0 f4.1 (gN f3) u4;have I4:Inv X pins σ H' {s1 with heap:=h4}:=by
  rw[back];exact F4.inv I0 hbr
 exact wpAny_mono (hsu a pins _ σ H' D (pd I4 a ok.frames) hts) (fun f s2 h2=>x5 ok h2) fun _ _ z=>z.elim
abbrev pI (X:Cx)(dx:Addr)(od:Obj):Cx:={X with pn:=(dx,od)::X.pn}
theorem CZ {dx:Addr}{od:Obj}(I:Inv X pins σ H s)(hp:s.heap.get? dx=some od/\H dx=none/\dx≠X.env.locals/\dx∉X.fs/\∀ v,od.data≠.cell v):Inv (pI X dx od) pins σ H s :=
 ⟨⟨I.ok.mod,I.ok.kind,I.ok.glob,I.ok.blt,I.ok.above,I.ok.inj,I.ok.has,I.ok.cab,I.ok.hd,I.ok.frames,I.ok.stk,I.ok.exf,I.ok.bs,I.ok.bsz,I.ok.noex,I.ok.exfs,I.ok.funs,I.ok.frf⟩,I.os,I.bare,I.base,I.loc,I.cell,I.free,I.freeC,fun p hq=>by
  rcases dw.mp hq with rfl | hq
  ·exact hp
  ·exact I.pin p hq,I.hok,I.len⟩
theorem ko {dx:Addr}{od:Obj}(I:Inv (pI X dx od) pins σ H s)(ok:X.Ok):Inv X pins σ H s:=⟨ok,I.os,I.bare,I.base,I.loc,I.cell,I.free,I.freeC,fun p hp=>I.pin p (aa _ hp),I.hok,I.len⟩
theorem Dw (hs:X.stack=X.env::X.outer)(hf:X.env.frame=some X.env.locals)(ok:X.Ok){body:List Stmt}{y n:Str}{i:Nat}{Cd:Addr}{np hp pos:Pos}{b₀:Stmt}{suite:List Stmt}{ts:Addr->Nat->TS}(hN:X.N.Nodup)(hi:X.N[i]? = some n)(hk:X.env.scope.names.lookup n=some .local)
  (hg:Gl X y) (hm:X.mg y=some (.ref Cd)) (qD:nZ X.K Cd=true)
  (hsu:∀ a o dx od C k H',W C k H'->o.cls=C->(∃ vs,o.data = .fields vs)->o.dict=some dx->(∃ m u,(∀ h:Heap,h.get? dx=some od->h.Ns dx m)/\m x=some (.int ((k:Nat):Int) u))->j6 (kG (pI X dx od) a o) (b₀::suite) (ts a k))
  (hw:∀ C k H',W C k H'->(∃ c,C = .ref c/\lB X.K c=true/\eK X.K c Cd=true)/\∀ a,ts a k (zN D i) (σ.set i (some (.ref a))) H') (hd:(y==("__debug__" : Str))=false:=by decide)
  (hb:wpAny (model X.prog X.w) X.A (execs body X.env) (SP X pins D) (sF x X pins σ W) s) :
  wpAny (model X.prog X.w) X.A (exec (.Try body [.ExceptHandler (some (.Name y np)) (some n) (b₀::suite) hp] [] [] pos) X.env) (SP X pins D) X.xe s:=by
 refine wpAny_Try_except (wpAny_mono hb (fun f s1 h1=>?_) fun e s1 h1=>?_)
 ·cases f with
  |next=>exact wpAny_pure h1
  |brk=>exact h1
  |cont=>exact h1
  |ret u=>exact h1
 obtain⟨H0,s0,a,C,a0,H',B,k,I0,rfl,ho,hbr,F1,f1,at1,w1⟩:=h1;obtain⟨⟨c,rfl,qC,oC⟩,hts⟩:=hw C k H' w1;obtain⟨dx,m,u,dc1,ns1,mx,nB,nfr⟩:=at1;have f1':=f1;rw[hs] at f1';refine IS (by rw[ok.frames,hs]) hf f1' dc1 fun h2 g2 u2 dc2=>?_
 rw[<-hs] at g2;have F2:=F1.next I0 g2.1 (gN f1) u2;refine FD g2 dc2 fun h3 f3 u3 dc3=>?_
 have F3:=F2.next I0 f3.1 (mY g2) u3;have back:∀ h,({s1 with heap:=h}:Shared)={s0 with heap:=h,gens:=s1.gens,drawn:=s1.drawn,toks:=s1.toks}:=fun h=>by
  cases s1;cases s0;cases ho;rfl
 have I3:Inv X pins σ H' {s1 with heap:=h3}:=by
  rw[back];exact F3.inv I0 hbr
 refine wpAny_handleBy_cons (codeAny_handlers_test (hU (X:=markX X a) (pd I3 a ok.frames) hg hm ?_ hd)) (by intro q;cases q);obtain⟨bm',N',nm',qn',bs',hdct',sn',sub',ab',col',dd',j0,j1,j2,j3,j5,nI',hD,hB⟩:=uG I3.kIn qD;obtain⟨bm,N,nm,qn,bs,hdct,sn,sub,ab,col,dd,k0,k1,k2,k3,k5,nI,hC⟩:=kh I3.kIn qC;obtain⟨oe,he,hcl⟩:=f3.there;refine mT hC hD he hcl hB ?_;rw[um I3.kIn hC oC];refine codeAny_handlers_suite_as (Gm f3 dc3 fun h4 f4 u4 dc4=>?_);have F4:=F3.next I0 f4.1 (gN f3) u4;have I4:Inv X pins σ H' {s1 with heap:=h4}:=by
  rw[back];exact F4.inv I0 hbr
 have ns4:=u4.ns (u3.ns (u2.ns ns1));obtain⟨od,es,ep,hod,hdd,r4⟩:=ns4;obtain⟨o4,vs4,e5,c5,d5,_⟩:=f4.first;have dic:o4.dict=some dx:=by
  obtain⟨o',q1,q2⟩:=dc4;rw[e5] at q1;cases q1;exact q2
 have nofr:a∉gT X.stack:=fun z=>by
  obtain⟨o',e',hd'⟩:=gN f4 a z;rw[e5] at e';cases e';exact hd' vs4 d5
 have hnone:H' a=none:=by
  rcases F4.bf a o4 e5 with z | z | z
  ·exact absurd z nofr
  ·rw[f4.2.1] at z;cases z
  ·exact z.2
 have hnone2:H' dx=none:=by
  rcases F4.bf dx od hod with z | z | z
  ·exact absurd z nfr
  ·rw[nB] at z;cases z
  ·exact z.2
 have hstk:gT X.stack=X.env.locals::X.fs:=by
  rw[hs];unfold gT;rw[iz,hf];rfl
 rw[hstk] at nofr nfr;have P3:Inv (pI X dx od) pins σ H' {s1 with heap:=h4}:=CZ I4 ⟨hod,hnone2,fun z=>nfr (by rw[z];exact ae),fun z=>nfr (aa _ z),fun v z=>by rw[hdd] at z;cases z⟩;have P4:Inv (kG (pI X dx od) a o4) pins σ H' {s1 with heap:=h4}:=yN P3 a o4 ok.frames ⟨e5,hnone,fun z=>nofr (by rw[z];exact ae),fun z=>nofr (aa _ z),fun v z=>by rw[d5] at z;cases z⟩;refine iW (X:=kG (pI X dx od) a o4) P4 hN hi (.inl hk) (show RelV (.ref a) (.ref a) from rfl) (fun s5 I5=>?_) (.inr hk);refine wpAny_mono (hsu a o4 dx od _ k H' w1 c5 ⟨vs4,d5⟩ dic ⟨m,u,fun h hh=>⟨od,es,ep,hh,hdd,r4⟩,mx⟩ pins s5 _ H' (zN D i) I5 (hts a)) (fun f s6 h6=>?_) fun _ _ z=>z.elim
 cases f with
 |next =>
  obtain⟨σ',H6,I6,q⟩:=h6;exact kl (ko (hV I6 P3.ok) ok) hN hi hk fun s7 I7=>⟨_,H6,I7,q⟩
 |brk =>
  obtain⟨σ',H6,I6,q⟩:=h6;exact kl (ko (hV I6 P3.ok) ok) hN hi hk fun s7 I7=>⟨_,H6,I7,q⟩
 |cont =>
  obtain⟨σ',H6,I6,q⟩:=h6;exact kl (ko (hV I6 P3.ok) ok) hN hi hk fun s7 I7=>⟨_,H6,I7,q⟩
 |ret u =>
  obtain⟨v,σ',H6,I6,r,q⟩:=h6;exact kl (ko (hV I6 P3.ok) ok) hN hi hk fun s7 I7=>⟨v,_,H6,I7,r,q⟩
end
section
variable {prog:Program}{w:World}{A:Around}{E:Value->Shared->Prop}{h:Heap}{g:Array GenState}{d:Drawn}{t:Nat}{os:OsState}{a dx:Addr}{o:Obj}{vs:Array Value}{m:Str->Option Value}{x:Str}{v:Value}
 {nm q:Str}{C N:Addr}{bs bm:List Value}{sn:List Str}{sub:List Value}{ab:Bool}{col:Option Bool}{dd:Option Addr}{k0 k1 k2 k3 k5:Option Value}{newId:String}{mN:Str->Option Value}
theorem yi {tk:Tok}{Q:Fin->Shared->Prop}(hC:h.get? C=some (excClassObj nm q C N bs bm true sn sub ab col dd k0 k1 k2 k3 k5 newId))(hN:h.Ns N mN)(hmN:∀ n∈ins x,mN n=none)(TN:jB h iX (ins x) bm)
  (hB:typeLookup (.type "ValueError") x=pure none) (hx:h.get? a=some o) (hc:o.cls = .ref C) (hda:o.data = .fields vs) (hdi:o.dict=some dx) (hn:h.Ns dx m) (hv:m x=some v) (hq:Q (.done (.ret v)) ⟨h,g,d,t,os⟩) :
  wpAny (model prog w) A (Builtin.«object.__getattribute__» ⟨[.ref a,.str x tk],[]⟩) Q E ⟨h,g,d,t,os⟩:=by
 have hmx:x∈ins x:=by simp
 repeat (any_goals (first | assumption | (with_reducible refine wpAny_loadPart_at hx ?_;rw[hc]) | with_reducible refine fN hmx hC hN hmN TN F.attrBase_ValueError.mro hB ?_ | wp_step))
 split
 ·rename_i z;rw[hda] at z;cases z
 unfold instanceDict
 repeat (any_goals (first | assumption | (with_reducible refine wpAny_loadPart_at hx ?_;rw[hc]) | with_reducible refine wpAny_loadPart_at hC ?_ | wp_step))
 rw[hdi]
 repeat (any_goals (first | assumption | (with_reducible refine wpAny_nsGet hn ?_;rw[hv]) | wp_step))
theorem Fq {tk:Tok}{fill expr:Bool}{n:Int}{u:Tok}{Q:Value->Shared->Prop}(hC:h.get? C=some (excClassObj nm q C N bs bm true sn sub ab col dd k0 k1 k2 k3 k5 newId))(hN:h.Ns N mN)(hmN:∀ n∈ins x,mN n=none)(T:OwnTail h iX bm)(TN:jB h iX (ins x) bm)
  (hB:typeLookup (.type "ValueError") x=pure none) (hx:h.get? a=some o) (hc:o.cls = .ref C) (hda:o.data = .fields vs) (hdi:o.dict=some dx) (hn:h.Ns dx m) (hv:m x=some (.int n u)) (hq:Q (.int n u) ⟨h,g,d,t,os⟩) :
  wpAny (model prog w) A (getAttrBy (.ref a) (.str x tk) fill expr) Q E ⟨h,g,d,t,os⟩:=by
 have f3:=F.attrBase_ValueError.ga.bind (.ref a);have hx0:(expr&&onTheHeap (Value.builtin "BaseException.__getattribute__"))=false:=by cases expr<;>rfl
 have hx2:(Value.builtin "BaseException.__getattribute__" == Value.builtin "object.__getattribute__")=false:=by decide +kernel
 have hx1:(onTheHeap (Value.ref C)&&Value.builtin "BaseException.__getattribute__" == Value.builtin "object.__getattribute__")=false:=by rw[hx2];rfl
 have hm1:("__getattribute__" : Str)∈ins x:=.head _;have hm2:("__getattr__" : Str)∈ins x:=.tail _ (.head _)
 repeat (any_goals (first | assumption | (with_reducible refine wpAny_loadPart_at hx ?_;rw[hc]) | with_reducible refine fN hm1 hC hN hmN TN F.attrBase_ValueError.mro F.attrBase_ValueError.ga.lookup ?_ | with_reducible refine fN hm2 hC hN hmN TN F.attrBase_ValueError.mro F.attrBase_ValueError.noGetattr ?_ | wp_step))
 refine codeAny_call_builtin F.attrBase_ValueError.ga.plain F.entry_bexc_ga (tN hC T hx hc (yi hC hN hmN TN hB hx hc hda hdi hn hv ?_))
 repeat (any_goals (first | assumption | wp_step))
end
section
variable {X:Cx}{a dx C fI:Addr}{o od:Obj}{x:Str}{k:Nat}
def Dh (i:Nat)(a:Addr)(k:Nat):TE:=fun σ H Q=>σ[i]? = some (some (.ref a))/\Q (.int k) H
theorem FE {i:Nat}{y:Str}{p p':Pos}(q:xY X.K C (ins x) fI=true)(hB:typeLookup (.type "ValueError") x=pure none) (hc:o.cls = .ref C) (hda:∃ vs,o.data = .fields vs) (hdi:o.dict=some dx) (hns:∃ m u,(∀ h:Heap,h.get? dx=some od->h.Ns dx m)/\m x=some (.int ((k:Nat):Int) u))
  (hy:PE (kG (pI X dx od) a o) (.Name y p) (nR i)):PE (kG (pI X dx od) a o) (.Attribute (.Name y p) x p') (Dh i a k):=by
 intro pins s σ H Q I ⟨hi,hq⟩;refine Attribute_name (dB (hy pins s σ H (fun v H'=>v = .ref a/\H'=H) I ⟨_,hi,rfl,rfl⟩) fun v s1 ⟨v',H1,I1,r,e1,e2⟩=>?_);subst e1 e2;obtain rfl:v=Value.ref a:=r;have kin:=I1.kIn;obtain⟨bm,FI⟩:=lG kin q;obtain⟨nm,qn,N,bs,sn,sub,ab,col,dd,k0,k1,k2,k3,k5,mN,hC,hN,hmN,hi2⟩:=FI.ex;obtain⟨vs,hda⟩:=hda;obtain⟨m,u,hns,hm⟩:=hns;have p1:=(I1.pin (a,o) (by simp)).1;have p2:=(I1.pin (dx,od) (by simp)).1;have J:=I1.tok (s1.toks+1);obtain⟨h1,g1,d1,t1,os1⟩:=s1;unfold getAttr;refine wpAny_bind (wpAny_mkText ?_);exact Fq hC hN hmN FI.tail FI.tn hB p1 hc hda hdi (hns _ p2) hm ⟨.int k,_,J,⟨u,rfl⟩,hq⟩
end
noncomputable def bJ.app:bJ->bJ->bJ
 |.nil,b=>b
 |.cons s r,b=>.cons s (r.app b)
theorem oP {T:Tb}(b:bJ):∀(a:bJ) (env:En),aC T (a.app b) env=(aC T a env).andThen (aC T b)
 |.nil,env=>by rw[bJ.app,aC.eq_1 T];rfl
 | .cons s r,env=>by
  rw[bJ.app,aC,aC];cases bI T s env with
  |nx e=>exact oP b r e
  |bk e=>rfl
  |ct e=>rfl
  |rt d fr=>rfl
  |xc x e=>rfl
  |bad=>rfl
noncomputable def Rb.ask:Rb->bJ
 |.fin cs=>cs
 |.seq cs c n r=>cs.app (.cons (.ite c (.cons .retN .nil) .nil) r.ask)
theorem AS {T:Tb}:∀(rb:Rb) {env:En}{r:D×Bool},Pc.ret (aC T rb.ask env) = .ok r->uk T rb env=some (.inl r)\/(∃ k,uk T rb env=some (.inr k)/\r=(.non,true))
 | .fin cs,env,r,h=>by
  unfold Rb.ask at h;unfold uk;cases hq:aC T cs env with
  |rt d fr=>rw[hq] at h;cases h;exact .inl rfl
  |nx e=>rw[hq] at h;cases h;exact .inl rfl
  |bk e=>rw[hq] at h;cases h
  |ct e=>rw[hq] at h;cases h
  |xc x e=>rw[hq] at h;cases h
  |bad=>rw[hq] at h;cases h
 | .seq cs c n rb,env,r,h=>by
  unfold Rb.ask at h;rw[oP] at h;unfold uk;cases hq:aC T cs env with
  |rt d fr=>rw[hq] at h;cases h;exact .inl rfl
  |nx e =>
   rw[hq] at h;have h:Pc.ret (aC T (.cons (.ite c (.cons .retN .nil) .nil) rb.ask) e) = .ok r:=h;rw[aC,bI] at h;dsimp only;cases hc:ev T c e with
   |ok p =>
    rw[hc] at h;dsimp only;cases ht:truth p.1 with
    |none =>
     rw[eZ,ht] at h;cases h
    |some b =>
     rw[eZ,ht] at h;cases b with
     |true =>
      dsimp only at h;rw[aC,bI] at h;cases h;exact .inr ⟨n,rfl,rfl⟩
     |false =>
      dsimp only at h;rw[aC] at h;exact AS rb h
   |exc x=>rw[hc] at h;cases h
   |bad=>rw[hc] at h;cases h
  |bk e=>rw[hq] at h;cases h
  |ct e=>rw[hq] at h;cases h
  |xc x e=>rw[hq] at h;cases h
  |bad=>rw[hq] at h;cases h
structure z8 (st:Stmt)(a b c t g y:Str):Prop where
 ex:∃(j1 j2:Nat) (q1 q2 q3 p1 p2 p3 p4 p5 p6 p7 p8 h1 h2 h3 h4 h5 r1 r2:Pos),bM st=[.Assign [.Name t q1] (.Constant .none j1 q2) q3,
   .Try [.Assign [.Name t p1] (.Call (.Name g p2) [.Name a p3,.Name b p4,.Name c p5] [] p6) p7] [.ExceptHandler (some (.Name y h1)) none [.Assign [.Name t h2] (.Constant .none j2 h3) h4] h5] [] [] p8,
   .Return (some (.Name t r1)) r2]
 sc:cL [a,b,c,t] [a,b,c] (aE st)
 la:(aE st).names.lookup a=some .local
 lb:(aE st).names.lookup b=some .local
 lc:(aE st).names.lookup c=some .local
 lt:(aE st).names.lookup t=some .local
 lg:(aE st).names.lookup g=some .globalImplicit
 ly:(aE st).names.lookup y=some .globalImplicit
 db:((a==("__debug__" : Str))=false/\(a==("__classdict__" : Str))=false)/\((b==("__debug__" : Str))=false/\(b==("__classdict__" : Str))=false)/\((c==("__debug__" : Str))=false/\(c==("__classdict__" : Str))=false)/\((t==("__debug__" : Str))=false/\(t==("__classdict__" : Str))=false)/\(g==("__debug__" : Str))=false/\(y==("__debug__" : Str))=false
section
variable {P:Program}{w:World}{K:Frag}{mg:Str->Option Value}{base:Heap}
theorem asked {n:Nat}{f f' C:Addr}{fd fd':FuncData}{st:Stmt}{x nm a b c t g y:Str}{ps':List Str}{spx:Sp}(k:z8 st a b c t g y)(F:L2.sR K nm nm st f fd)(FR:kH P w K mg base (EJ x P w) (lK n) f' fd' ps' spx)(kp:PySem.W.keepIn K (.ref f')=true)
  (B':Binds K fd' ps' []) (hm':mg g=some (.ref f')) (hy:mg y=some (.ref C)) (qB:nZ K C=true) (qo:eK K C C=true) (sp:Sp)
  (hl:∀ vs H Q E,sp vs H Q E->∃ v1 v2 v3,vs=[v1,v2,v3]/\spx [v1,v2,v3] H Q (fun C' o H'=>∃ m,o=some m/\C' = .ref C/\Q .non H')):lX P w K mg base sj (n+1) f fd [a,b,c] sp:=by
 have S:=k.sc;refine (vN (RP:=gS (n+1)) F S (fun A r=>⟨r.hd,r.depth⟩) (fun vs H Q E h=>by obtain⟨v1,v2,v3,e,_⟩:=hl vs H Q E h;rw[e];rfl) fun cdv A outer s H vs Q E hr hs=>?_).plain;obtain⟨v1,v2,v3,rfl,hx⟩:=hl vs H Q E hs;obtain⟨j1,j2,q1,q2,q3,p1,p2,p3,p4,p5,p6,p7,p8,h1,h2,h3,h4,h5,r1,r2,hbody⟩:=k.ex;rw[hbody];obtain⟨da,db,dc,dt,dg,dy⟩:=k.db;have qD:lB K C=true:=by
  unfold nZ at qB;rw[ai] at qB;exact qB.1
 have hrest:j6 (eW sj P w K mg base [a,b,c,t] nm (aE st) f cdv A outer s H E).nox [.Try [.Assign [.Name t p1] (.Call (.Name g p2) [.Name a p3,.Name b p4,.Name c p5] [] p6) p7] [.ExceptHandler (some (.Name y h1)) none [.Assign [.Name t h2] (.Constant .none j2 h3) h4] h5] [] [] p8,
   .Return (some (.Name t r1)) r2] (fun D σ H1=>σ=[some v1,some v2,some v3,some .non]/\spx [v1,v2,v3] H1 D.rt (fun C' o H'=>∃ m,o=some m/\C' = .ref C/\D.rt .non H')):=by
  intro pins s1 σ H1 D I ⟨hσ,hx⟩;subst hσ;have args:PA (eW sj P w K mg base [a,b,c,t] nm (aE st) f cdv A outer s H E).nox [.Name a p3,.Name b p4,.Name c p5] (dI (nR 0) (dI (nR 1) (dI (nR 2) pJ))) :=
   aW (kf rfl (.inl k.la) da.1 da.2) (aW (kf rfl (.inl k.lb) db.1 db.2) (aW (kf rfl (.inl k.lc) dc.1 dc.2) fE))
  refine wpAny_execs_cons (wpAny_mono (Q:=SP _ pins {D with nx:=fun σ' H'=>∃ z,σ'=[some v1,some v2,some v3,some z]/\D.rt z H'}) (yu (x:=x) (ts:=pO (tC .non) (jI 3)) (W:=fun C' _ H'=>C' = .ref C/\D.rt .non H') rfl rfl I.ok k.ly hy qB
   (fun a=>jv (jo (i:=3) S.nd rfl (.inl k.lt) sD)) (fun C' m H' hW=>⟨⟨C,hW.1,qD,qo⟩,.non,rfl,hW.2⟩) dy
   (zf (i:=3) (Q:=D.rt) S.nd rfl (.inl k.lt) I (qr FR (lK.of hr _) k.lg hm' kp B' .nil I args ⟨v1,rfl,v2,rfl,v3,rfl,hx⟩ dg) fun z H' q=>⟨z,rfl,q⟩)) (fun fl s2 q=>?_) fun _ _ z=>z)
  cases fl with
  |next =>
   obtain⟨σ',H',J,z,rfl,q⟩:=q;exact jv (rO (kf (i:=3) rfl (.inl k.lt) dt.1 dt.2)) pins s2 _ H' D J ⟨z,rfl,q⟩
  |ret u=>exact q
  |brk=>exact q
  |cont=>exact q
 exact⟨_,j6.nox (gL (jo (i:=3) S.nd rfl (.inl k.lt) sD) hrest),rfl,hx⟩
end
section
variable {p:Pg}{P:Program}{w:World}{K:Frag}{mg:Str->Option Value}{base:Heap}
theorem C0 {fo:List Str}{n m iA iM:Nat}{dA dM:Df}{rb:Rb}{S x y qual a b c t:Str}{C cS fI f:Addr}{fd fdI:FuncData}{stI:Stmt}(hp:∀ d∈p.dfs,d.OkX p fo)(hi:p.In K mg)(hh:yR w K)(ih:uw p P w K mg base n)
  (hA:p.dfs[iA]? = some dA) (hM:p.dfs[iM]? = some dM) (pA:dA.ps=[a,b,c]) (pM:dM.ps.length=3) (bA:dA.body=rb.ask) (nA:dA.N.length=dM.N.length) (ScM:cL dM.N dM.ps (aE dM.st)) (hc:cR m (p.sc dM) y (bM dM.st)=some rb)
  (hg:(aE dM.st).names.lookup y=some .globalImplicit) (hm:mg y=some (.ref C)) (k:Bq K mg S x qual C cS fI fdI stI) (hd:(y==("__debug__" : Str))=false) (kA:z8 dA.st a b c t dM.nm y) (qB:nZ K C=true) (qo:eK K C C=true) (F:L2.sR K dA.nm dA.nm dA.st f fd) :
  lX P w K mg base sj (n+1) f fd dA.ps (C3 K dA.ps.length (p.run (n+1) iA)):=by
 obtain⟨f',fd',F',M'⟩:=hi.fn iM dM hM;have B':=F'.binds (hp dM (List.mem_of_getElem? hM)).bd;have FR:=wJ (m:=m) hp hi hh ih ScM F' hc hg hm k hd;rw[pA];refine asked kA F FR F'.kp B' M' hm qB qo _ fun vs H Q E hs=>?_
 obtain⟨ds,G,hlen,rs,r,hrun,kk⟩:=hs;have hl:ds.length=3:=hlen;have hv:vs.length=3:=by rw[<-rs.len];exact hl
 obtain⟨v1,v2,v3,rfl⟩:∃ v1 v2 v3,vs=[v1,v2,v3]:=by
  match vs,hv with
  |[v1,v2,v3],_=>exact⟨v1,v2,v3,rfl⟩
 refine⟨v1,v2,v3,rfl,ds,G,by rw[hl,pM],rs,?_⟩;have hfn:p.fns[iA]? = some ⟨dA.ps.length,dA.N.length,dA.body⟩:=by unfold Pg.fns;rw[List.getElem?_map,hA];rfl
 have hrun:Pc.ret (aC ⟨p.run n,p.gl,p.fuel⟩ dA.body (aF ds dA.N.length)) = .ok r:=(bE (F:=⟨dA.ps.length,dA.N.length,dA.body⟩) hfn (by rw[hl,pA];rfl)).symm.trans hrun;rw[bA,nA] at hrun;dsimp only;rcases AS rb hrun with e | ⟨j,e,rfl⟩
 ·rw[e];exact kk
 ·rw[e];intro H' sm;exact⟨j,rfl,rfl,kk .non H' [] sm .non (fun _ z=>(nomatch z)) fun _=>⟨bq,fun _ z=>(nomatch z)⟩⟩
end
abbrev loud (X:Cx):Cx:={X with calm:=false}
section
variable {P:Program}{w:World}{K:PySem.W.Frag}{mg:Str->Option Value}{base:Heap}{f:Addr}{fd:FuncData}{ps N:List Str}{sp:Sp}
theorem GY {CX:sP}{RP:Around->Prop}{x qual:Str}{st:Stmt}(F:L2.sR K x qual st f fd)(S:cL N ps (aE st))(hRP:∀ A,RP A->A.depth<recursionLimit)(len:∀ vs H Q E,sp vs H Q E->vs.length=ps.length)
  (hbody:∀(cdv:Value) (A:Around) (outer:List Env) (s:Shared) (H:Hp) (vs:List V) (Q:VK) (E:XK),RP A->sp vs H Q E ->
   ∃ t,j6 (loud (eW CX P w K mg base N qual (aE st) f cdv A outer s H E)) (bM st) t/\t {nx:=fun _ H'=>Q .non H',rt:=Q} (L2.start N vs) H):kH P w K mg base CX RP f fd ps sp:=by
 obtain⟨oc,od,kV,doc,pm,an,cdv,ct,osl,rfl,lk,hcd⟩:=F.ex;refine⟨len,fun A outer s H args us vs Q E hr e0 hb r hsp=>?_⟩;have hl:=len _ _ _ _ hsp;have KX:K.In s.heap:=e0.mod.kin.keeps fun b o e=>(e0.bs b o e).1
 have lim:s.heap.NoLimit:=e0.mod.nolimit.keeps fun b o e=>(e0.bs b o e).1
 have hkind:∀ y∈ps.zip us,(aE st).names.lookup y.1=some .local\/((aE st).names.lookup y.1=some .cell/\((cellsFrom (s.heap.objs.size+1) (aE st).names []).lookup y.1).isSome=true):=fun ⟨n,v⟩ hy=>by
  rcases S.par n (fw hy).1 with q | q
  ·exact .inl q
  ·exact .inr ⟨q,ig _ _ _ (.inl q)⟩
 refine codeAny_call_function (hRP A hr) (KX _ _ lk) rfl S.co S.gen rfl (i5 KX hcd) (hb _ _ _ _ ?_);refine wpAny_newFunctionEnv_cells S.kind hkind fun env he s1 x=>?_
 subst he;refine⟨lim.keeps x.toInCall.keep,codeAny_func ?_⟩;obtain⟨t,ht,hq⟩:=hbody cdv A outer s H vs Q E hr hsp;have e1:yh P w K mg base {A with handled:=none} outer s H:=⟨e0.frames,e0.mod,e0.bs,e0.bsz,e0.funs,e0.frf,e0.hok,e0.bare⟩;have J:Inv (eW CX P w K mg base N qual (aE st) f cdv {A with handled:=none} outer s H E) [] (L2.start N vs) H s1:=mw S rfl e1 hl r x;have I:Inv (loud (eW CX P w K mg base N qual (aE st) f cdv A outer s H E)) [] (L2.start N vs) H s1 :=
  ⟨⟨J.ok.mod,J.ok.kind,J.ok.glob,J.ok.blt,J.ok.above,J.ok.inj,J.ok.has,J.ok.cab,fun z=>(by cases z),Around.frames_deeper e0.frames,J.ok.stk,J.ok.exf,J.ok.bs,J.ok.bsz,J.ok.noex,J.ok.exfs,J.ok.funs,J.ok.frf⟩,J.os,J.bare,J.base,J.loc,J.cell,J.free,J.freeC,J.pin,J.hok,J.len⟩
 refine wpAny_mono (ht [] s1 (L2.start N vs) H _ I hq) (fun fl s' hs=>?_) fun e s' hs=>hs
 have fin:∀{σ':L2.St}{H':Hp}{v:V}{u:Value},Inv (loud (eW CX P w K mg base N qual (aE st) f cdv A outer s H E)) [] σ' H' s'->RelV v u->Q v H'->CE outer P w H s Q u s' :=
  fun {σ' H' v u} J rv q=>⟨v,H',J.os,J.bare,J.base,J.hok,rv,q⟩
 cases fl with
 |ret u =>
  obtain⟨v,σ',H',J,rv,q⟩:=hs;exact fin J rv q
 |next =>
  obtain⟨σ',H',J,q⟩:=hs;exact fin (v:=V.non) (u:=Value.none) J rfl q
 |brk =>
  obtain⟨_,_,_,q⟩:=hs;exact False.elim q
 |cont =>
  obtain⟨_,_,_,q⟩:=hs;exact False.elim q
end
section
variable {X:Cx}
theorem Bv {RP:Around->Prop}{f:Addr}{fd:FuncData}{ps:List Str}{sp:Sp}{y:Str}{p pos:Pos}{e:Expr}{es:List Expr}{t:TA}(F:kH X.prog X.w X.K X.mg X.base sj RP f fd ps sp)(hr:RP X.A)(hg:Gl X y)(hm:X.mg y=some (.ref f))(hk:PySem.W.keepIn X.K (.ref f)=true)(hb:Binds X.K fd ps [])
  (ha:PA X (e::es) t) (hdb:(y==("__debug__" : Str))=false:=by decide) (he:starEach (e::es) X.env=(false,eval e X.env)::starEach es X.env:=by rfl) (hpl:(backTo pos (starEach es X.env)).any (·.1)=false:=by rfl) :
  PE X (.Call (.Name y p) (e::es) [] pos) (fun σ H Q=>t σ H fun vs H1=>sp vs H1 Q E0):=by
 intro pins s σ H Q I h;refine wpAny_Call_Name_kw (hU I hg hm ?_ hdb);refine i7 (h₀:=X.base) I.ok.mod.kin hk (wpAny_mono (ha pos pins s σ H _ I h) (fun us s1 ⟨vs,H1,I1,r,q⟩=>⟨I1.kIn,?_⟩) fun _ _ z=>z) he hpl;have hl:us.length=ps.length:=by rw[<-r.length];exact F.len _ _ _ _ q
 refine wpAny_call (codeAny_mono (F.run X.A X.stack s1 H1 ⟨us,[]⟩ us vs Q _ hr I1.env0 (by have:=hb s1 us I1.kIn (by simpa using hl);simpa using this) r q) fun r s' hq=>?_);cases r with
 |error e=>exact (show False from hq).elim
 |ok fl =>
  cases fl with
  |ret u=>exact I1.after hq
  |next=>exact False.elim hq
  |brk=>exact False.elim hq
  |cont=>exact False.elim hq
end
noncomputable def bJ.asgs:bJ->Bool
 |.nil=>true
 | .cons (.asg (.nm _) _ _) r=>r.asgs
 |_=>false
theorem AU {T:Tb}{i:Nat}{e:Ex}{mv:Bool}{env:En}{d:D}{fr:Bool}:bI T (.asg (.nm i) e mv) env≠.rt d fr:=by
 rw[bI];cases ev T e env with
 |ok p =>
  rw[eZ];show (if i<env.length then (match p.2 with
   |.mv []=>Fl.nx (put env i p.1 .own)
   |.mv R=>if mv then (if bV env R then .nx (put (kill R env) i p.1 .own) else .bad) else .nx (put env i p.1 (.sh (R.filter (· != i))))
   |.sh R=>.nx (put env i p.1 (.sh (R.filter (· != i))))) else .bad)≠_
  intro h
  repeat' (split at h)
  all_goals cases h
 |exc x=>intro h;cases h
 |bad=>intro h;cases h
theorem qb {T:Tb}:∀(cs:bJ) {env:En}{d:D}{fr:Bool},cs.asgs=true->aC T cs env≠.rt d fr
 |.nil,env,d,fr,_,h=>by rw[aC] at h;cases h
 | .cons s r,env,d,fr,hc,h=>by
  rw[aC] at h;unfold bJ.asgs at hc;split at hc
  ·rename_i heq;cases heq
  ·rename_i i e mv r' heq;cases heq;cases hs:bI T (.asg (.nm i) e mv) env with
   |nx e1 =>
    rw[hs] at h;exact qb r hc h
   |rt d1 f1=>exact AU hs
   |bk e1=>rw[hs] at h;cases h
   |ct e1=>rw[hs] at h;cases h
   |xc x e1=>rw[hs] at h;cases h
   |bad=>rw[hs] at h;cases h
  ·cases hc
noncomputable def Rb.rfd:Rb->bJ
 | .fin (.cons (.ret e) .nil)=>.cons (.expr e) (.cons (.ret (.cst (.bl false))) .nil)
 |.fin cs=>cs
 |.seq cs c n r=>cs.app (.cons (.ite c (.cons (.ret (.cst (.bl true))) .nil) .nil) r.rfd)
noncomputable def Rb.plain:Rb->Bool
 | .fin (.cons (.ret _) .nil)=>true
 |.fin _=>false
 |.seq cs _ n r=>cs.asgs&&n==0&&r.plain
theorem Af {T:Tb}:∀(rb:Rb) {env:En}{r:D×Bool},rb.plain=true->Pc.ret (aC T rb.rfd env) = .ok r->(∃ q,uk T rb env=some (.inl q)/\r=(.bl false,true))\/(uk T rb env=some (.inr 0)/\r=(.bl true,true))
 | .fin cs,env,r,hp,h=>by
  unfold Rb.plain at hp;split at hp
  ·rename_i e heq;cases heq;unfold Rb.rfd at h;unfold uk;rw[aC,bI] at h;rw[aC,bI];cases hc:ev T e env with
   |ok p =>
    rw[hc,eZ] at h;rw[eZ];have h:Pc.ret (aC T (.cons (.ret (.cst (.bl false))) .nil) env) = .ok r:=h;rw[aC,bI,ev,eZ] at h;cases h;exact .inl ⟨_,rfl,rfl⟩
   |exc x=>rw[hc] at h;cases h
   |bad=>rw[hc] at h;cases h
  ·cases hp
  ·rename_i heq;cases heq
 | .seq cs c n rb,env,r,hp,h=>by
  unfold Rb.plain at hp;rw[ai,ai,gu] at hp;obtain⟨⟨ha,rfl⟩,hp⟩:=hp;unfold Rb.rfd at h;rw[oP] at h;unfold uk;cases hq:aC T cs env with
  |rt d fr=>exact absurd hq (qb cs ha)
  |nx e =>
   rw[hq] at h;have h:Pc.ret (aC T (.cons (.ite c (.cons (.ret (.cst (.bl true))) .nil) .nil) rb.rfd) e) = .ok r:=h;rw[aC,bI] at h;dsimp only;cases hc:ev T c e with
   |ok p =>
    rw[hc] at h;dsimp only;cases ht:truth p.1 with
    |none =>
     rw[eZ,ht] at h;cases h
    |some b =>
     rw[eZ,ht] at h;cases b with
     |true =>
      dsimp only at h;rw[aC,bI,ev,eZ] at h;cases h;exact .inr ⟨rfl,rfl⟩
     |false =>
      dsimp only at h;rw[aC] at h;exact Af rb hp h
   |exc x=>rw[hc] at h;cases h
   |bad=>rw[hc] at h;cases h
  |bk e=>rw[hq] at h;cases h
  |ct e=>rw[hq] at h;cases h
  |xc x e=>rw[hq] at h;cases h
  |bad=>rw[hq] at h;cases h
end Pc
end
section
namespace Pc
open PySem
theorem oz {f:D->Rs (Option (D×Rt))}{g:D->D×Rt}:∀{l:List D},(∀ d∈l,f d = .ok (some (g d)))->dY f l = .ok (l.map g)
 |[],_=>rfl
 | d::l,h=>by
  simp only[List.map_cons,dY];rw[h d ae,oz fun j hj=>h j (aa _ hj)];rfl
theorem lq {T:Tb}{own:Nat}{pick:List Nat}{t:pE}{it:sO}{e:Ex}{env:En}{l:List D}{R:List Nat}{g:D->D×Rt}(hit:fS T it env = .ok (l,R))(hl:l.length<=lim)(hg:∀ d∈l,bH (aX [] t d (aL env own pick)) (nX T .none) (ev T e) = .ok (some (g d)))(hf:∀ d∈l,((g d).1.flat || fJ (g d).2)=true) :
  ev T (.comp own pick t it .none e) env = .ok (.lst (l.map fun d=>(g d).1),.mv []):=by
 rw[ev,hit,aA,oz hg,aA];dsimp only;rw[if_pos hl,if_pos]
 ·rw[bg];rfl
 ·rw[List.all_map,bw];exact hf
theorem cZ {l:List D}(h:D.flats l=true)(R:List Nat):kJ (.lst l) R = .mv []:=by
 unfold kJ;rw[if_pos];exact h
theorem iE {T:Tb}{e:Ex}{env:En}{d:D}(h:ev T e env = .ok (d,.mv [])):ret (aC T (.cons (.ret e) .nil) env) = .ok (d,true):=by
 rw[aC,bI,h,aS];rfl
theorem cT {n:Nat}(h:n<=1000):n<=lim:=br h (by decide)
theorem nM (T:Tb)(env:En)(e:Ex)(j:Int)(r:Rt)(he:ev T e env = .ok (.int j,r))(h1:gM j=true):fS T (.rng1 e) env = .ok (bB 0 1 j.toNat,[]):=by
 rw[fS,he,aA];show (if gM j=true then Rs.ok (bB 0 1 j.toNat,[]) else .bad)=_;rw[if_pos h1]
theorem qF {n:Nat}(h:n<=1000):gM (n:Int)=true:=by
 unfold gM;exact cq ⟨Int.le_trans (by decide) (fv n),Int.lt_of_le_of_lt (Int.ofNat_le.mpr h) (by decide)⟩
def cB (s:Slot):Prop:=s=none\/(∃ d,s=some (d,.own))\/(∃ d,s=some (d,.sh []))\/∃ d,s=some (d,.lk)
def Tame (env:En):Prop:=∀ s∈env,cB s
theorem aH:cB none:=.inl rfl
theorem aB (d:D):cB (some (d,.own)):=.inr (.inl ⟨d,rfl⟩)
theorem aJ (d:D):cB (some (d,.sh [])):=.inr (.inr (.inl ⟨d,rfl⟩))
theorem se (d:D):cB (some (d,.lk)):=.inr (.inr (.inr ⟨d,rfl⟩))
theorem Tame.nil:Tame []:=fun _ h=>(nomatch h)
theorem Tame.cons {s:Slot}{e:En}(h:cB s)(t:Tame e):Tame (s::e):=fun x hx=>by
 rcases dw.mp hx with rfl | hx
 ·exact h
 ·exact t x hx
theorem Tame.set {e:En}{s:Slot}(t:Tame e)(h:cB s)(i:Nat):Tame (e.set i s):=fun x hx=>by
 rcases i9 hx with q | q
 ·exact t x q
 ·rw[q];exact h
theorem gJ {env:En}(h:Tame env)(i:Nat)(d:D)(t:Tg):put env i d t=env.set i (some (d,t)):=by
 unfold put;have:env.map (fun (s:Slot)=>s.map fun (p:D×Tg)=>(p.1,p.2.drop i))=env:=by
  conv=>rhs;rw[<-List.map_id env]
  refine fi fun s hs=>?_
  rcases h s hs with rfl | ⟨d,rfl⟩ | ⟨d,rfl⟩ | ⟨d,rfl⟩<;>rfl
 rw[this]
theorem xX {env:En}(h:Tame env)(R:List Nat):kill R env=env.mapIdx fun i s=>if R.contains i then none else s:=by
 unfold kill;apply List.ext_getElem?;intro i;rw[List.getElem?_mapIdx,List.getElem?_mapIdx];cases q:env[i]? with
 |none=>rfl
 |some s =>
  rcases h s (List.mem_of_getElem? q) with rfl | ⟨d,rfl⟩ | ⟨d,rfl⟩ | ⟨d,rfl⟩
  ·simp
  ·simp[kr]
  ·simp[kr]
  ·simp[kr]
theorem jY {env:En}(h:Tame env)(x:Nat)(s:Slot):(kill [x] env).set x s=env.set x s:=by
 rw[xX h];apply List.ext_getElem?;intro i;by_cases hi:i=x
 ·subst hi;by_cases hl:i<env.length
  ·rw[List.getElem?_set_self (by simpa using hl),List.getElem?_set_self hl]
  ·rw[List.getElem?_eq_none (by simp;omega),List.getElem?_eq_none (by simp;omega)]
 ·rw[List.getElem?_set_ne (cm hi),List.getElem?_set_ne (cm hi),List.getElem?_mapIdx];cases q:env[i]? with
  |none=>rfl
  |some s=>simp[hi]
section
variable {T:Tb}{env:En}
theorem bT {i:Nat}{e:Ex}{d:D}(ht:Tame env)(hi:i<env.length)(h:ev T e env = .ok (d,.mv [])):bI T (.asg (.nm i) e false) env = .nx (env.set i (some (d,.own))):=by
 rw[bI,h,aS];show (if i<env.length then Fl.nx (put env i d .own) else .bad)=_;rw[if_pos hi,gJ ht]
theorem fM {i:Nat}{d:D}(ht:Tame env)(hi:i<env.length):aX [] (.nm i) d env=some (env.set i (some (d,cI d []))):=by
 show (if i<env.length then some (put env i d (cI d [])) else none)=_;rw[if_pos hi,gJ ht]
theorem cV {i:Nat}{d:D}(h:env[i]? = some (some (d,.own)))(hf:d.flat=false):ev T (.var i) env = .ok (d,.mv [i]):=by
 rw[ev,h];dsimp only;rw[hf];rfl
theorem aI {i:Nat}{d:D}{t:Tg}(h:env[i]? = some (some (d,t)))(hf:d.flat=true):ev T (.var i) env = .ok (d,.mv []):=by
 rw[ev,h];dsimp only;rw[if_pos hf]
theorem CI {i:Nat}{d:D}{t:Tg}(h:env[i]? = some (some (d,t))):∃ R,ev T (.var i) env = .ok (d,R):=by
 rw[ev,h];exact⟨_,rfl⟩
theorem jC {x:Nat}{k e:Ex}{xs:List D}{d:D}{l:Int}{m:Nat}{R':Rt}(ht:Tame env)(hx:env[x]? = some (some (.lst xs,.own)))(hk:ev T k env = .ok (.int l,R'))(hm:Pc.nt xs.length l=some m)(h:ev T e env = .ok (d,.mv []))(hl:xs.length<=lim) :
  bI T (.setix x .none k e) env = .nx (env.set x (some (.lst (xs.set m d),.own))):=by
 have ho:ownAt env x=some (.lst xs):=by unfold ownAt;rw[hx]
 have hll:(xs.set m d).length<=lim:=by rw[aq];exact hl
 rw[bI,ho];simp only[h,aS,pK,D.at1,hk,hm,cH,fA,Option.map_some,List.append_nil,List.nodup_nil,decide_true,bV,List.all_nil,List.contains_nil,Bool.not_false,Bool.and_self,hll,if_true,D.set1,Bool.true_and];rw[jY ht]
theorem ite_ff {c:Ex}{a:bJ}{R:Rt}(h:ev T c env = .ok (.bl false,R)):bI T (.ite c a .nil) env = .nx env:=by
 rw[bI,h,aS];rfl
theorem Bb {a b:Ex}{R R':Rt}(h:ev T a env = .ok (.bl false,R))(h':ev T b env = .ok (.bl false,R')):ev T (.or a b) env = .ok (.bl false,R'):=by
 rw[ev,h,aA,h']
theorem DU {a:Ex}{R:Rt}(h:ev T a env = .ok (.bl true,R)):ev T (.not a) env = .ok (.bl false,.mv []):=by
 rw[ev,h,aA];rfl
theorem Bj {a b:Ex}{d:D}{R R':Rt}(h:ev T a env = .ok (d,R))(h':ev T b env = .ok (d,R'))(he:D.eqf 40 d d=some true):ev T (.cmp .NotEq a b) env = .ok (.bl false,.mv []):=by
 rw[ev,h,aA,h',aA];show (iG ((D.eqf 40 d d).map (!·))).bind _=_;rw[he];rfl
theorem zC {x:Nat}{d:D}(hx:env[x]? = some (some (d,.own))):lock [x] env=env.set x (some (d,.lk)):=by
 unfold lock;apply List.ext_getElem?;intro i;rw[List.getElem?_mapIdx];by_cases hi:i=x
 ·subst hi;have hl:i<env.length:=(List.getElem?_eq_some_iff.mp hx).1;rw[List.getElem?_set_self hl,hx];simp
 ·rw[List.getElem?_set_ne (cm hi)];cases q:env[i]? with
  |none=>rfl
  |some s =>
   cases s with
   |none=>rfl
   |some p =>
    obtain⟨d,t⟩:=p;cases t with
    |own=>simp[hi]
    |lk=>rfl
    |sh R=>rfl
theorem vK {x:Nat}{d d':D}{e:En}(hx:env[x]? = some (some (d,.own)))(he:e[x]? = some (some (d',.lk))):unlock [x] env e=e.set x (some (d',.own)):=by
 unfold unlock;apply List.ext_getElem?;intro i;rw[List.getElem?_mapIdx];by_cases hi:i=x
 ·subst hi;have hl:i<e.length:=(List.getElem?_eq_some_iff.mp he).1;rw[List.getElem?_set_self hl,he];simp[hx]
 ·rw[List.getElem?_set_ne (cm hi)];cases q:e[i]? with
  |none=>rfl
  |some s =>
   cases s with
   |none=>rfl
   |some p =>
    obtain⟨d,t⟩:=p;cases t with
    |own=>rfl
    |lk =>
     simp only[Option.map_some];split
     ·simp[hi]
     ·rfl
    |sh R=>rfl
theorem BX {t:pE}{it:sO}{b:bJ}{e:En}{l:List D}{x:Nat}{d d':D}(hx:env[x]? = some (some (d,.own)))(hit:fS T it env = .ok (l,[x]))(h:bC t [x] (aC T b) l (env.set x (some (d,.lk))) = .nx e)(he:e[x]? = some (some (d',.lk))):bI T (.forr t it b) env = .nx (e.set x (some (d',.own))):=by
 rw[bI,hit,aS];dsimp only;rw[zC hx,h];dsimp only;rw[vK hx he]
theorem iV {i j:Nat}{x y:D}{R:List Nat}(ht:Tame env)(hi:i<env.length)(hj:j<env.length)(fx:x.flat=true)(fy:y.flat=true):aX R (.tp [i,j]) (.tup [x,y]) env=some ((env.set i (some (x,.own))).set j (some (y,.own))):=by
 show bindM (fun d=>cI d R) [i,j] [x,y] env=_;have tx:cI x R = .own:=by unfold cI;rw[if_pos fx]
 have ty:cI y R = .own:=by unfold cI;rw[if_pos fy]
 simp only[bindM,hi,if_true,tx,ty];rw[gJ ht,if_pos (by rw[aq];exact hj),gJ (ht.set (aB x) i)]
end
end Pc
end
section
namespace Pc
end Pc
namespace Pc.Sm
open PySem Pc
theorem xW (p:D×Rt):List.map (fun x:D×Rt=>x.1) [p]=[p.1]:=rfl
theorem map2 (p q:D×Rt):List.map (fun x:D×Rt=>x.1) [p,q]=[p.1,q.1]:=rfl
theorem me {T:Tb}{f:Nat}{e1:Ex}{env:En}{d1 r:D}{R1:Rt}(h1:ev T e1 env = .ok (d1,R1))(h:T.cl f [d1] = .ok (r,true)):ev T (.call f (.cons e1 .nil)) env = .ok (r,.mv []):=by
 have:bQ T (.cons e1 .nil) env = .ok [(d1,R1)]:=by
  rw[bQ,h1,aA];rfl
 rw[ev,this,aA,xW,h,aA];rfl
theorem bL {T:Tb}{f:Nat}{e1 e2:Ex}{env:En}{d1 d2 r:D}{R1 R2:Rt}(h1:ev T e1 env = .ok (d1,R1))(h2:ev T e2 env = .ok (d2,R2))(h:T.cl f [d1,d2] = .ok (r,true)):ev T (.call f (.cons e1 (.cons e2 .nil))) env = .ok (r,.mv []):=by
 have:bQ T (.cons e1 (.cons e2 .nil)) env = .ok [(d1,R1),(d2,R2)]:=by
  rw[bQ,h1,aA,bQ,h2,aA];rfl
 rw[ev,this,aA,map2,h,aA];rfl
end Pc.Sm
end
section
namespace Fl64
def Gr (l:List Nat):Prop:=∀ g∈l,g<64
theorem Gr.nil:Gr []:=fun _ h=>(nomatch h)
theorem Gr.cons {g:Nat}{l:List Nat}(h:g<64)(t:Gr l):Gr (g::l):=fun x hx=>by
 rcases dw.mp hx with rfl | hx
 ·exact h
 ·exact t x hx
theorem Gr.append {l m:List Nat}(a:Gr l)(b:Gr m):Gr (l++m):=fun x hx=>(List.mem_append.mp hx).elim (a x) (b x)
noncomputable def gU (x w:Nat)(l:List Nat):Nat:=l.foldl (fun w g=>tm w x^^^g) w
noncomputable abbrev cG (x:Nat)(l:List Nat):Nat:=gU x 0 l
theorem lU (x w g:Nat)(l:List Nat):gU x w (g::l)=gU x (tm w x^^^g) l:=rfl
theorem vQ (x w:Nat)(l m:List Nat):gU x w (l++m)=gU x (gU x w l) m:=by unfold gU;rw[List.foldl_append]
theorem eQ {x w:Nat}(hx:x<64)(hw:w<64):∀{l:List Nat},Gr l->gU x w l<64:=by
 intro l
 induction l generalizing w with
 |nil=>exact fun _=>hw
 |cons g r ih=>exact fun h=>ih (aV (bF hw hx) (h g ae)) fun z hz=>h z (aa _ hz)
noncomputable def pw (x:Nat):Nat->Nat
 |0=>1
 |n+1=>tm (pw x n) x
theorem bD {x:Nat}(hx:x<64):∀ n,pw x n<64
 |0=>by show 1<64;decide
 |n+1=>bF (bD hx n) hx
theorem iP {x w:Nat}(hx:x<64)(hw:w<64){l:List Nat}(h:Gr l):gU x w l=tm w (pw x l.length)^^^cG x l:=by
 induction l generalizing w with
 |nil=>simp[gU,pw,my hw]
 |cons g r ih =>
  have g64:=h g ae;have hr:Gr r:=fun z hz=>h z (aa _ hz)
  have p64:=bD hx r.length;rw[lU,ih (aV (bF hw hx) g64) hr];show _=tm w (pw x (r.length+1))^^^gU x (tm 0 x^^^g) r;rw[cA hx,cx,ih g64 hr,kg (bF hw hx) g64 p64,dE hw hx p64,dQ hx p64,bt];rfl
noncomputable def fP (a b:List Nat):List Nat:=List.zipWith (· ^^^ ·) a b
theorem A9 {a b:List Nat}(h:a.length=b.length):(fP a b).length=a.length:=by simp[fP,h]
theorem wD:∀{a b:List Nat},Gr a->Gr b->Gr (fP a b)
 |[],_,_,_=>Gr.nil
 |_::_,[],_,_=>by simpa[fP] using Gr.nil
 | x::a,y::b,ha,hb=>by
  show Gr ((x^^^y)::fP a b);exact .cons (aV (ha x ae) (hb y ae)) (wD (fun z hz=>ha z (aa _ hz)) fun z hz=>hb z (aa _ hz))
theorem Je (a b c d:Nat):(a^^^b)^^^(c^^^d)=(a^^^c)^^^(b^^^d):=by
 rw[bt,bt,<-bt b,Nat.xor_comm b c,bt c]
theorem wK {x:Nat}(hx:x<64):∀{a b:List Nat},a.length=b.length->Gr a->Gr b->∀{u v:Nat},u<64->v<64->gU x (u^^^v) (fP a b)=gU x u a^^^gU x v b
 |[],[],_,_,_,_,_,_,_=>rfl
 | p::a,q::b,hl,ha,hb,u,v,hu,hv=>by
  have p64:=ha p ae;have q64:=hb q ae;show gU x (tm (u^^^v) x^^^(p^^^q)) (fP a b)=gU x (tm u x^^^p) a^^^gU x (tm v x^^^q) b;rw[kg hu hv hx,Je];exact wK hx (by simpa using hl) (fun z hz=>ha z (List.mem_cons_of_mem _ hz)) (fun z hz=>hb z (List.mem_cons_of_mem _ hz)) (aV (bF hu hx) p64) (aV (bF hv hx) q64)
 |[],_::_,h,_,_,_,_,_,_=>by simp at h
 |_::_,[],h,_,_,_,_,_,_=>by simp at h
theorem DA {x:Nat}(hx:x<64){a b:List Nat}(h:a.length=b.length)(ha:Gr a)(hb:Gr b):cG x (fP a b)=cG x a^^^cG x b:=wK (u:=0) (v:=0) hx h ha hb (by decide) (by decide)
theorem mP (x:Nat)(hx:x<64):∀ n,cG x (List.replicate n 0)=0
 |0=>rfl
 | n+1=>by
  show gU x (tm 0 x^^^0) (List.replicate n 0)=0;rw[cA hx];exact mP x hx n
theorem jU (n:Nat):Gr (List.replicate n 0):=fun g hg=>by rw[List.eq_of_mem_replicate hg];decide
theorem Ai {x:Nat}(hx:x<64)(n:Nat)(l:List Nat):cG x (List.replicate n 0++l)=cG x l:=by
 show gU x 0 _=_;rw[vQ];show gU x (cG x (List.replicate n 0)) l=_;rw[mP x hx]
noncomputable def mulR (f:Nat)(l:List Nat):List Nat:=l.map fun g=>tm f g
theorem nE {f:Nat}(hf:f<64){l:List Nat}(h:Gr l):Gr (mulR f l):=fun g hg=>by
 obtain⟨y,hy,rfl⟩:=List.mem_map.mp hg;exact bF hf (h y hy)
theorem Cj {x f:Nat}(hx:x<64)(hf:f<64){l:List Nat}(h:Gr l):∀{w:Nat},w<64->gU x (tm f w) (mulR f l)=tm f (gU x w l):=by
 induction l with
 |nil=>exact fun _=>rfl
 |cons g r ih =>
  intro w hw;have g64:=h g ae;show gU x (tm (tm f w) x^^^tm f g) (mulR f r)=tm f (gU x (tm w x^^^g) r);rw[dE hf hw hx,<-jZ,ih (fun z hz=>h z (aa _ hz)) (aV (bF hw hx) g64)]
theorem Du {x f:Nat}(hx:x<64)(hf:f<64){l:List Nat}(h:Gr l):cG x (mulR f l)=tm f (cG x l):=by
 have:=Cj hx hf h (w:=0) (by decide);rw[gY] at this;exact this
theorem eF {a b:Nat}(ha:a<64)(hb:b<64)(h:tm a b=0):a=0\/b=0:=by
 have:=all2 (f:=fun a b=>decide (tm a b=0->a=0\/b=0)) (by decide +kernel) ha hb;exact dz this h
theorem cJ {a b:Nat}(h:a^^^b=0):a=b:=by
 have:(a^^^b)^^^b=0^^^b:=by rw[h]
 rwa [bt,fu,ij,cx] at this
noncomputable def zg (a w:Nat):List Nat->List Nat
 |[]=>[]
 |g::r=>w::zg a (tm w a^^^g) r
theorem wC (a:Nat):∀(w:Nat) (l:List Nat),(zg a w l).length=l.length
 |_,[]=>rfl
 |w,g::r=>by rw[zg,cw,wC,cw]
theorem uS {a:Nat}(ha:a<64):∀{w:Nat}{l:List Nat},w<64->Gr l->Gr (zg a w l)
 |_,[],_,_=>Gr.nil
 |w,g::r,hw,h=>.cons hw (uS ha (aV (bF hw ha) (h g ae)) fun z hz=>h z (aa _ hz))
theorem uc {a b c:Nat}(ha:a<64)(hb:b<64)(hc:c<64):tm (tm a b) c=tm (tm a c) b:=by rw[dE ha hb hc,dQ hb hc,dE ha hc hb]
theorem wY {x a:Nat}(hx:x<64)(ha:a<64):∀{l:List Nat}{u w:Nat},Gr l->u<64->w<64->gU x (tm u (x^^^a)^^^w) l=tm (gU x u (zg a w l)) (x^^^a)^^^gU a w l
 |[],u,w,_,_,_=>rfl
 | g::r,u,w,h,hu,hw=>by
  have g64:=h g ae;have xa:=aV hx ha;have ux:=bF hu hx;rw[zg,lU,lU,lU];have e:tm (tm u (x^^^a)^^^w) x^^^g=tm (tm u x^^^w) (x^^^a)^^^(tm w a^^^g):=by
   rw[kg (bF hu xa) hw hx,kg ux hw xa,uc hu xa hx,jZ w x a];generalize tm (tm u x) (x^^^a)=p;generalize tm w x=q;generalize tm w a=s;rw[bt,bt,bt,<-bt s s,fu,cx]
  rw[e];exact wY hx ha (fun z hz=>h z (aa _ hz)) (aV ux hw) (aV (bF hw ha) g64)
theorem BU {x a:Nat}(hx:x<64)(ha:a<64){g:Nat}{r:List Nat}(h:Gr (g::r)):cG x (g::r)=tm (cG x (zg a g r)) (x^^^a)^^^cG a (g::r):=by
 have g64:=h g ae;have hr:Gr r:=fun z hz=>h z (aa _ hz)
 have:=wY hx ha (u:=0) (w:=g) hr (by decide) g64;rw[cA (aV hx ha),cx] at this;show gU x (tm 0 x^^^g) r=tm (gU x 0 (zg a g r)) (x^^^a)^^^gU a (tm 0 a^^^g) r;rw[cA hx,cA ha,cx];exact this
theorem uH {a:Nat}(ha:a<64):∀{g:Nat}{r:List Nat},Gr (g::r)->(∀ z∈zg a g r,z=0)->cG a (g::r)=0->∀ z∈g::r,z=0
 | g,[],h,_,hw,z,hz=>by
  have:cG a [g]=g:=by show tm 0 a^^^g=g;rw[cA ha,cx]
  rw[this] at hw;have:=List.mem_singleton.mp hz;rw[this,hw]
 | g,g'::r,h,hq,hw,z,hz=>by
  have g0:g=0:=hq g (by rw[zg];exact ae);subst g0;rcases dw.mp hz with rfl | hz
  ·rfl
  have e:tm 0 a^^^g'=g':=by rw[cA ha,cx]
  refine uH ha (fun z hz=>h z (aa _ hz)) (fun z hz=>hq z ?_) ?_ z hz
  ·rw[zg,e];exact aa _ hz
  ·have:cG a (0::g'::r)=cG a (g'::r):=Ai ha 1 (g'::r);rw[<-this];exact hw
theorem oX:∀{xs l:List Nat},xs.Nodup->Gr xs->Gr l->l.length<=xs.length->(∀ x∈xs,cG x l=0)->∀ z∈l,z=0
 |_,[],_,_,_,_,_,z,hz=>(nomatch hz)
 |[],g::r,_,_,_,hl,_,_,_=>by simp at hl
 | a::xs,g::r,hn,hx,hl,hle,hw,z,hz=>by
  have a64:=hx a ae;have g64:=hl g ae;have hr:Gr r:=fun z hz=>hl z (aa _ hz)
  have hn':=jk.mp hn;have wa:=hw a ae;refine uH a64 hl (oX hn'.2 (fun z hz=>hx z (aa _ hz)) (uS a64 g64 hr) ?_ fun x hxm=>?_) wa z hz
  ·rw[wC];simpa using hle
  ·have x64:=hx x (aa _ hxm);have wx:=hw x (aa _ hxm);rw[BU x64 a64 hl,wa,ij] at wx;rcases eF (eQ x64 (by decide) (uS a64 g64 hr)) (aV x64 a64) wx with q | q
   ·exact q
   ·have:=cJ q;subst this;exact absurd hxm hn'.1
theorem rB {x:Nat}(hx:x<64)(m:Nat):∀ n,pw x (m+n)=tm (pw x m) (pw x n)
 |0=>by show pw x m=tm (pw x m) 1;rw[my (bD hx m)]
 | n+1=>by
  show tm (pw x (m+n)) x=tm (pw x m) (tm (pw x n) x);rw[rB hx m n,dE (bD hx m) (bD hx n) hx]
theorem E5 {x:Nat}(hx:x<64):pw x 1=x:=pq hx
theorem A1 {x:Nat}(hx:x<64):∀ n,pw (tm x x) n=pw x (2*n)
 |0=>rfl
 | n+1=>by
  show tm (pw (tm x x) n) (tm x x)=pw x (2*n+2);rw[A1 hx n,rB hx (2*n) 2];congr 1;show tm x x=tm (tm 1 x) x;rw[pq hx]
noncomputable def Jh:Nat->Nat->Nat->Nat->Nat
 |0,p,_,_=>p
 |n+1,p,s,l=>if l=0 then p else Jh n (if l%2=1 then tm p s else p) (tm s s) (l / 2)
theorem vq:∀(n p s l:Nat),l<2 ^ n->p<64->s<64->Jh n p s l=tm p (pw s l)
 | 0,p,s,l,hl,hp,_=>by
  have:l=0:=by simpa using hl
  subst this;show p=tm p 1;rw[my hp]
 | n+1,p,s,l,hl,hp,hs=>by
  unfold Jh;by_cases h:l=0
  ·subst h;rw[if_pos rfl];show p=tm p 1;rw[my hp]
  ·rw[if_neg h];have ss:=bF hs hs;by_cases o:l%2=1
   ·rw[if_pos o,vq n _ _ _ (by rw[jh] at hl;omega) (bF hp hs) ss,A1 hs,dE hp hs (bD hs _)];congr 1;have e:l=1+2*(l / 2):=by omega
    conv=>rhs;rw[e,rB hs,E5 hs]
   ·rw[if_neg o,vq n _ _ _ (by rw[jh] at hl;omega) hp ss,A1 hs];have e:l=2*(l / 2):=by omega
    rw[<-e]
noncomputable def bS (c:Nat):List Nat:=(List.range' 1 c).map (pw 2)
theorem kQ (c:Nat):Gr (bS c):=fun g hg=>by
 obtain⟨k,_,rfl⟩:=List.mem_map.mp hg;exact bD (by decide) k
theorem jR (c:Nat):(bS c).length=c:=by simp[bS]
theorem xq {x:Nat}(hx:x<64):∀{l:List Nat}{p g:Nat},Gr l->g<64->p<l.length->∀{w:Nat},w<64->gU x w (l.set p (l.getD p 0^^^g))=gU x w l^^^tm g (pw x (l.length - 1 - p))
 |[],p,g,_,_,hp,_,_=>by simp at hp
 | a::l,0,g,hl,hg,_,w,hw=>by
  have a64:=hl a ae;have hr:Gr l:=fun z hz=>hl z (aa _ hz)
  show gU x (tm w x^^^(a^^^g)) l=gU x (tm w x^^^a) l^^^tm g (pw x (l.length+1 - 1 - 0));rw[<-bt,iP hx (aV (aV (bF hw hx) a64) hg) hr,iP hx (aV (bF hw hx) a64) hr,kg (aV (bF hw hx) a64) hg (bD hx _)];rw[bt,bt,Nat.xor_comm (tm g _)];rfl
 | a::l,p+1,g,hl,hg,hp,w,hw=>by
  have a64:=hl a ae;have hr:Gr l:=fun z hz=>hl z (aa _ hz)
  show gU x (tm w x^^^a) (l.set p (l.getD p 0^^^g))=gU x (tm w x^^^a) l^^^tm g (pw x (l.length+1 - 1 - (p+1)));rw[xq hx hr hg (by simpa using hp) (aV (bF hw hx) a64)];congr 3;omega
theorem dU {l:List Nat}(h:Gr l)(p:Nat):l.getD p 0<64:=by
 rw[List.getD_eq_getElem?_getD];cases q:l[p]? with
 |none=>decide
 |some g=>exact h g (List.mem_of_getElem? q)
theorem mr {l:List Nat}(h:Gr l){p g:Nat}(hg:g<64):Gr (l.set p (l.getD p 0^^^g)):=fun z hz=>by
 rcases i9 hz with q | q
 ·exact h z q
 ·rw[q];exact aV (dU h p) hg
noncomputable def eT (l:List Nat)(p:Nat):List Nat->List Nat
 |[]=>l
 |g::r=>eT (l.set p (l.getD p 0^^^g)) (p+1) r
theorem fC:∀(m:List Nat) (l:List Nat) (p:Nat),(eT l p m).length=l.length
 |[],_,_=>rfl
 |g::r,l,p=>by rw[eT,fC r,aq]
theorem jQ:∀{m l:List Nat}{p:Nat},Gr l->Gr m->Gr (eT l p m)
 |[],_,_,h,_=>h
 | g::r,l,p,h,hm=>by
  rw[eT];exact jQ (mr h (hm g ae)) fun z hz=>hm z (aa _ hz)
theorem qG {x:Nat}(hx:x<64):∀{m l:List Nat}{p:Nat},Gr l->Gr m->p+m.length<=l.length->cG x (eT l p m)=cG x l^^^tm (cG x m) (pw x (l.length - p - m.length))
 | [],l,p,_,_,_=>by
  show cG x l=cG x l^^^tm 0 _;rw[cA (bD hx _),ij]
 | g::r,l,p,h,hm,hp=>by
  have g64:=hm g ae;have hr:Gr r:=fun z hz=>hm z (aa _ hz)
  have hp':p+(r.length+1)<=l.length:=by simpa using hp
  rw[eT,qG hx (mr h g64) hr (by rw[aq];omega),aq];show gU x 0 (l.set p (l.getD p 0^^^g))^^^_=_;rw[xq hx h g64 (by omega) (by decide),bt];congr 1;have e1:cG x (g::r)=tm g (pw x r.length)^^^cG x r:=by
   show gU x (tm 0 x^^^g) r=_;rw[cA hx,cx,iP hx g64 hr]
  have e2:l.length - 1 - p=r.length+(l.length - p - (r.length+1)):=by omega
  have e3:l.length - (p+1) - r.length=l.length - p - (r.length+1):=by omega
  rw[cw,e1,e2,rB hx,e3,kg (bF g64 (bD hx _)) (eQ hx (by decide) hr) (bD hx _),dE g64 (bD hx _) (bD hx _)]
theorem ke:∀{m l:List Nat}{p i:Nat},i<p->(eT l p m).getD i 0=l.getD i 0
 |[],_,_,_,_=>rfl
 | g::r,l,p,i,hi=>by
  rw[eT,ke (by omega),List.getD_eq_getElem?_getD,List.getElem?_set_ne (by omega),List.getD_eq_getElem?_getD]
theorem BA {m l:List Nat}{p g:Nat}(hp:p<l.length):(eT l p (g::m)).getD p 0=l.getD p 0^^^g:=by
 rw[eT,ke (by omega),List.getD_eq_getElem?_getD,List.getElem?_set_self hp];rfl
noncomputable def eV (l:List Nat)(k:Nat):List Nat->List Nat->List Nat
 |[],_=>l
 |g::a,b=>eV (eT l k (mulR g b)) (k+1) a b
theorem nQ (f:Nat)(l:List Nat):(mulR f l).length=l.length:=by simp[mulR]
theorem nV:∀(a b l:List Nat) (k:Nat),(eV l k a b).length=l.length
 |[],_,_,_=>rfl
 |g::a,b,l,k=>by rw[eV,nV a,fC]
theorem pU:∀{a b l:List Nat}{k:Nat},Gr a->Gr b->Gr l->Gr (eV l k a b)
 |[],_,_,_,_,_,h=>h
 | g::a,b,l,k,ha,hb,h=>by
  rw[eV];exact pU (fun z hz=>ha z (aa _ hz)) hb (jQ h (nE (ha g ae) hb))
theorem oj {x:Nat}(hx:x<64):∀{a b l:List Nat}{k:Nat},Gr a->Gr b->Gr l->0<b.length->k+a.length+b.length=l.length+1->cG x (eV l k a b)=cG x l^^^tm (cG x a) (cG x b)
 | [],b,l,k,_,hb,_,_,_=>by
  show cG x l=cG x l^^^tm 0 _;rw[cA (eQ hx (by decide) hb),ij]
 | g::a,b,l,k,ha,hb,h,h0,hk=>by
  have g64:=ha g ae;have ha':Gr a:=fun z hz=>ha z (aa _ hz)
  have hk':k+(a.length+1)+b.length=l.length+1:=by simpa using hk
  have wb:=eQ hx (w:=0) (by decide) hb;have wa:=eQ hx (w:=0) (by decide) ha';have mg:=nE g64 hb;rw[eV,oj hx ha' hb (jQ h mg) h0 (by rw[fC];omega),qG hx h mg (by rw[nQ];omega),Du hx g64 hb,nQ,bt];congr 1;have e1:cG x (g::a)=tm g (pw x a.length)^^^cG x a:=by
   show gU x (tm 0 x^^^g) a=_;rw[cA hx,cx,iP hx g64 ha']
  have e2:l.length - k - b.length=a.length:=by omega
  rw[e1,e2,kg (bF g64 (bD hx _)) wa wb,uc g64 wb (bD hx _)]
noncomputable def dJ (a b:List Nat):List Nat:=eV (List.replicate (a.length+b.length - 1) 0) 0 a b
theorem fX (a b:List Nat):(dJ a b).length=a.length+b.length - 1:=by rw[dJ,nV,bc]
theorem jX {a b:List Nat}(ha:Gr a)(hb:Gr b):Gr (dJ a b):=pU ha hb (jU _)
theorem qg {x:Nat}(hx:x<64){a b:List Nat}(ha:Gr a)(hb:Gr b)(h0:0<b.length):cG x (dJ a b)=tm (cG x a) (cG x b):=by
 rw[dJ,oj hx ha hb (jU _) h0 (by rw[bc];omega),mP x hx,cx]
theorem lz:∀{a b l:List Nat}{k i:Nat},i<k->(eV l k a b).getD i 0=l.getD i 0
 |[],_,_,_,_,_=>rfl
 |g::a,b,l,k,i,hi=>by rw[eV,lz (by omega),ke hi]
theorem uQ {g g':Nat}{a b:List Nat}:(dJ (g::a) (g'::b)).getD 0 0=tm g g':=by
 have hl:0<(List.replicate ((g::a).length+(g'::b).length - 1) 0).length:=by simp;omega
 rw[dJ,eV,lz (by decide)];show (eT _ 0 (tm g g'::mulR g b)).getD 0 0=_;rw[BA hl];have:(List.replicate ((g::a).length+(g'::b).length - 1) 0).getD 0 0=0:=by
  rw[List.getD_eq_getElem?_getD,List.getElem?_replicate];split<;>rfl
 rw[this,cx]
noncomputable def jA (r:List Nat):List Nat->List Nat
 |[]=>r
 |n::ns=>jA (dJ r [1,n]) ns
theorem gP:∀{ns r:List Nat},Gr ns->Gr r->0<r.length->r.getD 0 0=1->(jA r ns).length=r.length+ns.length/\Gr (jA r ns)/\(jA r ns).getD 0 0=1/\(∀ x,x<64->cG x r=0->cG x (jA r ns)=0)/\∀ x∈ns,cG x (jA r ns)=0
 |[],r,_,hr,_,h1=>⟨rfl,hr,h1,fun _ _ h=>h,fun _ h=>(nomatch h)⟩
 | n::ns,r,hn,hr,h0,h1=>by
  have n64:=hn n ae;have hb:Gr [1,n]:=.cons (by decide) (.cons n64 .nil);have hp:=jX hr hb;have hd:(dJ r [1,n]).getD 0 0=1:=by
   match r,h0,h1 with
   |g::r',_,h1 =>
    have:g=1:=h1;subst this;exact uQ
  obtain⟨a1,a2,a3,a4,a5⟩:=gP (ns:=ns) (r:=dJ r [1,n]) (fun z hz=>hn z (List.mem_cons_of_mem _ hz)) hp (by rw[fX];simp) hd;rw[jA];refine⟨by rw[a1,fX];simp;omega,a2,a3,fun x hx hw=>a4 x hx ?_,fun x hxm=>?_⟩
  ·rw[qg hx hr hb (by simp),hw,cA (eQ hx (by decide) hb)]
  ·rcases dw.mp hxm with rfl | hxm
   ·refine a4 x n64 ?_;have:cG x [1,x]=0:=by
     show tm (tm 0 x^^^1) x^^^x=0;rw[cA n64,cx,pq n64,fu]
    rw[qg n64 hr hb (by simp),this,gY]
   ·exact a5 x hxm
def uM (l:List Nat)(c:Nat):Prop:=∀ x∈bS c,cG x l=0
noncomputable instance (l:List Nat) (c:Nat):Decidable (uM l c):=by unfold uM;infer_instance
theorem zU {x:Nat}(hx:x<64)(h:x≠0):∀ n,pw x n≠0
 |0=>by show 1≠0;decide
 |n+1=>fun e=>(eF (bD hx n) hx e).elim (zU hx h n) h
end Fl64
end
section
namespace Pc.Gr
open PySem Pc Pc.Sm
abbrev gD (gs:List Nat):List D:=gs.map fun (g:Nat)=>D.int (g:Int)
abbrev gI (gs:List Nat):List Int:=gs.map fun (g:Nat)=>(g:Int)
theorem rG (gs:List Nat):gD gs=(gI gs).map D.int:=by rw[bg];rfl
theorem fT (gs:List Nat):D.flats (gD gs)=true:=by rw[rG];exact nY _
theorem HP (gs:List Nat):D.eqf 40 (.lst (gD gs)) (.lst (gD gs))=some true:=by rw[rG,wy 38];simp
theorem ki (a b:List Nat):gD (a++b)=gD a++gD b:=jm ..
theorem be (a:List Nat):(gD a).length=a.length:=aj ..
abbrev sG (gs:List Nat):Slot:=some (.lst (gD gs),.sh [])
abbrev oG (gs:List Nat):Slot:=some (.lst (gD gs),.own)
theorem zj {gs:List Nat}{i:Nat}(h:i<gs.length):(gD gs)[i]? = some (.int ((gs.getD i 0:Nat):Int)):=by
 rw[List.getElem?_map,List.getD_eq_getElem?_getD,List.getElem?_eq_getElem h];rfl
theorem mq {gs:List Nat}{i:Nat}(h:i<gs.length):GZ (.lst (gD gs)) (.int (i:Int))=some (.int ((gs.getD i 0:Nat):Int)):=by
 show (Pc.nt (gD gs).length (i:Int)).bind (fun j=>(gD gs)[j]?)=_;rw[iK (by rw[be];exact h)];exact zj h
theorem kM (gs:List Nat)(i g:Nat):(gD gs).set i (.int (g:Int))=gD (gs.set i g):=by rw[gD,gD,List.map_set]
def jN (T:Tb)(t:Nat):Prop:=∀ a b:Nat,b<64->T.cl t [.int (a:Int),.int (b:Int)] = .ok (.int ((Fl64.tm a b:Nat):Int),true)
noncomputable def qY (t:Nat):bJ:=(.cons (.ite (.cmp .Eq (.bin .Mod (.var 4) (.cst (.int (2)))) (.cst (.int (1)))) (.cons (.asg (.nm 2) (.call t (.cons (.var 2) (.cons (.var 3) .nil))) false)
  .nil) .nil)
  (.cons (.asg (.nm 3) (.call t (.cons (.var 3) (.cons (.var 3) .nil))) false)
  (.cons (.asg (.nm 4) (.bin .FloorDiv (.var 4) (.cst (.int (2)))) false)
  .nil)))
noncomputable def FL (t:Nat):bJ:=(.cons (.asg (.nm 2) (.cst (.int (1))) false)
  (.cons (.asg (.nm 3) (.var 0) false)
  (.cons (.asg (.nm 4) (.var 1) false)
  (.cons (.whl (.cmp .Gt (.var 4) (.cst (.int (0)))) (qY t))
  (.cons (.ret (.var 2))
  .nil)))))
theorem pow_step {T:Tb}{t:Nat}(A K p s l x y:Int)(hx:l%2=1->T.cl t [.int p,.int s] = .ok (.int x,true))(hx':l%2≠1->x=p)(hy:T.cl t [.int s,.int s] = .ok (.int y,true)):aC T (qY t) [sI A,sI K,sI p,sI s,sI l] = .nx [sI A,sI K,sI x,sI y,sI (l / 2)]:=by
 have e1:(l%2==1)=decide (l%2=1):=rfl;by_cases h1:l%2=1
 ·have hx:=hx h1;simp[e1,qY,aC,bI,ev,bQ,aA,aS,aM,aO,Pc.binI,ni,m6,D.eqf,truth,D.flat,bU,jM,put,Tg.drop,aD,h1,hx,hy]
 ·have:=hx' h1;subst this;simp[e1,qY,aC,bI,ev,bQ,aA,aS,aM,aO,Pc.binI,ni,m6,D.eqf,truth,D.flat,bU,jM,put,Tg.drop,aD,h1,hy]
theorem wI {T:Tb}{t:Nat}(ht:jN T t)(A K:Int):∀(n fuel p s l:Nat),l<2 ^ n->n<fuel->s<64 ->
  ∃ s' l':Int,jL (fun env=>(ev T (.cmp .Gt (.var 4) (.cst (.int 0))) env).bind fun p=>iG (truth p.1)) (aC T (qY t)) fuel [sI A,sI K,sN p,sN s,sN l] = .nx [sI A,sI K,sN (Fl64.Jh n p s l),sI s',sI l']
 |n,0,p,s,l,_,hf',_=>absurd hf' (gm _)
 | 0,fuel+1,p,s,l,hl,_,_=>by
  have:l=0:=by simpa using hl
  subst this;refine⟨s,0,?_⟩;rw[jL,jy];rfl
 | n+1,fuel+1,p,s,l,hl,hn,hs=>by
  rw[jL,jy,aS];by_cases h0:l=0
  ·subst h0;refine⟨s,0,?_⟩;rfl
  ·have hp:decide ((0:Int)<(l:Int))=true:=by rw[bz];omega
   rw[if_pos hp,pow_step A K p s l ((if l%2=1 then Fl64.tm p s else p:Nat):Int) ((Fl64.tm s s:Nat):Int) (fun h=>by rw[if_pos (by omega)];exact ht p s hs) (fun h=>by rw[if_neg (by omega)]) (ht s s hs)];have e3:(l:Int) / 2=((l / 2:Nat):Int):=by omega
   rw[e3];obtain⟨s',l',h⟩:=wI ht A K n fuel (if l%2=1 then Fl64.tm p s else p) (Fl64.tm s s) (l / 2) (by rw[jh] at hl;omega) (by omega) (Fl64.bF hs hs);refine⟨s',l',?_⟩;dsimp only;rw[h]
   conv=>rhs;unfold Fl64.Jh
   rw[if_neg h0]
theorem Eo {T:Tb}{t:Nat}(ht:jN T t)(hfu:41<=T.fuel)(a k:Nat)(ha:a<64)(hk:k<2 ^ 40):Pc.ret (aC T (FL t) (aF [.int (a:Int),.int (k:Int)] 5)) = .ok (.int ((Fl64.pw a k:Nat):Int),true):=by
 have hst:aF [.int (a:Int),.int (k:Int)] 5=[sN a,sN k,none,none,none]:=rfl;rw[hst];unfold FL;have h1:bI T (.asg (.nm 2) (.cst (.int 1)) false) [sN a,sN k,none,none,none] = .nx [sN a,sN k,sN 1,none,none]:=rfl;have h2:bI T (.asg (.nm 3) (.var 0) false) [sN a,sN k,sN 1,none,none] = .nx [sN a,sN k,sN 1,sN a,none]:=rfl;have h3:bI T (.asg (.nm 4) (.var 1) false) [sN a,sN k,sN 1,sN a,none] = .nx [sN a,sN k,sN 1,sN a,sN k]:=rfl;rw[aC,h1,aD,aC,h2,aD,aC,h3,aD,aC];obtain⟨d',l',h⟩:=wI (T:=T) ht a k 40 T.fuel 1 a k hk (by omega) ha;rw[Fl64.vq 40 1 a k hk (by decide) ha,Fl64.pq (Fl64.bD ha k)] at h;have h4:bI T (.whl (.cmp .Gt (.var 4) (.cst (.int 0))) (qY t)) [sN a,sN k,sN 1,sN a,sN k] = .nx [sN a,sN k,sN (Fl64.pw a k),sI d',sI l']:=by
  rw[bI];exact h
 rw[h4,aD];show Pc.ret (aC T (.cons (.ret (.var 2)) .nil) [sN a,sN k,sI ((Fl64.pw a k:Nat):Int),sI d',sI l'])=_;generalize ((Fl64.pw a k:Nat):Int)=x;rfl
noncomputable def tU (t:Nat):bJ:=(.cons (.asg (.nm 2) (.bin .BitXor (.call t (.cons (.var 2) (.cons (.var 1) .nil))) (.var 3)) false)
  .nil)
noncomputable def Bs (t:Nat):bJ:=(.cons (.asg (.nm 2) (.cst (.int (0))) false)
  (.cons (.forr (.nm 3) (.seq (.var 0)) (tU t))
  (.cons (.ret (.var 2))
  .nil)))
theorem zq {T:Tb}{t:Nat}(x w g y:Int)(d:D)(h:T.cl t [.int w,.int x] = .ok (.int y,true)):aC T (tU t) [some (d,.sh []),sI x,sI w,sI g] = .nx [some (d,.sh []),sI x,sI (Builtin.bitXor y g),sI g]:=by
 simp[tU,aC,bI,ev,bQ,aA,aS,aM,aO,Pc.binI,D.flat,bU,jM,put,Tg.drop,aD,h]
theorem Ao {T:Tb}{t:Nat}(ht:jN T t)(d:D)(x:Nat)(hx:x<64):∀(gs:List Nat) (w:Nat) (o:Slot),∃ o',bC (.nm 3) [] (aC T (tU t)) (gD gs) [some (d,.sh []),sN x,sN w,o] = .nx [some (d,.sh []),sN x,sN (Fl64.gU x w gs),o']
 |[],w,o=>⟨o,rfl⟩
 | g::r,w,o=>by
  obtain⟨o',h⟩:=Ao ht d x hx r (Fl64.tm w x^^^g) (sN g);refine⟨o',?_⟩;rw[gD,ay,bC];have hb:aX [] (.nm 3) (.int (g:Int)) [some (d,.sh []),sN x,sN w,o]=some [some (d,.sh []),sN x,sN w,sN g]:=by
   simp[aX,put,Tg.drop,cI,D.flat]
  rw[hb];dsimp only;rw[zq x w g ((Fl64.tm w x:Nat):Int) d (ht w x hx),cY];exact h
theorem Gz {T:Tb}{t:Nat}(ht:jN T t)(gs:List Nat)(x:Nat)(hx:x<64):Pc.ret (aC T (Bs t) (aF [.lst (gD gs),.int (x:Int)] 4)) = .ok (.int ((Fl64.cG x gs:Nat):Int),true):=by
 have hst:aF [.lst (gD gs),.int (x:Int)] 4=[sG gs,sN x,none,none]:=rfl;rw[hst];unfold Bs;have h1:bI T (.asg (.nm 2) (.cst (.int 0)) false) [sG gs,sN x,none,none] = .nx [sG gs,sN x,sN 0,none]:=rfl;obtain⟨o',h⟩:=Ao ht (.lst (gD gs)) x hx gs 0 none;have hit:fS T (.seq (.var 0)) [sG gs,sN x,sN 0,none] = .ok (gD gs,[]):=rfl;have h2:=cF hit h;rw[aC,h1,aD,aC,h2,aD];show _=Rs.ok (D.int ((Fl64.gU x 0 gs:Nat):Int),true);generalize Fl64.gU x 0 gs=y;simp[aC,bI,ev,aS,D.flat,lO,Pc.ret,bV]
abbrev Di (k:Nat)(gs:List Nat):List D:=(gs.zipIdx k).map fun (q:Nat×Nat)=>D.tup [.int (q.2:Int),.int (q.1:Int)]
theorem Eh (gs:List Nat):((gD gs).zipIdx.map fun (q:D×Nat)=>D.tup [.int q.2,q.1])=Di 0 gs:=by
 rw[gD,List.zipIdx_map,bg];rfl
theorem lR (k g:Nat)(gs:List Nat):Di k (g::gs) = .tup [.int (k:Int),.int (g:Int)]::Di (k+1) gs:=by
 rw[Di,List.zipIdx_cons,ay]
noncomputable def v9 (t x p i j f:Nat):bJ:=(.cons (.setix x .none (.bin .Add (.var p) (.var i)) (.bin .BitXor (.ix (.var x) (.bin .Add (.var p) (.var i))) (.call t (.cons (.var f) (.cons (.var j) .nil)))))
  .nil)
theorem yX {T:Tb}{t x p i j f:Nat}(ht:jN T t){env:En}(tm:Tame env){l:List Nat}{P S F G:Nat}(hx:env[x]? = some (oG l))(hp:env[p]? = some (sN P))(hi:env[i]? = some (sN S))(hj:env[j]? = some (sN G))(hf:env[f]? = some (sN F))(hG:G<64)(hl:P+S<l.length)(hlen:l.length<=1000) :
  aC T (v9 t x p i j f) env = .nx (env.set x (oG (l.set (P+S) (l.getD (P+S) 0^^^Fl64.tm F G)))):=by
 have vp:ev T (.var p) env = .ok (.int (P:Int),.mv []):=aI hp rfl;have vi:ev T (.var i) env = .ok (.int (S:Int),.mv []):=aI hi rfl;have vj:ev T (.var j) env = .ok (.int (G:Int),.mv []):=aI hj rfl;have vf:ev T (.var f) env = .ok (.int (F:Int),.mv []):=aI hf rfl;have vx:ev T (.var x) env = .ok (.lst (gD l),.mv [x]):=cV hx rfl;have e1:ev T (.bin .Add (.var p) (.var i)) env = .ok (.int ((P+S:Nat):Int),.mv []):=by
  rw[ev,vp,aA,vi,aA,aO];show (iG (some (D.int ((P:Int)+(S:Int))))).bind _=_;rw[show (P:Int)+(S:Int)=((P+S:Nat):Int) by omega];rfl
 have e2:ev T (.ix (.var x) (.bin .Add (.var p) (.var i))) env = .ok (.int ((l.getD (P+S) 0:Nat):Int),.mv []):=by
  rw[ev,vx,aA,e1,aA,mq hl,aM,aA];rfl
 have e3:=bL vf vj (ht F G hG);have e4:ev T (.bin .BitXor (.ix (.var x) (.bin .Add (.var p) (.var i))) (.call t (.cons (.var f) (.cons (.var j) .nil)))) env = .ok (.int ((l.getD (P+S) 0^^^Fl64.tm F G:Nat):Int),.mv []):=by
  rw[ev,e2,aA,e3,aA,aO];show (iG (some (D.int (Builtin.bitXor ((l.getD (P+S) 0:Nat):Int) ((Fl64.tm F G:Nat):Int))))).bind _=_;rw[cY];rfl
 have:=jC (T:=T) tm hx e1 (iK (by rw[be];exact hl)) e4 (by rw[be];exact cT hlen);unfold v9;rw[aC,this,aD,kM];rfl
theorem sT {T:Tb}{t x p i j f:Nat}{R:List Nat}(ht:jN T t){P F:Nat}(hxi:x≠i)(hxj:x≠j)(hij:i≠j)(hpi:p≠i)(hpj:p≠j)(hpx:p≠x)(hfi:f≠i)(hfj:f≠j)(hfx:f≠x):∀(m:List Nat) (k:Nat) (l:List Nat) (env:En),Tame env->i<env.length->j<env.length->env[x]? = some (oG l)->env[p]? = some (sN P)->env[f]? = some (sN F)->Fl64.Gr m->P+k+m.length<=l.length->l.length<=1000 ->
  ∃ e:En,bC (.tp [i,j]) R (aC T (v9 t x p i j f)) (Di k m) env = .nx e/\Tame e/\e.length=env.length/\e[x]? = some (oG (Fl64.eT l (P+k) (Fl64.mulR F m)))/\∀ y,y≠x->y≠i->y≠j->e[y]? = env[y]?
 |[],k,l,env,te,_,_,hx,_,_,_,_,_=>⟨env,rfl,te,rfl,hx,fun _ _ _ _=>rfl⟩
 | g::m,k,l,env,te,hi,hj,hx,hp,hf,hm,hl,hlen=>by
  have hl':P+k+(m.length+1)<=l.length:=by simpa using hl
  have hxl:x<env.length:=(List.getElem?_eq_some_iff.mp hx).1;have hb:=iV (R:=R) (x:=.int (k:Int)) (y:=.int (g:Int)) te hi hj rfl rfl;have te1:Tame ((env.set i (some (.int (k:Int),.own))).set j (some (.int (g:Int),.own))):=(te.set (aB _) i).set (aB _) j;have q1:((env.set i (some (.int (k:Int),.own))).set j (some (.int (g:Int),.own)))[x]? = some (oG l):=by
   rw[List.getElem?_set_ne (cm hxj),List.getElem?_set_ne (cm hxi)];exact hx
  have q2:((env.set i (some (.int (k:Int),.own))).set j (some (.int (g:Int),.own)))[p]? = some (sN P):=by
   rw[List.getElem?_set_ne (cm hpj),List.getElem?_set_ne (cm hpi)];exact hp
  have q3:((env.set i (some (.int (k:Int),.own))).set j (some (.int (g:Int),.own)))[i]? = some (sN k):=by
   rw[List.getElem?_set_ne (cm hij),List.getElem?_set_self hi]
  have q4:((env.set i (some (.int (k:Int),.own))).set j (some (.int (g:Int),.own)))[j]? = some (sN g):=List.getElem?_set_self (by rw[aq];exact hj);have q5:((env.set i (some (.int (k:Int),.own))).set j (some (.int (g:Int),.own)))[f]? = some (sN F):=by
   rw[List.getElem?_set_ne (cm hfj),List.getElem?_set_ne (cm hfi)];exact hf
  have st:=yX ht te1 q1 q2 q3 q4 q5 (hm g ae) (by omega) hlen;generalize hE:(env.set i (some (.int (k:Int),.own))).set j (some (.int (g:Int),.own))=E1 at *;have hEl:E1.length=env.length:=by rw[<-hE];simp
  have te2:Tame (E1.set x (oG (l.set (P+k) (l.getD (P+k) 0^^^Fl64.tm F g)))):=te1.set (aB _) x;obtain⟨e,r1,r2,r3,r4,r5⟩:=sT ht (R:=R) (P:=P) (F:=F) hxi hxj hij hpi hpj hpx hfi hfj hfx m (k+1) (l.set (P+k) (l.getD (P+k) 0^^^Fl64.tm F g)) (E1.set x (oG (l.set (P+k) (l.getD (P+k) 0^^^Fl64.tm F g)))) te2 (by simp[hEl];exact hi) (by simp[hEl];exact hj)
   (List.getElem?_set_self (by rw[hEl];exact hxl)) (by rw[List.getElem?_set_ne (cm hpx)];exact q2) (by rw[List.getElem?_set_ne (cm hfx)];exact q5) (fun z hz=>hm z (aa _ hz)) (by rw[aq];omega) (by rw[aq];exact hlen)
  refine⟨e,?_,r2,by rw[r3,aq,hEl],?_,fun y y1 y2 y3=>?_⟩
  ·rw[lR,bC,hb];dsimp only;rw[st];exact r1
  ·rw[r4];rfl
  ·rw[r5 y y1 y2 y3,List.getElem?_set_ne (cm y1),<-hE,List.getElem?_set_ne (cm y3),List.getElem?_set_ne (cm y2)]
noncomputable def Bh (t:Nat):bJ:=(.cons (.forr (.tp [5,6]) (.enum (.var 1)) (v9 t 2 3 5 6 4))
  .nil)
noncomputable def bRP (t:Nat):bJ:=(.cons (.asg (.nm 2) (.bin .Mult (.lst (.cons (.cst (.int (0))) .nil)) (.bin .Sub (.bin .Add (.blt .len (.cons (.var 0) .nil)) (.blt .len (.cons (.var 1) .nil))) (.cst (.int (1))))) false)
  (.cons (.forr (.tp [3,4]) (.enum (.var 0)) (Bh t))
  (.cons (.ret (.var 2))
  .nil)))
theorem xB (T:Tb){env:En}{i:Nat}{gs:List Nat}(h:env[i]? = some (sG gs)):fS T (.enum (.var i)) env = .ok (Di 0 gs,[]):=by
 have hv:ev T (.var i) env = .ok (.lst (gD gs),.sh []):=by
  rw[ev,h];rfl
 rw[fS,hv,aA];show (Rs.ok (gD gs)).bind _=_;rw[aA,Eh];rfl
theorem vU {T:Tb}{t:Nat}(ht:jN T t){b:List Nat}(hb:Fl64.Gr b)(hb0:0<b.length):∀(a:List Nat) (k:Nat) (l:List Nat) (env:En),Tame env->env.length=7->env[1]? = some (sG b)->env[2]? = some (oG l)->Fl64.Gr a->k+a.length+b.length=l.length+1->l.length<=1000 ->
  ∃ e:En,bC (.tp [3,4]) [] (aC T (Bh t)) (Di k a) env = .nx e/\Tame e/\e.length=7/\e[2]? = some (oG (Fl64.eV l k a b))
 |[],k,l,env,te,hl,_,h2,_,_,_=>⟨env,rfl,te,hl,h2⟩
 | g::a,k,l,env,te,hl,h1,h2,ha,hk,hlen=>by
  have hk':k+(a.length+1)+b.length=l.length+1:=by simpa using hk
  have bp:=iV (R:=[]) (x:=.int (k:Int)) (y:=.int (g:Int)) (i:=3) (j:=4) te (by omega) (by omega) rfl rfl;have te1:Tame ((env.set 3 (some (.int (k:Int),.own))).set 4 (some (.int (g:Int),.own))):=(te.set (aB _) 3).set (aB _) 4;have q1:((env.set 3 (some (.int (k:Int),.own))).set 4 (some (.int (g:Int),.own)))[1]? = some (sG b):=by
   rw[List.getElem?_set_ne (by decide),List.getElem?_set_ne (by decide)];exact h1
  have q2:((env.set 3 (some (.int (k:Int),.own))).set 4 (some (.int (g:Int),.own)))[2]? = some (oG l):=by
   rw[List.getElem?_set_ne (by decide),List.getElem?_set_ne (by decide)];exact h2
  have q3:((env.set 3 (some (.int (k:Int),.own))).set 4 (some (.int (g:Int),.own)))[3]? = some (sN k):=by
   rw[List.getElem?_set_ne (by decide),List.getElem?_set_self (by omega)]
  have q4:((env.set 3 (some (.int (k:Int),.own))).set 4 (some (.int (g:Int),.own)))[4]? = some (sN g):=List.getElem?_set_self (by rw[aq];omega);have ql:((env.set 3 (some (.int (k:Int),.own))).set 4 (some (.int (g:Int),.own))).length=7:=by simp[hl]
  generalize (env.set 3 (some (.int (k:Int),.own))).set 4 (some (.int (g:Int),.own))=E1 at *;obtain⟨e1,r1,r2,r3,r4,r5⟩:=sT (T:=T) (x:=2) (p:=3) (i:=5) (j:=6) (f:=4) (R:=[]) ht (P:=k) (F:=g) (by decide) (by decide) (by decide) (by decide) (by decide) (by decide) (by decide) (by decide) (by decide) b 0 l E1 te1 (by omega) (by omega) q2 q3 q4 hb (by omega) hlen;have st:aC T (Bh t) E1 = .nx e1:=by
   unfold Bh;rw[aC,cF (xB T q1) r1,aD];rfl
  obtain⟨e,s1,s2,s3,s4⟩:=vU ht hb hb0 a (k+1) (Fl64.eT l (k+0) (Fl64.mulR g b)) e1 r2 (by omega) (by rw[r5 1 (by decide) (by decide) (by decide)];exact q1) r4 (fun z hz=>ha z (aa _ hz)) (by rw[Fl64.fC];omega) (by rw[Fl64.fC];exact hlen);refine⟨e,?_,s2,s3,s4⟩;rw[lR,bC,bp];dsimp only;rw[st];exact s1
theorem uJ:∀ n:Nat,(List.replicate n [D.int 0]).flatten=gD (List.replicate n 0)
 |0=>rfl
 | n+1=>by
  rw[dn,fb,uJ n,dn];rfl
theorem qd (n:Nat)(hn:n<=1000):pQ .Mult (.lst [.int 0]) (.int (n:Int))=some (.lst (gD (List.replicate n 0))):=by
 have h : -(2 ^ 63:Int)<=(n:Int)/\(n:Int)<2 ^ 63:=⟨by omega,by omega⟩;have hf:D.flats [D.int 0]=true:=rfl;simp only[pQ,Hy];rw[if_pos h,if_pos hf,bo,uJ];unfold ck;rw[if_pos (cT (by simp;omega))]
theorem DB (gs:List Nat):nj .len [.lst (gD gs)]=some (.int (gs.length:Int)):=by
 show some (D.int ((gD gs).length:Int))=_;rw[be]
theorem iF {T:Tb}{env:En}{i:Nat}{gs:List Nat}{t:Tg}(h:env[i]? = some (some (.lst (gD gs),t))):ev T (.blt .len (.cons (.var i) .nil)) env = .ok (.int (gs.length:Int),.mv []):=by
 obtain⟨R,hv⟩:=CI (T:=T) h;have h1:bQ T (.cons (.var i) .nil) env = .ok [(.lst (gD gs),R)]:=by
  rw[bQ,hv,aA];rfl
 rw[ev,h1,aA,xW,DB,aM,aA,bU]
theorem Hi {T:Tb}{t:Nat}(ht:jN T t){a b:List Nat}(ha:Fl64.Gr a)(hb:Fl64.Gr b)(hb0:0<b.length)(hl:a.length+b.length<=1000):Pc.ret (aC T (bRP t) (aF [.lst (gD a),.lst (gD b)] 7)) = .ok (.lst (gD (Fl64.dJ a b)),true):=by
 have hst:aF [.lst (gD a),.lst (gD b)] 7=[sG a,sG b,none,none,none,none,none]:=rfl;rw[hst];have t0:Tame [sG a,sG b,none,none,none,none,none]:=.cons (aJ _) (.cons (aJ _) (.cons aH (.cons aH (.cons aH (.cons aH (.cons aH .nil))))));have e1:ev T (.bin .Sub (.bin .Add (.blt .len (.cons (.var 0) .nil)) (.blt .len (.cons (.var 1) .nil))) (.cst (.int (1)))) [sG a,sG b,none,none,none,none,none] = .ok (.int ((a.length+b.length - 1:Nat):Int),.mv []):=by
  have l0:=iF (T:=T) (env:=[sG a,sG b,none,none,none,none,none]) (i:=0) (gs:=a) (t:=.sh []) rfl;have l1:=iF (T:=T) (env:=[sG a,sG b,none,none,none,none,none]) (i:=1) (gs:=b) (t:=.sh []) rfl;have e:((a.length+b.length - 1:Nat):Int)=(a.length:Int)+(b.length:Int) - 1:=by omega
  rw[e];generalize (a.length:Int)=A at l0;generalize (b.length:Int)=B at l1;have q:ev T (.bin .Add (.blt .len (.cons (.var 0) .nil)) (.blt .len (.cons (.var 1) .nil))) [sG a,sG b,none,none,none,none,none] = .ok (.int (A+B),.mv []):=by
   rw[ev,l0,aA,l1,aA];rfl
  rw[ev,q,aA];rfl
 have e2:ev T (.bin .Mult (.lst (.cons (.cst (.int (0))) .nil)) (.bin .Sub (.bin .Add (.blt .len (.cons (.var 0) .nil)) (.blt .len (.cons (.var 1) .nil))) (.cst (.int (1))))) [sG a,sG b,none,none,none,none,none] = .ok (.lst (gD (List.replicate (a.length+b.length - 1) 0)),.mv []):=by
  have q:ev T (.lst (.cons (.cst (.int (0))) .nil)) [sG a,sG b,none,none,none,none,none] = .ok (.lst [.int 0],.mv []):=rfl;rw[ev,q,aA,e1,aA,qd _ (by omega),aM,aA,cZ (fT _)]
 have g1:=bT (T:=T) (i:=2) t0 (by simp) e2;obtain⟨e,r1,r2,r3,r4⟩:=vU ht hb hb0 a 0 (List.replicate (a.length+b.length - 1) 0) [sG a,sG b,oG (List.replicate (a.length+b.length - 1) 0),none,none,none,none] (.cons (aJ _) (.cons (aJ _) (.cons (aB _) (.cons aH (.cons aH (.cons aH (.cons aH .nil))))))) rfl rfl rfl ha (by rw[bc];omega) (by rw[bc];omega);have g2:=cF (xB T (env:=[sG a,sG b,oG (List.replicate (a.length+b.length - 1) 0),none,none,none,none]) (i:=0) rfl) r1;unfold bRP;rw[aC,g1,aD,aC];show Pc.ret ((bI T (.forr (.tp [3,4]) (.enum (.var 0)) (Bh t)) [sG a,sG b,oG (List.replicate (a.length+b.length - 1) 0),none,none,none,none]).andThen _)=_;rw[g2,aD];have hv:ev T (.var 2) e = .ok (.lst (gD (Fl64.dJ a b)),.mv [2]):=cV r4 rfl;rw[aC,bI,hv,aS];have ho:bV e [2]=true:=by
  simp[bV,r4]
 show Pc.ret ((Fl.rt (.lst (gD (Fl64.dJ a b))) (bV e [2])).andThen _)=_;rw[ho];rfl
def Ak (T:Tb)(rp:Nat):Prop:=∀ a b:List Nat,Fl64.Gr a->Fl64.Gr b->0<b.length->a.length+b.length<=1000->T.cl rp [.lst (gD a),.lst (gD b)] = .ok (.lst (gD (Fl64.dJ a b)),true)
noncomputable def vO (rp:Nat):bJ:=(.cons (.asg (.nm 1) (.call rp (.cons (.var 1) (.cons (.lst (.cons (.cst (.int (1))) (.cons (.var 2) .nil))) .nil))) false)
  .nil)
noncomputable def bRN (rp:Nat):bJ:=(.cons (.asg (.nm 1) (.lst (.cons (.cst (.int (1))) .nil)) false)
  (.cons (.forr (.nm 2) (.seq (.var 0)) (vO rp))
  (.cons (.ret (.var 1))
  .nil)))
theorem xv {T:Tb}{rp:Nat}(h:Ak T rp)(N:List Nat):∀(ns r:List Nat) (o:Slot),cB o->Fl64.Gr ns->Fl64.Gr r->0<r.length->r.length+ns.length+2<=1000->∃ o',cB o'/\bC (.nm 2) [] (aC T (vO rp)) (gD ns) [sG N,oG r,o] = .nx [sG N,oG (Fl64.jA r ns),o']
 |[],r,o,ho,_,_,_,_=>⟨o,ho,rfl⟩
 | n::ns,r,o,ho,hn,hr,h0,hl=>by
  have n64:=hn n ae;have hb:Fl64.Gr [1,n]:=.cons (by decide) (.cons n64 .nil);have hl':r.length+(ns.length+1)+2<=1000:=by simpa using hl
  have pl:(Fl64.dJ r [1,n]).length=r.length+1:=by rw[Fl64.fX];simp
  obtain⟨o',ho',q⟩:=xv h N ns (Fl64.dJ r [1,n]) (sN n) (aB _) (fun z hz=>hn z (aa _ hz)) (Fl64.jX hr hb) (by omega) (by omega);refine⟨o',ho',?_⟩;have bd:=fM (i:=2) (d:=.int (n:Int)) (env:=[sG N,oG r,o]) (.cons (aJ _) (.cons (aB _) (.cons ho .nil))) (by simp);have v1:ev T (.var 1) [sG N,oG r,sN n] = .ok (.lst (gD r),.mv [1]):=cV rfl rfl;have e2:ev T (.lst (.cons (.cst (.int (1))) (.cons (.var 2) .nil))) [sG N,oG r,sN n] = .ok (.lst (gD [1,n]),.mv []):=by
   show ev T (.lst (.cons (.cst (.int (1))) (.cons (.var 2) .nil))) [sG N,oG r,sI (n:Int)] = .ok (.lst [.int 1,.int (n:Int)],.mv []);generalize (n:Int)=K;rfl
  have g:=bT (T:=T) (i:=1) (env:=[sG N,oG r,sN n]) (.cons (aJ _) (.cons (aB _) (.cons (aB _) .nil))) (by simp) (bL v1 e2 (h r [1,n] hr hb (by simp) (by simp;omega)));have st:aC T (vO rp) [sG N,oG r,sN n] = .nx [sG N,oG (Fl64.dJ r [1,n]),sN n]:=by
   unfold vO;rw[aC,g,aD];rfl
  rw[gD,ay,bC,bd];show (match aC T (vO rp) [sG N,oG r,sN n] with
   |.nx e=>bC (.nm 2) [] (aC T (vO rp)) (gD ns) e
   |.ct e=>bC (.nm 2) [] (aC T (vO rp)) (gD ns) e
   |.bk e=>.nx e
   |x=>x)=_
  rw[st];exact q
theorem Jb {T:Tb}{rp:Nat}(h:Ak T rp){ns:List Nat}(hn:Fl64.Gr ns)(hl:ns.length<=900):Pc.ret (aC T (bRN rp) (aF [.lst (gD ns)] 3)) = .ok (.lst (gD (Fl64.jA [1] ns)),true):=by
 have hst:aF [.lst (gD ns)] 3=[sG ns,none,none]:=rfl;rw[hst];have g1:bI T (.asg (.nm 1) (.lst (.cons (.cst (.int (1))) .nil)) false) [sG ns,none,none] = .nx [sG ns,oG [1],none]:=rfl;obtain⟨o',_,q⟩:=xv h ns ns [1] none aH hn (.cons (by decide) .nil) (by decide) (by simp;omega);have hit:fS T (.seq (.var 0)) [sG ns,oG [1],none] = .ok (gD ns,[]):=rfl;have g2:=cF hit q;have hv:ev T (.var 1) [sG ns,oG (Fl64.jA [1] ns),o'] = .ok (.lst (gD (Fl64.jA [1] ns)),.mv [1]):=cV rfl rfl;unfold bRN;rw[aC,g1,aD,aC,g2,aD,aC,bI,hv,aS];rfl
def Cs (T:Tb)(pw:Nat):Prop:=∀ a k:Nat,a<64->k<2 ^ 40->T.cl pw [.int (a:Int),.int (k:Int)] = .ok (.int ((Fl64.pw a k:Nat):Int),true)
noncomputable def bCN (pw:Nat):bJ:=(.cons (.ret (.comp 1 [] (.nm 0) (.rng2 (.cst (.int (1))) (.bin .Add (.var 0) (.cst (.int (1))))) .none (.call pw (.cons (.cst (.int (2))) (.cons (.var 0) .nil)))))
  .nil)
theorem eP:∀(m a:Nat),bB (a:Int) 1 m=(List.range' a m).map fun (k:Nat)=>D.int (k:Int)
 |0,a=>rfl
 | m+1,a=>by
  rw[bB,List.range'_succ,ay,<-eP m (a+1)];congr 2
theorem Jc {T:Tb}{pw:Nat}(h:Cs T pw)(c:Nat)(hc:c<=900):Pc.ret (aC T (bCN pw) (aF [.int (c:Int)] 1)) = .ok (.lst (gD (Fl64.bS c)),true):=by
 have hst:aF [.int (c:Int)] 1=[sI (c:Int)]:=rfl;rw[hst];refine iE ?_;have hit:fS T (.rng2 (.cst (.int (1))) (.bin .Add (.var 0) (.cst (.int (1))))) [sI (c:Int)] = .ok ((List.range' 1 c).map (fun (k:Nat)=>D.int (k:Int)),[]):=by
  have ho:gM ((c:Int)+1)=true:=by
   have:=qF (n:=c+1) (by omega);rw[show ((c+1:Nat):Int)=(c:Int)+1 by omega] at this;exact this
  have e:((c:Int)+1 - 1).toNat=c:=by omega
  have q:∀ C:Int,gM (C+1)=true->fS T (.rng2 (.cst (.int (1))) (.bin .Add (.var 0) (.cst (.int (1))))) [sI C] = .ok (bB 1 1 (C+1 - 1).toNat,[]):=fun C hC=>by
   have v:ev T (.bin .Add (.var 0) (.cst (.int (1)))) [sI C] = .ok (.int (C+1),.mv []):=rfl;have v1:ev T (.cst (.int (1))) [sI C] = .ok (.int 1,.mv []):=rfl;rw[fS,v1,aA,v,aA];show (if gM 1&&gM (C+1) then Rs.ok (bB 1 1 (C+1 - 1).toNat,[]) else .bad)=_;rw[hC];rfl
  rw[q _ ho,e];have:=eP c 1;rw[show ((1:Nat):Int)=1 from rfl] at this;rw[this]
 rw[lq (g:=fun d=>match d with | .int k=>(.int ((Fl64.pw 2 k.toNat:Nat):Int),.mv []) | _=>(.non,.mv [])) hit (by rw[aj,List.length_range'];exact cT (by omega)) (fun d hd=>?_) (fun d hd=>?_)]
 ·unfold Fl64.bS;rw[gD,bg,bg];congr 2
 ·obtain⟨k,hk,rfl⟩:=List.mem_map.mp hd;have hk:k<=c:=by
   have:=List.mem_range'_1.mp hk;omega
  have hb:aX [] (.nm 0) (.int (k:Int)) (aL [sI (c:Int)] 1 [])=some [sN k]:=rfl;rw[hb];have v0:ev T (.var 0) [sN k] = .ok (.int (k:Int),.mv []):=aI rfl rfl;have v2:ev T (.cst (.int (2))) [sN k] = .ok (.int ((2:Nat):Int),.mv []):=rfl;have he:=bL v2 v0 (h 2 k (by decide) (by omega));simp only[bH,nX,aA,if_true,he,Int.toNat_natCast]
 ·obtain⟨k,hk,rfl⟩:=List.mem_map.mp hd;rfl
def A4 (T:Tb)(cn:Nat):Prop:=∀ c:Nat,c<=900->T.cl cn [.int (c:Int)] = .ok (.lst (gD (Fl64.bS c)),true)
def tJ (T:Tb)(wa:Nat):Prop:=∀(gs:List Nat) (x:Nat),x<64->T.cl wa [.lst (gD gs),.int (x:Int)] = .ok (.int ((Fl64.cG x gs:Nat):Int),true)
noncomputable def eIC (cn wa:Nat):Ex:=.comp 1 [0] (.nm 0) (.seq (.call cn (.cons (.var 1) .nil))) .none (.cmp .Eq (.call wa (.cons (.var 1) (.cons (.var 0) .nil))) (.cst (.int (0))))
noncomputable def bIC (cn wa:Nat):bJ:=(.cons (.ret (.blt .all (.cons (eIC cn wa) .nil)))
  .nil)
theorem uL:∀(bs:List Bool),(bs.map D.bl).all D.isBl=true/\allB (bs.map D.bl)=some (bs.all id)
 |[]=>⟨rfl,rfl⟩
 | b::r=>by
  obtain⟨h1,h2⟩:=uL r;refine⟨by simp[D.isBl],?_⟩;cases b
  ·rfl
  ·show allB (r.map D.bl)=_;rw[h2];simp
theorem IE {T:Tb}{cn wa:Nat}(hcn:A4 T cn)(hwa:tJ T wa)(gs:List Nat)(c:Nat)(hc:c<=900):Pc.ret (aC T (bIC cn wa) (aF [.lst (gD gs),.int (c:Int)] 2)) = .ok (.bl (decide (Fl64.uM gs c)),true):=by
 have hst:aF [.lst (gD gs),.int (c:Int)] 2=[sG gs,sN c]:=rfl;rw[hst];have v1:ev T (.var 1) [sG gs,sN c] = .ok (.int (c:Int),.mv []):=aI rfl rfl;have hit:fS T (.seq (.call cn (.cons (.var 1) .nil))) [sG gs,sN c] = .ok (gD (Fl64.bS c),[]):=by
  rw[fS,me v1 (hcn c hc),aA];rfl
 have he:ev T (eIC cn wa) [sG gs,sN c] = .ok (.lst (((Fl64.bS c).map fun x=>decide (Fl64.cG x gs=0)).map D.bl),.mv []):=by
  unfold eIC;rw[lq (g:=fun d=>match d with | .int k=>(.bl (decide (Fl64.cG k.toNat gs=0)),.mv []) | _=>(.non,.mv [])) hit (by rw[be,Fl64.jR];exact cT (by omega)) (fun d hd=>?_) (fun d hd=>?_)]
  ·rw[gD,bg,bg];congr 2
  ·obtain⟨x,hx,rfl⟩:=List.mem_map.mp hd;have x64:=Fl64.kQ c x hx;have hb:aX [] (.nm 0) (.int (x:Int)) (aL [sG gs,sN c] 1 [0])=some [sN x,sG gs]:=rfl;rw[hb];have w0:ev T (.var 0) [sN x,sG gs] = .ok (.int (x:Int),.mv []):=aI rfl rfl;have w1:ev T (.var 1) [sN x,sG gs] = .ok (.lst (gD gs),.sh []):=rfl;have e1:=bL w1 w0 (hwa gs x x64);have e2:ev T (.cmp .Eq (.call wa (.cons (.var 1) (.cons (.var 0) .nil))) (.cst (.int (0)))) [sN x,sG gs] = .ok (.bl (decide (Fl64.cG x gs=0)),.mv []):=by
    have v:ev T (.cst (.int (0))) [sN x,sG gs] = .ok (.int 0,.mv []):=rfl;rw[ev,e1,aA,v,aA];show (iG (some (((Fl64.cG x gs:Nat):Int)==0))).bind _=_;have:(((Fl64.cG x gs:Nat):Int)==0)=decide (Fl64.cG x gs=0):=by
     rw[eo,gu,bz];omega
    rw[this];rfl
   simp only[bH,nX,aA,if_true,e2,Int.toNat_natCast]
  ·obtain⟨x,hx,rfl⟩:=List.mem_map.mp hd;rfl
 refine iE ?_;have h1:bQ T (.cons (eIC cn wa) .nil) [sG gs,sN c] = .ok [(.lst (((Fl64.bS c).map fun x=>decide (Fl64.cG x gs=0)).map D.bl),.mv [])]:=by
  rw[bQ,he,aA];rfl
 obtain⟨a1,a2⟩:=uL ((Fl64.bS c).map fun x=>decide (Fl64.cG x gs=0));have hb:nj .all [.lst (((Fl64.bS c).map fun x=>decide (Fl64.cG x gs=0)).map D.bl)]=some (.bl (decide (Fl64.uM gs c))):=by
  show (if (((Fl64.bS c).map fun x=>decide (Fl64.cG x gs=0)).map D.bl).all D.isBl then (allB (((Fl64.bS c).map fun x=>decide (Fl64.cG x gs=0)).map D.bl)).map D.bl else none)=_;rw[if_pos a1,a2];have:(((Fl64.bS c).map fun x=>decide (Fl64.cG x gs=0)).all id)=decide (Fl64.uM gs c):=by
   rw[eo,bw,bz];simp[Fl64.uM]
  rw[this];rfl
 rw[ev,h1,aA,xW,hb,aM,aA];rfl
def Fu (T:Tb)(rn:Nat):Prop:=∀ ns:List Nat,Fl64.Gr ns->ns.length<=900->T.cl rn [.lst (gD ns)] = .ok (.lst (gD (Fl64.jA [1] ns)),true)
end Pc.Gr
end
section
namespace Fl64
noncomputable def iD (a b:Nat):Nat->Nat->Nat->Nat
 |0,_,w=>w
 |m+1,k,w=>iD a b m (k+1) (if b / 2 ^ k%2=1 then w^^^(a*2 ^ k) else w)
noncomputable def z6:Nat->Nat->Nat
 |0,w=>w
 |m+1,w=>z6 m (if w / 2 ^ (m+6)%2=1 then w^^^(67*2 ^ m) else w)
noncomputable def tm2 (a b:Nat):Nat:=z6 5 (iD a b 6 0 0)
theorem FQ {a b:Nat}(ha:a<64)(hb:b<64):tm2 a b=tm a b:=by
 have:=all2 (f:=fun a b=>decide (tm2 a b=tm a b)) (by decide +kernel) ha hb;exact dz this
end Fl64
namespace Pc.Lw
open PySem Pc Pc.Sm Pc.Gr
noncomputable def HH:bJ:=(.cons (.ite (.cmp .Eq (.bin .BitAnd (.bin .RShift (.var 1) (.var 3)) (.cst (.int (1)))) (.cst (.int (1)))) (.cons (.asg (.nm 2) (.bin .BitXor (.var 2) (.bin .LShift (.var 0) (.var 3))) false)
  .nil) .nil)
  .nil)
noncomputable def Hz:bJ:=(.cons (.ite (.cmp .Eq (.bin .BitAnd (.bin .RShift (.var 2) (.bin .Add (.var 3) (.cst (.int (6))))) (.cst (.int (1)))) (.cst (.int (1)))) (.cons (.asg (.nm 2) (.bin .BitXor (.var 2) (.bin .LShift (.cst (.int (67))) (.var 3))) false)
  .nil) .nil)
  .nil)
noncomputable def bLT:bJ:=(.cons (.asg (.nm 2) (.cst (.int (0))) false)
  (.cons (.forr (.nm 3) (.rng1 (.cst (.int (6)))) HH)
  (.cons (.forr (.nm 3) (.rng3 (.cst (.int (4))) (.neg (.cst (.int (1)))) (.neg (.cst (.int (1))))) Hz)
  (.cons (.ret (.var 2))
  .nil))))
theorem CB (T:Tb)(a b w k:Int)(hk:0<=k)(hk':k<=1000000)(ha:a.natAbs<2 ^ 64):aC T HH [sI a,sI b,sI w,sI k] = .nx [sI a,sI b,sI (if Builtin.bitAnd (b / 2 ^ k.toNat) 1=1 then Builtin.bitXor w (a*2 ^ k.toNat) else w),sI k]:=by
 have e1:(Builtin.bitAnd (b / 2 ^ k.toNat) 1==1)=decide (Builtin.bitAnd (b / 2 ^ k.toNat) 1=1):=rfl;by_cases h1:Builtin.bitAnd (b / 2 ^ k.toNat) 1=1 <;>
  simp[e1,HH,aC,bI,ev,aA,aS,aM,aO,Pc.binI,ni,m6,D.eqf,truth,D.flat,bU,jM,put,Tg.drop,aD,h1,hk,hk',ha]
theorem CO (T:Tb)(a b w k:Int)(hk:0<=k)(hk':k<=1000000):aC T Hz [sI a,sI b,sI w,sI k] = .nx [sI a,sI b,sI (if Builtin.bitAnd (w / 2 ^ (k+6).toNat) 1=1 then Builtin.bitXor w (67*2 ^ k.toNat) else w),sI k]:=by
 have e1:(Builtin.bitAnd (w / 2 ^ (k+6).toNat) 1==1)=decide (Builtin.bitAnd (w / 2 ^ (k+6).toNat) 1=1):=rfl;have hk6:0<=k+6:=by omega
 by_cases h1:Builtin.bitAnd (w / 2 ^ (k+6).toNat) 1=1 <;>
  simp[e1,Hz,aC,bI,ev,aA,aS,aM,aO,Pc.binI,ni,m6,D.eqf,truth,D.flat,bU,jM,put,Tg.drop,aD,h1,hk,hk',hk6]
theorem wW (b k:Nat):Builtin.bitAnd ((b:Int) / 2 ^ k) 1=((b / 2 ^ k%2:Nat):Int):=by
 have q:(b:Int) / 2 ^ k=((b / 2 ^ k:Nat):Int):=by simp
 rw[q,vH (fv _)];omega
theorem wz (T:Tb)(a b:Nat)(ha:a<64):∀(m k w:Nat) (o:Slot),k+m<=6->∃ o',bC (.nm 3) [] (aC T HH) (bB k 1 m) [sN a,sN b,sN w,o] = .nx [sN a,sN b,sN (Fl64.iD a b m k w),o']
 |0,k,w,o,_=>⟨o,rfl⟩
 | m+1,k,w,o,hm=>by
  rw[bB,bC];have hb:aX [] (.nm 3) (.int (k:Int)) [sN a,sN b,sN w,o]=some [sN a,sN b,sN w,sN k]:=by
   simp[aX,put,Tg.drop,cI,D.flat]
  rw[hb];dsimp only;rw[CB T a b w k (by omega) (by omega) (by omega)];dsimp only;have e2:(if Builtin.bitAnd ((b:Int) / 2 ^ (k:Int).toNat) 1=1 then Builtin.bitXor (w:Int) ((a:Int)*2 ^ (k:Int).toNat) else (w:Int))=((if b / 2 ^ k%2=1 then w^^^(a*2 ^ k) else w:Nat):Int):=by
   rw[bo,wW];have q:(a:Int)*2 ^ k=((a*2 ^ k:Nat):Int):=by simp
   rw[q,cY];by_cases h:b / 2 ^ k%2=1
   ·rw[if_pos h,if_pos (by omega)]
   ·rw[if_neg h,if_neg (by omega)]
  have e3:((k:Int)+1)=((k+1:Nat):Int):=by omega
  rw[e2,e3];obtain⟨o',h⟩:=wz T a b ha m (k+1) (if b / 2 ^ k%2=1 then w^^^(a*2 ^ k) else w) (sN k) (by omega);exact⟨o',h⟩
theorem xE (T:Tb)(a b:Nat):∀(m w:Nat) (o:Slot),m<=5->∃ o',bC (.nm 3) [] (aC T Hz) (bB ((m:Int) - 1) (-1) m) [sN a,sN b,sN w,o] = .nx [sN a,sN b,sN (Fl64.z6 m w),o']
 |0,w,o,_=>⟨o,rfl⟩
 | m+1,w,o,hm=>by
  have e0:((m+1:Nat):Int) - 1=(m:Int):=by omega
  rw[e0,bB,bC];have hb:aX [] (.nm 3) (.int (m:Int)) [sN a,sN b,sN w,o]=some [sN a,sN b,sN w,sN m]:=by
   simp[aX,put,Tg.drop,cI,D.flat]
  rw[hb];dsimp only;rw[CO T a b w m (by omega) (by omega)];dsimp only;have e2:(if Builtin.bitAnd ((w:Int) / 2 ^ ((m:Int)+6).toNat) 1=1 then Builtin.bitXor (w:Int) (67*2 ^ (m:Int).toNat) else (w:Int))=((if w / 2 ^ (m+6)%2=1 then w^^^(67*2 ^ m) else w:Nat):Int):=by
   have q0:((m:Int)+6).toNat=m+6:=by omega
   rw[q0,bo,wW];have q:(67:Int)*2 ^ m=((67*2 ^ m:Nat):Int):=by simp
   rw[q,cY];by_cases h:w / 2 ^ (m+6)%2=1
   ·rw[if_pos h,if_pos (by omega)]
   ·rw[if_neg h,if_neg (by omega)]
  have e3:((m:Int) + -1)=(m:Int) - 1:=by omega
  rw[e2,e3];obtain⟨o',h⟩:=xE T a b m (if w / 2 ^ (m+6)%2=1 then w^^^(67*2 ^ m) else w) (sN m) (by omega);exact⟨o',h⟩
theorem IJ {T:Tb}(a b:Nat)(ha:a<64)(hb:b<64):Pc.ret (aC T bLT (aF [.int (a:Int),.int (b:Int)] 4)) = .ok (.int (Fl64.tm a b:Nat),true):=by
 have hst:aF [.int a,.int b] 4=[sN a,sN b,none,none]:=rfl;rw[hst];unfold bLT;have h1:bI T (.asg (.nm 2) (.cst (.int 0)) false) [sN a,sN b,none,none] = .nx [sN a,sN b,sN 0,none]:=rfl;obtain⟨o',h⟩:=wz T a b ha 6 0 0 none (by decide);obtain⟨o'',h'⟩:=xE T a b 5 (Fl64.iD a b 6 0 0) o' (by decide);have h2:bI T (.forr (.nm 3) (.rng1 (.cst (.int (6)))) HH) [sN a,sN b,sN 0,none] = .nx (unlock [] [sN a,sN b,sN 0,none] [sN a,sN b,sN (Fl64.iD a b 6 0 0),o']):=by
  rw[bI];have hit:fS T (.rng1 (.cst (.int (6)))) [sN a,sN b,sN 0,none] = .ok (bB ((0:Nat):Int) 1 6,[]):=rfl;rw[hit,aS];dsimp only;have hl:lock [] [sN a,sN b,sN 0,(none:Slot)]=[sN a,sN b,sN 0,none]:=rfl;rw[hl,h]
 have u1:∀(x:Nat) (o:Slot),unlock [] [sN a,sN b,sN 0,none] [sN a,sN b,sN x,o]=[sN a,sN b,sN x,o]:=fun x o=>by
  simp[unlock];cases o with
  |none=>rfl
  |some p=>obtain⟨d,t⟩:=p;cases t<;>rfl
 have h3:bI T (.forr (.nm 3) (.rng3 (.cst (.int (4))) (.neg (.cst (.int (1)))) (.neg (.cst (.int (1))))) Hz) [sN a,sN b,sN (Fl64.iD a b 6 0 0),o'] = .nx (unlock [] [sN a,sN b,sN (Fl64.iD a b 6 0 0),o'] [sN a,sN b,sN (Fl64.tm2 a b),o'']):=by
  rw[bI];have hit:fS T (.rng3 (.cst (.int (4))) (.neg (.cst (.int (1)))) (.neg (.cst (.int (1))))) [sN a,sN b,sN (Fl64.iD a b 6 0 0),o'] = .ok (bB (((5:Nat):Int) - 1) (-1) 5,[]):=rfl;rw[hit,aS];dsimp only;have hl:lock [] [sN a,sN b,sN (Fl64.iD a b 6 0 0),o']=[sN a,sN b,sN (Fl64.iD a b 6 0 0),o']:=by
   simp[lock];cases o' with
   |none=>rfl
   |some p=>obtain⟨d,t⟩:=p;cases t<;>rfl
  rw[hl,h'];rfl
 rw[aC,h1,aD,aC,h2,aD,u1,aC,h3,aD,Fl64.FQ ha hb];generalize Fl64.tm a b=x;simp[aC,bI,ev,unlock,aS,D.flat,lO,Pc.ret,bV]
noncomputable def bWh:bJ:=(.cons (.ret (.and (.blt (.isi "int") (.cons (.var 0) .nil)) (.not (.blt (.isi "bool") (.cons (.var 0) .nil)))))
  .nil)
theorem Iq {T:Tb}(x:Int):Pc.ret (aC T bWh (aF [.int x] 1)) = .ok (.bl true,true):=rfl
noncomputable def bCe:bJ:=(.cons (.ite (.cmp .Lt (.var 1) (.blt .len (.cons (.var 0) .nil))) (.cons (.ret (.ix (.var 0) (.var 1)))
  .nil) .nil)
  (.cons (.ret (.bin .Mult (.cst (.int (1000003))) (.bin .Add (.var 1) (.cst (.int (1))))))
  .nil))
theorem DL (ns:List Int):nj .len [.lst (ns.map D.int)]=some (.int (ns.length:Int)):=by
 show some (D.int ((ns.map D.int).length:Int))=_;rw[aj]
theorem IW {ns:List Int}{k:Nat}(h:k<ns.length):GZ (.lst (ns.map D.int)) (.int (k:Int))=some (.int ns[k]):=by
 show (Pc.nt (ns.map D.int).length (k:Int)).bind (fun j=>(ns.map D.int)[j]?)=_;rw[iK (by rw[aj];exact h)];simp[h]
theorem HW {T:Tb}(ns:List Int)(k:Nat):∃ v:Int,Pc.ret (aC T bCe (aF [.lst (ns.map D.int),.int (k:Int)] 2)) = .ok (.int v,true):=by
 have hst:aF [.lst (ns.map D.int),.int (k:Int)] 2=[sS (ns.map D.int),sI (k:Int)]:=rfl;rw[hst];have el:ev T (.blt .len (.cons (.var 0) .nil)) [sS (ns.map D.int),sI (k:Int)] = .ok (.int (ns.length:Int),.mv []):=by
  have h1:bQ T (.cons (.var 0) .nil) [sS (ns.map D.int),sI (k:Int)] = .ok [(.lst (ns.map D.int),.sh [])]:=rfl;rw[ev,h1,aA,xW,DL,aM,aA,bU]
 have v1:ev T (.var 1) [sS (ns.map D.int),sI (k:Int)] = .ok (.int (k:Int),.mv []):=aI rfl rfl;have ec:ev T (.cmp .Lt (.var 1) (.blt .len (.cons (.var 0) .nil))) [sS (ns.map D.int),sI (k:Int)] = .ok (.bl (decide ((k:Int)<(ns.length:Int))),.mv []):=by
  rw[ev,v1,aA,el,aA];rfl
 unfold bCe;rw[aC,bI,ec,aS];by_cases h:k<ns.length
 ·rw[cq (show (k:Int)<(ns.length:Int) by omega)];have e:ev T (.ix (.var 0) (.var 1)) [sS (ns.map D.int),sI (k:Int)] = .ok (.int ns[k],.mv []):=by
   have v0:ev T (.var 0) [sS (ns.map D.int),sI (k:Int)] = .ok (.lst (ns.map D.int),.sh []):=rfl;rw[ev,v0,aA,v1,aA,IW h,aM,aA];rfl
  refine⟨ns[k],?_⟩;show Pc.ret ((aC T (.cons (.ret (.ix (.var 0) (.var 1))) .nil) [sS (ns.map D.int),sI (k:Int)]).andThen _)=_;rw[aC,bI,e,aS];rfl
 ·rw[cj (show ¬ (k:Int)<(ns.length:Int) by omega)];refine⟨1000003*((k:Int)+1),?_⟩;show Pc.ret ((Fl.nx [sS (ns.map D.int),sI (k:Int)]).andThen _)=_;rw[aD];refine iE ?_;have s1:small 1000003=true:=by decide
  generalize (k:Int)=K;simp[ev,aA,D.flat,aO,Pc.binI,aM,bU,s1]
noncomputable def bMx:bJ:=(.cons (.asg (.nm 2) (.bin .Mod (.bin .Mult (.bin .Add (.bin .Add (.bin .Mod (.var 0) (.cst (.int (2147483647)))) (.bin .Mult (.cst (.int (7919))) (.var 1))) (.cst (.int (1)))) (.cst (.int (48271)))) (.cst (.int (2147483647)))) false)
  (.cons (.ret (.bin .FloorDiv (.bin .Mod (.bin .Mult (.var 2) (.bin .Add (.bin .Mod (.var 2) (.cst (.int (1009)))) (.cst (.int (1))))) (.cst (.int (2147483629)))) (.cst (.int (3)))))
  .nil))
theorem Hg {T:Tb}(c k:Int):∃ v:Int,0<=v/\Pc.ret (aC T bMx (aF [.int c,.int k] 3)) = .ok (.int v,true):=by
 have hst:aF [.int c,.int k] 3=[sI c,sI k,none]:=rfl;rw[hst];have s1:small 7919=true:=by decide
 have s2:small 48271=true:=by decide
 have g1:bI T (.asg (.nm 2) (.bin .Mod (.bin .Mult (.bin .Add (.bin .Add (.bin .Mod (.var 0) (.cst (.int (2147483647)))) (.bin .Mult (.cst (.int (7919))) (.var 1))) (.cst (.int (1)))) (.cst (.int (48271)))) (.cst (.int (2147483647)))) false) [sI c,sI k,none] = .nx [sI c,sI k,sI ((c%2147483647+7919*k+1)*48271%2147483647)]:=by
  simp[bI,ev,aA,aS,aM,aO,Pc.binI,D.flat,bU,jM,put,Tg.drop,s1,s2]
 have so:small ((c%2147483647+7919*k+1)*48271%2147483647)=true:=y6 (by omega) (by omega);generalize (c%2147483647+7919*k+1)*48271%2147483647=o at g1 so;refine⟨o*(o%1009+1)%2147483629 / 3,by omega,?_⟩;unfold bMx;rw[aC,g1,aD];refine iE ?_;simp[ev,aA,D.flat,aO,Pc.binI,aM,bU,so]
def pH (T:Tb)(mx:Nat):Prop:=∀ c k:Int,∃ v:Int,0<=v/\T.cl mx [.int c,.int k] = .ok (.int v,true)
noncomputable def eRw:Ex:=.comp 1 [] (.nm 0) (.rng1 (.var 1)) .none (.bin .Mod (.bin .Mult (.cst (.int (7))) (.var 0)) (.cst (.int (64))))
noncomputable def Cz (mx:Nat):bJ:=(.cons (.setix 3 .none (.bin .Mod (.var 2) (.var 1)) (.bin .BitXor (.ix (.var 3) (.bin .Mod (.var 2) (.var 1))) (.bin .Mod (.bin .FloorDiv (.call mx (.cons (.ix (.var 0) (.var 2)) (.cons (.var 2) .nil))) (.cst (.int (97)))) (.cst (.int (64))))))
  .nil)
noncomputable def bRw (mx:Nat):bJ:=(.cons (.asg (.nm 3) eRw false)
  (.cons (.forr (.nm 2) (.rng1 (.blt .len (.cons (.var 0) .nil))) (Cz mx))
  (.cons (.ret (.var 3))
  .nil)))
theorem B8 {T:Tb}{mx:Nat}(hmx:pH T mx)(ns:List Int)(n:Nat)(hn:0<n)(hn':n<=1000)(k:Nat)(hk:k<ns.length){gs:List Nat}(hg:Fl64.Gr gs)(hgl:gs.length=n)(o:Slot)(ho:cB o) :
  ∃ gs',Fl64.Gr gs'/\gs'.length=n/\aX [] (.nm 2) (.int (k:Int)) [sS (ns.map D.int),sN n,o,oG gs]=some [sS (ns.map D.int),sN n,sN k,oG gs]/\aC T (Cz mx) [sS (ns.map D.int),sN n,sN k,oG gs] = .nx [sS (ns.map D.int),sN n,sN k,oG gs']:=by
 have hb:=fM (i:=2) (d:=.int (k:Int)) (env:=[sS (ns.map D.int),sN n,o,oG gs]) (.cons (aJ _) (.cons (aB _) (.cons ho (.cons (aB _) .nil)))) (by simp);have te:Tame [sS (ns.map D.int),sN n,sN k,oG gs]:=.cons (aJ _) (.cons (aB _) (.cons (aB _) (.cons (aB _) .nil)));obtain⟨v,hv,hm⟩:=hmx ns[k] k;have v0:ev T (.var 0) [sS (ns.map D.int),sN n,sN k,oG gs] = .ok (.lst (ns.map D.int),.sh []):=rfl;have v1:ev T (.var 1) [sS (ns.map D.int),sN n,sN k,oG gs] = .ok (.int (n:Int),.mv []):=aI rfl rfl;have v2:ev T (.var 2) [sS (ns.map D.int),sN n,sN k,oG gs] = .ok (.int (k:Int),.mv []):=aI rfl rfl;have v3:ev T (.var 3) [sS (ns.map D.int),sN n,sN k,oG gs] = .ok (.lst (gD gs),.mv [3]):=cV rfl rfl;have e1:ev T (.bin .Mod (.var 2) (.var 1)) [sS (ns.map D.int),sN n,sN k,oG gs] = .ok (.int ((k%n:Nat):Int),.mv []):=by
  rw[ev,v2,aA,v1,aA,aO];have:Pc.binI .Mod (k:Int) (n:Int)=some ((k%n:Nat):Int):=by
   show (if 0<(n:Int) then some ((k:Int)%(n:Int)) else none)=_;rw[if_pos (by omega)];simp
  rw[this];rfl
 have hlt:k%n<gs.length:=by rw[hgl];exact i8 _ hn
 have e2:ev T (.ix (.var 3) (.bin .Mod (.var 2) (.var 1))) [sS (ns.map D.int),sN n,sN k,oG gs] = .ok (.int ((gs.getD (k%n) 0:Nat):Int),.mv []):=by
  rw[ev,v3,aA,e1,aA,mq hlt,aM,aA];rfl
 have e3:ev T (.ix (.var 0) (.var 2)) [sS (ns.map D.int),sN n,sN k,oG gs] = .ok (.int ns[k],.mv []):=by
  rw[ev,v0,aA,v2,aA,IW hk,aM,aA];rfl
 have e4:=bL e3 v2 hm;obtain⟨w,hw,hw'⟩:=Ba (a:=v / 97%64) (m:=64) (by omega) (by omega);have e5:ev T (.bin .Mod (.bin .FloorDiv (.call mx (.cons (.ix (.var 0) (.var 2)) (.cons (.var 2) .nil))) (.cst (.int (97)))) (.cst (.int (64)))) [sS (ns.map D.int),sN n,sN k,oG gs] = .ok (.int (w:Int),.mv []):=by
  have q:ev T (.bin .FloorDiv (.call mx (.cons (.ix (.var 0) (.var 2)) (.cons (.var 2) .nil))) (.cst (.int (97)))) [sS (ns.map D.int),sN n,sN k,oG gs] = .ok (.int (v / 97),.mv []):=by
   rw[ev,e4,aA];rfl
  rw[ev,q,aA,<-hw];rfl
 have e6:ev T (.bin .BitXor (.ix (.var 3) (.bin .Mod (.var 2) (.var 1))) (.bin .Mod (.bin .FloorDiv (.call mx (.cons (.ix (.var 0) (.var 2)) (.cons (.var 2) .nil))) (.cst (.int (97)))) (.cst (.int (64))))) [sS (ns.map D.int),sN n,sN k,oG gs] = .ok (.int ((gs.getD (k%n) 0^^^w:Nat):Int),.mv []):=by
  rw[ev,e2,aA,e5,aA,aO];show (iG (some (D.int (Builtin.bitXor ((gs.getD (k%n) 0:Nat):Int) (w:Int))))).bind _=_;rw[cY];rfl
 have st:=jC (T:=T) (x:=3) te rfl e1 (iK (by rw[be];exact hlt)) e6 (by rw[be,hgl];exact cT hn');refine⟨gs.set (k%n) (gs.getD (k%n) 0^^^w),Fl64.mr hg (by omega),by rw[aq];exact hgl,hb,?_⟩;unfold Cz;rw[aC,st,aD,kM];rfl
theorem HM {T:Tb}{mx:Nat}(hmx:pH T mx)(ns:List Int)(hl:ns.length<=63)(n:Nat)(hn:0<n)(hn':n<=1000):∃ gs,Fl64.Gr gs/\gs.length=n/\Pc.ret (aC T (bRw mx) (aF [.lst (ns.map D.int),.int (n:Int)] 4)) = .ok (.lst (gD gs),true):=by
 have hst:aF [.lst (ns.map D.int),.int (n:Int)] 4=[sS (ns.map D.int),sN n,none,none]:=rfl;rw[hst];have v1:ev T (.var 1) [sS (ns.map D.int),sN n,none,none] = .ok (.int (n:Int),.mv []):=aI rfl rfl;have hit:fS T (.rng1 (.var 1)) [sS (ns.map D.int),sN n,none,none] = .ok ((List.range' 0 n).map (fun (k:Nat)=>D.int (k:Int)),[]):=by
  have:=nM T _ _ _ _ v1 (qF hn');rw[bo] at this;rw[this,<-eP n 0];rfl
 have he:ev T eRw [sS (ns.map D.int),sN n,none,none] = .ok (.lst (gD ((List.range' 0 n).map fun k=>7*k%64)),.mv []):=by
  unfold eRw;rw[lq (g:=fun d=>match d with | .int k=>(.int ((7*k.toNat%64:Nat):Int),.mv []) | _=>(.non,.mv [])) hit (by rw[aj,List.length_range'];exact cT hn') (fun d hd=>?_) (fun d hd=>?_)]
  ·rw[gD,bg,bg];congr 2
  ·obtain⟨k,hk,rfl⟩:=List.mem_map.mp hd;have hb:aX [] (.nm 0) (.int (k:Int)) (aL [sS (ns.map D.int),sN n,none,none] 1 [])=some [sN k]:=rfl;rw[hb];have e:ev T (.bin .Mod (.bin .Mult (.cst (.int (7))) (.var 0)) (.cst (.int (64)))) [sN k] = .ok (.int ((7*k%64:Nat):Int),.mv []):=by
    have s7:small 7=true:=by decide
    have q:((7*k%64:Nat):Int)=7*(k:Int)%64:=by omega
    rw[q];show ev T (.bin .Mod (.bin .Mult (.cst (.int (7))) (.var 0)) (.cst (.int (64)))) [sI (k:Int)]=_;generalize (k:Int)=K;simp[ev,aA,D.flat,aO,Pc.binI,aM,bU,s7]
   simp only[bH,nX,aA,if_true,e,Int.toNat_natCast]
  ·obtain⟨k,hk,rfl⟩:=List.mem_map.mp hd;rfl
 have g1:bI T (.asg (.nm 3) eRw false) [sS (ns.map D.int),sN n,none,none] = .nx [sS (ns.map D.int),sN n,none,oG ((List.range' 0 n).map fun k=>7*k%64)]:=bT (.cons (aJ _) (.cons (aB _) (.cons aH (.cons aH .nil)))) (by simp) he;have hg0:Fl64.Gr ((List.range' 0 n).map fun k=>7*k%64):=fun z hz=>by
  obtain⟨k,_,rfl⟩:=List.mem_map.mp hz;exact i8 _ (by decide)
 obtain⟨e,q1,q2⟩:=pz (t:=.nm 2) (R:=[]) (b:=aC T (Cz mx)) (fun _ e=>∃ gs o,Fl64.Gr gs/\gs.length=n/\cB o/\e=[sS (ns.map D.int),sN n,o,oG gs]) (bB 0 1 ns.length) 0 [sS (ns.map D.int),sN n,none,oG ((List.range' 0 n).map fun k=>7*k%64)] ⟨_,none,hg0,by simp,aH,rfl⟩ (fun i d e hi hj=>by
  obtain⟨gs,o,a1,a2,a3,rfl⟩:=hj;obtain⟨i1,rfl⟩:=qQ _ _ _ _ hi;rw[Int.zero_add];obtain⟨gs',b1,b2,b3,b4⟩:=B8 hmx ns n hn hn' i i1 a1 a2 o a3;exact⟨_,_,b3,b4,gs',_,b1,b2,aB _,rfl⟩)
 obtain⟨gs,o,a1,a2,a3,rfl⟩:=q2;have hlen:fS T (.rng1 (.blt .len (.cons (.var 0) .nil))) [sS (ns.map D.int),sN n,none,oG ((List.range' 0 n).map fun k=>7*k%64)] = .ok (bB 0 1 ns.length,[]):=by
  have el:ev T (.blt .len (.cons (.var 0) .nil)) [sS (ns.map D.int),sN n,none,oG ((List.range' 0 n).map fun k=>7*k%64)] = .ok (.int (ns.length:Int),.mv []):=by
   have h1:bQ T (.cons (.var 0) .nil) [sS (ns.map D.int),sN n,none,oG ((List.range' 0 n).map fun k=>7*k%64)] = .ok [(.lst (ns.map D.int),.sh [])]:=rfl;rw[ev,h1,aA,xW,DL,aM,aA,bU]
  have:=nM T _ _ _ _ el (qF (by omega));rw[bo] at this;exact this
 have g2:=cF hlen q1;have v3:ev T (.var 3) [sS (ns.map D.int),sN n,o,oG gs] = .ok (.lst (gD gs),.mv [3]):=cV rfl rfl;refine⟨gs,a1,a2,?_⟩;unfold bRw;rw[aC,g1,aD,aC,g2,aD,aC,bI,v3,aS];rfl
def uh (T:Tb)(ce:Nat):Prop:=∀(ns:List Int) (k:Nat),∃ v:Int,T.cl ce [.lst (ns.map D.int),.int (k:Int)] = .ok (.int v,true)
noncomputable def nk (lt lw:Nat):bJ:=(.cons (.asg (.nm 2) (.call lt (.cons (.var 2) (.cons (.cst (.int (2))) .nil))) false)
  (.cons (.ite (.cmp .NotEq (.call lw (.cons (.var 0) (.cons (.var 2) .nil))) (.cst (.int (0)))) (.cons (.ret (.cst (.bl false)))
  .nil) .nil)
  .nil))
noncomputable def bLC (lt lw:Nat):bJ:=(.cons (.asg (.nm 2) (.cst (.int (1))) false)
  (.cons (.forr (.nm 3) (.rng1 (.var 1)) (nk lt lw))
  (.cons (.ret (.cst (.bl true)))
  .nil)))
def AQ (T:Tb)(lt:Nat):Prop:=∀ a b:Nat,a<64->b<64->T.cl lt [.int (a:Int),.int (b:Int)] = .ok (.int ((Fl64.tm a b:Nat):Int),true)
def DX (gs:List Nat)(k m:Nat):Prop:=∀ x∈(List.range' (k+1) m).map (Fl64.pw 2),Fl64.cG x gs=0
noncomputable instance (gs:List Nat) (k m:Nat):Decidable (DX gs k m):=by unfold DX;infer_instance
theorem vZ {T:Tb}{lt lw:Nat}(hlt:AQ T lt)(gs:List Nat)(hlw:∀ x:Nat,x<64->T.cl lw [.lst (gD gs),.int (x:Int)] = .ok (.int ((Fl64.cG x gs:Nat):Int),true))(c:Int):∀(m k:Nat) (a:Int) (o:Slot),cB o->(DX gs k m->∃ o' x',bC (.nm 3) [] (aC T (nk lt lw)) (bB a 1 m) [sG gs,sI c,sN (Fl64.pw 2 k),o] = .nx [sG gs,sI c,x',o'])/\(¬ DX gs k m->bC (.nm 3) [] (aC T (nk lt lw)) (bB a 1 m) [sG gs,sI c,sN (Fl64.pw 2 k),o] = .rt (.bl false) true)
 |0,k,a,o,_=>⟨fun _=>⟨o,_,rfl⟩,fun h=>absurd (fun x hx=>by simp at hx) h⟩
 | m+1,k,a,o,ho=>by
  have p64:=Fl64.bD (x:=2) (by decide) k;have q64:=Fl64.bD (x:=2) (by decide) (k+1);have bd:=fM (i:=3) (d:=.int a) (env:=[sG gs,sI c,sN (Fl64.pw 2 k),o]) (.cons (aJ _) (.cons (aB _) (.cons (aB _) (.cons ho .nil)))) (by simp);have v2:ev T (.var 2) [sG gs,sI c,sN (Fl64.pw 2 k),sI a] = .ok (.int ((Fl64.pw 2 k:Nat):Int),.mv []):=aI rfl rfl;have g1:bI T (.asg (.nm 2) (.call lt (.cons (.var 2) (.cons (.cst (.int (2))) .nil))) false) [sG gs,sI c,sN (Fl64.pw 2 k),sI a] = .nx [sG gs,sI c,sN (Fl64.pw 2 (k+1)),sI a] :=
   bT (.cons (aJ _) (.cons (aB _) (.cons (aB _) (.cons (aB _) .nil)))) (by simp) (bL (d2:=.int ((2:Nat):Int)) (R2:=.mv []) v2 rfl (hlt _ 2 p64 (by decide)))
  have w2:ev T (.var 2) [sG gs,sI c,sN (Fl64.pw 2 (k+1)),sI a] = .ok (.int ((Fl64.pw 2 (k+1):Nat):Int),.mv []):=aI rfl rfl;have w0:ev T (.var 0) [sG gs,sI c,sN (Fl64.pw 2 (k+1)),sI a] = .ok (.lst (gD gs),.sh []):=rfl;have ew:=bL w0 w2 (hlw _ q64);have ec:ev T (.cmp .NotEq (.call lw (.cons (.var 0) (.cons (.var 2) .nil))) (.cst (.int (0)))) [sG gs,sI c,sN (Fl64.pw 2 (k+1)),sI a] = .ok (.bl (!decide (Fl64.cG (Fl64.pw 2 (k+1)) gs=0)),.mv []):=by
   have v:ev T (.cst (.int (0))) [sG gs,sI c,sN (Fl64.pw 2 (k+1)),sI a] = .ok (.int 0,.mv []):=rfl;rw[ev,ew,aA,v,aA];show (iG (some (!(((Fl64.cG (Fl64.pw 2 (k+1)) gs:Nat):Int)==0)))).bind _=_;have:(((Fl64.cG (Fl64.pw 2 (k+1)) gs:Nat):Int)==0)=decide (Fl64.cG (Fl64.pw 2 (k+1)) gs=0):=by
    rw[eo,gu,bz];omega
   rw[this];rfl
  have hF:DX gs k (m+1)↔Fl64.cG (Fl64.pw 2 (k+1)) gs=0/\DX gs (k+1) m:=by
   unfold DX;rw[List.range'_succ,ay];simp
  have stp:∀{f:Fl},aC T (nk lt lw) [sG gs,sI c,sN (Fl64.pw 2 k),sI a]=f->bC (.nm 3) [] (aC T (nk lt lw)) (bB a 1 (m+1)) [sG gs,sI c,sN (Fl64.pw 2 k),o]=(match f with
   |.nx e=>bC (.nm 3) [] (aC T (nk lt lw)) (bB (a+1) 1 m) e
   |.ct e=>bC (.nm 3) [] (aC T (nk lt lw)) (bB (a+1) 1 m) e
   |.bk e=>.nx e
   |x=>x):=fun h=>by
   rw[bB,bC,bd,<-h];rfl
  obtain⟨i1,i2⟩:=vZ hlt gs hlw c m (k+1) (a+1) (sI a) (aB _);by_cases hz:Fl64.cG (Fl64.pw 2 (k+1)) gs=0
  ·have st:aC T (nk lt lw) [sG gs,sI c,sN (Fl64.pw 2 k),sI a] = .nx [sG gs,sI c,sN (Fl64.pw 2 (k+1)),sI a]:=by
    unfold nk;rw[cq hz] at ec;rw[aC,g1,aD,aC,ite_ff ec,aD];rfl
   rw[stp st];exact⟨fun h=>i1 (hF.mp h).2,fun h=>i2 fun q=>h (hF.mpr ⟨hz,q⟩)⟩
  ·have st:aC T (nk lt lw) [sG gs,sI c,sN (Fl64.pw 2 k),sI a] = .rt (.bl false) true:=by
    unfold nk;rw[cj hz] at ec;rw[aC,g1,aD,aC,bI,ec,aS];rfl
   rw[stp st];exact⟨fun h=>absurd (hF.mp h).1 hz,fun _=>rfl⟩
theorem Hq {T:Tb}{lt lw:Nat}(hlt:AQ T lt)(gs:List Nat)(hlw:∀ x:Nat,x<64->T.cl lw [.lst (gD gs),.int (x:Int)] = .ok (.int ((Fl64.cG x gs:Nat):Int),true))(c:Nat)(hc:c<=900):Pc.ret (aC T (bLC lt lw) (aF [.lst (gD gs),.int (c:Int)] 4)) = .ok (.bl (decide (Fl64.uM gs c)),true):=by
 have hst:aF [.lst (gD gs),.int (c:Int)] 4=[sG gs,sI (c:Int),none,none]:=rfl;rw[hst];have g1:bI T (.asg (.nm 2) (.cst (.int (1))) false) [sG gs,sI (c:Int),none,none] = .nx [sG gs,sI (c:Int),sN (Fl64.pw 2 0),none]:=bT (.cons (aJ _) (.cons (aB _) (.cons aH (.cons aH .nil)))) (by simp) rfl;have v1:ev T (.var 1) [sG gs,sI (c:Int),sN (Fl64.pw 2 0),none] = .ok (.int (c:Int),.mv []):=aI rfl rfl;have hit:=nM T _ _ _ _ v1 (qF (by omega));rw[bo] at hit;obtain⟨i1,i2⟩:=vZ hlt gs hlw c c 0 0 none aH;have hFC:DX gs 0 c↔Fl64.uM gs c:=Iff.rfl;unfold bLC;rw[aC,g1,aD,aC];by_cases h:Fl64.uM gs c
 ·obtain⟨o',x',q⟩:=i1 (hFC.mpr h);rw[cF hit q,aD,cq h];exact fin _ _
 ·have q:=i2 fun z=>h (hFC.mp z)
  have:bI T (.forr (.nm 3) (.rng1 (.var 1)) (nk lt lw)) [sG gs,sI (c:Int),sN (Fl64.pw 2 0),none] = .rt (.bl false) true:=by
   rw[bI,hit,aS];dsimp only;rw[uu,q]
  rw[this,cj h];rfl
noncomputable def Gk (wh:Nat):bJ:=(.cons (.ite (.or (.not (.call wh (.cons (.var 2) .nil))) (.or (.cmp .Lt (.var 2) (.cst (.int (0)))) (.cmp .Gt (.var 2) (.cst (.int (63)))))) (.cons (.ret (.cst (.bl false)))
  .nil) .nil)
  .nil)
noncomputable def bLG (wh:Nat):bJ:=(.cons (.ite (.or (.not (.blt (.isi "list") (.cons (.var 0) .nil))) (.cmp .NotEq (.blt .len (.cons (.var 0) .nil)) (.var 1))) (.cons (.ret (.cst (.bl false)))
  .nil) .nil)
  (.cons (.forr (.nm 2) (.seq (.var 0)) (Gk wh))
  (.cons (.ret (.cst (.bl true)))
  .nil)))
def ID (T:Tb)(wh:Nat):Prop:=∀ x:Int,T.cl wh [.int x] = .ok (.bl true,true)
theorem Hx {T:Tb}{wh:Nat}(hwh:ID T wh){gs:List Nat}(hg:Fl64.Gr gs)(n:Nat)(hn:gs.length=n):Pc.ret (aC T (bLG wh) (aF [.lst (gD gs),.int (n:Int)] 3)) = .ok (.bl true,true):=by
 have hst:aF [.lst (gD gs),.int (n:Int)] 3=[sG gs,sN n,none]:=rfl;rw[hst];have e0:ev T (.blt (.isi "list") (.cons (.var 0) .nil)) [sG gs,sN n,none] = .ok (.bl true,.mv []):=rfl;have el:=iF (T:=T) (env:=[sG gs,sN n,none]) (i:=0) (gs:=gs) (t:=.sh []) rfl;rw[hn] at el;have v1:ev T (.var 1) [sG gs,sN n,none] = .ok (.int (n:Int),.mv []):=aI rfl rfl;have g1:=ite_ff (T:=T) (a:=(.cons (.ret (.cst (.bl false))) .nil)) (Bb (DU e0) (Bj el v1 (by simp[D.eqf])));obtain⟨e,q1,_⟩:=pz (t:=.nm 2) (R:=[]) (b:=aC T (Gk wh)) (fun _ e=>∃ o,cB o/\e=[sG gs,sN n,o]) (gD gs) 0 [sG gs,sN n,none] ⟨none,aH,rfl⟩ (fun i d e hi hj=>by
  obtain⟨o,ho,rfl⟩:=hj;rw[List.getElem?_map,ag] at hi;obtain⟨g,hgi,rfl⟩:=hi;have g64:=hg g (List.mem_of_getElem? hgi);refine⟨[sG gs,sN n,sN g],[sG gs,sN n,sN g],fM (.cons (aJ _) (.cons (aB _) (.cons ho .nil))) (by simp),?_,_,aB _,rfl⟩;have v2:ev T (.var 2) [sG gs,sN n,sN g] = .ok (.int (g:Int),.mv []):=aI rfl rfl;have c1:ev T (.cmp .Lt (.var 2) (.cst (.int (0)))) [sG gs,sN n,sN g] = .ok (.bl false,.mv []):=by
   have v:ev T (.cst (.int (0))) [sG gs,sN n,sN g] = .ok (.int 0,.mv []):=rfl;rw[ev,v2,aA,v,aA];show (iG (some (decide ((g:Int)<0)))).bind _=_;rw[cj (by omega)];rfl
  have c2:ev T (.cmp .Gt (.var 2) (.cst (.int (63)))) [sG gs,sN n,sN g] = .ok (.bl false,.mv []):=by
   have v:ev T (.cst (.int (63))) [sG gs,sN n,sN g] = .ok (.int 63,.mv []):=rfl;rw[ev,v2,aA,v,aA];show (iG (some (decide ((63:Int)<(g:Int))))).bind _=_;rw[cj (by omega)];rfl
  unfold Gk;rw[aC,ite_ff (Bb (DU (me v2 (hwh _))) (Bb c1 c2)),aD];rfl)
 have hit:fS T (.seq (.var 0)) [sG gs,sN n,none] = .ok (gD gs,[]):=rfl;have g2:=cF hit q1;unfold bLG;rw[aC,g1,aD,aC,g2,aD];exact fin _ _
end Pc.Lw
end
section
namespace Fl64
noncomputable def sm:List (Nat×Nat)->Nat->Nat
 |[],_=>0
 |p::r,j=>tm p.1 (pw p.2 j)^^^sm r j
def Pr (l:List (Nat×Nat)):Prop:=∀ p∈l,p.1<64/\p.2<64
noncomputable def EK (x:Nat)(l:List (Nat×Nat)):List (Nat×Nat):=l.map fun p=>(tm p.1 (p.2^^^x),p.2)
theorem E2 {x:Nat}(hx:x<64){l:List (Nat×Nat)}(h:Pr l):Pr (EK x l):=fun p hp=>by
 obtain⟨q,hq,rfl⟩:=List.mem_map.mp hp;exact⟨bF (h q hq).1 (aV (h q hq).2 hx),(h q hq).2⟩
theorem zG {e y x P:Nat}(he:e<64)(hy:y<64)(hx:x<64)(hP:P<64):tm (tm e (y^^^x)) P=tm e (tm P y)^^^tm x (tm e P):=by
 rw[dE he (aV hy hx) hP,dQ (aV hy hx) hP,jZ,jZ];rw[dQ hx (bF he hP),dE he hP hx]
theorem zk {x:Nat}(hx:x<64):∀{l:List (Nat×Nat)},Pr l->∀ j,sm (EK x l) j=sm l (j+1)^^^tm x (sm l j)
 |[],_,j=>by show 0=0^^^tm x 0;rw[gY];rfl
 | p::r,h,j=>by
  have ih:=zk hx (l:=r) (fun q hq=>h q (aa _ hq)) j;obtain⟨he,hy⟩:=h p ae;show tm (tm p.1 (p.2^^^x)) (pw p.2 j)^^^sm (EK x r) j=(tm p.1 (tm (pw p.2 j) p.2)^^^sm r (j+1))^^^tm x (tm p.1 (pw p.2 j)^^^sm r j);rw[ih,zG he hy hx (bD hy j),jZ,Je]
theorem Aj:∀(n:Nat) {l:List (Nat×Nat)},l.length=n->Pr l->(∀ p∈l,p.2≠0)->(l.map (·.2)).Nodup->∀ a,(∀ j,a<=j->j<a+n->sm l j=0)->∀ p∈l,p.1=0
 | 0,l,hl,_,_,_,_,_=>by
  have:l=[]:=List.length_eq_zero_iff.mp hl;subst this;exact fun _ h=>(nomatch h)
 |n+1,[],hl,_,_,_,_,_=>by simp at hl
 | n+1,q::r,hl,hp,h0,nd,a,hs=>by
  have hq:=hp q ae;have hr:Pr r:=fun z hz=>hp z (aa _ hz)
  rw[ay,jk] at nd;have ih:=Aj n (l:=EK q.2 r) (by simpa[EK] using hl) (E2 hq.2 hr) (fun z hz=>by
    obtain⟨y,hy,rfl⟩:=List.mem_map.mp hz;exact h0 y (aa _ hy)) (by
    have:(EK q.2 r).map (·.2)=r.map (·.2):=by simp[EK]
    rw[this];exact nd.2) a (fun j h1 h2=>by
    rw[zk hq.2 hr];have e1:=hs j h1 (by omega);have e2:=hs (j+1) (by omega) (by omega);have e1':tm q.1 (pw q.2 j)=sm r j:=cJ e1;have e2':tm q.1 (tm (pw q.2 j) q.2)=sm r (j+1):=cJ e2;rw[<-e1',<-e2',dQ hq.2 (bF hq.1 (bD hq.2 j)),dE hq.1 (bD hq.2 j) hq.2,fu])
  have er:∀ p∈r,p.1=0:=fun p hpr=>by
   have hpp:=hr p hpr;have:=ih (tm p.1 (p.2^^^q.2),p.2) (List.mem_map.mpr ⟨p,hpr,rfl⟩);rcases eF hpp.1 (aV hpp.2 hq.2) this with z | z
   ·exact z
   ·exact absurd (List.mem_map.mpr ⟨p,hpr,cJ z⟩) nd.1
  have sz:∀{l:List (Nat×Nat)},Pr l->(∀ p∈l,p.1=0)->sm l a=0:=by
   intro l
   induction l with
   |nil=>intro _ _;rfl
   |cons p l ihl =>
    intro h1 h2;show tm p.1 (pw p.2 a)^^^sm l a=0;rw[ihl (fun z hz=>h1 z (aa _ hz)) (fun z hz=>h2 z (aa _ hz)),h2 p ae,cA (bD (h1 p ae).2 a)];rfl
  have e:=hs a (au _) (by omega);have e:tm q.1 (pw q.2 a)^^^sm r a=0:=e;rw[sz hr er,ij] at e;intro p hpm;rcases dw.mp hpm with rfl | z
  ·rcases eF hq.1 (bD hq.2 a) e with z | z
   ·exact z
   ·exact absurd z (zU hq.2 (h0 p ae) a)
  ·exact er p z
theorem xZ:((List.range 63).map (pw 2)).Nodup:=by decide +kernel
theorem wA {i j:Nat}(hi:i<63)(hj:j<i):pw 2 i≠pw 2 j:=by
 have:=List.pairwise_iff_getElem.mp xZ j i (by simp;omega) (by simp;omega) hj;simpa using fun e=>this (by simpa using e.symm)
end Fl64
end
section
namespace Pc.Lw
open PySem Pc Pc.Sm Pc.Gr
end Pc.Lw
end
section
namespace Pc.Nw
open PySem Pc Pc.Sm Pc.Lw Pc.Gr
section
variable {T:Tb}{env:En}
end
section
variable {T:Tb}{env:En}
end
end Pc.Nw
end
section
namespace Pc.Fr
open PySem Pc Pc.Sm Pc.Lw Pc.Gr Pc.Nw
end Pc.Fr
end
section
namespace Md
open Fl64
structure F where
 v:Nat
 h:v<64
theorem F.ext {a b:F}(h:a.v=b.v):a=b:=by cases a;cases b;cases h;rfl
noncomputable instance:Add F:=⟨fun a b=>⟨a.v^^^b.v,aV a.h b.h⟩⟩
noncomputable instance:Mul F:=⟨fun a b=>⟨tm a.v b.v,bF a.h b.h⟩⟩
noncomputable instance:OfNat F 0:=⟨⟨0,by decide⟩⟩
noncomputable instance:OfNat F 1:=⟨⟨1,by decide⟩⟩
theorem Iy (a b:F):(a+b).v=a.v^^^b.v:=rfl
theorem HQ (a b:F):(a*b).v=tm a.v b.v:=rfl
theorem add_comm (a b:F):a+b=b+a:=F.ext (Nat.xor_comm ..)
theorem add_assoc (a b c:F):a+b+c=a+(b+c):=F.ext (bt ..)
theorem mul_comm (a b:F):a*b=b*a:=F.ext (dQ a.h b.h)
theorem mul_assoc (a b c:F):a*b*c=a*(b*c):=F.ext (dE a.h b.h c.h)
theorem add_zero (a:F):a+0=a:=F.ext (ij _)
theorem zero_add (a:F):0+a=a:=F.ext (cx _)
theorem nS (a:F):a+a=0:=F.ext (fu _)
theorem mul_one (a:F):a*1=a:=F.ext (my a.h)
theorem one_mul (a:F):1*a=a:=F.ext (pq a.h)
theorem mul_zero (a:F):a*0=0:=rfl
theorem zero_mul (a:F):0*a=0:=F.ext (cA a.h)
theorem mul_add (a b c:F):a*(b+c)=a*b+a*c:=F.ext (jZ a.v b.v c.v)
theorem add_mul (a b c:F):(a+b)*c=a*c+b*c:=F.ext (kg a.h b.h c.h)
theorem kY {a b:F}(ha:a≠0)(hb:b≠0):a*b≠0:=fun e=>by
 rcases eF a.h b.h (iy F.v e) with h | h
 ·exact ha (F.ext h)
 ·exact hb (F.ext h)
theorem xO {a b:F}(h:a+b=0):a=b:=F.ext (cJ (iy F.v h))
noncomputable instance:Std.Associative (α:=F) (· + ·):=⟨add_assoc⟩
noncomputable instance:Std.Commutative (α:=F) (· + ·):=⟨add_comm⟩
noncomputable instance:Std.Associative (α:=F) (· * ·):=⟨mul_assoc⟩
noncomputable instance:Std.Commutative (α:=F) (· * ·):=⟨mul_comm⟩
noncomputable instance:DecidableEq F:=fun a b=>if h:a.v=b.v then .isTrue (F.ext h) else .isFalse fun e=>h (iy F.v e)
noncomputable def sum:Nat->(Nat->F)->F
 |0,_=>0
 |n+1,f=>sum n f+f n
theorem aQ:∀{n:Nat}{f g:Nat->F},(∀ i,i<n->f i=g i)->sum n f=sum n g
 |0,_,_,_=>rfl
 |n+1,f,g,h=>by rw[sum,sum,aQ fun i hi=>h i (by omega),h n (by omega)]
theorem dC:∀{n:Nat}{f:Nat->F},(∀ i,i<n->f i=0)->sum n f=0
 |0,_,_=>rfl
 |n+1,f,h=>by rw[sum,dC fun i hi=>h i (by omega),h n (by omega),add_zero]
theorem sum_add:∀(n:Nat) (f g:Nat->F),sum n (fun i=>f i+g i)=sum n f+sum n g
 |0,_,_=>(add_zero 0).symm
 |n+1,f,g=>by rw[sum,sum,sum,sum_add n];ac_rfl
theorem gX (a:F):∀(n:Nat) (f:Nat->F),a*sum n f=sum n fun i=>a*f i
 |0,_=>rfl
 |n+1,f=>by rw[sum,sum,mul_add,gX a n]
theorem vW (n:Nat)(f:Nat->F)(a:F):sum n f*a=sum n fun i=>f i*a:=by
 rw[mul_comm,gX];exact aQ fun i _=>mul_comm ..
theorem uI (m:Nat):∀(n:Nat) (f:Nat->Nat->F),sum m (fun i=>sum n (f i))=sum n fun j=>sum m fun i=>f i j
 |0,f=>dC fun _ _=>rfl
 | n+1,f=>by
  rw[sum,<-uI m n f,<-sum_add];rfl
theorem gK {n:Nat}{f:Nat->F}:∀{m:Nat},n<=m->(∀ i,n<=i->i<m->f i=0)->sum m f=sum n f
 |0,h,_=>by rw[Nat.le_zero.mp h]
 | m+1,h,z=>by
  by_cases e:n=m+1
  ·rw[e]
  ·rw[sum,z m (by omega) (by omega),add_zero];exact gK (by omega) fun i a b=>z i a (by omega)
theorem cU:∀(n:Nat) (f:Nat->F),sum (n+1) f=f 0+sum n fun i=>f (i+1)
 |0,f=>by show 0+f 0=f 0+0;rw[zero_add,add_zero]
 |n+1,f=>by rw[sum,cU n,sum,add_assoc]
theorem B0 {n k:Nat}{f:Nat->F}(hk:k<n)(z:∀ i,i<n->i≠k->f i=0):sum n f=f k:=by
 rw[gK (n:=k+1) (by omega) fun i a b=>z i b (by omega),sum,dC fun i h=>z i (by omega) (by omega),zero_add]
noncomputable def at' (g:Nat->F)(n k:Nat):F:=if k<=n then g (n - k) else 0
noncomputable def conv (f g:Nat->F)(n:Nat):F:=sum (n+1) fun j=>f j*g (n - j)
theorem Cb (f g:Nat->F){n M:Nat}(h:n<M):conv f g n=sum M fun j=>f j*at' g n j:=by
 rw[gK (n:=n+1) (by omega) fun i a b=>by rw[at',if_neg (by omega),mul_zero]];exact aQ fun i hi=>by rw[at',if_pos (by omega)]
theorem uj (f g t:Nat->F)(n:Nat):conv f (conv g t) n=sum (n+1) fun j=>sum (n+1) fun i=>f j*(g i*(if i+j<=n then t (n - (i+j)) else 0)):=by
 refine aQ fun j hj=>?_
 rw[Cb g t (n:=n - j) (M:=n+1) (by omega),gX];refine aQ fun i hi=>?_
 unfold at';by_cases h:i+j<=n
 ·rw[if_pos h,if_pos (by omega)];congr 2;congr 1;omega
 ·rw[if_neg h,if_neg (by omega)]
theorem ya (f g t:Nat->F)(n:Nat):conv f (conv g t) n=conv g (conv f t) n:=by
 rw[uj,uj,uI];refine aQ fun i hi=>aQ fun j hj=>?_
 rw[Nat.add_comm i j];generalize (if j+i<=n then t (n - (j+i)) else 0)=y
 ac_rfl
theorem wq:∀(n:Nat) (f:Nat->F),sum n f=sum n fun i=>f (n - 1 - i)
 |0,_=>rfl
 | n+1,f=>by
  rw[cU n (fun i=>f (n+1 - 1 - i)),sum,wq n f,add_comm];congr 1;exact aQ fun i hi=>by congr 1;omega
theorem dF (f g:Nat->F)(n:Nat):conv f g n=conv g f n:=by
 unfold conv;rw[wq];refine aQ fun i hi=>?_
 rw[mul_comm];congr 1<;>congr 1<;>omega
theorem jr {f f' g g':Nat->F}{n:Nat}(h1:∀ j,j<=n->f j=f' j)(h2:∀ j,j<=n->g j=g' j):conv f g n=conv f' g' n :=
 aQ fun j hj=>by rw[h1 j (by omega),h2 (n - j) (by omega)]
theorem iO (f g t:Nat->F)(n:Nat):conv (fun j=>f j+g j) t n=conv f t n+conv g t n:=by
 unfold conv;rw[<-sum_add];exact aQ fun j _=>add_mul ..
theorem iT (a:F)(f t:Nat->F)(n:Nat):conv (fun j=>a*f j) t n=a*conv f t n:=by
 unfold conv;rw[gX];exact aQ fun j _=>mul_assoc ..
noncomputable def sh (f:Nat->F):Nat->F
 |0=>0
 |n+1=>f n
theorem ku (f t:Nat->F)(n:Nat):conv (sh f) t (n+1)=conv f t n:=by
 unfold conv;rw[cU];show 0*_+_=_;rw[zero_mul,zero_add];exact aQ fun i hi=>by show f i*_=_;congr 2;omega
theorem oF (f t:Nat->F):conv (sh f) t 0=0:=by
 show 0+sh f 0*_=0;rw[zero_add];exact zero_mul _
structure Goes (t C:Nat->F)(L n:Nat):Prop where
 one:C 0=1
 deg:∀ j,L<j->C j=0
 zer:∀ k,L<=k->k<n->conv C t k=0
theorem EI {t C C':Nat->F}{L L' n:Nat}(g:Goes t C L n)(hd:conv C t n≠0)(g':Goes t C' L' (n+1)):n+1<=L+L':=by
 refine fm fun h=>hd ?_
 have e:conv C' (conv C t) n=conv C t n:=by
  show sum (n+1) _=_;rw[cU,g'.one,one_mul,dC fun i hi=>?_,add_zero];rfl;by_cases hL:i+1<=L'
  ·rw[g.zer (n - (i+1)) (by omega) (by omega),mul_zero]
  ·rw[g'.deg _ (by omega),zero_mul]
 have e':conv C (conv C' t) n=0:=by
  refine dC fun i hi=>?_
  by_cases hL:i<=L
  ·rw[g'.zer (n - i) (by omega) (by omega),mul_zero]
  ·rw[g.deg _ (by omega),zero_mul]
 rw[<-e,ya,e']
structure Bm (t C f:Nat->F)(L:Nat)(b:F)(n:Nat):Prop where
 go:Goes t C L n
 le:L<=n
 deg:∀ j,n - L<j->f j=0
 zer:∀ k,n - L<=k->k+1<n->conv f t k=0
 las:∀ k,n - L<=k->k+1=n->conv f t k=b
 ne:b≠0
theorem Bm.init (t C f:Nat->F)(h0:C 0=1)(h:∀ j,0<j->C j=0)(hf:∀ j,0<j->f j=0):Bm t C f 0 1 0 where
 go:=⟨h0,h,fun k _ h=>absurd h (gm k)⟩
 le:=au 0
 deg:=hf
 zer:=fun k _ h=>absurd h (gm _)
 las:=fun k _ h=>absurd h (by omega)
 ne:=by decide
theorem Bm.same {t C f:Nat->F}{L n:Nat}{b:F}(B:Bm t C f L b n)(h:conv C t n=0):Bm t C (sh f) L b (n+1) where
 go:=⟨B.go.one,B.go.deg,fun k a c=>by
  by_cases e:k=n
  ·rw[e,h]
  ·exact B.go.zer k a (by omega)⟩
 le:=by have:=B.le;omega
 deg:=fun j hj=>by
  cases j with
  |zero=>rfl
  |succ j=>exact B.deg j (by have:=B.le;omega)
 zer:=fun k a c=>by
  cases k with
  |zero=>exact oF ..
  |succ k=>rw[ku];exact B.zer k (by have:=B.le;omega) (by omega)
 las:=fun k a c=>by
  cases k with
  |zero=>exact absurd a (by have:=B.le;omega)
  |succ k=>rw[ku];exact B.las k (by have:=B.le;omega) (by omega)
 ne:=B.ne
noncomputable def tT (C f:Nat->F)(a:F):Nat->F:=fun j=>C j+a*sh f j
theorem Bm.amend {t C f:Nat->F}{L n:Nat}{b d a:F}(B:Bm t C f L b n)(hd:conv C t n=d)(ha:a*b=d)(M:Nat)(h1:L<=M)(h2:n+1 - L<=M):Goes t (tT C f a) M (n+1) where
 one:=by show C 0+a*0=1;rw[mul_zero,add_zero];exact B.go.one
 deg:=fun j hj=>by
  show C j+a*sh f j=0;rw[B.go.deg j (by omega),zero_add];cases j with
  |zero=>rfl
  |succ j=>show a*f j=0;rw[B.deg j (by omega),mul_zero]
 zer:=fun k a' c=>by
  unfold tT;rw[iO,iT];cases k with
  |zero=>exact absurd h2 (by have:=B.le;omega)
  |succ k =>
   rw[ku];by_cases e:k+1=n
   ·rw[e,hd,B.las k (by omega) e,ha,nS]
   ·rw[B.go.zer _ (by omega) (by omega),B.zer k (by omega) (by omega),mul_zero,add_zero]
theorem Bm.longer {t C f:Nat->F}{L n:Nat}{b d a:F}(B:Bm t C f L b n)(hd:conv C t n=d)(h0:d≠0)(ha:a*b=d)(h:2*L<=n):Bm t (tT C f a) C (n+1 - L) d (n+1) where
 go:=B.amend hd ha _ (by omega) (by omega)
 le:=by omega
 deg:=fun j hj=>B.go.deg j (by omega)
 zer:=fun k a c=>B.go.zer k (by omega) (by omega)
 las:=fun k a c=>by rw[show k=n by omega,hd]
 ne:=h0
theorem Bm.kept {t C f:Nat->F}{L n:Nat}{b d a:F}(B:Bm t C f L b n)(hd:conv C t n=d)(ha:a*b=d)(h:¬ 2*L<=n):Bm t (tT C f a) (sh f) L b (n+1) where
 go:=B.amend hd ha _ (by omega) (by omega)
 le:=by have:=B.le;omega
 deg:=fun j hj=>by
  cases j with
  |zero=>rfl
  |succ j=>exact B.deg j (by have:=B.le;omega)
 zer:=fun k a c=>by
  cases k with
  |zero=>exact oF ..
  |succ k=>rw[ku];exact B.zer k (by have:=B.le;omega) (by omega)
 las:=fun k a c=>by
  cases k with
  |zero=>exact absurd a (by have:=B.le;omega)
  |succ k=>rw[ku];exact B.las k (by have:=B.le;omega) (by omega)
 ne:=B.ne
theorem Bm.least {t C f:Nat->F}{L n w N:Nat}{b:F}{R:Nat->F}(B:Bm t C f L b n)(hd:conv C t n≠0)(R':Goes t R w N)(hN:n+1<=N):n+1 - L<=w:=by
 have:=EI B.go hd (C':=R) (L':=w) ⟨R'.one,R'.deg,fun k a c=>R'.zer k a (by omega)⟩;omega
noncomputable def gR (x:F):Nat->F
 |0=>1
 |n+1=>gR x n*x
theorem mf (x:F)(m:Nat):∀ n,gR x (m+n)=gR x m*gR x n
 |0=>(mul_one _).symm
 |n+1=>by show gR x (m+n)*x=gR x m*(gR x n*x);rw[mf x m n,mul_assoc]
theorem AZ {x:F}(h:x≠0):∀ n,gR x n≠0
 |0=>by show (1:F)≠0;decide
 |n+1=>kY (AZ h n) h
noncomputable def wo (f:Nat->F)(n:Nat)(x:F):F:=sum n fun j=>f j*gR x (n - 1 - j)
theorem rR (f:Nat->F)(n:Nat)(x:F):wo f (n+1) x=wo f n x*x+f n:=by
 show sum n _+_=_;unfold wo;rw[vW];congr 1
 ·refine aQ fun j hj=>?_
  rw[mul_assoc];congr 1;show gR x (n+1 - 1 - j)=gR x (n - 1 - j+1);congr 1;omega
 ·show f n*gR x (n+1 - 1 - n)=f n;rw[show n+1 - 1 - n=0 by omega];exact mul_one _
theorem xf {f:Nat->F}{n:Nat}{x:F}:∀{m:Nat},n<=m->(∀ j,n<=j->j<m->f j=0)->wo f m x=wo f n x*gR x (m - n)
 |0,h,_=>by rw[Nat.le_zero.mp h];exact (mul_one _).symm
 | m+1,h,z=>by
  by_cases e:n=m+1
  ·rw[e,jg];exact (mul_one _).symm
  ·rw[rR,z m (by omega) (by omega),add_zero,xf (m:=m) (by omega) fun j a b=>z j a (by omega),mul_assoc];congr 1;show gR x (m - n+1)=_;congr 1;omega
theorem DQ (f:Nat->F)(n:Nat)(x:F):wo (sh f) (n+1) x=wo f n x:=by
 unfold wo;rw[cU];show 0*_+_=_;rw[zero_mul,zero_add];exact aQ fun i hi=>by show f i*_=_;congr 2;omega
theorem uO (f g:Nat->F)(n:Nat)(x:F):wo (fun j=>f j+g j) n x=wo f n x+wo g n x:=by
 unfold wo;rw[<-sum_add];exact aQ fun j _=>add_mul ..
theorem rE (a:F)(f:Nat->F)(n:Nat)(x:F):wo (fun j=>a*f j) n x=a*wo f n x:=by
 unfold wo;rw[gX];exact aQ fun j _=>mul_assoc ..
theorem uq {f g:Nat->F}{n:Nat}{x:F}(h:∀ j,j<n->f j=g j):wo f n x=wo g n x:=aQ fun j hj=>by rw[h j hj]
noncomputable def eY:List F->Nat->F
 |[],n=>if n=0 then 1 else 0
 |x::l,n=>eY l n+x*sh (eY l) n
theorem pB:∀(l:List F) {j:Nat},l.length<j->eY l j=0
 |[],j,h=>if_neg (by simp at h;omega)
 | x::l,j,h=>by
  simp only[List.length_cons] at h;show eY l j+x*sh (eY l) j=0;rw[pB l (by omega),zero_add];cases j with
  |zero=>rfl
  |succ j=>show x*eY l j=0;rw[pB l (by omega),mul_zero]
theorem xC:∀(l:List F),eY l 0=1
 |[]=>rfl
 |x::l=>by show eY l 0+x*0=1;rw[xC l,mul_zero,add_zero]
noncomputable def dist (x:F):List F->F
 |[]=>1
 |y::l=>dist x l*(x+y)
theorem wm (x:F):∀(l:List F),wo (eY l) (l.length+1) x=dist x l
 |[]=>by show 0+1*1=1;rw[zero_add,mul_one]
 | y::l=>by
  show wo (fun j=>eY l j+y*sh (eY l) j) (l.length+1+1) x=dist x l*(x+y);rw[uO,rE,DQ,rR,pB l (Nat.lt_succ_self _),add_zero,wm x l,mul_add,mul_comm y]
theorem sC {x:F}:∀{l:List F},x∉l->dist x l≠0
 |[],_=>by show (1:F)≠0;decide
 |y::l,h=>kY (sC fun e=>h (aa _ e)) fun e=>h (by rw[xO e];exact ae)
theorem kz {x:F}:∀{l:List F},x∈l->dist x l=0
 | y::l,h=>by
  show dist x l*(x+y)=0;rcases dw.mp h with rfl | h
  ·rw[nS,mul_zero]
  ·rw[kz h,zero_mul]
theorem zZ (f g:Nat->F):∀ n,sh (fun j=>f j+g j) n=sh f n+sh g n
 |0=>(add_zero 0).symm
 |n+1=>rfl
theorem zM (a:F)(f:Nat->F):∀ n,sh (fun j=>a*f j) n=a*sh f n
 |0=>rfl
 |n+1=>rfl
theorem wd {l m:List F}(h:l.Perm m):eY l=eY m:=by
 induction h with
 |nil=>rfl
 |cons x _ ih=>funext n;show eY _ n+x*sh (eY _) n=_;rw[ih];rfl
 |swap x y l =>
  funext n;show (eY l n+x*sh (eY l) n)+y*sh (fun j=>eY l j+x*sh (eY l) j) n=(eY l n+y*sh (eY l) n)+x*sh (fun j=>eY l j+y*sh (eY l) j) n;rw[zZ,zZ,zM,zM,mul_add,mul_add,<-mul_assoc,<-mul_assoc,mul_comm y x]
  ac_rfl
 |trans _ _ a b=>rw[a,b]
noncomputable def ps:List (F×F)->Nat->F
 |[],_=>0
 |p::l,j=>p.1*gR p.2 j+ps l j
noncomputable def lsum:List F->F
 |[]=>0
 |a::l=>a+lsum l
theorem xm (j:Nat):∀(l:List (F×F)),ps l j=lsum (l.map fun p=>p.1*gR p.2 j)
 |[]=>rfl
 |p::l=>by show _+_=_+_;rw[xm j l]
theorem kq {f:Nat->F}(g:Nat->F){n:Nat}(h:∀ j,j<=n->f j=0):conv f g n=0:=dC fun j hj=>by rw[h j (by omega),zero_mul]
theorem yG (x:F){G:Nat->F}{m:Nat}(hG:∀ j,m<j->G j=0)(k:Nat):conv (fun j=>gR x (j+1)) G (m+k)=gR x (k+1)*wo G (m+1) x:=by
 rw[dF];unfold conv wo;rw[gK (n:=m+1) (by omega) fun i a b=>by rw[hG i (by omega),zero_mul],gX];refine aQ fun j hj=>?_
 show G j*gR x (m+k - j+1)=_;rw[show m+k - j+1=(k+1)+(m+1 - 1 - j) by omega,mf]
 ac_rfl
theorem freed {G:Nat->F}{m:Nat}(hG:∀ j,m<j->G j=0)(k:Nat):∀(es:List (F×F)),conv (fun j=>ps es (j+1)) G (m+k)=ps (es.map fun p=>(p.1*(p.2*wo G (m+1) p.2),p.2)) k
 |[]=>kq G fun _ _=>rfl
 | p::l=>by
  show conv (fun j=>p.1*gR p.2 (j+1)+ps l (j+1)) G (m+k)=p.1*(p.2*wo G (m+1) p.2)*gR p.2 k+ps _ k;rw[iO,iT,yG p.2 hG,freed hG k l];congr 1;show p.1*(gR p.2 k*p.2*wo G (m+1) p.2)=_
  ac_rfl
theorem As (x:F)(l:List F):∀ k,conv (fun j=>gR x (j+1)) (eY (x::l)) k=x*eY l k:=by
 have h:∀(f:Nat->F) k,conv f (fun j=>gR x (j+1)) (k+1)=x*conv f (fun j=>gR x (j+1)) k+f (k+1)*x:=fun f k=>by
  show sum (k+1) _+f (k+1)*gR x (k+1 - (k+1)+1)=_;rw[jg,show gR x (0+1)=x from one_mul x];unfold conv;rw[gX];congr 1;refine aQ fun j hj=>?_
  show f j*gR x (k+1 - j+1)=x*(f j*gR x (k - j+1));rw[show k+1 - j+1=(k - j+1)+1 by omega];show f j*(gR x (k - j+1)*x)=_
  ac_rfl
 intro k;rw[dF];show conv (fun j=>eY l j+x*sh (eY l) j) _ k=_;rw[iO,iT];cases k with
 |zero =>
  rw[oF,mul_zero,add_zero];show 0+eY l 0*(1*x)=_;rw[zero_add,one_mul,mul_comm]
 |succ k =>
  rw[ku,h];generalize x*conv (eY l) (fun j=>gR x (j+1)) k=y;rw[add_comm y,add_assoc,nS,add_zero,mul_comm]
theorem heads (ls:List F):∀(es:List (F×F)),(∀ p∈es,p.2∈ls)->∀ k,conv (fun j=>ps es (j+1)) (eY ls) k=lsum (es.map fun p=>p.1*(p.2*eY (ls.erase p.2) k))
 |[],_,k=>kq _ fun _ _=>rfl
 | p::l,h,k=>by
  show conv (fun j=>p.1*gR p.2 (j+1)+ps l (j+1)) _ k=p.1*(p.2*eY (ls.erase p.2) k)+lsum _;rw[iO,iT,heads ls l (fun q hq=>h q (aa _ hq)),wd (List.perm_cons_erase (h p ae)),As]
theorem Cu (n:Nat)(x:F):wo (fun _=>0) n x=0:=dC fun _ _=>zero_mul _
theorem uv {ls:List F}(x:F)(h0:ls≠[]):∀(es:List (F×F)),(∀ p∈es,p.2∈ls)->wo (fun k=>lsum (es.map fun p=>p.1*(p.2*eY (ls.erase p.2) k))) ls.length x=lsum (es.map fun p=>p.1*(p.2*dist x (ls.erase p.2)))
 |[],_=>Cu _ _
 | p::l,h=>by
  show wo (fun k=>p.1*(p.2*eY (ls.erase p.2) k)+lsum (l.map _)) ls.length x=p.1*(p.2*_)+lsum _;rw[uO,rE,rE,uv x h0 l fun q hq=>h q (aa _ hq)];have e:ls.length=(ls.erase p.2).length+1:=by
   rw[List.length_erase_of_mem (h p ae)];have:0<ls.length:=List.length_pos_iff.mpr h0;omega
  conv=>lhs;lhs;rw[e]
  rw[wm]
theorem qR:∀{l:List F},(∀ a∈l,a=0)->lsum l=0
 |[],_=>rfl
 |a::l,h=>by show a+lsum l=0;rw[h a ae,zero_add];exact qR fun b hb=>h b (aa _ hb)
theorem AN {ls:List F}{es:List (F×F)}(hn:(es.map (·.2)).Nodup)(hnl:ls.Nodup)(h:∀ p∈es,p.2∈ls){p:F×F}(hp:p∈es) :
  lsum (es.map fun q=>q.1*(q.2*dist p.2 (ls.erase q.2)))=p.1*(p.2*dist p.2 (ls.erase p.2)):=by
 have z:∀ q∈es,q.2≠p.2->q.1*(q.2*dist p.2 (ls.erase q.2))=0:=fun q hq hne=>by
  rw[kz ((List.mem_erase_of_ne (cm hne)).mpr (h p hp)),mul_zero,mul_zero]
 clear h
 induction es with
 |nil=>cases hp
 |cons q l ih =>
  rw[ay,jk] at hn;show q.1*(q.2*_)+lsum _=_;rcases dw.mp hp with rfl | hp
  ·rw[qR,add_zero];intro a ha;obtain⟨r,hr,rfl⟩:=List.mem_map.mp ha;exact z r (aa _ hr) fun e=>hn.1 (List.mem_map.mpr ⟨r,hr,e⟩)
  ·rw[z q ae fun e=>hn.1 (List.mem_map.mpr ⟨p,hp,e.symm⟩),zero_add];exact ih hn.2 hp fun r hr=>z r (aa _ hr)
theorem BK {es:List (F×F)}{t:Nat->F}{N:Nat}(ht:∀ k,k<N->t k=ps es k):Goes t (eY (es.map (·.2))) es.length N where
 one:=xC _
 deg:=fun j hj=>pB _ (by rw[aj];exact hj)
 zer:=fun k a b=>by
  rw[jr (g':=ps es) (fun _ _=>rfl) fun j hj=>ht j (by omega)];have key:∀(es':List (F×F)),(∀ p∈es',p.2∈es.map (·.2))->conv (eY (es.map (·.2))) (ps es') k=0:=by
   intro es'
   induction es' with
   |nil=>exact fun _=>dC fun _ _=>mul_zero _
   |cons p l ih =>
    intro h;rw[dF];show conv (fun j=>p.1*gR p.2 j+ps l j) _ k=0;rw[iO,iT,dF (ps l),ih fun q hq=>h q (aa _ hq),add_zero];have hk:k=es.length+(k - es.length):=by omega
    have e:conv (gR p.2) (eY (es.map (·.2))) k=gR p.2 (k - es.length)*wo (eY (es.map (·.2))) (es.length+1) p.2:=by
     conv=>lhs;rw[hk]
     rw[dF];unfold conv wo;rw[gK (n:=es.length+1) (by omega) fun i a b=>by rw[pB _ (by rw[aj];omega),zero_mul],gX];refine aQ fun j hj=>?_
     rw[show es.length+(k - es.length) - j=(k - es.length)+(es.length+1 - 1 - j) by omega,mf]
     ac_rfl
    have e2:=wm p.2 (es.map (·.2));rw[aj] at e2;rw[e,e2,kz (h p ae),mul_zero,mul_zero]
  exact key es fun p hp=>List.mem_map.mpr ⟨p,hp,rfl⟩
theorem vand {l:List (F×F)}(h0:∀ p∈l,p.2≠0)(hn:(l.map (·.2)).Nodup){a:Nat}(z:∀ j,a<=j->j<a+l.length->ps l j=0):∀ p∈l,p.1=0:=by
 have pw_v:∀(x:F) j,(gR x j).v=pw x.v j:=fun x j=>by
  induction j with
  |zero=>rfl
  |succ j ih=>show tm (gR x j).v x.v=_;rw[ih];rfl
 have sm_v:∀(l:List (F×F)) j,sm (l.map fun p=>(p.1.v,p.2.v)) j=(ps l j).v:=fun l j=>by
  induction l with
  |nil=>rfl
  |cons p r ih=>show tm p.1.v (pw p.2.v j)^^^_=tm p.1.v (gR p.2 j).v^^^_;rw[ih,pw_v]
 intro p hp;refine F.ext (Aj l.length (l:=l.map fun p=>(p.1.v,p.2.v)) (by simp) (fun q hq=>?_) (fun q hq=>?_) ?_ a (fun j h1 h2=>?_) (p.1.v,p.2.v) (List.mem_map.mpr ⟨p,hp,rfl⟩))
 ·obtain⟨r,_,rfl⟩:=List.mem_map.mp hq;exact⟨r.1.h,r.2.h⟩
 ·obtain⟨r,hr,rfl⟩:=List.mem_map.mp hq;exact fun e=>h0 r hr (F.ext e)
 ·rw[bg];have:(List.map ((fun x=>x.2)∘fun p:F×F=>(p.1.v,p.2.v)) l)=(l.map (·.2)).map F.v:=by rw[bg];rfl
  rw[this];rw[List.Nodup,jb];exact hn.imp fun h e=>h (F.ext e)
 ·rw[sm_v,z j h1 h2];rfl
theorem yr {es:List (F×F)}{t C:Nat->F}{L N n:Nat}(ht:∀ k,k<N->t k=ps es k)(h0:∀ p∈es,p.2≠0)(hn:(es.map (·.2)).Nodup)(g:Goes t C L N)(hL:L<=es.length)(hN:2*es.length<=N)
  (hn1:0<n) (hnL:n<=L+1) (hC:∀ j,n<=j->C j=0) {p:F×F}(hp:p∈es) (hpe:p.1≠0):wo C n p.2=0:=by
 have key:=vand (l:=es.map fun q=>(q.1*wo C (es.length+1) q.2,q.2)) (fun q hq=>by obtain⟨r,hr,rfl⟩:=List.mem_map.mp hq;exact h0 r hr) (by rw[bg];exact hn) (a:=0) (fun j _ hj=>by
  simp only[List.length_map,Nat.zero_add] at hj;have z:=g.zer (es.length+j) (by omega) (by omega);rw[jr (g':=ps es) (fun _ _=>rfl) (fun i hi=>ht i (by omega))] at z;rw[<-z];clear z;have gen:∀(l:List (F×F)),ps (l.map fun q=>(q.1*wo C (es.length+1) q.2,q.2)) j=conv C (ps l) (es.length+j):=by
   intro l
   induction l with
   |nil=>exact (dC fun _ _=>mul_zero _).symm
   |cons q r ih =>
    show q.1*wo C (es.length+1) q.2*gR q.2 j+ps _ j=_;rw[ih,dF C (ps (q::r))];show _=conv (fun i=>q.1*gR q.2 i+ps r i) C _;rw[iO,iT,dF (ps r)];congr 1;rw[mul_assoc];congr 1;rw[dF];unfold conv wo;rw[vW,gK (n:=es.length+1) (m:=es.length+j+1) (by omega) fun i a b=>by rw[g.deg i (by omega),zero_mul]];refine aQ fun i hi=>?_
    rw[show es.length+j - i=(es.length+1 - 1 - i)+j by omega,mf,mul_assoc]
  exact gen es) (p.1*wo C (es.length+1) p.2,p.2) (List.mem_map.mpr ⟨p,hp,rfl⟩)
 have z:wo C (es.length+1) p.2=0:=fm fun h=>kY hpe h key
 rw[xf (n:=n) (by omega) fun j a b=>hC j a] at z;exact fm fun h=>kY h (AZ (h0 p hp) _) z
noncomputable def toF (n:Nat):F:=⟨n%64,i8 _ (by decide)⟩
theorem mW {n:Nat}(h:n<64):(toF n).v=n:=Nat.mod_eq_of_lt h
theorem kx {a b:Nat}(ha:a<64)(hb:b<64):toF (a^^^b)=toF a+toF b:=F.ext (by rw[mW (aV ha hb),Iy,mW ha,mW hb])
theorem dH {a b:Nat}(ha:a<64)(hb:b<64):toF (tm a b)=toF a*toF b:=F.ext (by rw[mW (bF ha hb),HQ,mW ha,mW hb])
theorem An:toF 0=0:=rfl
theorem sy:toF 1=1:=rfl
theorem mL {a b:Nat}(ha:a<64)(hb:b<64)(h:toF a=toF b):a=b:=by rw[<-mW ha,<-mW hb,h]
theorem mD {a:Nat}(ha:a<64)(h:a≠0):toF a≠0:=fun e=>h (mL ha (by decide) e)
theorem sd {x:Nat}(hx:x<64):∀ n,toF (pw x n)=gR (toF x) n
 |0=>rfl
 |n+1=>by show toF (tm (pw x n) x)=_;rw[dH (bD hx n) hx,sd hx n];rfl
noncomputable def cf (l:List Nat)(j:Nat):F:=toF (l.getD j 0)
theorem gC {l:List Nat}{j:Nat}(h:l.length<=j):cf l j=0:=by
 unfold cf;rw[List.getD_eq_getElem?_getD,List.getElem?_eq_none h];rfl
theorem jw (l:List Nat):cf (0::l)=sh (cf l):=by
 funext j;cases j<;>rfl
theorem jW (l:List Nat)(n:Nat):cf (l++List.replicate n 0)=cf l:=by
 funext j;unfold cf;congr 1;rw[List.getD_eq_getElem?_getD,List.getD_eq_getElem?_getD];by_cases h:j<l.length
 ·rw[List.getElem?_append_left h]
 ·rw[List.getElem?_append_right (by omega),List.getElem?_eq_none (l:=l) (by omega),List.getElem?_replicate];split<;>rfl
theorem AV {f:Nat}(hf:f<64){l:List Nat}(h:Gr l)(j:Nat):cf (mulR f l) j=toF f*cf l j:=by
 unfold cf mulR;rw[List.getD_eq_getElem?_getD,List.getElem?_map,List.getD_eq_getElem?_getD];cases q:l[j]? with
 |none=>exact (mul_zero _).symm
 |some g=>exact dH hf (h g (List.mem_of_getElem? q))
theorem GH {l:List Nat}(h:Gr l){p g:Nat}(hg:g<64)(hp:p<l.length)(j:Nat):cf (l.set p (l.getD p 0^^^g)) j=cf l j+if j=p then toF g else 0:=by
 unfold cf;by_cases e:j=p
 ·subst e;rw[if_pos rfl,List.getD_eq_getElem?_getD,List.getElem?_set_self hp,Option.getD_some,kx (dU h _) hg]
 ·rw[if_neg e,add_zero,List.getD_eq_getElem?_getD,List.getElem?_set_ne (by omega),List.getD_eq_getElem?_getD]
theorem oa:∀{m l:List Nat}{p:Nat},Gr l->Gr m->p+m.length<=l.length->∀ j,cf (eT l p m) j=cf l j+if p<=j then cf m (j - p) else 0
 | [],l,p,_,_,_,j=>by
  show cf l j=_;rw[show (if p<=j then cf [] (j - p) else 0)=0 by split;exact gC (dq _);rfl,add_zero]
 | g::r,l,p,h,hm,hp,j=>by
  have g64:=hm g ae;have hr:Gr r:=fun z hz=>hm z (aa _ hz)
  have hp':p+(r.length+1)<=l.length:=by simpa using hp
  rw[eT,oa (mr h g64) hr (by rw[aq];omega),GH h g64 (by omega),add_assoc];congr 1;by_cases e:j=p
  ·subst e;rw[if_pos rfl,if_neg (by omega),if_pos (au _),jg,add_zero];rfl
  ·rw[if_neg e,zero_add];by_cases h2:p+1<=j
   ·rw[if_pos h2,if_pos (by omega),show j - p=(j - (p+1))+1 by omega];rfl
   ·rw[if_neg h2,if_neg (by omega)]
theorem qT:∀{a b l:List Nat}{k:Nat},Gr a->Gr b->Gr l->k+a.length+b.length<=l.length+1->0<b.length->∀ j,cf (eV l k a b) j=cf l j+if k<=j then conv (cf a) (cf b) (j - k) else 0
 | [],b,l,k,_,_,_,_,_,j=>by
  show cf l j=_;rw[show (if k<=j then conv (cf []) (cf b) (j - k) else 0)=0 by split;exact kq _ fun _ _=>gC (dq _);rfl,add_zero]
 | g::a,b,l,k,ha,hb,hl,h,h0,j=>by
  have g64:=ha g ae;have ha':Gr a:=fun z hz=>ha z (aa _ hz)
  simp only[List.length_cons] at h;rw[eV,qT ha' hb (jQ hl (nE g64 hb)) (by rw[fC];omega) h0,oa hl (nE g64 hb) (by rw[nQ];omega),add_assoc];congr 1;by_cases e:j<k
  ·rw[if_neg (by omega),if_neg (by omega),if_neg (by omega),add_zero]
  ·have e1:k<=j:=by omega
   rw[if_pos e1,AV g64 hb];by_cases e2:j=k
   ·subst e2;rw[if_neg (by omega),if_pos e1,add_zero,jg];show _=0+cf (g::a) 0*cf b (0 - 0);rw[zero_add];rfl
   ·rw[if_pos (show k+1<=j by omega),if_pos e1];show _=sum (j - k+1) _;rw[cU,show j - (k+1)=j - k - 1 by omega];have e3:j - k=(j - k - 1)+1:=by omega
    show _=toF g*cf b (j - k)+sum (j - k) fun i=>cf a i*cf b (j - k - (i+1))
    congr 1
    conv=>rhs;rw[e3]
    exact aQ fun i hi=>by congr 2;omega
theorem uA (n j:Nat):cf (List.replicate n 0) j=0:=by
 have:=congrFun (jW [] n) j;rw[List.nil_append] at this;rw[this];exact gC (dq _)
theorem oM {a b:List Nat}(ha:Gr a)(hb:Gr b)(hb0:0<b.length)(j:Nat):cf (dJ a b) j=conv (cf a) (cf b) j:=by
 by_cases h0:a.length=0
 ·rw[List.length_eq_zero_iff.mp h0];show cf (List.replicate _ 0) j=_;rw[uA,kq _ fun _ _=>gC (dq _)]
 unfold dJ;rw[qT ha hb (jU _) (by rw[bc];omega) hb0,uA,zero_add,if_pos (dq _)];rfl
theorem lJ {x:Nat}(hx:x<64){l:List Nat}(h:Gr l):toF (cG x l)=wo (cf l) l.length (toF x):=by
 induction l with
 |nil=>rfl
 |cons g r ih =>
  have hr:Gr r:=fun z hz=>h z (aa _ hz)
  have g64:g<64:=h g ae;have e:cG x (g::r)=tm g (pw x r.length)^^^cG x r:=by
   show gU x (tm 0 x^^^g) r=_;rw[cA hx,cx,iP hx g64 hr]
  rw[e,kx (bF g64 (bD hx _)) (eQ hx (by decide) hr),dH g64 (bD hx _),ih hr,sd hx];show _=sum (r.length+1) _;rw[cU];congr 1;exact aQ fun j hj=>by show cf r j*_=cf r j*_;congr 2;show _=r.length+1 - 1 - (j+1);omega
theorem xr:∀{ns r:List Nat}{l:List F},Gr ns->Gr r->0<r.length->cf r=eY l->cf (jA r ns)=eY ((ns.map toF).reverse++l)
 |[],r,l,_,_,_,e=>e
 | n::ns,r,l,hn,hr,h0,e=>by
  have n64:=hn n ae;have hb:Gr [1,n]:=.cons (by decide) (.cons n64 .nil);have hl:=fX r [1,n];rw[jA,xr (l:=toF n::l) (fun z hz=>hn z (List.mem_cons_of_mem _ hz)) (jX hr hb) (by rw[hl];simp)]
  ·rw[ay,List.reverse_cons,fe];rfl
  ·funext j;rw[oM hr hb (by simp),dF,e];show _=eY l j+toF n*sh (eY l) j;have:∀ f:Nat->F,conv (cf [1,n]) f j=f j+toF n*sh f j:=fun f=>by
    cases j with
    |zero=>show 0+cf [1,n] 0*f 0=f 0+toF n*0;rw[zero_add,mul_zero,add_zero];exact one_mul _
    |succ j =>
     unfold conv;rw[cU,show cf [1,n] 0=1 from rfl,one_mul,cU,show cf [1,n] (0+1)=toF n from rfl,dC fun i _=>by rw[gC (by show 2<=i+1+1;omega),zero_mul],add_zero];rfl
   exact this _
theorem Gv:cf [1]=eY []:=by
 funext j;cases j with
 |zero=>rfl
 |succ j=>exact gC (by simp)
noncomputable def cW (nums:List Nat)(place:Nat):Nat->List Nat->Nat->Nat
 |_,[],g=>g
 |k,f::r,g=>cW nums place (k+1) r (g^^^tm f (nums.getD (place - k) 0))
theorem mh {nums:List Nat}(hn:Gr nums)(place:Nat):∀{r:List Nat}{k g:Nat},Gr r->g<64->cW nums place k r g<64
 |[],_,_,_,h=>h
 | f::r,k,g,hr,h=>by
  rw[cW];exact mh hn place (fun z hz=>hr z (aa _ hz)) (aV h (bF (hr f ae) (dU hn _)))
theorem qO {nums:List Nat}(hn:Gr nums)(place:Nat):∀{r:List Nat}{k g:Nat},Gr r->g<64->toF (cW nums place k r g)=toF g+sum r.length fun j=>cf r j*cf nums (place - (k+j))
 |[],_,_,_,h=>(add_zero _).symm
 | f::r,k,g,hr,h=>by
  have f64:=hr f ae;have t64:=bF f64 (dU hn (place - k));rw[cW,qO hn place (fun z hz=>hr z (aa _ hz)) (aV h t64),kx h t64,dH f64 (dU hn _),add_assoc];congr 1;show _=sum (r.length+1) _;rw[cU];congr 1;exact aQ fun j hj=>by show cf r j*_=cf r j*_;congr 2;omega
theorem uD {nums r:List Nat}(hn:Gr nums)(hr:Gr r){place:Nat}(h:r.length<=place+1):toF (cW nums place 0 r 0)=conv (cf r) (cf nums) place:=by
 rw[qO hn place hr (by decide),An,zero_add];unfold conv;rw[gK h fun i a b=>by rw[gC a,zero_mul]];exact aQ fun j hj=>by rw[fk]
noncomputable def B9 (row:List Nat)(f:Nat):List Nat:=row.map fun g=>tm g f
theorem Bo {row:List Nat}{f:Nat}(h:Gr row)(hf:f<64):Gr (B9 row f):=fun z hz=>by
 obtain⟨g,hg,rfl⟩:=List.mem_map.mp hz;exact bF (h g hg) hf
theorem IH {row:List Nat}{f:Nat}(h:Gr row)(hf:f<64)(j:Nat):cf (B9 row f) j=toF f*cf row j:=by
 have:B9 row f=mulR f row:=fi fun g hg=>dQ (h g hg) hf
 rw[this,AV hf h]
noncomputable def yW (a b:List Nat):List Nat:=eT (a++List.replicate (b.length - a.length) 0) 0 b
theorem Gg {a b:List Nat}(ha:Gr a)(hb:Gr b):Gr (yW a b):=jQ (ha.append (jU _)) hb
theorem BO (a b:List Nat):(yW a b).length=a.length+(b.length - a.length):=by rw[yW,fC,df,bc]
theorem Ho {a b:List Nat}(ha:Gr a)(hb:Gr b)(j:Nat):cf (yW a b) j=cf a j+cf b j:=by
 unfold yW;rw[oa (ha.append (jU _)) hb (by rw[df,bc];omega),jW,if_pos (dq _)];rfl
theorem inv_one {a:Nat}(h:a<64)(h0:a≠0):tm a (pw a 62)=1:=by
 have:=fF (n:=64) (f:=fun a=>a==0 || tm a (pw a 62)==1) (by decide +kernel) a h;simpa[h0] using this
structure Sr where
 rule:List Nat
 len:Nat
 fo:List Nat
 gap:Nat
noncomputable def Sr.tT (nums:List Nat)(n:Nat)(s:Sr):List Nat:=yW s.rule (B9 (0::s.fo) (tm (cW nums n 0 s.rule 0) (pw s.gap 62)))
noncomputable def Sr.step (nums:List Nat)(n:Nat)(s:Sr):Sr :=
 if cW nums n 0 s.rule 0=0 then ⟨s.rule,s.len,0::s.fo,s.gap⟩
 else if 2*s.len<=n then ⟨s.tT nums n,n+1 - s.len,s.rule,cW nums n 0 s.rule 0⟩
 else ⟨s.tT nums n,s.len,0::s.fo,s.gap⟩
noncomputable def oV (nums:List Nat):Nat->Sr
 |0=>⟨[1],0,[1],1⟩
 |n+1=>(oV nums n).step nums n
structure r9 (nums:List Nat)(n:Nat)(s:Sr):Prop where
 gr:Gr s.rule
 gf:Gr s.fo
 gg:s.gap<64
 l0:0<s.rule.length
 lr:s.rule.length<=s.len+1
 lf:s.fo.length<=n - s.len+1
 f0:0<s.fo.length
 bm:Bm (cf nums) (cf s.rule) (cf s.fo) s.len (toF s.gap) n
theorem r9.ne {nums:List Nat}{n:Nat}{s:Sr}(o:r9 nums n s):s.gap≠0:=fun e=>o.bm.ne (by rw[e];rfl)
theorem r9.rl {nums:List Nat}{n:Nat}{s:Sr}(o:r9 nums n s):s.rule.length<=n+1:=by have:=o.lr;have:=o.bm.le;omega
theorem BC {l:List Nat}(h:Gr l):Gr (0::l):=.cons (by decide) h
theorem r9.step {nums:List Nat}(hn:Gr nums){n:Nat}{s:Sr}(o:r9 nums n s):r9 nums (n+1) (s.step nums n):=by
 have hle:=o.bm.le;have g64:=mh hn n (k:=0) o.gr (g:=0) (by decide);have gc:=uD hn o.gr o.rl;have t64:=bF g64 (bD o.gg 62);have ha:toF (tm (cW nums n 0 s.rule 0) (pw s.gap 62))*toF s.gap=toF (cW nums n 0 s.rule 0):=by
  rw[dH g64 (bD o.gg 62),mul_assoc,mul_comm (toF (pw s.gap 62)),<-dH o.gg (bD o.gg 62),inv_one o.gg o.ne,sy,mul_one]
 have hA:cf (s.tT nums n)=Md.tT (cf s.rule) (cf s.fo) (toF (tm (cW nums n 0 s.rule 0) (pw s.gap 62))):=by
  funext j;show cf (yW _ _) j=_;rw[Ho o.gr (Bo (BC o.gf) t64),IH (BC o.gf) t64,jw];rfl
 have gA:Gr (s.tT nums n):=Gg o.gr (Bo (BC o.gf) t64);have lA:(s.tT nums n).length=s.rule.length+(s.fo.length+1 - s.rule.length):=by
  show (yW _ _).length=_;rw[BO];simp[B9]
 have lr:=o.lr;have lf:=o.lf;have l0:=o.l0;have f0:=o.f0;unfold Sr.step;split
 ·rename_i h;rw[h] at gc;exact⟨o.gr,BC o.gf,o.gg,l0,lr,by simp only[List.length_cons];omega,by simp,by rw[jw];exact o.bm.same gc.symm⟩
 ·rename_i h;split
  ·rename_i h2;refine⟨gA,o.gr,g64,by rw[lA];omega,by rw[lA];show _<=n+1 - s.len+1;omega,by show s.rule.length<=n+1 - (n+1 - s.len)+1;omega,l0,?_⟩;show Bm _ (cf (s.tT nums n)) _ _ _ _;rw[hA];exact o.bm.longer gc.symm (mD g64 h) ha h2
  ·rename_i h2;refine⟨gA,BC o.gf,o.gg,by rw[lA];omega,by rw[lA];show _<=s.len+1;omega,by show s.fo.length+1<=n+1 - s.len+1;omega,by simp,?_⟩;show Bm _ (cf (s.tT nums n)) (cf (0::s.fo)) _ _ _;rw[hA,jw];exact o.bm.kept gc.symm ha h2
theorem A7 {j:Nat}(h:0<j):cf [1] j=0:=gC h
theorem xk {nums:List Nat}(hn:Gr nums):∀ n,r9 nums n (oV nums n)
 |0=>⟨.cons (by decide) .nil,.cons (by decide) .nil,by show 1<64;decide,by show 0<1;decide,by show 1<=0+1;decide,by show 1<=0 - 0+1;decide,by show 0<1;decide,Bm.init _ _ _ rfl (fun j h=>A7 h) fun j h=>A7 h⟩
 |n+1=>(xk hn n).step hn
theorem D6 {nums:List Nat}(hn:Gr nums){R:Nat->F}{w N:Nat}(g:Goes (cf nums) R w N):∀ n,n<=N->(oV nums n).len<=w
 |0,_=>dq _
 | n+1,h=>by
  have ih:=D6 hn g n (by omega);have o:=xk hn n;show ((oV nums n).step nums n).len<=w;unfold Sr.step;split
  ·exact ih
  ·rename_i h0;have gc:=uD hn o.gr o.rl;split
   ·exact o.bm.least (by rw[<-gc];exact mD (mh hn n o.gr (by decide)) h0) g h
   ·exact ih
noncomputable def loc (n p:Nat):Nat:=pw 2 (n - 1 - p)
theorem fZ (n p:Nat):loc n p<64:=bD (by decide) _
theorem rK (n p:Nat):loc n p≠0:=zU (by decide) (by decide) _
noncomputable def locs (n:Nat)(l:List Nat):List Nat:=l.map (loc n)
theorem gZ (n:Nat)(l:List Nat):Gr (locs n l):=fun z hz=>by obtain⟨p,_,rfl⟩:=List.mem_map.mp hz;exact fZ n p
theorem wU {n p q:Nat}(h:n<=63)(hp:p<n)(hq:q<n)(e:loc n p=loc n q):p=q:=by
 unfold loc at e;rcases Nat.lt_trichotomy (n - 1 - p) (n - 1 - q) with c | c | c
 ·exact absurd e.symm (wA (by omega) c)
 ·omega
 ·exact absurd e (wA (by omega) c)
noncomputable def aU (g:List Nat)(c:Nat):List Nat:=(bS c).map fun x=>cG x g
noncomputable def jH (n:Nat)(mi:List Nat):List Nat:=jA [1] (locs n mi)
noncomputable def dX (wo mi:List Nat)(n:Nat):List Nat:=((dJ wo (jH n mi)).take wo.length).drop mi.length
noncomputable def hX (wo mi:List Nat)(n:Nat):List Nat:=(oV (dX wo mi n) (dX wo mi n).length).rule
noncomputable def others (mi:List Nat)(n:Nat):List Nat:=(List.range n).filter fun p=>!mi.contains p
noncomputable def susp (wo mi:List Nat)(n:Nat):List Nat:=(others mi n).filter fun p=>cG (loc n p) (hX wo mi n)==0
noncomputable def cK (x:Nat)(pr:Nat):List Nat->Nat
 |[]=>pr
 |o::l=>cK x (if o=x then pr else tm pr (x^^^o)) l
noncomputable def cO (wo ls:List Nat):List Nat:=(dJ wo (jA [1] ls)).take ls.length
noncomputable def share (hd ls:List Nat)(x:Nat):Nat:=tm (cG x hd) (pw (tm x (cK x 1 ls)) 62)
noncomputable def rJ (n:Nat)(hd ls:List Nat):List Nat->List Nat->List Nat
 |[],ch=>ch
 |p::r,ch=>rJ n hd ls r (ch.set p (ch.getD p 0^^^share hd ls (loc n p)))
noncomputable def fU (g su wo:List Nat):List Nat:=rJ g.length (cO wo (locs g.length su)) (locs g.length su) su g
theorem iU {g:List Nat}(h:Gr g)(c:Nat):Gr (aU g c):=fun z hz=>by
 obtain⟨x,hx,rfl⟩:=List.mem_map.mp hz;exact eQ (kQ c x hx) (by decide) h
theorem k6 (g:List Nat)(c:Nat):(aU g c).length=c:=by rw[aU,aj,jR]
theorem kU:Gr [1]:=.cons (by decide) .nil
theorem lT (n:Nat)(mi:List Nat):(jH n mi).length=mi.length+1/\Gr (jH n mi):=by
 obtain⟨a,b,_⟩:=gP (r:=[1]) (gZ n mi) kU (by decide) rfl;exact⟨by rw[jH,a];simp[locs];omega,b⟩
theorem zc (ls:List Nat)(h:Gr ls):cf (jA [1] ls)=eY (ls.map toF):=by
 rw[xr (l:=[]) h kU (by decide) Gv,cg];exact wd (List.reverse_perm _)
theorem nN {wo:List Nat}(h:Gr wo)(mi:List Nat)(n:Nat):Gr (dX wo mi n):=fun z hz =>
 jX h (lT n mi).2 z (List.mem_of_mem_take (List.mem_of_mem_drop hz))
theorem qv (wo mi:List Nat)(n:Nat):(dX wo mi n).length=wo.length - mi.length:=by
 unfold dX;rw[gi,eu,fX,(lT n mi).1];omega
theorem sum_list:∀{l:List Nat}{n:Nat}{f:Nat->F},l.Nodup->(∀ p∈l,p<n)->(∀ p,p<n->p∉l->f p=0)->sum n f=lsum (l.map f)
 |[],n,f,_,_,z=>dC fun p hp=>z p hp (by simp)
 | a::l,n,f,hn,hl,z=>by
  rw[jk] at hn;have ha:=hl a ae;have e:sum n f=sum n (fun p=>if p=a then f p else 0)+sum n fun p=>if p=a then 0 else f p:=by
   rw[<-sum_add];exact aQ fun p _=>by split;rw[add_zero];rw[zero_add]
  rw[e,B0 ha (fun p _ hp=>if_neg hp),if_pos rfl,sum_list (l:=l) hn.2 (fun p hp=>hl p (aa _ hp)) fun p hp hm=>?_]
  ·show _=f a+lsum (l.map f);congr 2;exact fi fun p hp=>if_neg fun (q:p=a)=>hn.1 (q ▸ hp)
  ·by_cases h:p=a
   ·rw[if_pos h]
   ·rw[if_neg h];exact z p hp fun hm'=>by rcases dw.mp hm' with q | q;exact h q;exact hm q
noncomputable def xH (n:Nat)(E:List Nat)(l:List Nat):List (F×F):=l.map fun p=>(cf E p,toF (loc n p))
theorem sM (x:F)(i:Nat):∀ j,gR (gR x i) j=gR x (i*j)
 |0=>rfl
 |j+1=>by show gR (gR x i) j*_=_;rw[sM x i j,<-mf,Nat.mul_succ]
theorem z7 {E:List Nat}(hE:Gr E){l:List Nat}(hn:l.Nodup)(hl:∀ p∈l,p<E.length)(z:∀ p,p<E.length->p∉l->E.getD p 0=0)(j:Nat):toF (cG (pw 2 j) E)=ps (xH E.length E l) j:=by
 rw[lJ (bD (by decide) j) hE,xm];unfold wo xH;rw[sum_list hn hl fun p hp hm=>by show toF (E.getD p 0)*_=0;rw[z p hp hm];exact zero_mul _,bg];congr 1;refine fi fun p hp=>?_
 show cf E p*_=cf E p*gR (toF (loc E.length p)) j;rw[loc,sd (by decide),sd (by decide),sM,sM,Nat.mul_comm]
structure jO (g y mi W:List Nat)(c:Nat):Prop where
 gg:Gr g
 gy:Gr y
 ly:y.length=g.length
 n63:g.length<=63
 c62:c<=62
 code:uM y c
 mn:mi.Nodup
 ml:∀ p∈mi,p<g.length
 wr:W=(others mi g.length).filter fun p=>y.getD p 0 != g.getD p 0
 le:2*W.length+mi.length<=c
theorem dW {mi:List Nat}{n p:Nat}:p∈others mi n↔p<n/\p∉mi:=by
 unfold others;rw[List.mem_filter,List.mem_range];simp
theorem l9 (mi:List Nat)(n:Nat):(others mi n).Nodup:=List.nodup_range.filter _
section
variable {g y mi W:List Nat}{c:Nat}(N:jO g y mi W c)
include N
theorem jO.lE:(fP g y).length=g.length:=A9 N.ly.symm
theorem jO.gE:Gr (fP g y):=wD N.gg N.gy
theorem jO.E {p:Nat}(hp:p<g.length):(fP g y).getD p 0=g.getD p 0^^^y.getD p 0:=by
 rw[List.getD_eq_getElem?_getD,List.getD_eq_getElem?_getD,List.getD_eq_getElem?_getD,fP,List.getElem?_zipWith,List.getElem?_eq_getElem hp,List.getElem?_eq_getElem (by rw[N.ly];exact hp)];rfl
theorem jO.Wm {p:Nat}:p∈W↔p<g.length/\p∉mi/\y.getD p 0≠g.getD p 0:=by
 rw[N.wr,List.mem_filter,dW];simp[and_assoc]
theorem jO.nd:(mi++W).Nodup:=by
 rw[jc];refine⟨N.mn,by rw[N.wr];exact (l9 _ _).filter _,fun a ha b hb e=>?_⟩;exact ((N.Wm).mp hb).2.1 (e ▸ ha)
theorem jO.lt {p:Nat}(h:p∈mi++W):p<g.length:=by
 rcases List.mem_append.mp h with h | h
 ·exact N.ml p h
 ·exact ((N.Wm).mp h).1
theorem jO.out {p:Nat}(hp:p<g.length)(h:p∉mi++W):(fP g y).getD p 0=0:=by
 rw[N.E hp];have:y.getD p 0=g.getD p 0:=fm fun e=>h (ak _ ((N.Wm).mpr ⟨hp,fun m=>h (aw _ m),e⟩))
 rw[this,fu]
theorem jO.worth {j:Nat}(hj:j<c):cf (aU g c) j=ps (xH g.length (fP g y) (mi++W)) (j+1):=by
 have e1:(aU g c).getD j 0=cG (pw 2 (j+1)) g:=by
  unfold aU bS;rw[List.getD_eq_getElem?_getD,bg,List.getElem?_map,List.getElem?_range' hj,cv,Option.getD_some];show cG (pw 2 _) g=_;congr 2;omega
 have hx:pw 2 (j+1)<64:=bD (by decide) _;have e2:cG (pw 2 (j+1)) (fP g y)=cG (pw 2 (j+1)) g:=by
  rw[DA hx N.ly.symm N.gg N.gy,N.code (pw 2 (j+1)) (by
   unfold bS;exact List.mem_map.mpr ⟨j+1,List.mem_range'_1.mpr ⟨by omega,by omega⟩,rfl⟩),ij]
 have:=z7 N.gE N.nd (fun p hp=>by rw[N.lE];exact N.lt hp) (fun p hp hm=>N.out (by rw[<-N.lE];exact hp) hm) (j+1);rw[N.lE] at this;rw[cf,e1,<-e2,this]
theorem jO.locF {p q:Nat}(hp:p<g.length)(hq:q<g.length)(e:toF (loc g.length p)=toF (loc g.length q)):p=q:=wU N.n63 hp hq (mL (fZ _ _) (fZ _ _) e)
theorem jO.locn {l:List Nat}(hn:l.Nodup)(hl:∀ p∈l,p<g.length):(l.map fun p=>toF (loc g.length p)).Nodup:=by
 rw[List.Nodup,jb];exact List.Pairwise.imp_of_mem (fun ha hb h e=>h (N.locF (hl _ ha) (hl _ hb) e)) hn
end
theorem Aa (j:Nat):∀(a b:List (F×F)),ps (a++b) j=ps a j+ps b j
 |[],b=>(zero_add _).symm
 |p::a,b=>by show _+ps (a++b) j=_+ps a j+_;rw[Aa j a b,add_assoc]
theorem wB (j:Nat):∀{a:List (F×F)},(∀ p∈a,p.1=0)->ps a j=0
 |[],_=>rfl
 |p::a,h=>by show p.1*_+_=0;rw[h p ae,zero_mul,zero_add];exact wB j fun q hq=>h q (aa _ hq)
section
variable {g y mi W:List Nat}{c:Nat}(N:jO g y mi W c)
include N
theorem jO.freed {k:Nat}(hk:k<c - mi.length):cf (dX (aU g c) mi g.length) k=ps ((xH g.length (fP g y) W).map fun p=>(p.1*(p.2*dist p.2 ((locs g.length mi).map toF)),p.2)) k:=by
 have lg:=lT g.length mi;have e1:cf (dX (aU g c) mi g.length) k=conv (cf (aU g c)) (cf (jH g.length mi)) (mi.length+k):=by
  rw[<-oM (iU N.gg c) lg.2 (by rw[lg.1];omega)];unfold cf dX;rw[List.getD_eq_getElem?_getD,List.getD_eq_getElem?_getD,List.getElem?_drop,List.getElem?_take,if_pos (by rw[k6];omega)]
 rw[e1,jr (f':=fun j=>ps (xH g.length (fP g y) (mi++W)) (j+1)) (fun j hj=>N.worth (by omega)) fun _ _=>rfl,Md.freed (m:=mi.length) (fun j hj=>gC (by rw[lg.1];omega)) k];rw[jH,zc _ (gZ _ _)];have ed:∀ x,wo (eY ((locs g.length mi).map toF)) (mi.length+1) x=dist x ((locs g.length mi).map toF):=fun x=>by
  rw[<-wm,aj,locs,aj]
 simp only[ed];rw[xH,jm,jm,Aa,wB,zero_add];rfl;intro q hq;obtain⟨r,hr,rfl⟩:=List.mem_map.mp hq;obtain⟨p,hp,rfl⟩:=List.mem_map.mp hr;show _*(_*dist (toF (loc g.length p)) _)=0;rw[kz (l:=(locs g.length mi).map toF) (List.mem_map.mpr ⟨loc g.length p,List.mem_map.mpr ⟨p,hp,rfl⟩,rfl⟩),mul_zero,mul_zero]
theorem jO.susp:susp (aU g c) mi g.length=W:=by
 have gw:=iU N.gg c;let fr:=dX (aU g c) mi g.length;have lf:fr.length=c - mi.length:=by show (dX _ _ _).length=_;rw[qv,k6]
 let es:=(xH g.length (fP g y) W).map fun p=>(p.1*(p.2*dist p.2 ((locs g.length mi).map toF)),p.2)
 have les:es.length=W.length:=by simp[es,xH]
 have ht:∀ k,k<fr.length->cf fr k=ps es k:=fun k hk=>N.freed (lf ▸ hk)
 have hle:=N.le;have go:=BK ht;have o:=xk (nN gw mi g.length) fr.length;have hL:=D6 (nN gw mi g.length) go fr.length (au _);have hr:∀ p∈W,cG (loc g.length p) (hX (aU g c) mi g.length)=0:=fun p hp=>by
  have m:=(N.Wm).mp hp;have hx:toF (loc g.length p)≠0:=mD (fZ _ _) (rK _ _);have z:=yr (es:=es) (C:=cf (hX (aU g c) mi g.length)) (n:=(hX (aU g c) mi g.length).length) ht (fun q hq=>by
    obtain⟨r,hr,rfl⟩:=List.mem_map.mp hq;obtain⟨p,hp,rfl⟩:=List.mem_map.mp hr;exact mD (fZ _ _) (rK _ _)) (by
    simp only[es,xH,List.map_map];exact N.locn ((jc.mp N.nd).2.1) fun q hq=>((N.Wm).mp hq).1) o.bm.go hL (by rw[les];omega) o.l0 o.lr (fun j hj=>gC hj) (List.mem_map.mpr ⟨_,List.mem_map.mpr ⟨p,hp,rfl⟩,rfl⟩) (by
    refine kY ?_ (kY hx (sC fun q=>?_))
    ·show toF ((fP g y).getD p 0)≠0;rw[N.E m.1];exact mD (aV (dU N.gg _) (dU N.gy _)) fun e=>m.2.2 (cJ e).symm
    ·obtain⟨x,hx,e⟩:=List.mem_map.mp q;obtain⟨q,hq,rfl⟩:=List.mem_map.mp hx;exact m.2.1 (N.locF (N.ml q hq) m.1 e ▸ hq))
  have z':=(lJ (x:=loc g.length p) (fZ _ _) o.gr).trans z;exact mL (eQ (fZ _ _) (by decide) o.gr) (by decide) z'
 have hsub:W=(Md.susp (aU g c) mi g.length).filter fun p=>y.getD p 0 != g.getD p 0:=by
  unfold Md.susp;rw[List.filter_filter]
  conv=>lhs;rw[N.wr]
  refine List.filter_congr fun p hp=>?_
  by_cases e:y.getD p 0=g.getD p 0
  ·have:(y.getD p 0 != g.getD p 0)=false:=by rw[e];exact bne_self_eq_false _
   rw[this,Bool.false_and]
  ·have:=hr p ((N.Wm).mpr ⟨(dW.mp hp).1,(dW.mp hp).2,e⟩);rw[this];simp
 have hlen:(Md.susp (aU g c) mi g.length).length<=W.length:=by
  refine il fun h=>?_
  have hz:=oX (xs:=locs g.length (Md.susp (aU g c) mi g.length)) (l:=hX (aU g c) mi g.length) (by
    unfold locs;rw[List.Nodup,jb];refine List.Pairwise.imp_of_mem (fun {a b} ha hb h e=>h (wU N.n63 ?_ ?_ e)) ((l9 mi g.length).filter _)
    ·exact (dW.mp (gn.mp ha |>.1)).1
    ·exact (dW.mp (gn.mp hb |>.1)).1) (gZ _ _) o.gr (by
    have:=o.lr;have h2:(oV fr fr.length).len<=W.length:=by rw[<-les];exact hL
    have h3:(hX (aU g c) mi g.length).length<=(oV fr fr.length).len+1:=o.lr;simp only[locs,List.length_map];omega) (fun x hx=>by
    obtain⟨p,hp,rfl⟩:=List.mem_map.mp hx;have:=(gn.mp hp).2;simpa using this)
  have h1:=o.bm.go.one;have l0:=o.l0;have:(oV fr fr.length).rule.getD 0 0=0:=by
   rw[List.getD_eq_getElem?_getD,List.getElem?_eq_getElem l0];exact hz _ (ip l0)
  unfold cf at h1;rw[this] at h1;exact absurd h1 (by decide)
 have sl:W.Sublist (Md.susp (aU g c) mi g.length):=by
  conv=>lhs;rw[hsub]
  exact List.filter_sublist
 exact (sl.eq_of_length_le hlen).symm
end
theorem iN {x:Nat}(hx:x<64):∀{l:List Nat}{pr:Nat},Gr l->pr<64->cK x pr l<64
 |[],_,_,h=>h
 | o::l,pr,hl,h=>by
  rw[cK];refine iN hx (fun z hz=>hl z (aa _ hz)) ?_;split
  ·exact h
  ·exact bF h (aV hx (hl o ae))
theorem kX {x:Nat}(hx:x<64):∀{l:List Nat}{pr:Nat},Gr l->pr<64->toF (cK x pr l)=toF pr*dist (toF x) ((l.map toF).filter (· != toF x))
 |[],_,_,h=>(mul_one _).symm
 | o::l,pr,hl,h=>by
  have o64:=hl o ae;have hr:Gr l:=fun z hz=>hl z (aa _ hz)
  rw[cK,ay];by_cases e:o=x
  ·rw[if_pos e,kX hx hr h,List.filter_cons_of_neg (by rw[e];simp)]
  ·have ne:toF o≠toF x:=fun q=>e (mL o64 hx q)
   rw[if_neg e,kX hx hr (bF h (aV hx o64)),List.filter_cons_of_pos (by simpa using ne),dH h (aV hx o64),kx hx o64];show _=toF pr*(dist _ _*(toF x+toF o))
   ac_rfl
theorem uE {hd ls:List Nat}(h1:Gr hd)(h2:Gr ls){x:Nat}(hx:x<64):share hd ls x<64:=bF (eQ hx (by decide) h1) (bD (bF hx (iN hx h2 (by decide))) _)
theorem lY (n:Nat)(hd ls:List Nat):∀(su ch:List Nat),(rJ n hd ls su ch).length=ch.length
 |[],_=>rfl
 |p::r,ch=>by rw[rJ,lY n hd ls r,aq]
theorem wc {n:Nat}{hd ls:List Nat}(h1:Gr hd)(h2:Gr ls):∀{su ch:List Nat},Gr ch->Gr (rJ n hd ls su ch)
 |[],_,h=>h
 |p::r,ch,h=>by rw[rJ];exact wc h1 h2 (mr h (uE h1 h2 (fZ _ _)))
theorem xo (n:Nat)(hd ls:List Nat):∀{su ch:List Nat},su.Nodup->(∀ p∈su,p<ch.length)->∀ q,(rJ n hd ls su ch).getD q 0=if q∈su then ch.getD q 0^^^share hd ls (loc n q) else ch.getD q 0
 |[],_,_,_,q=>by rw[if_neg (by simp)];rfl
 | p::r,ch,hn,hl,q=>by
  rw[jk] at hn;rw[rJ,xo n hd ls hn.2 (fun z hz=>by rw[aq];exact hl z (aa _ hz))];by_cases e:q=p
  ·subst e;rw[if_neg hn.1,if_pos ae,List.getD_eq_getElem?_getD,List.getElem?_set_self (hl q ae)];rfl
  ·have:(ch.set p (ch.getD p 0^^^share hd ls (loc n p))).getD q 0=ch.getD q 0:=by
    rw[List.getD_eq_getElem?_getD,List.getElem?_set_ne (by omega),List.getD_eq_getElem?_getD]
   rw[this];by_cases m:q∈r
   ·rw[if_pos m,if_pos (aa _ m)]
   ·rw[if_neg m,if_neg fun h=>by rcases dw.mp h with h | h;exact e h;exact m h]
theorem pf {wo ls:List Nat}(h:Gr wo)(h2:Gr ls):Gr (cO wo ls):=fun z hz =>
 jX h (gP (r:=[1]) h2 kU (by decide) rfl).2.1 z (List.mem_of_mem_take hz)
theorem yM (wo ls:List Nat)(h2:Gr ls):(cO wo ls).length=ls.length:=by
 unfold cO;rw[List.length_take,fX,(gP (r:=[1]) h2 kU (by decide) rfl).1];simp;omega
theorem Am {a b:List Nat}(h:a.length=b.length)(e:∀ p,p<a.length->a.getD p 0=b.getD p 0):a=b:=by
 refine iq h fun p h1 h2=>?_
 have:=e p h1;rw[List.getD_eq_getElem?_getD,List.getD_eq_getElem?_getD,List.getElem?_eq_getElem h1,List.getElem?_eq_getElem h2] at this;exact this
section
variable {g y mi W:List Nat}{c:Nat}(N:jO g y mi W c)
include N
theorem jO.share {p:Nat}(hp:p∈mi++W):share (cO (aU g c) (locs g.length (mi++W))) (locs g.length (mi++W)) (loc g.length p)=(fP g y).getD p 0:=by
 have gw:=iU N.gg c;have gl:=gZ g.length (mi++W);have hx:=fZ g.length p;have gh:=pf gw gl;have ll:(locs g.length (mi++W)).length=mi.length+W.length:=by simp[locs]
 have hle:=N.le;have eL:(locs g.length (mi++W)).map toF=(mi++W).map fun p=>toF (loc g.length p):=by rw[locs,bg];rfl
 have hnd:((locs g.length (mi++W)).map toF).Nodup:=by rw[eL];exact N.locn N.nd fun q hq=>N.lt hq
 have hmem:∀ q∈xH g.length (fP g y) (mi++W),q.2∈(locs g.length (mi++W)).map toF:=fun q hq=>by
  obtain⟨r,hr,rfl⟩:=List.mem_map.mp hq;rw[eL];exact List.mem_map.mpr ⟨r,hr,rfl⟩
 have hne:(locs g.length (mi++W)).map toF≠[]:=fun e=>by
  have:=(List.mem_map (f:=fun p=>toF (loc g.length p))).mpr ⟨p,hp,rfl⟩;rw[<-eL,e] at this;cases this
 have hprs:((xH g.length (fP g y) (mi++W)).map (·.2)).Nodup:=by
  unfold xH;rw[bg];exact N.locn N.nd fun q hq=>N.lt hq
 have hpm:(cf (fP g y) p,toF (loc g.length p))∈xH g.length (fP g y) (mi++W):=List.mem_map.mpr ⟨p,hp,rfl⟩;have e1:toF (cG (loc g.length p) (cO (aU g c) (locs g.length (mi++W))))=cf (fP g y) p*(toF (loc g.length p)*dist (toF (loc g.length p)) (((locs g.length (mi++W)).map toF).erase (toF (loc g.length p)))):=by
  rw[lJ hx gh,yM _ _ gl,<-AN hprs hnd hmem hpm,<-uv _ hne _ hmem,aj];refine uq fun k hk=>?_
  rw[<-heads _ _ hmem];have:cf (cO (aU g c) (locs g.length (mi++W))) k=cf (dJ (aU g c) (jA [1] (locs g.length (mi++W)))) k:=by
   unfold cf cO;rw[List.getD_eq_getElem?_getD,List.getD_eq_getElem?_getD,List.getElem?_take,if_pos hk]
  rw[this,oM gw (gP (r:=[1]) gl kU (by decide) rfl).2.1 (by rw[(gP (r:=[1]) gl kU (by decide) rfl).1];simp;omega),zc _ gl];exact jr (fun j hj=>N.worth (by omega)) fun _ _=>rfl
 have d64:=iN hx gl (pr:=1) (by decide);have e2:toF (cK (loc g.length p) 1 (locs g.length (mi++W)))=dist (toF (loc g.length p)) (((locs g.length (mi++W)).map toF).erase (toF (loc g.length p))):=by
  rw[kX hx gl (by decide),sy,one_mul,hnd.erase_eq_filter]
 have ne:tm (loc g.length p) (cK (loc g.length p) 1 (locs g.length (mi++W)))≠0:=fun e=>by
  have z:toF (tm (loc g.length p) (cK (loc g.length p) 1 (locs g.length (mi++W))))=0:=by rw[e];rfl
  rw[dH hx d64,e2] at z;exact kY (mD hx (rK _ _)) (sC hnd.not_mem_erase) z
 have t64:=bF hx d64;refine mL (uE gh gl hx) (dU N.gE p) ?_;unfold Md.share;rw[dH (eQ hx (by decide) gh) (bD t64 _),e1,<-e2,<-dH hx d64,mul_assoc,<-dH t64 (bD t64 _),inv_one t64 ne,sy,mul_one];rfl
theorem jO.fU:fU g (mi++W) (aU g c)=y:=by
 unfold Md.fU;refine Am (by rw[lY,N.ly]) fun p hp=>?_
 rw[lY] at hp;rw[xo _ _ _ N.nd fun q hq=>N.lt hq];split
 ·rename_i h;rw[N.share h,N.E hp,<-bt,fu,cx]
 ·rename_i h;have:=N.out hp h;rw[N.E hp] at this;exact cJ this
end
noncomputable def aT (g y mi:List Nat):List Nat:=(List.range g.length).filter fun p=>!mi.contains p&&y.getD p 0 != g.getD p 0
theorem yb (g y mi:List Nat):aT g y mi=(others mi g.length).filter fun p=>y.getD p 0 != g.getD p 0:=by
 unfold aT others;rw[List.filter_filter];exact List.filter_congr fun p _=>Bool.and_comm ..
noncomputable def bP (g mi:List Nat)(c:Nat):List Nat:=fU g (mi++susp (aU g c) mi g.length) (aU g c)
theorem qH (g mi:List Nat)(c:Nat):(bP g mi c).length=g.length:=lY ..
theorem zE {g:List Nat}(h:Gr g)(mi:List Nat)(c:Nat):Gr (bP g mi c):=wc (pf (iU h c) (gZ _ _)) (gZ _ _) h
theorem found {g y mi:List Nat}{c:Nat}(gg:Gr g)(gy:Gr y)(ly:y.length=g.length)(n63:g.length<=63)(c62:c<=62)(code:uM y c)(mn:mi.Nodup)(ml:∀ p∈mi,p<g.length)(le:2*(aT g y mi).length+mi.length<=c):bP g mi c=y:=by
 have N:jO g y mi (aT g y mi) c:=⟨gg,gy,ly,n63,c62,code,mn,ml,yb g y mi,le⟩;unfold bP;rw[N.susp,N.fU]
end Md
end
section
namespace Pc.Vw
open PySem Pc Pc.Sm Pc.Gr Fl64 Md
def aG (T:Tb)(e:Ex)(env:En)(d:D):Prop:=∃ R,ev T e env = .ok (d,R)
section
variable {T:Tb}{env:En}{a b c:Ex}{x y z d:D}
theorem aG.bin {op:Operator}(h:aG T a env x)(h':aG T b env y)(e:pQ op x y=some z):aG T (.bin op a b) env z:=by
 obtain⟨R,h⟩:=h;obtain⟨R',h'⟩:=h';exact⟨_,by rw[ev,h,aA,h',aA,e,aM,aA]⟩
theorem aG.cmp {op:CmpOp}{k:Bool}(h:aG T a env x)(h':aG T b env y)(e:ni op x y=some k):aG T (.cmp op a b) env (.bl k):=by
 obtain⟨R,h⟩:=h;obtain⟨R',h'⟩:=h';exact⟨_,by rw[ev,h,aA,h',aA,e,aM,aA]⟩
theorem aG.ix (h:aG T a env x)(h':aG T b env y)(e:GZ x y=some z):aG T (.ix a b) env z:=by
 obtain⟨R,h⟩:=h;obtain⟨R',h'⟩:=h';exact⟨_,by rw[ev,h,aA,h',aA,e,aM,aA]⟩
theorem aG.cst (d:D):aG T (.cst d) env d:=⟨_,by rw[ev]⟩
theorem aG.glb (i:Nat):aG T (.glb i) env (T.gl i):=by
 cases h:ev T (.glb i) env with
 |ok p=>rw[ev] at h;exact⟨p.2,by rw[ev];cases h;rfl⟩
 |exc e=>rw[ev] at h;cases h
 |bad=>rw[ev] at h;cases h
theorem aG.me {f:Nat}{r:D}{fr:Bool}(h:aG T a env x)(e:T.cl f [x] = .ok (r,fr)):aG T (.call f (.cons a .nil)) env r:=by
 obtain⟨R,h⟩:=h;exact⟨_,by rw[ev,bQ,h,aA,bQ,aA,aA];show (T.cl f [x]).bind _=_;rw[e,aA]⟩
theorem aG.bL {f:Nat}{r:D}{fr:Bool}(h:aG T a env x)(h2:aG T b env y)(e:T.cl f [x,y] = .ok (r,fr)):aG T (.call f (.cons a (.cons b .nil))) env r:=by
 obtain⟨R,h⟩:=h;obtain⟨R2,h2⟩:=h2;exact⟨_,by rw[ev,bQ,h,aA,bQ,h2,aA,bQ,aA,aA,aA];show (T.cl f [x,y]).bind _=_;rw[e,aA]⟩
theorem aG.call3 {f:Nat}{r:D}{fr:Bool}(h:aG T a env x)(h2:aG T b env y)(h3:aG T c env z)(e:T.cl f [x,y,z] = .ok (r,fr)):aG T (.call f (.cons a (.cons b (.cons c .nil)))) env r:=by
 obtain⟨R,h⟩:=h;obtain⟨R2,h2⟩:=h2;obtain⟨R3,h3⟩:=h3;exact⟨_,by rw[ev,bQ,h,aA,bQ,h2,aA,bQ,h3,aA,bQ,aA,aA,aA,aA];show (T.cl f [x,y,z]).bind _=_;rw[e,aA]⟩
theorem aG.blt1 {k:Dm}(h:aG T a env x)(e:nj k [x]=some z):aG T (.blt k (.cons a .nil)) env z:=by
 obtain⟨R,h⟩:=h;exact⟨_,by rw[ev,bQ,h,aA,bQ,aA,aA];show (iG (nj k [x])).bind _=_;rw[e,aM,aA]⟩
theorem aG.lst1 (h:aG T a env x):aG T (.lst (.cons a .nil)) env (.lst [x]):=by
 obtain⟨R,h⟩:=h;exact⟨_,by rw[ev,bQ,h,aA,bQ,aA,aA];exact if_pos (by show (1:Nat)<=lim;decide)⟩
theorem aG.not {k:Bool}(h:aG T a env (.bl k)):aG T (.not a) env (.bl (!k)):=by
 obtain⟨R,h⟩:=h;exact⟨_,by rw[ev,h,aA]⟩
theorem aG.and {k:Bool}{w:Bool}(h:aG T a env (.bl k))(h':k=true->aG T b env (.bl w))(hw:k=false->w=false):aG T (.and a b) env (.bl w):=by
 obtain⟨R,h⟩:=h;cases k with
 |true=>obtain⟨R',h'⟩:=h' rfl;exact⟨_,by rw[ev,h,aA];exact h'⟩
 |false=>rw[hw rfl];exact⟨_,by rw[ev,h,aA]⟩
theorem aG.or {k:Bool}{w:Bool}(h:aG T a env (.bl k))(h':k=false->aG T b env (.bl w))(hw:k=true->w=true):aG T (.or a b) env (.bl w):=by
 obtain⟨R,h⟩:=h;cases k with
 |false=>obtain⟨R',h'⟩:=h' rfl;exact⟨_,by rw[ev,h,aA];exact h'⟩
 |true=>rw[hw rfl];exact⟨_,by rw[ev,h,aA]⟩
theorem mF {k:Bool}{p q:bJ}(h:aG T c env (.bl k)):bI T (.ite c p q) env=if k then aC T p env else aC T q env:=by
 obtain⟨R,h⟩:=h;rw[bI,h,aS];cases k<;>rfl
theorem za {e:Ex}(h:aG T e env d):∃ fr,Pc.ret (aC T (.cons (.ret e) .nil) env) = .ok (d,fr):=by
 obtain⟨R,h⟩:=h;rw[aC,bI,h,aS];exact⟨_,rfl⟩
end
def Vw (env:En)(vs:List (Option D)):Prop:=env.length=vs.length/\∀(j:Nat) (d:D),vs[j]? = some (some d)->∃ t,env[j]? = some (some (d,t))
section
variable {T:Tb}{env:En}{vs:List (Option D)}{d:D}
theorem Vw.var (h:Vw env vs){i:Nat}(e:vs[i]? = some (some d)):aG T (.var i) env d:=by
 obtain⟨t,q⟩:=h.2 i d e;rw[aG,ev,q];exact⟨_,rfl⟩
theorem Vw.put (h:Vw env vs)(i:Nat)(d:D)(t:Tg):Vw (Pc.put env i d t) (vs.set i (some d)):=by
 unfold Pc.put;refine⟨by rw[aq,aq,aj,h.1],fun j x e=>?_⟩;by_cases hj:i=j
 ·subst hj;have hl:i<vs.length:=by
   have:=(List.getElem?_eq_some_iff.mp e).1
   rwa [aq] at this
  rw[List.getElem?_set_self hl] at e;cases e;exact⟨t,List.getElem?_set_self (by rw[aj,h.1];exact hl)⟩
 ·rw[List.getElem?_set_ne hj] at e;obtain⟨t',q⟩:=h.2 j x e;refine⟨t'.drop i,?_⟩;rw[List.getElem?_set_ne hj,List.getElem?_map,q];rfl
theorem Vw.asg (h:Vw env vs){i:Nat}(hi:i<vs.length){e:Ex}(he:aG T e env d):∃ env',bI T (.asg (.nm i) e false) env = .nx env'/\Vw env' (vs.set i (some d)):=by
 obtain⟨R,he⟩:=he;rw[bI,he,aS];have hi':i<env.length:=by rw[h.1];exact hi
 show ∃ env',(if i<env.length then _ else _)=_/\_;rw[if_pos hi'];cases R with
 |mv R =>
  cases R with
  |nil=>exact⟨_,rfl,h.put i d _⟩
  |cons r R=>exact⟨_,rfl,h.put i d _⟩
 |sh R=>exact⟨_,rfl,h.put i d _⟩
theorem Vw.bind (h:Vw env vs){i:Nat}(hi:i<vs.length)(R:List Nat)(d:D):∃ env',aX R (.nm i) d env=some env'/\Vw env' (vs.set i (some d)):=by
 refine⟨_,?_,h.put i d (cI d R)⟩;show (if i<env.length then _ else _)=_;rw[if_pos (by rw[h.1];exact hi)]
theorem Vw.start (ds:List D)(n:Nat):Vw (aF ds n) (ds.map some++List.replicate (n - ds.length) none):=by
 unfold aF;refine⟨by simp,fun j d e=>?_⟩;by_cases hj:j<ds.length
 ·rw[List.getElem?_append_left (by rw[aj];exact hj),List.getElem?_map] at e;rw[List.getElem?_append_left (by rw[aj];exact hj),List.getElem?_map];cases q:ds[j]? with
  |none=>rw[q] at e;cases e
  |some x=>rw[q] at e;cases e;exact⟨_,rfl⟩
 ·rw[List.getElem?_append_right (by rw[aj];omega),List.getElem?_replicate] at e;split at e<;>cases e
end
theorem yd {t:pE}{R:List Nat}{b:En->Fl}(J:Nat->En->Prop):∀(l:List D) (k:Nat) (env:En),J k env ->
  (∀(i:Nat) (d:D) (e:En),l[i]? = some d->J (k+i) e->∃ e1 e2,aX R t d e=some e1/\(b e1 = .nx e2\/b e1 = .ct e2)/\J (k+i+1) e2)->∃ e,bC t R b l env = .nx e/\J (k+l.length) e
 |[],k,env,h,_=>⟨env,rfl,h⟩
 | d::r,k,env,h,st=>by
  obtain⟨e1,e2,h1,h2,h3⟩:=st 0 d env rfl h;obtain⟨e,q1,q2⟩:=yd J r (k+1) e2 h3 fun i d e hd hJ=>by
   have:=st (i+1) d e hd (by rw[show k+(i+1)=k+1+i by omega];exact hJ);rw[show k+(i+1)+1=k+1+i+1 by omega] at this;exact this
  refine⟨e,?_,by rw[cw,show k+(r.length+1)=k+1+r.length by omega];exact q2⟩;rw[bC,h1];rcases h2 with h2 | h2
  ·dsimp only;rw[h2];exact q1
  ·dsimp only;rw[h2];exact q1
def Bz (T:Tb)(iv:Nat):Prop:=∀ a:Nat,a<64->a≠0->T.cl iv [.int (a:Int)] = .ok (.int ((pw a 62:Nat):Int),true)
noncomputable def bIN (g pwf:Nat):bJ:=(.cons (.ite (.cmp .Eq (.var 0) (.cst (.int (0)))) (.cons (.expr (.neg (.cst .non)))
  .nil) .nil)
  (.cons (.ret (.call pwf (.cons (.var 0) (.cons (.bin .Sub (.glb g) (.cst (.int (2)))) .nil))))
  .nil))
theorem Jj {T:Tb}{g pwf:Nat}(hg:T.gl g = .int 64)(hp:Cs T pwf){a:Nat}(ha:a<64)(h0:a≠0):Pc.ret (aC T (bIN g pwf) (aF [.int (a:Int)] 1)) = .ok (.int ((pw a 62:Nat):Int),true):=by
 have hst:aF [.int (a:Int)] 1=[sN a]:=rfl;rw[hst];have v0:ev T (.var 0) [sN a] = .ok (.int (a:Int),.mv []):=aI rfl rfl;have c:ev T (.cmp .Eq (.var 0) (.cst (.int (0)))) [sN a] = .ok (.bl false,.mv []):=by
  rw[ev,v0,aA,ev,aA];show (iG (some ((a:Int)==0))).bind _=_;rw[show ((a:Int)==0)=false by rw[fh];omega];rfl
 have e:ev T (.bin .Sub (.glb g) (.cst (.int (2)))) [sN a] = .ok (.int ((62:Nat):Int),.mv []):=by
  have:∃ R,ev T (.glb g) [sN a] = .ok (.int 64,R):=by
   have:=aG.glb (T:=T) (env:=[sN a]) g;rw[hg] at this;exact this
  obtain⟨R,q⟩:=this;rw[ev,q,aA,ev,aA,aO];rfl
 unfold bIN;rw[aC,ite_ff c,aD];exact iE (Pc.Sm.bL v0 e (hp a 62 ha (by decide)))
def Fs (T:Tb)(gp:Nat):Prop:=∀(rule nums:List Nat) (place:Nat),Gr rule->Gr nums->rule.length<=place+1->place<nums.length->T.cl gp [.lst (gD rule),.lst (gD nums),.int (place:Int)] = .ok (.int ((cW nums place 0 rule 0:Nat):Int),true)
noncomputable def GI (t:Nat):bJ:=(.cons (.asg (.nm 3) (.bin .BitXor (.var 3) (.call t (.cons (.var 5) (.cons (.ix (.var 1) (.bin .Sub (.var 2) (.var 4))) .nil)))) false)
  .nil)
noncomputable def bGP (t:Nat):bJ:=(.cons (.asg (.nm 3) (.cst (.int (0))) false)
  (.cons (.forr (.tp [4,5]) (.enum (.var 0)) (GI t))
  (.cons (.ret (.var 3))
  .nil)))
theorem wV {T:Tb}{t:Nat}(ht:jN T t)(d:D){nums:List Nat}(hn:Gr nums){place:Nat}(hp:place<nums.length):∀(r:List Nat) (k g:Nat) (o4 o5:Slot),cB o4->cB o5->k+r.length<=place+1->∃ o4' o5',bC (.tp [4,5]) [] (aC T (GI t)) (Di k r) [some (d,.sh []),sG nums,sN place,sN g,o4,o5] = .nx [some (d,.sh []),sG nums,sN place,sN (cW nums place k r g),o4',o5']
 |[],k,g,o4,o5,_,_,_=>⟨o4,o5,rfl⟩
 | f::r,k,g,o4,o5,t4,t5,hk=>by
  simp only[List.length_cons] at hk;obtain⟨a,b,q⟩:=wV ht d hn hp r (k+1) (g^^^tm f (nums.getD (place - k) 0)) (sN k) (sN f) (aB _) (aB _) (by omega);refine⟨a,b,?_⟩;have te:Tame [some (d,.sh []),sG nums,sN place,sN g,o4,o5]:=.cons (aJ _) (.cons (aJ _) (.cons (aB _) (.cons (aB _) (.cons t4 (.cons t5 .nil)))));have hb:aX [] (.tp [4,5]) (.tup [.int (k:Int),.int (f:Int)]) [some (d,.sh []),sG nums,sN place,sN g,o4,o5]=some [some (d,.sh []),sG nums,sN place,sN g,sN k,sN f]:=iV te (by simp) (by simp) rfl rfl;have te1:Tame [some (d,.sh []),sG nums,sN place,sN g,sN k,sN f]:=.cons (aJ _) (.cons (aJ _) (.cons (aB _) (.cons (aB _) (.cons (aB _) (.cons (aB _) .nil)))));have v1:ev T (.var 1) [some (d,.sh []),sG nums,sN place,sN g,sN k,sN f] = .ok (.lst (gD nums),.sh []):=rfl;have v2:ev T (.var 2) [some (d,.sh []),sG nums,sN place,sN g,sN k,sN f] = .ok (.int (place:Int),.mv []):=aI rfl rfl;have v3:ev T (.var 3) [some (d,.sh []),sG nums,sN place,sN g,sN k,sN f] = .ok (.int (g:Int),.mv []):=aI rfl rfl;have v4:ev T (.var 4) [some (d,.sh []),sG nums,sN place,sN g,sN k,sN f] = .ok (.int (k:Int),.mv []):=aI rfl rfl;have v5:ev T (.var 5) [some (d,.sh []),sG nums,sN place,sN g,sN k,sN f] = .ok (.int (f:Int),.mv []):=aI rfl rfl;have e1:ev T (.bin .Sub (.var 2) (.var 4)) [some (d,.sh []),sG nums,sN place,sN g,sN k,sN f] = .ok (.int ((place - k:Nat):Int),.mv []):=by
   rw[ev,v2,aA,v4,aA,aO];show (iG (some (D.int ((place:Int) - (k:Int))))).bind _=_;rw[show (place:Int) - (k:Int)=((place - k:Nat):Int) by omega];rfl
  have e2:ev T (.ix (.var 1) (.bin .Sub (.var 2) (.var 4))) [some (d,.sh []),sG nums,sN place,sN g,sN k,sN f] = .ok (.int ((nums.getD (place - k) 0:Nat):Int),.mv []):=by
   rw[ev,v1,aA,e1,aA,mq (by omega),aM,aA];rfl
  have e3:=Pc.Sm.bL v5 e2 (ht f _ (dU hn (place - k)));have e4:ev T (.bin .BitXor (.var 3) (.call t (.cons (.var 5) (.cons (.ix (.var 1) (.bin .Sub (.var 2) (.var 4))) .nil)))) [some (d,.sh []),sG nums,sN place,sN g,sN k,sN f] = .ok (.int ((g^^^tm f (nums.getD (place - k) 0):Nat):Int),.mv []):=by
   rw[ev,v3,aA,e3,aA,aO];show (iG (some (D.int (Builtin.bitXor (g:Int) ((tm f (nums.getD (place - k) 0):Nat):Int))))).bind _=_;rw[cY];rfl
  have s1:bI T (.asg (.nm 3) (.bin .BitXor (.var 3) (.call t (.cons (.var 5) (.cons (.ix (.var 1) (.bin .Sub (.var 2) (.var 4))) .nil)))) false) [some (d,.sh []),sG nums,sN place,sN g,sN k,sN f] = .nx [some (d,.sh []),sG nums,sN place,sN (g^^^tm f (nums.getD (place - k) 0)),sN k,sN f]:=bT te1 (by simp) e4;rw[lR,bC,hb];dsimp only;unfold GI;rw[aC,s1,aD];exact q
theorem Ja {T:Tb}{t:Nat}(ht:jN T t){rule nums:List Nat}{place:Nat}(hr:Gr rule)(hn:Gr nums)(h1:rule.length<=place+1)(h2:place<nums.length):Pc.ret (aC T (bGP t) (aF [.lst (gD rule),.lst (gD nums),.int (place:Int)] 6)) = .ok (.int ((cW nums place 0 rule 0:Nat):Int),true):=by
 have hst:aF [.lst (gD rule),.lst (gD nums),.int (place:Int)] 6=[sG rule,sG nums,sN place,none,none,none]:=rfl;rw[hst];have s1:bI T (.asg (.nm 3) (.cst (.int (0))) false) [sG rule,sG nums,sN place,none,none,none] = .nx [sG rule,sG nums,sN place,sN 0,none,none]:=rfl;obtain⟨a,b,q⟩:=wV ht (.lst (gD rule)) hn h2 rule 0 0 none none aH aH (by omega);have s2:=cF (xB T (env:=[sG rule,sG nums,sN place,sN 0,none,none]) (i:=0) (gs:=rule) rfl) q;unfold bGP;rw[aC,s1,aD,aC,s2,aD];exact iE (aI (t:=.own) rfl rfl)
def Fp (T:Tb)(sc:Nat):Prop:=∀(row:List Nat) (f:Nat),Gr row->f<64->row.length<=900->T.cl sc [.lst (gD row),.int (f:Int)] = .ok (.lst (gD (B9 row f)),true)
noncomputable def bSC (t:Nat):bJ:=(.cons (.ret (.comp 1 [1] (.nm 0) (.seq (.var 0)) .none (.call t (.cons (.var 0) (.cons (.var 1) .nil)))))
  .nil)
theorem Jg {T:Tb}{t:Nat}(ht:jN T t){row:List Nat}{f:Nat}(hr:Gr row)(hf:f<64)(hl:row.length<=900):Pc.ret (aC T (bSC t) (aF [.lst (gD row),.int (f:Int)] 2)) = .ok (.lst (gD (B9 row f)),true):=by
 have hst:aF [.lst (gD row),.int (f:Int)] 2=[sG row,sN f]:=rfl;rw[hst];refine iE ?_;have hit:fS T (.seq (.var 0)) [sG row,sN f] = .ok (gD row,[]):=rfl;rw[lq (g:=fun d=>match d with | .int k=>(.int ((tm k.toNat f:Nat):Int),.mv []) | _=>(.non,.mv [])) hit (by rw[be];exact cT (by omega)) (fun d hd=>?_) (fun d hd=>?_)]
 ·rw[gD,B9,gD,bg,bg];rfl
 ·obtain⟨x,hx,rfl⟩:=List.mem_map.mp hd;have hb:aX [] (.nm 0) (.int (x:Int)) (aL [sG row,sN f] 1 [1])=some [sN x,some (.int (f:Int),.sh [])]:=rfl;rw[hb];have w0:ev T (.var 0) [sN x,some (.int (f:Int),.sh [])] = .ok (.int (x:Int),.mv []):=aI rfl rfl;have w1:ev T (.var 1) [sN x,some (.int (f:Int),.sh [])] = .ok (.int (f:Int),.mv []):=aI rfl rfl;have e1:=Pc.Sm.bL w0 w1 (ht x f hf);simp only[bH,nX,aA,if_true,e1,Int.toNat_natCast]
 ·obtain⟨x,hx,rfl⟩:=List.mem_map.mp hd;rfl
def Eu (T:Tb)(ad:Nat):Prop:=∀(a b:List Nat),a.length<=400->b.length<=400->T.cl ad [.lst (gD a),.lst (gD b)] = .ok (.lst (gD (yW a b)),true)
noncomputable def FK:bJ:=(.cons (.setix 2 .none (.var 3) (.bin .BitXor (.ix (.var 2) (.var 3)) (.var 4)))
  .nil)
noncomputable def bAD:bJ:=(.cons (.asg (.nm 2) (.bin .Add (.var 0) (.bin .Mult (.lst (.cons (.cst (.int (0))) .nil)) (.bin .Sub (.blt .len (.cons (.var 1) .nil)) (.blt .len (.cons (.var 0) .nil))))) false)
  (.cons (.forr (.tp [3,4]) (.enum (.var 1)) FK)
  (.cons (.ret (.var 2))
  .nil)))
theorem x6 (n m:Nat)(hn:n<=1000)(hm:m<=1000):pQ .Mult (.lst [.int 0]) (.int ((n:Int) - (m:Int)))=some (.lst (gD (List.replicate (n - m) 0))):=by
 by_cases h:m<=n
 ·rw[show (n:Int) - (m:Int)=((n - m:Nat):Int) by omega];exact qd _ (by omega)
 ·show (if -(2 ^ 63)<=(n:Int) - (m:Int)/\(n:Int) - (m:Int)<2 ^ 63 then (if D.flats [D.int 0] then ck ([D.int 0].length*((n:Int) - (m:Int)).toNat) (.lst (List.replicate ((n:Int) - (m:Int)).toNat [D.int 0]).flatten) else none) else none)=_;rw[if_pos (by omega),show ((n:Int) - (m:Int)).toNat=0 by omega,show n - m=0 by omega];rfl
theorem wO {T:Tb}(a b:List Nat):∀(m:List Nat) (k:Nat) (l:List Nat) (o3 o4:Slot),cB o3->cB o4->k+m.length<=l.length->l.length<=1000->∃ o3' o4',bC (.tp [3,4]) [] (aC T FK) (Di k m) [sG a,sG b,oG l,o3,o4] = .nx [sG a,sG b,oG (eT l k m),o3',o4']
 |[],k,l,o3,o4,_,_,_,_=>⟨o3,o4,rfl⟩
 | g::m,k,l,o3,o4,t3,t4,hk,hl=>by
  simp only[List.length_cons] at hk;obtain⟨p,q,r⟩:=wO (T:=T) a b m (k+1) (l.set k (l.getD k 0^^^g)) (sN k) (sN g) (aB _) (aB _) (by rw[aq];omega) (by rw[aq];exact hl);refine⟨p,q,?_⟩;have te:Tame [sG a,sG b,oG l,o3,o4]:=.cons (aJ _) (.cons (aJ _) (.cons (aB _) (.cons t3 (.cons t4 .nil))));have hb:aX [] (.tp [3,4]) (.tup [.int (k:Int),.int (g:Int)]) [sG a,sG b,oG l,o3,o4]=some [sG a,sG b,oG l,sN k,sN g]:=iV te (by simp) (by simp) rfl rfl;have te1:Tame [sG a,sG b,oG l,sN k,sN g]:=.cons (aJ _) (.cons (aJ _) (.cons (aB _) (.cons (aB _) (.cons (aB _) .nil))));have v2:ev T (.var 2) [sG a,sG b,oG l,sN k,sN g] = .ok (.lst (gD l),.mv [2]):=cV rfl rfl;have v3:ev T (.var 3) [sG a,sG b,oG l,sN k,sN g] = .ok (.int (k:Int),.mv []):=aI rfl rfl;have v4:ev T (.var 4) [sG a,sG b,oG l,sN k,sN g] = .ok (.int (g:Int),.mv []):=aI rfl rfl;have e1:ev T (.ix (.var 2) (.var 3)) [sG a,sG b,oG l,sN k,sN g] = .ok (.int ((l.getD k 0:Nat):Int),.mv []):=by
   rw[ev,v2,aA,v3,aA,mq (by omega),aM,aA];rfl
  have e2:ev T (.bin .BitXor (.ix (.var 2) (.var 3)) (.var 4)) [sG a,sG b,oG l,sN k,sN g] = .ok (.int ((l.getD k 0^^^g:Nat):Int),.mv []):=by
   rw[ev,e1,aA,v4,aA,aO];show (iG (some (D.int (Builtin.bitXor ((l.getD k 0:Nat):Int) (g:Int))))).bind _=_;rw[cY];rfl
  have s1:=jC (T:=T) (x:=2) te1 rfl v3 (iK (n:=(gD l).length) (by rw[be];omega)) e2 (by rw[be];exact cT hl);rw[lR,bC,hb];dsimp only;unfold FK;rw[aC,s1,aD,kM];exact r
theorem HF {T:Tb}{a b:List Nat}(ha:a.length<=400)(hb:b.length<=400):Pc.ret (aC T bAD (aF [.lst (gD a),.lst (gD b)] 5)) = .ok (.lst (gD (yW a b)),true):=by
 have hst:aF [.lst (gD a),.lst (gD b)] 5=[sG a,sG b,none,none,none]:=rfl;rw[hst];have te:Tame [sG a,sG b,none,none,none]:=.cons (aJ _) (.cons (aJ _) (.cons aH (.cons aH (.cons aH .nil))));have l0:=iF (T:=T) (env:=[sG a,sG b,none,none,none]) (i:=0) (gs:=a) (t:=.sh []) rfl;have l1:=iF (T:=T) (env:=[sG a,sG b,none,none,none]) (i:=1) (gs:=b) (t:=.sh []) rfl;have v0:ev T (.var 0) [sG a,sG b,none,none,none] = .ok (.lst (gD a),.sh []):=rfl;have q:ev T (.lst (.cons (.cst (.int (0))) .nil)) [sG a,sG b,none,none,none] = .ok (.lst [.int 0],.mv []):=rfl;have e1:ev T (.bin .Sub (.blt .len (.cons (.var 1) .nil)) (.blt .len (.cons (.var 0) .nil))) [sG a,sG b,none,none,none] = .ok (.int ((b.length:Int) - (a.length:Int)),.mv []):=by
  rw[ev,l1,aA,l0,aA,aO];rfl
 have e2:ev T (.bin .Mult (.lst (.cons (.cst (.int (0))) .nil)) (.bin .Sub (.blt .len (.cons (.var 1) .nil)) (.blt .len (.cons (.var 0) .nil)))) [sG a,sG b,none,none,none] = .ok (.lst (gD (List.replicate (b.length - a.length) 0)),.mv []):=by
  rw[ev,q,aA,e1,aA,x6 _ _ (by omega) (by omega),aM,aA,cZ (fT _)]
 have e3:ev T (.bin .Add (.var 0) (.bin .Mult (.lst (.cons (.cst (.int (0))) .nil)) (.bin .Sub (.blt .len (.cons (.var 1) .nil)) (.blt .len (.cons (.var 0) .nil))))) [sG a,sG b,none,none,none] = .ok (.lst (gD (a++List.replicate (b.length - a.length) 0)),.mv []):=by
  have hb:pQ .Add (.lst (gD a)) (.lst (gD (List.replicate (b.length - a.length) 0)))=some (.lst (gD (a++List.replicate (b.length - a.length) 0))):=by
   show ck ((gD a).length+(gD (List.replicate (b.length - a.length) 0)).length) (.lst (gD a++gD (List.replicate (b.length - a.length) 0)))=_;unfold ck;rw[if_pos (by rw[be,be,bc];exact cT (by omega)),ki]
  rw[ev,v0,aA,e2,aA,hb,aM,aA,cZ (fT _)]
 have s1:bI T (.asg (.nm 2) (.bin .Add (.var 0) (.bin .Mult (.lst (.cons (.cst (.int (0))) .nil)) (.bin .Sub (.blt .len (.cons (.var 1) .nil)) (.blt .len (.cons (.var 0) .nil))))) false) [sG a,sG b,none,none,none] = .nx [sG a,sG b,oG (a++List.replicate (b.length - a.length) 0),none,none]:=bT te (by simp) e3;obtain⟨p,r,h⟩:=wO (T:=T) a b b 0 (a++List.replicate (b.length - a.length) 0) none none aH aH (by simp;omega) (by simp;omega);have s2:=cF (xB T (env:=[sG a,sG b,oG (a++List.replicate (b.length - a.length) 0),none,none]) (i:=1) (gs:=b) rfl) h;unfold bAD;rw[aC,s1,aD,aC,s2,aD];show Pc.ret (aC T (.cons (.ret (.var 2)) .nil) [sG a,sG b,oG (yW a b),p,r])=_;generalize yW a b=l;simp[aC,bI,ev,aS,D.flat,lO,Pc.ret,bV]
def Gq (T:Tb)(dp:Nat):Prop:=∀(x:Nat) (ls:List Nat),x<64->Gr ls->T.cl dp [.int (x:Int),.lst (gD ls)] = .ok (.int ((cK x 1 ls:Nat):Int),true)
noncomputable def CT (t:Nat):bJ:=(.cons (.ite (.cmp .NotEq (.var 3) (.var 0)) (.cons (.asg (.nm 2) (.call t (.cons (.var 2) (.cons (.bin .BitXor (.var 0) (.var 3)) .nil))) false)
  .nil) .nil)
  .nil)
noncomputable def bDP (t:Nat):bJ:=(.cons (.asg (.nm 2) (.cst (.int (1))) false)
  (.cons (.forr (.nm 3) (.seq (.var 1)) (CT t))
  (.cons (.ret (.var 2))
  .nil)))
theorem v8 {T:Tb}{t:Nat}(ht:jN T t){x:Nat}(hx:x<64)(d:D):∀(ls:List Nat) (pr:Nat) (o:Slot),Gr ls->pr<64->cB o->∃ o',bC (.nm 3) [] (aC T (CT t)) (gD ls) [sN x,some (d,.sh []),sN pr,o] = .nx [sN x,some (d,.sh []),sN (cK x pr ls),o']
 |[],pr,o,_,_,_=>⟨o,rfl⟩
 | y::ls,pr,o,hl,hp,to=>by
  have y64:=hl y ae;obtain⟨o',r⟩:=v8 ht hx d ls (if y=x then pr else tm pr (x^^^y)) (sN y) (fun z hz=>hl z (aa _ hz)) (by split;exact hp;exact bF hp (aV hx y64)) (aB _);refine⟨o',?_⟩;have te:Tame [sN x,some (d,.sh []),sN pr,o]:=.cons (aB _) (.cons (aJ _) (.cons (aB _) (.cons to .nil)));have hb:aX [] (.nm 3) (.int (y:Int)) [sN x,some (d,.sh []),sN pr,o]=some [sN x,some (d,.sh []),sN pr,sN y]:=fM te (by simp);have te1:Tame [sN x,some (d,.sh []),sN pr,sN y]:=.cons (aB _) (.cons (aJ _) (.cons (aB _) (.cons (aB _) .nil)));have v0:ev T (.var 0) [sN x,some (d,.sh []),sN pr,sN y] = .ok (.int (x:Int),.mv []):=aI rfl rfl;have v2:ev T (.var 2) [sN x,some (d,.sh []),sN pr,sN y] = .ok (.int (pr:Int),.mv []):=aI rfl rfl;have v3:ev T (.var 3) [sN x,some (d,.sh []),sN pr,sN y] = .ok (.int (y:Int),.mv []):=aI rfl rfl;have c:aG T (.cmp .NotEq (.var 3) (.var 0)) [sN x,some (d,.sh []),sN pr,sN y] (.bl (!((y:Int)==(x:Int)))):=aG.cmp ⟨_,v3⟩ ⟨_,v0⟩ rfl;have e1:ev T (.bin .BitXor (.var 0) (.var 3)) [sN x,some (d,.sh []),sN pr,sN y] = .ok (.int ((x^^^y:Nat):Int),.mv []):=by
   rw[ev,v0,aA,v3,aA,aO];show (iG (some (D.int (Builtin.bitXor (x:Int) (y:Int))))).bind _=_;rw[cY];rfl
  have s1:bI T (.asg (.nm 2) (.call t (.cons (.var 2) (.cons (.bin .BitXor (.var 0) (.var 3)) .nil))) false) [sN x,some (d,.sh []),sN pr,sN y] = .nx [sN x,some (d,.sh []),sN (tm pr (x^^^y)),sN y]:=bT te1 (by simp) (Pc.Sm.bL v2 e1 (ht pr _ (aV hx y64)));have st:aC T (CT t) [sN x,some (d,.sh []),sN pr,sN y] = .nx [sN x,some (d,.sh []),sN (if y=x then pr else tm pr (x^^^y)),sN y]:=by
   unfold CT;rw[aC,mF c];by_cases e:y=x
   ·rw[if_pos e,show (!((y:Int)==(x:Int)))=false by rw[e];simp];rfl
   ·rw[if_neg e,show (!((y:Int)==(x:Int)))=true by simp;omega];simp only[if_true];rw[aC,s1,aD];rfl
  rw[gD,ay,bC,hb];dsimp only;rw[st];exact r
theorem IK {T:Tb}{t:Nat}(ht:jN T t){x:Nat}(hx:x<64){ls:List Nat}(hl:Gr ls):Pc.ret (aC T (bDP t) (aF [.int (x:Int),.lst (gD ls)] 4)) = .ok (.int ((cK x 1 ls:Nat):Int),true):=by
 have hst:aF [.int (x:Int),.lst (gD ls)] 4=[sN x,sG ls,none,none]:=rfl;rw[hst];have s1:bI T (.asg (.nm 2) (.cst (.int (1))) false) [sN x,sG ls,none,none] = .nx [sN x,sG ls,sN 1,none]:=rfl;obtain⟨o',h⟩:=v8 ht hx (.lst (gD ls)) ls 1 none hl (by decide) aH;have hit:fS T (.seq (.var 1)) [sN x,sG ls,sN 1,none] = .ok (gD ls,[]):=rfl;have s2:=cF hit h;unfold bDP;rw[aC,s1,aD,aC,s2,aD];exact iE (aI (t:=.own) rfl rfl)
def Ec (T:Tb)(lo:Nat):Prop:=∀(p n:Nat),p<n->n<=1000->T.cl lo [.int (p:Int),.int (n:Int)] = .ok (.int ((loc n p:Nat):Int),true)
noncomputable def bLO (pwf:Nat):bJ:=(.cons (.ret (.call pwf (.cons (.cst (.int (2))) (.cons (.bin .Sub (.bin .Sub (.var 1) (.cst (.int (1)))) (.var 0)) .nil))))
  .nil)
theorem HU {T:Tb}{pwf:Nat}(hp:Cs T pwf){p n:Nat}(h:p<n)(hn:n<=1000):Pc.ret (aC T (bLO pwf) (aF [.int (p:Int),.int (n:Int)] 2)) = .ok (.int ((loc n p:Nat):Int),true):=by
 have hst:aF [.int (p:Int),.int (n:Int)] 2=[sN p,sN n]:=rfl;rw[hst];have v0:ev T (.var 0) [sN p,sN n] = .ok (.int (p:Int),.mv []):=aI rfl rfl;have v1:ev T (.var 1) [sN p,sN n] = .ok (.int (n:Int),.mv []):=aI rfl rfl;have e:ev T (.bin .Sub (.bin .Sub (.var 1) (.cst (.int (1)))) (.var 0)) [sN p,sN n] = .ok (.int ((n - 1 - p:Nat):Int),.mv []):=by
  have e1:ev T (.bin .Sub (.var 1) (.cst (.int (1)))) [sN p,sN n] = .ok (.int ((n:Int) - 1),.mv []):=by
   rw[ev,v1,aA,ev,aA,aO];rfl
  rw[ev,e1,aA,v0,aA,aO];show (iG (some (D.int ((n:Int) - 1 - (p:Int))))).bind _=_;rw[show (n:Int) - 1 - (p:Int)=((n - 1 - p:Nat):Int) by omega];rfl
 have c2:ev T (.cst (.int (2))) [sN p,sN n] = .ok (.int ((2:Nat):Int),.mv []):=rfl;exact iE (Pc.Sm.bL c2 e (hp 2 _ (by decide) (gv (show _<=1000 by omega) (by decide))))
def Hs (T:Tb)(sr:Nat):Prop:=∀(nums:List Nat),Gr nums->nums.length<=100->∃ fr,T.cl sr [.lst (gD nums)] = .ok (.lst (gD (oV nums nums.length).rule),fr)
noncomputable def zt (tmf iv gp sc ad:Nat):bJ:=(.cons (.asg (.nm 3) (.bin .Add (.lst (.cons (.cst (.int (0))) .nil)) (.var 3)) false)
  (.cons (.asg (.nm 6) (.call gp (.cons (.var 1) (.cons (.var 0) (.cons (.var 5) .nil)))) false)
  (.cons (.ite (.cmp .Eq (.var 6) (.cst (.int (0)))) (.cons .cnt
  .nil) .nil)
  (.cons (.asg (.nm 7) (.call ad (.cons (.var 1) (.cons (.call sc (.cons (.var 3) (.cons (.call tmf (.cons (.var 6) (.cons (.call iv (.cons (.var 4) .nil)) .nil))) .nil))) .nil))) false)
  (.cons (.ite (.cmp .LtE (.bin .Mult (.cst (.int (2))) (.var 2)) (.var 5)) (.cons (.asg (.nm 2) (.bin .Sub (.bin .Add (.var 5) (.cst (.int (1)))) (.var 2)) false)
  (.cons (.asg (.nm 3) (.var 1) false)
  (.cons (.asg (.nm 4) (.var 6) false)
  .nil))) .nil)
  (.cons (.asg (.nm 1) (.var 7) false)
  .nil))))))
noncomputable def bSR (tmf iv gp sc ad:Nat):bJ:=(.cons (.asg (.nm 1) (.lst (.cons (.cst (.int (1))) .nil)) false)
  (.cons (.asg (.nm 2) (.cst (.int (0))) false)
  (.cons (.asg (.nm 3) (.lst (.cons (.cst (.int (1))) .nil)) false)
  (.cons (.asg (.nm 4) (.cst (.int (1))) false)
  (.cons (.forr (.nm 5) (.rng1 (.blt .len (.cons (.var 0) .nil))) (zt tmf iv gp sc ad))
  (.cons (.ret (.var 1))
  .nil))))))
abbrev nD (n:Nat):Option D:=some (.int (n:Int))
abbrev lD (l:List Nat):Option D:=some (.lst (gD l))
def SrV (nums:List Nat)(s:Sr)(env:En):Prop:=∃ v5 v6 v7,Vw env [lD nums,lD s.rule,nD s.len,lD s.fo,nD s.gap,v5,v6,v7]
theorem BG {T:Tb}{tmf iv gp sc ad:Nat}(ht:jN T tmf)(hi:Bz T iv)(hg:Fs T gp)(hs:Fp T sc)(ha:Eu T ad){nums:List Nat}(hn:Gr nums)(hl:nums.length<=100){n:Nat}(hn':n<nums.length){s:Sr}(o:r9 nums n s){env:En}(V:SrV nums s env)(R:List Nat) :
  ∃ e1 e2,aX R (.nm 5) (.int (n:Int)) env=some e1/\(aC T (zt tmf iv gp sc ad) e1 = .nx e2\/aC T (zt tmf iv gp sc ad) e1 = .ct e2)/\SrV nums (s.step nums n) e2:=by
 obtain⟨v5,v6,v7,V⟩:=V;have hle:=o.bm.le;have lr:=o.lr;have lf:=o.lf;obtain⟨e1,b1,V1⟩:=V.bind (i:=5) (show (5:Nat)<8 by decide) R (.int (n:Int));have V1:Vw e1 [lD nums,lD s.rule,nD s.len,lD s.fo,nD s.gap,nD n,v6,v7]:=V1;refine⟨e1,?_⟩;obtain⟨e2,q2,V2⟩:=V1.asg (T:=T) (i:=3) (show (3:Nat)<8 by decide) (aG.bin (op:=.Add) (aG.lst1 (aG.cst (.int 0))) (V1.var (i:=3) rfl) (z:=.lst (gD (0::s.fo))) (by
  show ck (1+(gD s.fo).length) (.lst ([D.int 0]++gD s.fo))=_;unfold ck;rw[if_pos (by rw[be];exact cT (by omega))];rfl))
 have V2:Vw e2 [lD nums,lD s.rule,nD s.len,lD (0::s.fo),nD s.gap,nD n,v6,v7]:=V2;obtain⟨e3,q3,V3⟩:=V2.asg (T:=T) (i:=6) (show (6:Nat)<8 by decide) (aG.call3 (V2.var (i:=1) rfl) (V2.var (i:=0) rfl) (V2.var (i:=5) rfl) (hg s.rule nums n o.gr hn o.rl hn'));have V3:Vw e3 [lD nums,lD s.rule,nD s.len,lD (0::s.fo),nD s.gap,nD n,nD (cW nums n 0 s.rule 0),v7]:=V3;have c1:aG T (.cmp .Eq (.var 6) (.cst (.int (0)))) e3 (.bl (((cW nums n 0 s.rule 0:Nat):Int)==0)):=aG.cmp (V3.var (i:=6) rfl) (aG.cst _) rfl;unfold zt;by_cases h0:cW nums n 0 s.rule 0=0
 ·refine⟨e3,b1,.inr ?_,?_⟩
  ·rw[aC,q2,aD,aC,q3,aD,aC,mF c1,h0];rfl
  ·unfold Sr.step;rw[if_pos h0];exact⟨_,_,_,V3⟩
 ·have g64:=mh hn n (k:=0) o.gr (g:=0) (by decide);have t64:=bF g64 (bD o.gg 62);have c1':(((cW nums n 0 s.rule 0:Nat):Int)==0)=false:=by rw[fh];omega
  obtain⟨e4,q4,V4⟩:=V3.asg (T:=T) (i:=7) (show (7:Nat)<8 by decide) (aG.bL (V3.var (i:=1) rfl) (aG.bL (V3.var (i:=3) rfl) (aG.bL (V3.var (i:=6) rfl) (aG.me (V3.var (i:=4) rfl) (hi s.gap o.gg o.ne)) (ht _ _ (bD o.gg 62))) (hs (0::s.fo) _ (BC o.gf) t64 (by simp;omega))) (ha s.rule _ (by omega) (by simp[B9];omega)));have V4:Vw e4 [lD nums,lD s.rule,nD s.len,lD (0::s.fo),nD s.gap,nD n,nD (cW nums n 0 s.rule 0),lD (s.tT nums n)]:=V4;have c2:aG T (.cmp .LtE (.bin .Mult (.cst (.int (2))) (.var 2)) (.var 5)) e4 (.bl (decide (2*(s.len:Int)<=(n:Int)))):=aG.cmp (aG.bin (op:=.Mult) (aG.cst _) (V4.var (i:=2) rfl) (z:=.int (2*(s.len:Int))) rfl) (V4.var (i:=5) rfl) rfl;by_cases h2:2*s.len<=n
  ·obtain⟨e5,q5,V5⟩:=V4.asg (T:=T) (i:=2) (show (2:Nat)<8 by decide) (aG.bin (op:=.Sub) (aG.bin (op:=.Add) (V4.var (i:=5) rfl) (aG.cst (.int 1)) (z:=.int ((n:Int)+1)) rfl) (V4.var (i:=2) rfl) (z:=.int ((n+1 - s.len:Nat):Int)) (by
    show some (D.int ((n:Int)+1 - (s.len:Int)))=_;rw[show (n:Int)+1 - (s.len:Int)=((n+1 - s.len:Nat):Int) by omega]))
   have V5:Vw e5 [lD nums,lD s.rule,nD (n+1 - s.len),lD (0::s.fo),nD s.gap,nD n,nD (cW nums n 0 s.rule 0),lD (s.tT nums n)]:=V5;obtain⟨e6,q6,V6⟩:=V5.asg (T:=T) (i:=3) (show (3:Nat)<8 by decide) (V5.var (i:=1) rfl);have V6:Vw e6 [lD nums,lD s.rule,nD (n+1 - s.len),lD s.rule,nD s.gap,nD n,nD (cW nums n 0 s.rule 0),lD (s.tT nums n)]:=V6;obtain⟨e7,q7,V7⟩:=V6.asg (T:=T) (i:=4) (show (4:Nat)<8 by decide) (V6.var (i:=6) rfl);have V7:Vw e7 [lD nums,lD s.rule,nD (n+1 - s.len),lD s.rule,nD (cW nums n 0 s.rule 0),nD n,nD (cW nums n 0 s.rule 0),lD (s.tT nums n)]:=V7;obtain⟨e8,q8,V8⟩:=V7.asg (T:=T) (i:=1) (show (1:Nat)<8 by decide) (V7.var (i:=7) rfl);refine⟨e8,b1,.inl ?_,?_⟩
   ·rw[aC,q2,aD,aC,q3,aD,aC,mF c1,c1'];simp only[Bool.false_eq_true,if_false];rw[aC,aD,aC,q4,aD,aC,mF c2,cq (show 2*(s.len:Int)<=(n:Int) by omega)];simp only[if_true];rw[aC,q5,aD,aC,q6,aD,aC,q7,aD,aC,aD,aC,q8,aD];rfl
   ·unfold Sr.step;rw[if_neg h0,if_pos h2];exact⟨_,_,_,V8⟩
  ·obtain⟨e8,q8,V8⟩:=V4.asg (T:=T) (i:=1) (show (1:Nat)<8 by decide) (V4.var (i:=7) rfl);refine⟨e8,b1,.inl ?_,?_⟩
   ·rw[aC,q2,aD,aC,q3,aD,aC,mF c1,c1'];simp only[Bool.false_eq_true,if_false];rw[aC,aD,aC,q4,aD,aC,mF c2,cj (show ¬ 2*(s.len:Int)<=(n:Int) by omega)];simp only[Bool.false_eq_true,if_false];rw[aC,aD,aC,q8,aD];rfl
   ·unfold Sr.step;rw[if_neg h0,if_neg h2];exact⟨_,_,_,V8⟩
theorem Vw.len {T:Tb}{env:En}{vs:List (Option D)}(h:Vw env vs){i:Nat}{l:List Nat}(e:vs[i]? = some (lD l)):aG T (.blt .len (.cons (.var i) .nil)) env (.int (l.length:Int)):=aG.blt1 (h.var e) (DB l)
theorem rz {T:Tb}{env:En}{e:Ex}{n:Nat}(h:aG T e env (.int (n:Int)))(hn:n<=1000):fS T (.rng1 e) env = .ok ((List.range n).map fun (k:Nat)=>D.int (k:Int),[]):=by
 obtain⟨R,h⟩:=h;rw[nM T env e _ R h (qF hn),bo];have:=eP n 0;rw[show ((0:Nat):Int)=0 from rfl] at this;rw[this,List.range_eq_range']
theorem Fv {T:Tb}{tmf iv gp sc ad:Nat}(ht:jN T tmf)(hi:Bz T iv)(hg:Fs T gp)(hs:Fp T sc)(ha:Eu T ad){nums:List Nat}(hn:Gr nums)(hl:nums.length<=100):∃ fr,Pc.ret (aC T (bSR tmf iv gp sc ad) (aF [.lst (gD nums)] 8)) = .ok (.lst (gD (oV nums nums.length).rule),fr):=by
 have V0:Vw (aF [.lst (gD nums)] 8) [lD nums,none,none,none,none,none,none,none]:=Vw.start [.lst (gD nums)] 8;obtain⟨e1,q1,V1⟩:=V0.asg (T:=T) (i:=1) (show (1:Nat)<8 by decide) (aG.lst1 (aG.cst (.int 1)));obtain⟨e2,q2,V2⟩:=V1.asg (T:=T) (i:=2) (show (2:Nat)<8 by decide) (aG.cst (.int 0));obtain⟨e3,q3,V3⟩:=V2.asg (T:=T) (i:=3) (show (3:Nat)<8 by decide) (aG.lst1 (aG.cst (.int 1)));obtain⟨e4,q4,V4⟩:=V3.asg (T:=T) (i:=4) (show (4:Nat)<8 by decide) (aG.cst (.int 1));have V4:Vw e4 [lD nums,lD [1],nD 0,lD [1],nD 1,none,none,none]:=V4;obtain⟨e5,q5,V5⟩:=yd (t:=.nm 5) (R:=[]) (b:=aC T (zt tmf iv gp sc ad)) (fun k env=>k<=nums.length->SrV nums (oV nums k) env) ((List.range nums.length).map fun (k:Nat)=>D.int (k:Int)) 0 e4 (fun _=>⟨_,_,_,V4⟩) (fun i d e hd J=>by
  rw[List.getElem?_map] at hd;have hi':i<nums.length:=by
   cases q:(List.range nums.length)[i]? with
   |none=>rw[q] at hd;cases hd
   |some z=>have:=(List.getElem?_eq_some_iff.mp q).1;rwa [bj] at this
  rw[List.getElem?_range hi'] at hd;cases hd;rw[fk] at J ⊢;obtain⟨x,y,z1,z2,z3⟩:=BG ht hi hg hs ha hn hl hi' (xk hn i) (J (by omega)) [];exact⟨x,y,z1,z2,fun _=>z3⟩)
 have q5':=cF (rz (V4.len (T:=T) (i:=0) rfl) (by omega)) q5;simp only[List.length_map,List.length_range,Nat.zero_add] at V5;obtain⟨v5,v6,v7,V5⟩:=V5 (au _);unfold bSR;rw[aC,q1,aD,aC,q2,aD,aC,q3,aD,aC,q4,aD,aC,q5',aD];exact za (V5.var (i:=1) rfl)
theorem vR (mi:List Nat)(p:Nat):inD (.int (p:Int)) (.lst (gD mi))=some (mi.contains p):=by
 show (if (true&&(gD mi).all D.jT)=true then some ((gD mi).any fun y=>D.eqs y (.int (p:Int))) else none)=_;have h1:(gD mi).all D.jT=true:=by rw[List.all_map,bw];intro _ _;rfl
 rw[h1,Bool.and_self,if_pos rfl,List.any_map];congr 1
 induction mi with
 |nil=>rfl
 |cons a l ih =>
  rw[iu,ey,ih (by rw[List.all_map,bw];intro _ _;rfl)];congr 1;show ((a:Int)==(p:Int))=(p==a);rw[Bool.eq_iff_iff];simp;omega
theorem Fw {T:Tb}{env:En}{e:Ex}{l:List D}(h:aG T e env (.lst l)):∃ R,fS T (.seq e) env = .ok (l,R):=by
 obtain⟨R,h⟩:=h;exact⟨R.roots,by rw[fS,h,aA];rfl⟩
theorem DD {T:Tb}{env:En}{pick:List Nat}{it:sO}{e:Ex}{l:List Nat}{R:List Nat}{g:Nat->Nat}(hit:fS T it env = .ok (gD l,R))(hl:l.length<=1000)(hg:∀ a∈l,aG T e (put (aL env 1 pick) 0 (.int (a:Int)) .own) (.int ((g a:Nat):Int)))(h0:0<(aL env 1 pick).length) :
  aG T (.comp 1 pick (.nm 0) it .none e) env (.lst (gD (l.map g))):=by
 have key:∀(l:List Nat),(∀ a∈l,aG T e (put (aL env 1 pick) 0 (.int (a:Int)) .own) (.int ((g a:Nat):Int)))->∃ qs:List (D×Rt),dY (fun d=>bH (aX [] (.nm 0) d (aL env 1 pick)) (nX T .none) (ev T e)) (gD l) = .ok qs/\qs.map (·.1)=gD (l.map g)/\qs.all (fun q=>q.1.flat || fJ q.2)=true:=by
  intro l
  induction l with
  |nil=>exact fun _=>⟨[],rfl,rfl,rfl⟩
  |cons a r ih =>
   intro h;obtain⟨qs,a1,a2,a3⟩:=ih fun b hb=>h b (aa _ hb)
   obtain⟨R',hR⟩:=h a ae;refine⟨(.int ((g a:Nat):Int),R')::qs,?_,?_,?_⟩
   ·have hb:aX [] (.nm 0) (.int (a:Int)) (aL env 1 pick)=some (put (aL env 1 pick) 0 (.int (a:Int)) .own):=by
     show (if 0<(aL env 1 pick).length then some (put (aL env 1 pick) 0 (.int (a:Int)) .own) else none)=_;rw[if_pos h0]
    have step:bH (aX [] (.nm 0) (.int (a:Int)) (aL env 1 pick)) (nX T .none) (ev T e) = .ok (some (.int ((g a:Nat):Int),R')):=by
     simp only[hb,bH,nX,aA,if_true,hR]
    rw[gD,ay,dY,step,aA,show (r.map fun (g:Nat)=>D.int (g:Int))=gD r from rfl,a1];rfl
   ·rw[ay,a2];rfl
   ·rw[dk,a3];rfl
 obtain⟨qs,a1,a2,a3⟩:=key l hg;rw[aG,ev,hit,aA,a1,aA];dsimp only;rw[if_pos (by rw[be];exact cT hl),a2];exact⟨_,rfl⟩
theorem xy {T:Tb}{env:En}{pick:List Nat}{it:sO}{ce:Ex}{l:List Nat}{R:List Nat}{c:Nat->Bool}(hit:fS T it env = .ok (gD l,R))(hl:l.length<=1000)(hg:∀ a∈l,aG T ce (put (aL env 1 pick) 0 (.int (a:Int)) .own) (.bl (c a)))(h0:0<(aL env 1 pick).length) :
  aG T (.comp 1 pick (.nm 0) it (.some ce) (.var 0)) env (.lst (gD (l.filter c))):=by
 have key:∀(l:List Nat),(∀ a∈l,aG T ce (put (aL env 1 pick) 0 (.int (a:Int)) .own) (.bl (c a)))->∃ qs:List (D×Rt),dY (fun d=>bH (aX [] (.nm 0) d (aL env 1 pick)) (nX T (.some ce)) (ev T (.var 0))) (gD l) = .ok qs/\qs.map (·.1)=gD (l.filter c)/\qs.all (fun q=>q.1.flat || fJ q.2)=true:=by
  intro l
  induction l with
  |nil=>exact fun _=>⟨[],rfl,rfl,rfl⟩
  |cons a r ih =>
   intro h;obtain⟨qs,a1,a2,a3⟩:=ih fun b hb=>h b (aa _ hb)
   obtain⟨R',hR⟩:=h a ae;have hb:aX [] (.nm 0) (.int (a:Int)) (aL env 1 pick)=some (put (aL env 1 pick) 0 (.int (a:Int)) .own):=by
    show (if 0<(aL env 1 pick).length then some (put (aL env 1 pick) 0 (.int (a:Int)) .own) else none)=_;rw[if_pos h0]
   have hv:ev T (.var 0) (put (aL env 1 pick) 0 (.int (a:Int)) .own) = .ok (.int (a:Int),.mv []):=aI (t:=.own) (by
    unfold Pc.put;exact List.getElem?_set_self (by rw[aj];exact h0)) rfl
   cases hc:c a with
   |true =>
    refine⟨(.int (a:Int),.mv [])::qs,?_,?_,?_⟩
    ·rw[hc] at hR;have step:bH (aX [] (.nm 0) (.int (a:Int)) (aL env 1 pick)) (nX T (.some ce)) (ev T (.var 0)) = .ok (some (.int (a:Int),.mv [])):=by
      simp only[hb,bH,nX,hR,aA,truth,aM,if_true,hv]
     rw[gD,ay,dY,step,aA,show (r.map fun (g:Nat)=>D.int (g:Int))=gD r from rfl,a1];rfl
    ·rw[ay,a2,List.filter_cons_of_pos hc];rfl
    ·rw[dk,a3];rfl
   |false =>
    refine⟨qs,?_,?_,a3⟩
    ·rw[hc] at hR;have step:bH (aX [] (.nm 0) (.int (a:Int)) (aL env 1 pick)) (nX T (.some ce)) (ev T (.var 0)) = .ok none:=by
      simp only[hb,bH,nX,hR,aA,truth,aM,Bool.false_eq_true,if_false]
     rw[gD,ay,dY,step,aA,show (r.map fun (g:Nat)=>D.int (g:Int))=gD r from rfl,a1];rfl
    ·rw[a2,List.filter_cons_of_neg (by rw[hc];decide)]
 obtain⟨qs,a1,a2,a3⟩:=key l hg;rw[aG,ev,hit,aA,a1,aA];dsimp only;rw[if_pos (by rw[be];exact cT hl),a2];exact⟨_,rfl⟩
theorem Vw.picked {env:En}{vs ws:List (Option D)}(h:Vw env vs){pick:List Nat}(hw:∀(j:Nat) (d:D),ws[j]? = some (some d)->∃ i,pick[j]? = some i/\vs[i]? = some (some d))(hl:ws.length=pick.length)(a:D) :
  0<(aL env 1 pick).length/\Vw (Pc.put (aL env 1 pick) 0 a .own) (some a::ws):=by
 have hlen:(aL env 1 pick).length=ws.length+1:=by unfold aL;simp[hl,Nat.add_comm]
 have V:Vw (aL env 1 pick) (none::ws):=by
  refine⟨by rw[hlen];simp,fun j d e=>?_⟩;cases j with
  |zero=>cases e
  |succ j =>
   have e:ws[j]? = some (some d):=e;obtain⟨i,p1,p2⟩:=hw j d e;refine⟨.sh [],?_⟩;unfold aL;rw[List.getElem?_append_right (by simp),List.length_replicate,show j+1 - 1=j by omega,List.getElem?_map,p1];obtain⟨t,q⟩:=h.2 i d p2;show some (match env[i]? with | some (some (d,_))=>some (d,Tg.sh []) | _=>none:Slot)=_;rw[q]
 exact⟨by omega,V.put 0 a .own⟩
theorem DK (l:List Nat)(m c:Nat):slD (.lst (gD l)) (some (m:Int)) (some (c:Int))=some (.lst (gD ((l.take c).drop m))):=by
 show some (D.lst (cut (gD l) (some (m:Int)) (some (c:Int))))=_;unfold cut cP;simp only;rw[if_neg (by omega),if_neg (by omega),bo,bo,be,gD,gD,<-List.map_drop,<-List.map_take];congr 3;rw[List.drop_take];by_cases h:m<=l.length
 ·rw[Nat.min_eq_left h];by_cases h2:c<=l.length
  ·rw[Nat.min_eq_left h2]
  ·rw[Nat.min_eq_right (by omega),jj (by rw[gi];omega),jj (by rw[gi];omega)]
 ·rw[Nat.min_eq_right (show l.length<=m by omega),List.drop_of_length_le (au _),List.drop_of_length_le (show l.length<=m by omega)];simp
theorem Hu (l:List Nat)(c:Nat):slD (.lst (gD l)) none (some (c:Int))=some (.lst (gD (l.take c))):=by
 have:=DK l 0 c;rw[List.drop_zero] at this;rw[<-this];show some (D.lst (cut (gD l) none (some (c:Int))))=some (D.lst (cut (gD l) (some ((0:Nat):Int)) (some (c:Int))));unfold cut cP;simp
theorem aG.sl {T:Tb}{env:En}{a lo hi:Ex}{x z:D}{m c:Int}(h:aG T a env x)(h1:aG T lo env (.int m))(h2:aG T hi env (.int c))(e:slD x (some m) (some c)=some z):aG T (.sl a (.some lo) (.some hi)) env z:=by
 obtain⟨R,h⟩:=h;obtain⟨R1,h1⟩:=h1;obtain⟨R2,h2⟩:=h2;exact⟨_,by rw[ev,h,aA,pK,h1,aA];dsimp only;rw[aA,pK,h2,aA];dsimp only;rw[aA,e,aM,aA]⟩
def Dq (T:Tb)(su:Nat):Prop:=∀(wo mi:List Nat) (n:Nat),Gr wo->wo.length<=62->mi.length<=63->(∀ p∈mi,p<n)->n<=63->∃ fr,T.cl su [.lst (gD wo),.lst (gD mi),.int (n:Int)] = .ok (.lst (gD (susp wo mi n)),fr)
noncomputable def bSU (wa rp rn lo sr:Nat):bJ:=(.cons (.asg (.nm 3) (.call rn (.cons (.comp 1 [2] (.nm 0) (.seq (.var 1)) .none (.call lo (.cons (.var 0) (.cons (.var 1) .nil)))) .nil)) false)
  (.cons (.asg (.nm 4) (.sl (.call rp (.cons (.var 0) (.cons (.var 3) .nil))) (.some (.blt .len (.cons (.var 1) .nil))) (.some (.blt .len (.cons (.var 0) .nil)))) false)
  (.cons (.asg (.nm 5) (.call sr (.cons (.var 4) .nil)) false)
  (.cons (.asg (.nm 6) (.comp 1 [1] (.nm 0) (.rng1 (.var 2)) (.some (.cmp .NotIn (.var 0) (.var 1))) (.var 0)) false)
  (.cons (.ret (.comp 1 [2,5] (.nm 0) (.seq (.var 6)) (.some (.cmp .Eq (.call wa (.cons (.var 2) (.cons (.call lo (.cons (.var 0) (.cons (.var 1) .nil))) .nil))) (.cst (.int (0))))) (.var 0)))
  .nil)))))
theorem Fx {T:Tb}{wa rp rn lo sr:Nat}(hw:tJ T wa)(hrp:Ak T rp)(hrn:Fu T rn)(hlo:Ec T lo)(hsr:Hs T sr){wo mi:List Nat}{n:Nat}(gw:Gr wo)(lw:wo.length<=62)(lm:mi.length<=63)(hm:∀ p∈mi,p<n)(hn:n<=63) :
  ∃ fr,Pc.ret (aC T (bSU wa rp rn lo sr) (aF [.lst (gD wo),.lst (gD mi),.int (n:Int)] 7)) = .ok (.lst (gD (susp wo mi n)),fr):=by
 have V0:Vw (aF [.lst (gD wo),.lst (gD mi),.int (n:Int)] 7) [lD wo,lD mi,nD n,none,none,none,none]:=Vw.start _ 7;have lg:=lT n mi;obtain⟨R1,i1⟩:=Fw (T:=T) (V0.var (i:=1) rfl);have c1:aG T (.comp 1 [2] (.nm 0) (.seq (.var 1)) .none (.call lo (.cons (.var 0) (.cons (.var 1) .nil)))) (aF [.lst (gD wo),.lst (gD mi),.int (n:Int)] 7) (.lst (gD (locs n mi))):=DD i1 (by omega) (fun a ha=>by
  obtain⟨_,W⟩:=V0.picked (pick:=[2]) (ws:=[nD n]) (fun j d e=>by cases j with | zero=>exact⟨2,rfl,e⟩ | succ j=>cases e) rfl (.int (a:Int));exact aG.bL (W.var (i:=0) rfl) (W.var (i:=1) rfl) (hlo a n (hm a ha) (by omega))) (V0.picked (pick:=[2]) (ws:=[nD n]) (fun j d e=>by cases j with | zero=>exact⟨2,rfl,e⟩ | succ j=>cases e) rfl .non).1
 obtain⟨e1,q1,V1⟩:=V0.asg (T:=T) (i:=3) (show (3:Nat)<7 by decide) (aG.me c1 (hrn (locs n mi) (gZ n mi) (by simp[locs];omega)));have V1:Vw e1 [lD wo,lD mi,nD n,lD (jH n mi),none,none,none]:=V1;obtain⟨e2,q2,V2⟩:=V1.asg (T:=T) (i:=4) (show (4:Nat)<7 by decide) (aG.sl (aG.bL (V1.var (i:=0) rfl) (V1.var (i:=3) rfl) (hrp wo (jH n mi) gw lg.2 (by rw[lg.1];omega) (by rw[lg.1];omega))) (V1.len (i:=1) rfl) (V1.len (i:=0) rfl) (DK _ _ _));have V2:Vw e2 [lD wo,lD mi,nD n,lD (jH n mi),lD (dX wo mi n),none,none]:=V2;obtain⟨fr,hs⟩:=hsr (dX wo mi n) (nN gw mi n) (by rw[qv];omega);obtain⟨e3,q3,V3⟩:=V2.asg (T:=T) (i:=5) (show (5:Nat)<7 by decide) (aG.me (V2.var (i:=4) rfl) hs);have V3:Vw e3 [lD wo,lD mi,nD n,lD (jH n mi),lD (dX wo mi n),lD (hX wo mi n),none]:=V3;have c2:aG T (.comp 1 [1] (.nm 0) (.rng1 (.var 2)) (.some (.cmp .NotIn (.var 0) (.var 1))) (.var 0)) e3 (.lst (gD (others mi n))):=xy (l:=List.range n) (rz (V3.var (i:=2) rfl) (by omega)) (by rw[bj];omega) (fun a ha=>by
  obtain⟨_,W⟩:=V3.picked (pick:=[1]) (ws:=[lD mi]) (fun j d e=>by cases j with | zero=>exact⟨1,rfl,e⟩ | succ j=>cases e) rfl (.int (a:Int));exact aG.cmp (W.var (i:=0) rfl) (W.var (i:=1) rfl) (by show (inD _ _).map _=_;rw[vR];rfl)) (V3.picked (pick:=[1]) (ws:=[lD mi]) (fun j d e=>by cases j with | zero=>exact⟨1,rfl,e⟩ | succ j=>cases e) rfl .non).1
 obtain⟨e4,q4,V4⟩:=V3.asg (T:=T) (i:=6) (show (6:Nat)<7 by decide) c2;have V4:Vw e4 [lD wo,lD mi,nD n,lD (jH n mi),lD (dX wo mi n),lD (hX wo mi n),lD (others mi n)]:=V4;obtain⟨R6,i6⟩:=Fw (T:=T) (V4.var (i:=6) rfl);have pk:∀(j:Nat) (d:D),[nD n,lD (hX wo mi n)][j]? = some (some d)->∃ i,[2,5][j]? = some i/\[lD wo,lD mi,nD n,lD (jH n mi),lD (dX wo mi n),lD (hX wo mi n),lD (others mi n)][i]? = some (some d):=fun j d e=>by
  cases j with
  |zero=>exact⟨2,rfl,e⟩
  |succ j=>cases j with
   |zero=>exact⟨5,rfl,e⟩
   |succ j=>cases e
 have ol:(others mi n).length<=n:=by
  have:=ik (fun p=>!mi.contains p) (List.range n);rw[bj] at this;exact this
 have c3:aG T (.comp 1 [2,5] (.nm 0) (.seq (.var 6)) (.some (.cmp .Eq (.call wa (.cons (.var 2) (.cons (.call lo (.cons (.var 0) (.cons (.var 1) .nil))) .nil))) (.cst (.int (0))))) (.var 0)) e4 (.lst (gD (susp wo mi n))):=xy (l:=others mi n) i6 (by omega) (fun a ha=>by
  obtain⟨_,W⟩:=V4.picked (pick:=[2,5]) (ws:=[nD n,lD (hX wo mi n)]) pk rfl (.int (a:Int));refine aG.cmp (aG.bL (W.var (i:=2) rfl) (aG.bL (W.var (i:=0) rfl) (W.var (i:=1) rfl) (hlo a n (dW.mp ha).1 (by omega))) (hw _ _ (fZ n a))) (aG.cst _) ?_;show some (((cG (loc n a) (hX wo mi n):Nat):Int)==0)=_;congr 1;rw[Bool.eq_iff_iff];simp) (V4.picked (pick:=[2,5]) (ws:=[nD n,lD (hX wo mi n)]) pk rfl .non).1
 unfold bSU;rw[aC,q1,aD,aC,q2,aD,aC,q3,aD,aC,q4,aD];exact za c3
theorem uB {x:Nat}(hx:x<64):∀{l:List Nat}{pr:Nat},Gr l->pr<64->pr≠0->cK x pr l≠0
 |[],_,_,_,h=>h
 | o::l,pr,hl,hp,h=>by
  have o64:=hl o ae;rw[cK];refine uB hx (fun z hz=>hl z (aa _ hz)) ?_ ?_
  ·split
   ·exact hp
   ·exact bF hp (aV hx o64)
  ·split
   ·exact h
   ·rename_i ne;exact fun e=>(eF hp (aV hx o64) e).elim h fun e=>ne (cJ e).symm
def Dy (T:Tb)(ch:Nat):Prop:=∀(g su wo:List Nat),Gr g->Gr wo->g.length<=63->su.length<=130->wo.length<=62->(∀ p∈su,p<g.length)->T.cl ch [.lst (gD g),.lst (gD su),.lst (gD wo)] = .ok (.lst (gD (fU g su wo)),true)
noncomputable def EH (tmf iv wa dp:Nat):bJ:=(.cons (.asg (.nm 8) (.call iv (.cons (.call tmf (.cons (.var 7) (.cons (.call dp (.cons (.var 7) (.cons (.var 4) .nil))) .nil))) .nil)) false)
  (.cons (.setix 6 .none (.var 3) (.bin .BitXor (.ix (.var 6) (.var 3)) (.call tmf (.cons (.call wa (.cons (.var 5) (.cons (.var 7) .nil))) (.cons (.var 8) .nil)))))
  .nil))
noncomputable def bCH (tmf iv wa rp rn lo dp:Nat):bJ:=(.cons (.asg (.nm 4) (.comp 1 [0] (.nm 0) (.seq (.var 1)) .none (.call lo (.cons (.var 0) (.cons (.blt .len (.cons (.var 1) .nil)) .nil)))) false)
  (.cons (.asg (.nm 5) (.sl (.call rp (.cons (.var 2) (.cons (.call rn (.cons (.var 4) .nil)) .nil))) .none (.some (.blt .len (.cons (.var 4) .nil)))) false)
  (.cons (.asg (.nm 6) (.blt .list (.cons (.var 0) .nil)) false)
  (.cons (.forr (.tp [3,7]) (.zip (.var 1) (.var 4)) (EH tmf iv wa dp))
  (.cons (.ret (.var 6))
  .nil)))))
theorem xb {T:Tb}{tmf iv wa dp:Nat}(ht:jN T tmf)(hi:Bz T iv)(hw:tJ T wa)(hd:Gq T dp)(g su wo:List Nat){ls hdl:List Nat}(gl:Gr ls)(gh:Gr hdl){n:Nat}:∀(r l:List Nat) (o3 o7 o8:Slot),cB o3->cB o7->cB o8->(∀ p∈r,p<l.length)->l.length<=1000->∃ o3' o7' o8',cB o3'/\cB o7'/\cB o8' /\
  bC (.tp [3,7]) [4] (aC T (EH tmf iv wa dp)) (r.map fun (p:Nat)=>D.tup [.int (p:Int),.int ((loc n p:Nat):Int)]) [sG g,sG su,sG wo,o3,some (.lst (gD ls),.lk),oG hdl,oG l,o7,o8] = .nx [sG g,sG su,sG wo,o3',some (.lst (gD ls),.lk),oG hdl,oG (rJ n hdl ls r l),o7',o8']
 |[],l,o3,o7,o8,a,b,c,_,_=>⟨o3,o7,o8,a,b,c,rfl⟩
 | p::r,l,o3,o7,o8,t3,t7,t8,hp,hl=>by
  have hx:=fZ n p;have hne:tm (loc n p) (cK (loc n p) 1 ls)≠0:=fun e=>(eF hx (iN hx gl (by decide)) e).elim (rK n p) (uB hx gl (by decide) (by decide))
  have t64:=bF hx (iN hx gl (pr:=1) (by decide));obtain⟨x,y,z,tx,ty,tz,q⟩:=xb ht hi hw hd g su wo gl gh (n:=n) r (l.set p (l.getD p 0^^^share hdl ls (loc n p))) (sN p) (sN (loc n p)) (sN (pw (tm (loc n p) (cK (loc n p) 1 ls)) 62)) (aB _) (aB _) (aB _) (fun z hz=>by rw[aq];exact hp z (aa _ hz)) (by rw[aq];exact hl);refine⟨x,y,z,tx,ty,tz,?_⟩;have te:Tame [sG g,sG su,sG wo,o3,some (.lst (gD ls),.lk),oG hdl,oG l,o7,o8]:=.cons (aJ _) (.cons (aJ _) (.cons (aJ _) (.cons t3 (.cons (se _) (.cons (aB _) (.cons (aB _) (.cons t7 (.cons t8 .nil))))))));have hb:aX [4] (.tp [3,7]) (.tup [.int (p:Int),.int ((loc n p:Nat):Int)]) [sG g,sG su,sG wo,o3,some (.lst (gD ls),.lk),oG hdl,oG l,o7,o8]=some [sG g,sG su,sG wo,sN p,some (.lst (gD ls),.lk),oG hdl,oG l,sN (loc n p),o8]:=iV te (by simp) (by simp) rfl rfl;have te1:Tame [sG g,sG su,sG wo,sN p,some (.lst (gD ls),.lk),oG hdl,oG l,sN (loc n p),o8]:=.cons (aJ _) (.cons (aJ _) (.cons (aJ _) (.cons (aB _) (.cons (se _) (.cons (aB _) (.cons (aB _) (.cons (aB _) (.cons t8 .nil))))))));have v7:ev T (.var 7) [sG g,sG su,sG wo,sN p,some (.lst (gD ls),.lk),oG hdl,oG l,sN (loc n p),o8] = .ok (.int ((loc n p:Nat):Int),.mv []):=aI rfl rfl;have v4:ev T (.var 4) [sG g,sG su,sG wo,sN p,some (.lst (gD ls),.lk),oG hdl,oG l,sN (loc n p),o8] = .ok (.lst (gD ls),.mv [4]):=rfl;have s1:bI T (.asg (.nm 8) (.call iv (.cons (.call tmf (.cons (.var 7) (.cons (.call dp (.cons (.var 7) (.cons (.var 4) .nil))) .nil))) .nil)) false) [sG g,sG su,sG wo,sN p,some (.lst (gD ls),.lk),oG hdl,oG l,sN (loc n p),o8] = .nx [sG g,sG su,sG wo,sN p,some (.lst (gD ls),.lk),oG hdl,oG l,sN (loc n p),sN (pw (tm (loc n p) (cK (loc n p) 1 ls)) 62)] :=
   bT te1 (by simp) (Pc.Sm.me (Pc.Sm.bL v7 (Pc.Sm.bL v7 v4 (hd (loc n p) ls hx gl)) (ht _ _ (iN hx gl (by decide)))) (hi _ t64 hne))
  have te2:Tame [sG g,sG su,sG wo,sN p,some (.lst (gD ls),.lk),oG hdl,oG l,sN (loc n p),sN (pw (tm (loc n p) (cK (loc n p) 1 ls)) 62)]:=.cons (aJ _) (.cons (aJ _) (.cons (aJ _) (.cons (aB _) (.cons (se _) (.cons (aB _) (.cons (aB _) (.cons (aB _) (.cons (aB _) .nil))))))));have w3:ev T (.var 3) [sG g,sG su,sG wo,sN p,some (.lst (gD ls),.lk),oG hdl,oG l,sN (loc n p),sN (pw (tm (loc n p) (cK (loc n p) 1 ls)) 62)] = .ok (.int (p:Int),.mv []):=aI rfl rfl;have w5:ev T (.var 5) [sG g,sG su,sG wo,sN p,some (.lst (gD ls),.lk),oG hdl,oG l,sN (loc n p),sN (pw (tm (loc n p) (cK (loc n p) 1 ls)) 62)] = .ok (.lst (gD hdl),.mv [5]):=cV rfl rfl;have w6:ev T (.var 6) [sG g,sG su,sG wo,sN p,some (.lst (gD ls),.lk),oG hdl,oG l,sN (loc n p),sN (pw (tm (loc n p) (cK (loc n p) 1 ls)) 62)] = .ok (.lst (gD l),.mv [6]):=cV rfl rfl;have w7:ev T (.var 7) [sG g,sG su,sG wo,sN p,some (.lst (gD ls),.lk),oG hdl,oG l,sN (loc n p),sN (pw (tm (loc n p) (cK (loc n p) 1 ls)) 62)] = .ok (.int ((loc n p:Nat):Int),.mv []):=aI rfl rfl;have w8:ev T (.var 8) [sG g,sG su,sG wo,sN p,some (.lst (gD ls),.lk),oG hdl,oG l,sN (loc n p),sN (pw (tm (loc n p) (cK (loc n p) 1 ls)) 62)] = .ok (.int ((pw (tm (loc n p) (cK (loc n p) 1 ls)) 62:Nat):Int),.mv []):=aI rfl rfl;have hpl:p<l.length:=hp p ae;have e1:ev T (.ix (.var 6) (.var 3)) [sG g,sG su,sG wo,sN p,some (.lst (gD ls),.lk),oG hdl,oG l,sN (loc n p),sN (pw (tm (loc n p) (cK (loc n p) 1 ls)) 62)] = .ok (.int ((l.getD p 0:Nat):Int),.mv []):=by
   rw[ev,w6,aA,w3,aA,mq hpl,aM,aA];rfl
  have e2:=Pc.Sm.bL (Pc.Sm.bL w5 w7 (hw hdl (loc n p) hx)) w8 (ht _ _ (bD t64 62));have e3:ev T (.bin .BitXor (.ix (.var 6) (.var 3)) (.call tmf (.cons (.call wa (.cons (.var 5) (.cons (.var 7) .nil))) (.cons (.var 8) .nil)))) [sG g,sG su,sG wo,sN p,some (.lst (gD ls),.lk),oG hdl,oG l,sN (loc n p),sN (pw (tm (loc n p) (cK (loc n p) 1 ls)) 62)] = .ok (.int ((l.getD p 0^^^share hdl ls (loc n p):Nat):Int),.mv []):=by
   rw[ev,e1,aA,e2,aA,aO];show (iG (some (D.int (Builtin.bitXor ((l.getD p 0:Nat):Int) ((share hdl ls (loc n p):Nat):Int))))).bind _=_;rw[cY];rfl
  have s2:=jC (T:=T) (x:=6) te2 rfl w3 (iK (n:=(gD l).length) (by rw[be];exact hpl)) e3 (by rw[be];exact cT hl);rw[ay,bC,hb];dsimp only;unfold EH;rw[aC,s1,aD,aC,s2,aD,kM];exact q
theorem Im {T:Tb}{tmf iv wa rp rn lo dp:Nat}(ht:jN T tmf)(hi:Bz T iv)(hw:tJ T wa)(hrp:Ak T rp)(hrn:Fu T rn)(hlo:Ec T lo)(hd:Gq T dp){g su wo:List Nat}(gg:Gr g)(gw:Gr wo)(lg:g.length<=63)(lsu:su.length<=130)(lw:wo.length<=62)(hs:∀ p∈su,p<g.length) :
  Pc.ret (aC T (bCH tmf iv wa rp rn lo dp) (aF [.lst (gD g),.lst (gD su),.lst (gD wo)] 9)) = .ok (.lst (gD (fU g su wo)),true):=by
 have hst:aF [.lst (gD g),.lst (gD su),.lst (gD wo)] 9=[sG g,sG su,sG wo,none,none,none,none,none,none]:=rfl;have V0:Vw (aF [.lst (gD g),.lst (gD su),.lst (gD wo)] 9) [lD g,lD su,lD wo,none,none,none,none,none,none]:=Vw.start _ 9;rw[hst] at V0 ⊢;have tn:=aH;have te0:Tame [sG g,sG su,sG wo,none,none,none,none,none,none]:=.cons (aJ _) (.cons (aJ _) (.cons (aJ _) (.cons tn (.cons tn (.cons tn (.cons tn (.cons tn (.cons tn .nil))))))));let ls:=locs g.length su;have gl:Gr ls:=gZ _ _;have ll:ls.length=su.length:=by simp[ls,locs]
 have hit:fS T (.seq (.var 1)) [sG g,sG su,sG wo,none,none,none,none,none,none] = .ok (gD su,[]):=rfl;have c1:ev T (.comp 1 [0] (.nm 0) (.seq (.var 1)) .none (.call lo (.cons (.var 0) (.cons (.blt .len (.cons (.var 1) .nil)) .nil)))) [sG g,sG su,sG wo,none,none,none,none,none,none] = .ok (.lst (gD ls),.mv []):=by
  rw[lq (g:=fun d=>match d with | .int k=>(.int ((loc g.length k.toNat:Nat):Int),.mv []) | _=>(.non,.mv [])) hit (by rw[be];exact cT (by omega)) (fun d hd=>?_) (fun d hd=>?_)]
  ·show Rs.ok (D.lst _,Rt.mv [])=Rs.ok (D.lst (gD (locs g.length su)),Rt.mv []);rw[gD,locs,gD,bg,bg];rfl
  ·obtain⟨x,hx,rfl⟩:=List.mem_map.mp hd;have hb:aX [] (.nm 0) (.int (x:Int)) (aL [sG g,sG su,sG wo,none,none,none,none,none,none] 1 [0])=some [sN x,sG g]:=rfl;rw[hb];have w0:ev T (.var 0) [sN x,sG g] = .ok (.int (x:Int),.mv []):=aI rfl rfl;have e1:=Pc.Sm.bL w0 (iF (T:=T) (env:=[sN x,sG g]) (i:=1) (gs:=g) (t:=.sh []) rfl) (hlo x g.length (hs x hx) (by omega));simp only[bH,nX,aA,if_true,e1,Int.toNat_natCast]
  ·obtain⟨x,hx,rfl⟩:=List.mem_map.mp hd;rfl
 have s1:bI T (.asg (.nm 4) (.comp 1 [0] (.nm 0) (.seq (.var 1)) .none (.call lo (.cons (.var 0) (.cons (.blt .len (.cons (.var 1) .nil)) .nil)))) false) [sG g,sG su,sG wo,none,none,none,none,none,none] = .nx [sG g,sG su,sG wo,none,oG ls,none,none,none,none]:=bT te0 (by simp) c1;have te1:Tame [sG g,sG su,sG wo,none,oG ls,none,none,none,none]:=.cons (aJ _) (.cons (aJ _) (.cons (aJ _) (.cons tn (.cons (aB _) (.cons tn (.cons tn (.cons tn (.cons tn .nil))))))));have ra:=gP (r:=[1]) gl kU (by decide) rfl;have w2:ev T (.var 2) [sG g,sG su,sG wo,none,oG ls,none,none,none,none] = .ok (.lst (gD wo),.sh []):=rfl;have w4:ev T (.var 4) [sG g,sG su,sG wo,none,oG ls,none,none,none,none] = .ok (.lst (gD ls),.mv [4]):=cV rfl rfl;have c2:=Pc.Sm.bL w2 (Pc.Sm.me w4 (hrn ls gl (by omega))) (hrp wo (jA [1] ls) gw ra.2.1 (by rw[ra.1];simp;omega) (by rw[ra.1];simp;omega));have c3:ev T (.sl (.call rp (.cons (.var 2) (.cons (.call rn (.cons (.var 4) .nil)) .nil))) .none (.some (.blt .len (.cons (.var 4) .nil)))) [sG g,sG su,sG wo,none,oG ls,none,none,none,none] = .ok (.lst (gD (cO wo ls)),.mv []):=by
  rw[ev,c2,aA,pK,aA,pK,iF (T:=T) (env:=[sG g,sG su,sG wo,none,oG ls,none,none,none,none]) (i:=4) (gs:=ls) (t:=.own) rfl,aA];dsimp only;rw[aA,Hu,aM,aA,cZ (fT _)];rfl
 have s2:bI T (.asg (.nm 5) (.sl (.call rp (.cons (.var 2) (.cons (.call rn (.cons (.var 4) .nil)) .nil))) .none (.some (.blt .len (.cons (.var 4) .nil)))) false) [sG g,sG su,sG wo,none,oG ls,none,none,none,none] = .nx [sG g,sG su,sG wo,none,oG ls,oG (cO wo ls),none,none,none]:=bT te1 (by simp) c3;have te2:Tame [sG g,sG su,sG wo,none,oG ls,oG (cO wo ls),none,none,none]:=.cons (aJ _) (.cons (aJ _) (.cons (aJ _) (.cons tn (.cons (aB _) (.cons (aB _) (.cons tn (.cons tn (.cons tn .nil))))))));have c4:ev T (.blt .list (.cons (.var 0) .nil)) [sG g,sG su,sG wo,none,oG ls,oG (cO wo ls),none,none,none] = .ok (.lst (gD g),.mv []):=by
  have h1:bQ T (.cons (.var 0) .nil) [sG g,sG su,sG wo,none,oG ls,oG (cO wo ls),none,none,none] = .ok [(.lst (gD g),.sh [])]:=rfl;rw[ev,h1,aA];show (Rs.ok (Pc.D.lst (gD g))).bind _=_;rw[aA,cZ (fT _)]
 have s3:bI T (.asg (.nm 6) (.blt .list (.cons (.var 0) .nil)) false) [sG g,sG su,sG wo,none,oG ls,oG (cO wo ls),none,none,none] = .nx [sG g,sG su,sG wo,none,oG ls,oG (cO wo ls),oG g,none,none]:=bT te2 (by simp) c4;obtain⟨x,y,z,tx,ty,tz,q⟩:=xb ht hi hw hd g su wo gl (pf gw gl) (n:=g.length) su g none none none tn tn tn hs (by omega);have hz:fS T (.zip (.var 1) (.var 4)) [sG g,sG su,sG wo,none,oG ls,oG (cO wo ls),oG g,none,none] = .ok (su.map fun (p:Nat)=>D.tup [.int (p:Int),.int ((loc g.length p:Nat):Int)],[4]):=by
  have v1:ev T (.var 1) [sG g,sG su,sG wo,none,oG ls,oG (cO wo ls),oG g,none,none] = .ok (.lst (gD su),.sh []):=rfl;have v4:ev T (.var 4) [sG g,sG su,sG wo,none,oG ls,oG (cO wo ls),oG g,none,none] = .ok (.lst (gD ls),.mv [4]):=cV rfl rfl;rw[fS,v1,aA,v4,aA];show (Rs.ok (gD su)).bind (fun l=>(Rs.ok (gD ls)).bind fun m=>Rs.ok ((l.zip m).map fun z=>D.tup [z.1,z.2],[4]))=_;rw[aA,aA];congr 2;show (List.zip (gD su) (gD (su.map (loc g.length)))).map _=_;rw[gD,gD,bg,List.zip_map'];rw[bg];rfl
 have s4:=BX (T:=T) (x:=4) rfl hz q rfl;unfold bCH;rw[aC,s1,aD,aC,s2,aD,aC,s3,aD,aC,s4,aD];show Pc.ret (aC T (.cons (.ret (.var 6)) .nil) [sG g,sG su,sG wo,x,oG ls,oG (cO wo ls),oG (fU g su wo),y,z])=_;generalize fU g su wo=l;simp[aC,bI,ev,aS,D.flat,lO,Pc.ret,bV]
theorem aG.tup2 {T:Tb}{env:En}{a b:Ex}{x y:D}(h:aG T a env x)(h2:aG T b env y):aG T (.tup (.cons a (.cons b .nil))) env (.tup [x,y]):=by
 obtain⟨R,h⟩:=h;obtain⟨R2,h2⟩:=h2;exact⟨_,by rw[ev,bQ,h,aA,bQ,h2,aA,bQ,aA,aA,aA];exact if_pos (by show (2:Nat)<=lim;decide)⟩
def C8 (T:Tb)(ic:Nat):Prop:=∀(gs:List Nat) (c:Nat),c<=900->T.cl ic [.lst (gD gs),.int (c:Int)] = .ok (.bl (decide (uM gs c)),true)
noncomputable def Ac:Ex:=.cmp .Gt (.blt .len (.cons (.var 1) .nil)) (.var 2)
noncomputable def bMDm (wa cn su ch:Nat):bJ:=(.cons (.asg (.nm 3) (.comp 1 [0] (.nm 0) (.seq (.call cn (.cons (.var 2) .nil))) .none (.call wa (.cons (.var 1) (.cons (.var 0) .nil)))) false)
  (.cons (.asg (.nm 4) (.bin .Add (.blt .list (.cons (.var 1) .nil)) (.call su (.cons (.var 3) (.cons (.var 1) (.cons (.blt .len (.cons (.var 0) .nil)) .nil))))) false)
  (.cons (.asg (.nm 5) (.call ch (.cons (.var 0) (.cons (.var 4) (.cons (.var 3) .nil)))) false)
  (.cons (.asg (.nm 6) (.comp 1 [0,5,1] (.nm 0) (.rng1 (.blt .len (.cons (.var 0) .nil))) (.some (.and (.cmp .NotIn (.var 0) (.var 3)) (.cmp .NotEq (.ix (.var 2) (.var 0)) (.ix (.var 1) (.var 0))))) (.var 0)) false)
  .nil))))
noncomputable def Ar (ic:Nat):Ex:=.or (.cmp .Gt (.bin .Add (.bin .Mult (.cst (.int (2))) (.blt .len (.cons (.var 6) .nil))) (.blt .len (.cons (.var 1) .nil))) (.var 2)) (.not (.call ic (.cons (.var 5) (.cons (.var 2) .nil))))
noncomputable def bMD (wa cn ic su ch:Nat):bJ:=(.cons (.ite Ac (.cons (.expr (.neg (.cst .non)))
  .nil) .nil)
  (.cons (.asg (.nm 3) (.comp 1 [0] (.nm 0) (.seq (.call cn (.cons (.var 2) .nil))) .none (.call wa (.cons (.var 1) (.cons (.var 0) .nil)))) false)
  (.cons (.asg (.nm 4) (.bin .Add (.blt .list (.cons (.var 1) .nil)) (.call su (.cons (.var 3) (.cons (.var 1) (.cons (.blt .len (.cons (.var 0) .nil)) .nil))))) false)
  (.cons (.asg (.nm 5) (.call ch (.cons (.var 0) (.cons (.var 4) (.cons (.var 3) .nil)))) false)
  (.cons (.asg (.nm 6) (.comp 1 [0,5,1] (.nm 0) (.rng1 (.blt .len (.cons (.var 0) .nil))) (.some (.and (.cmp .NotIn (.var 0) (.var 3)) (.cmp .NotEq (.ix (.var 2) (.var 0)) (.ix (.var 1) (.var 0))))) (.var 0)) false)
  (.cons (.ite (Ar ic) (.cons (.expr (.neg (.cst .non)))
  .nil) .nil)
  (.cons (.ret (.tup (.cons (.var 5) (.cons (.var 6) .nil))))
  .nil)))))))
theorem D8 {T:Tb}{env:En}{g mi:List Nat}{c:Nat}{r:List (Option D)}(V:Vw env (lD g::lD mi::nD c::r)):aG T Ac env (.bl (decide (c<mi.length))):=by
 refine aG.cmp (V.len (i:=1) rfl) (V.var (i:=2) rfl) ?_;show some (decide ((c:Int)<(mi.length:Int)))=_;congr 1;rw[Bool.eq_iff_iff];simp
noncomputable abbrev uf (g mi:List Nat)(c:Nat):List Nat:=mi++susp (aU g c) mi g.length
theorem zo {wo mi:List Nat}{n p:Nat}(h:p∈susp wo mi n):p<n:=(dW.mp (gn.mp h).1).1
theorem Bl (wo mi:List Nat)(n:Nat):(susp wo mi n).length<=n:=by
 have h1:=ik (fun p=>cG (loc n p) (hX wo mi n)==0) (others mi n);have h2:=ik (fun p=>!mi.contains p) (List.range n);rw[bj] at h2;exact br h1 h2
noncomputable def xU (g mi:List Nat)(c:Nat):Bool:=decide (c<2*(aT g (bP g mi c) mi).length+mi.length) || !decide (uM (bP g mi c) c)
theorem DM {T:Tb}{ic:Nat}(hi:C8 T ic){env:En}{g mi:List Nat}{c:Nat}(lc:c<=62){v3 v4:Option D}(V:Vw env [lD g,lD mi,nD c,v3,v4,lD (bP g mi c),lD (aT g (bP g mi c) mi)]):aG T (Ar ic) env (.bl (xU g mi c)):=by
 refine aG.or (k:=decide (c<2*(aT g (bP g mi c) mi).length+mi.length)) (aG.cmp (aG.bin (op:=.Add) (aG.bin (op:=.Mult) (aG.cst _) (V.len (i:=6) rfl) (z:=.int (2*((aT g (bP g mi c) mi).length:Int))) rfl) (V.len (i:=1) rfl) (z:=.int (2*((aT g (bP g mi c) mi).length:Int)+(mi.length:Int))) rfl) (V.var (i:=2) rfl) ?_) (fun hk=>?_) (fun hk=>?_)
 ·show some (decide ((c:Int)<2*((aT g (bP g mi c) mi).length:Int)+(mi.length:Int)))=_;congr 1;rw[Bool.eq_iff_iff];simp;omega
 ·unfold xU;rw[hk,Bool.false_or];exact aG.not (aG.bL (V.var (i:=5) rfl) (V.var (i:=2) rfl) (hi _ c (by omega)))
 ·unfold xU;rw[hk,Bool.true_or]
noncomputable abbrev Cc (g mi:List Nat)(c:Nat):D:=.tup [.lst (gD (bP g mi c)),.lst (gD (aT g (bP g mi c) mi))]
def D0 (g y mi:List Nat)(c:Nat):Prop:=Gr y/\y.length=g.length/\uM y c/\2*(aT g y mi).length+mi.length<=c
theorem uV {g y mi:List Nat}{c:Nat}(gg:Gr g)(n63:g.length<=63)(c62:c<=62)(mn:mi.Nodup)(ml:∀ p∈mi,p<g.length)(N:D0 g y mi c):bP g mi c=y/\xU g mi c=false:=by
 obtain⟨gy,ly,code,le⟩:=N;have e:=found gg gy ly n63 c62 code mn ml le;refine⟨e,?_⟩;unfold xU;rw[e,cj (by omega),cq code];rfl
theorem tY {g mi:List Nat}{c:Nat}(gg:Gr g)(h:xU g mi c=false):D0 g (bP g mi c) mi c:=by
 unfold xU at h;rw[Bool.or_eq_false_iff] at h;refine⟨zE gg mi c,qH g mi c,?_,?_⟩
 ·have:=h.2;simpa using this
 ·have:=of_decide_eq_false h.1;omega
end Pc.Vw
end
section
namespace Pc.Vw
open PySem Pc Pc.Sm Pc.Gr Pc.Lw Fl64 Md
theorem IM {T:Tb}{env:En}{pick:List Nat}{it:sO}{e:Ex}{l:List (Nat×Nat)}{R:List Nat}{g:Nat->Nat->Nat}(hit:fS T it env = .ok (l.map fun q=>D.tup [.int (q.1:Int),.int (q.2:Int)],R))(hl:l.length<=1000)(hg:∀ q∈l,aG T e (put (put (aL env 2 pick) 0 (.int (q.1:Int)) .own) 1 (.int (q.2:Int)) .own) (.int ((g q.1 q.2:Nat):Int)))(h0:1<(aL env 2 pick).length) :
  aG T (.comp 2 pick (.tp [0,1]) it .none e) env (.lst (gD (l.map fun q=>g q.1 q.2))):=by
 have key:∀(l:List (Nat×Nat)),(∀ q∈l,aG T e (put (put (aL env 2 pick) 0 (.int (q.1:Int)) .own) 1 (.int (q.2:Int)) .own) (.int ((g q.1 q.2:Nat):Int)))->∃ qs:List (D×Rt),dY (fun d=>bH (aX [] (.tp [0,1]) d (aL env 2 pick)) (nX T .none) (ev T e)) (l.map fun q=>D.tup [.int (q.1:Int),.int (q.2:Int)]) = .ok qs/\qs.map (·.1)=gD (l.map fun q=>g q.1 q.2)/\qs.all (fun q=>q.1.flat || fJ q.2)=true:=by
  intro l
  induction l with
  |nil=>exact fun _=>⟨[],rfl,rfl,rfl⟩
  |cons a r ih =>
   intro h;obtain⟨qs,a1,a2,a3⟩:=ih fun b hb=>h b (aa _ hb)
   obtain⟨R',hR⟩:=h a ae;refine⟨(.int ((g a.1 a.2:Nat):Int),R')::qs,?_,?_,?_⟩
   ·have hb:aX [] (.tp [0,1]) (.tup [.int (a.1:Int),.int (a.2:Int)]) (aL env 2 pick)=some (put (put (aL env 2 pick) 0 (.int (a.1:Int)) .own) 1 (.int (a.2:Int)) .own):=by
     show bindM _ [0,1] [.int (a.1:Int),.int (a.2:Int)] (aL env 2 pick)=_;simp only[bindM];rw[if_pos (by omega),if_pos (by unfold Pc.put;rw[aq,aj];exact h0)];rfl
    have step:bH (aX [] (.tp [0,1]) (.tup [.int (a.1:Int),.int (a.2:Int)]) (aL env 2 pick)) (nX T .none) (ev T e) = .ok (some (.int ((g a.1 a.2:Nat):Int),R')):=by
     simp only[hb,bH,nX,aA,if_true,hR]
    rw[ay,dY,step,aA,a1];rfl
   ·rw[ay,a2];rfl
   ·rw[dk,a3];rfl
 obtain⟨qs,a1,a2,a3⟩:=key l hg;rw[aG,ev,hit,aA,a1,aA];dsimp only;rw[if_pos (by rw[aj];exact cT hl),a2];exact⟨_,rfl⟩
theorem Vw.picked2 {env:En}{vs ws:List (Option D)}(h:Vw env vs){pick:List Nat}(hw:∀(j:Nat) (d:D),ws[j]? = some (some d)->∃ i,pick[j]? = some i/\vs[i]? = some (some d))(hl:ws.length=pick.length)(a b:D) :
  1<(aL env 2 pick).length/\Vw (Pc.put (Pc.put (aL env 2 pick) 0 a .own) 1 b .own) (some a::some b::ws):=by
 have hlen:(aL env 2 pick).length=ws.length+2:=by unfold aL;simp[hl]
 have V:Vw (aL env 2 pick) (none::none::ws):=by
  refine⟨by rw[hlen];simp,fun j d e=>?_⟩;cases j with
  |zero=>cases e
  |succ j=>cases j with
   |zero=>cases e
   |succ j =>
    have e:ws[j]? = some (some d):=e;obtain⟨i,p1,p2⟩:=hw j d e;refine⟨.sh [],?_⟩;unfold aL;rw[List.getElem?_append_right (by simp),List.length_replicate,show j+1+1 - 2=j by omega,List.getElem?_map,p1];obtain⟨t,q⟩:=h.2 i d p2;show some (match env[i]? with | some (some (d,_))=>some (d,Tg.sh []) | _=>none:Slot)=_;rw[q]
 exact⟨by omega,(V.put 0 a .own).put 1 b .own⟩
noncomputable def pG (r:List Nat)(x:Nat):List Nat:=((r ++ [0]).zip (0::r)).map fun (q:Nat×Nat)=>q.1^^^tm x q.2
theorem oO (r:List Nat)(x:Nat):(pG r x).length=r.length+1:=by simp[pG]
theorem C9 (r:List Nat)(x j:Nat)(hj:j<=r.length):(pG r x).getD j 0=r.getD j 0^^^tm x ((0::r).getD j 0):=by
 have h1:(r ++ [0])[j]? = some (r.getD j 0):=by
  by_cases h:j<r.length
  ·rw[List.getElem?_append_left h,List.getD_eq_getElem?_getD,List.getElem?_eq_getElem h];rfl
  ·rw[List.getElem?_append_right (by omega),List.getD_eq_getElem?_getD,List.getElem?_eq_none (l:=r) (by omega),show j - r.length=0 by omega];rfl
 have h2:(0::r)[j]? = some ((0::r).getD j 0):=by
  rw[List.getD_eq_getElem?_getD,List.getElem?_eq_getElem (by simp;omega)];rfl
 unfold pG;rw[List.getD_eq_getElem?_getD,List.getElem?_map,(List.getElem?_zip_eq_some (z:=(r.getD j 0,(0::r).getD j 0))).mpr ⟨h1,h2⟩];rfl
theorem nK {r:List Nat}{x:Nat}(h:Gr r)(hx:x<64):Gr (pG r x):=fun z hz=>by
 obtain⟨q,hq,rfl⟩:=List.mem_map.mp hz;have:=fw hq;refine aV ?_ (bF hx ?_)
 ·exact (h.append (show Gr [0] from .cons (by decide) .nil)) _ this.1
 ·exact (BC h) _ this.2
theorem tW {r:List Nat}{x y:Nat}(h:Gr r)(hx:x<64)(hy:y<64):cG y (pG r x)=tm (cG y r) (y^^^x):=by
 have g:=nK h hx;refine mL (eQ hy (by decide) g) (bF (eQ hy (by decide) h) (aV hy hx)) ?_;rw[lJ hy g,dH (eQ hy (by decide) h) (aV hy hx),lJ hy h,kx hy hx,oO];have e:∀ j,j<r.length+1->cf (pG r x) j=cf r j+toF x*sh (cf r) j:=fun j hj=>by
  unfold cf;rw[C9 r x j (by omega),kx (dU h j) (bF hx (dU (BC h) j)),dH hx (dU (BC h) j)];congr 2;cases j<;>rfl
 rw[uq e,uO,rE,DQ,rR,gC (au _),add_zero,mul_add,Md.mul_comm (toF x)]
noncomputable def eN:Nat->Nat->List Nat->List Nat
 |0,_,r=>r
 |k+1,j,r=>eN k (j+1) (pG r (pw 2 (j+1)))
theorem pC:∀(k j:Nat) (r:List Nat),(eN k j r).length=r.length+k
 |0,_,r=>rfl
 |k+1,j,r=>by rw[eN,pC k,oO];omega
theorem qa:∀(k j:Nat) {r:List Nat},Gr r->Gr (eN k j r)
 |0,_,_,h=>h
 |k+1,j,r,h=>qa k (j+1) (nK h (bD (by decide) _))
theorem m5:∀(k j:Nat) {r:List Nat}{y:Nat},Gr r->y<64->(cG y r=0\/∃ i,j<i/\i<=j+k/\y=pw 2 i)->cG y (eN k j r)=0
 | 0,j,r,y,h,hy,e=>by
  rcases e with e | ⟨i,h1,h2,_⟩
  ·exact e
  ·omega
 | k+1,j,r,y,h,hy,e=>by
  rw[eN];refine m5 k (j+1) (nK h (bD (by decide) _)) hy ?_;have hx:pw 2 (j+1)<64:=bD (by decide) _;rcases e with e | ⟨i,h1,h2,e⟩
  ·exact .inl (by rw[tW h hx hy,e,cA (aV hy hx)])
  ·by_cases hi:i=j+1
   ·subst hi;exact .inl (by rw[tW h hx hy,e,fu,gY])
   ·exact .inr ⟨i,by omega,by omega,e⟩
theorem yJ (c:Nat){r:List Nat}(h:Gr r):uM (eN c 0 r) c:=fun x hx=>by
 unfold bS at hx;obtain⟨i,hi,rfl⟩:=List.mem_map.mp hx;have:=List.mem_range'_1.mp hi;exact m5 c 0 h (bD (by decide) _) (.inr ⟨i,by omega,by omega,rfl⟩)
def MAok (T:Tb)(ma:Nat):Prop:=∀(r:List Nat) (c:Nat),Gr r->r.length+c<=100->∃ fr,T.cl ma [.lst (gD r),.int (c:Int)] = .ok (.lst (gD (eN c 0 r)),fr)
noncomputable def Gn (lt:Nat):bJ:=(.cons (.asg (.nm 3) (.call lt (.cons (.var 3) (.cons (.cst (.int (2))) .nil))) false)
  (.cons (.asg (.nm 2) (.comp 2 [3] (.tp [0,1]) (.zip (.bin .Add (.var 2) (.lst (.cons (.cst (.int (0))) .nil))) (.bin .Add (.lst (.cons (.cst (.int (0))) .nil)) (.var 2))) .none (.bin .BitXor (.var 0) (.call lt (.cons (.var 2) (.cons (.var 1) .nil))))) false)
  .nil))
noncomputable def bMa (lt:Nat):bJ:=(.cons (.asg (.nm 2) (.blt .list (.cons (.var 0) .nil)) false)
  (.cons (.asg (.nm 3) (.cst (.int (1))) false)
  (.cons (.forr (.nm 4) (.rng1 (.var 1)) (Gn lt))
  (.cons (.ret (.var 2))
  .nil))))
theorem zipV {T:Tb}{env:En}{a b:Ex}{l m:List Nat}(h:aG T a env (.lst (gD l)))(h':aG T b env (.lst (gD m))):∃ R,fS T (.zip a b) env = .ok ((l.zip m).map fun q=>D.tup [.int (q.1:Int),.int (q.2:Int)],R):=by
 obtain⟨R,h⟩:=h;obtain⟨R',h'⟩:=h';refine⟨R.roots++R'.roots,?_⟩;rw[fS,h,aA,h',aA];show (Rs.ok (gD l)).bind (fun l=>(Rs.ok (gD m)).bind fun m=>Rs.ok ((l.zip m).map fun z=>D.tup [z.1,z.2],R.roots++R'.roots))=_;rw[aA,aA,gD,gD,List.zip_map,bg];rfl
theorem aG.xor {T:Tb}{env:En}{a b:Ex}{x y:Nat}(h:aG T a env (.int (x:Int)))(h':aG T b env (.int (y:Int))):aG T (.bin .BitXor a b) env (.int ((x^^^y:Nat):Int)):=aG.bin h h' (by
 show some (D.int (Builtin.bitXor (x:Int) (y:Int)))=_;rw[cY])
theorem aG.cat {T:Tb}{env:En}{a b:Ex}{x y:List Nat}(h:aG T a env (.lst (gD x)))(h':aG T b env (.lst (gD y)))(hl:x.length+y.length<=1000):aG T (.bin .Add a b) env (.lst (gD (x++y))):=aG.bin h h' (by
 show ck ((gD x).length+(gD y).length) (.lst (gD x++gD y))=_;unfold ck;rw[if_pos (by rw[be,be];exact cT hl),ki])
theorem Ed {T:Tb}{lt:Nat}(ht:AQ T lt){r:List Nat}{c:Nat}(hr:Gr r)(hl:r.length+c<=100):∃ fr,Pc.ret (aC T (bMa lt) (aF [.lst (gD r),.int (c:Int)] 5)) = .ok (.lst (gD (eN c 0 r)),fr):=by
 have V0:Vw (aF [.lst (gD r),.int (c:Int)] 5) [lD r,nD c,none,none,none]:=Vw.start _ 5;obtain⟨e1,q1,V1⟩:=V0.asg (T:=T) (i:=2) (show (2:Nat)<5 by decide) (aG.blt1 (k:=.list) (V0.var (i:=0) rfl) (z:=.lst (gD r)) rfl);obtain⟨e2,q2,V2⟩:=V1.asg (T:=T) (i:=3) (show (3:Nat)<5 by decide) (aG.cst (.int 1));have V2:Vw e2 [lD r,nD c,lD r,nD 1,none]:=V2;obtain⟨e3,q3,⟨r',x4,g',l',e',V3⟩⟩:=yd (t:=.nm 4) (R:=[]) (b:=aC T (Gn lt)) (fun k env=>∃ r' v4,Gr r'/\r'.length+(c - k)=r.length+c/\(k<=c->eN (c - k) k r'=eN c 0 r)/\Vw env [lD r,nD c,lD r',nD (pw 2 k),v4]) ((List.range c).map fun (k:Nat)=>D.int (k:Int)) 0 e2 ⟨r,none,hr,by omega,fun _=>rfl,V2⟩ (fun i d e hd J=>by
  rw[List.getElem?_map] at hd;have hi':i<c:=by
   cases q:(List.range c)[i]? with
   |none=>rw[q] at hd;cases hd
   |some z=>have:=(List.getElem?_eq_some_iff.mp q).1;rwa [bj] at this
  rw[List.getElem?_range hi'] at hd;cases hd;rw[fk] at J ⊢;obtain⟨r',v4,g',l',e',V⟩:=J;obtain⟨d1,b1,W1⟩:=V.bind (i:=4) (show (4:Nat)<5 by decide) [] (.int (i:Int));have W1:Vw d1 [lD r,nD c,lD r',nD (pw 2 i),nD i]:=W1;have p64:pw 2 i<64:=bD (by decide) _;obtain⟨d2,b2,W2⟩:=W1.asg (T:=T) (i:=3) (show (3:Nat)<5 by decide) (aG.bL (W1.var (i:=3) rfl) (show aG T (.cst (.int 2)) d1 (.int ((2:Nat):Int)) from aG.cst _) (ht (pw 2 i) 2 p64 (by decide)));have W2:Vw d2 [lD r,nD c,lD r',nD (pw 2 (i+1)),nD i]:=W2;obtain⟨R,hz⟩:=zipV (T:=T) (aG.cat (y:=[0]) (W2.var (i:=2) rfl) (aG.lst1 (aG.cst (.int 0))) (by simp;omega)) (aG.cat (x:=[0]) (aG.lst1 (aG.cst (.int 0))) (W2.var (i:=2) rfl) (by simp;omega));have pk:∀(j:Nat) (d:D),[nD (pw 2 (i+1))][j]? = some (some d)->∃ i',[3][j]? = some i'/\[lD r,nD c,lD r',nD (pw 2 (i+1)),nD i][i']? = some (some d):=fun j d e=>by
   cases j with
   |zero=>exact⟨3,rfl,e⟩
   |succ j=>cases e
  have x64:pw 2 (i+1)<64:=bD (by decide) _;obtain⟨d3,b3,W3⟩:=W2.asg (T:=T) (i:=2) (show (2:Nat)<5 by decide) (IM (g:=fun a b=>a^^^tm (pw 2 (i+1)) b) hz (by simp;omega) (fun q hq=>by
   obtain⟨_,W⟩:=W2.picked2 (pick:=[3]) (ws:=[nD (pw 2 (i+1))]) pk rfl (.int (q.1:Int)) (.int (q.2:Int));have q2:q.2<64:=(BC g') _ (fw hq).2;exact aG.xor (W.var (i:=0) rfl) (aG.bL (W.var (i:=2) rfl) (W.var (i:=1) rfl) (ht _ _ x64 q2))) (W2.picked2 (pick:=[3]) (ws:=[nD (pw 2 (i+1))]) pk rfl .non .non).1)
  have W3:Vw d3 [lD r,nD c,lD (pG r' (pw 2 (i+1))),nD (pw 2 (i+1)),nD i]:=W3;refine⟨d1,d3,b1,.inl ?_,pG r' (pw 2 (i+1)),nD i,nK g' x64,by rw[oO];omega,fun _=>?_,W3⟩
  ·unfold Gn;rw[aC,b2,aD,aC,b3,aD];rfl
  ·rw[<-e' (by omega),show c - i=(c - (i+1))+1 by omega,eN])
 have q3':=cF (rz (V2.var (T:=T) (i:=1) rfl) (by omega)) q3;simp only[List.length_map,List.length_range,Nat.zero_add,Nat.sub_self] at e' V3;have e':=e' (au _);rw[eN] at e';unfold bMa;rw[aC,q1,aD,aC,q2,aD,aC,q3',aD,<-e'];exact za (V3.var (i:=2) rfl)
theorem pZ:∀(l:List Nat) (i:Nat),(gD l).eraseIdx i=gD (l.eraseIdx i)
 |[],_=>rfl
 |a::l,0=>rfl
 | a::l,i+1=>by
  show D.int (a:Int)::(gD l).eraseIdx i=_;rw[pZ l i];rfl
theorem zQ {l:List Nat}{i:Nat}(h:i<l.length)(hl:l.length<=1000):kZ (gD l) [.int (i:Int)]=some (.int ((l.getD i 0:Nat):Int),gD (l.eraseIdx i)):=by
 have e:kZ (gD l) [.int (i:Int)]=(nt (gD l).length (i:Int)).bind (kF (gD l)):=by
  unfold kZ;exact if_pos ⟨Int.le_trans (by decide) (fv i),Int.lt_of_lt_of_le (Int.ofNat_lt.mpr (av h hl)) (by decide)⟩
 rw[e,iK (by rw[be];exact h)];show kF (gD l) i=_;unfold kF;rw[zj h];dsimp only;rw[if_pos (show (D.int ((l.getD i 0:Nat):Int)).flat=true from rfl),pZ]
theorem Au {T:Tb}{env:En}{x y:Nat}{e:Ex}{xs ys rest:List D}{d it:D}{R:Rt}(ht:Tame env)(hxy:y≠x)(hx:env[x]? = some (some (.lst xs,.own)))(hy:env[y]? = some (some (.lst ys,.own)))(h:ev T e env = .ok (d,R))(hp:kZ xs [d]=some (it,rest))(lx:rest.length<=lim)(ly:(ys ++ [it]).length<=lim) :
  bI T (.apop y x (.cons e .nil)) env = .nx ((env.set x (some (.lst rest,.own))).set y (some (.lst (ys ++ [it]),.own))):=by
 have ox:ownAt env x=some (.lst xs):=by unfold ownAt;rw[hx]
 have hes:bQ T (.cons e .nil) env = .ok [(d,R)]:=by rw[bQ,h,aA,bQ,aA]
 have m1:cH x none env (.lst xs) rest [] = .nx (env.set x (some (.lst rest,.own))):=by
  unfold cH;show (if (decide ([]:List Nat).Nodup&&bV env [] && !([]:List Nat).contains x&&decide (rest.length<=lim))=true then Fl.nx ((kill [x] env).set x (some (.lst rest,.own))) else .bad)=_;rw[if_pos (by rw[cq lx];rfl),jY ht]
 have te1:Tame (env.set x (some (.lst rest,.own))):=ht.set (aB _) x;have oy:ownAt (env.set x (some (.lst rest,.own))) y=some (.lst ys):=by unfold ownAt;rw[List.getElem?_set_ne (cm hxy),hy]
 have m2:cH y none (env.set x (some (.lst rest,.own))) (.lst ys) (ys ++ [it]) [] = .nx ((env.set x (some (.lst rest,.own))).set y (some (.lst (ys ++ [it]),.own))):=by
  unfold cH;show (if (decide ([]:List Nat).Nodup&&bV (env.set x (some (.lst rest,.own))) [] && !([]:List Nat).contains y&&decide ((ys ++ [it]).length<=lim))=true then Fl.nx ((kill [y] (env.set x (some (.lst rest,.own)))).set y (some (.lst (ys ++ [it]),.own))) else .bad)=_;rw[if_pos (by rw[cq ly];rfl),jY te1]
 rw[bI,if_neg hxy,ox];dsimp only[D.at1];rw[hes,aS,xW,hp];dsimp only;rw[m1];dsimp only[Fl.andThen];rw[oy];exact m2
theorem zv {T:Tb}{env:En}{x y:Nat}{e:Ex}{xs ys:List Nat}{i:Nat}{R:Rt}(ht:Tame env)(hxy:y≠x)(hx:env[x]? = some (oG xs))(hy:env[y]? = some (oG ys))(h:ev T e env = .ok (.int (i:Int),R))(hi:i<xs.length)(lx:xs.length<=1000)(ly:ys.length<1000) :
  bI T (.apop y x (.cons e .nil)) env = .nx ((env.set x (oG (xs.eraseIdx i))).set y (oG (ys ++ [xs.getD i 0]))):=by
 have ga:gD (ys ++ [xs.getD i 0])=gD ys ++ [D.int ((xs.getD i 0:Nat):Int)]:=ki _ _;have:=Au ht hxy hx hy h (zQ hi lx) (by rw[be];exact cT (Nat.le_trans (List.length_eraseIdx_le ..) lx)) (by rw[<-ga,be];exact cT (by simp;omega));rw[this,<-ga]
theorem zu:∀ l:List Nat,sE (gD l)=some (gI l)
 |[]=>rfl
 | a::l=>by
  show (sE (gD l)).map ((a:Int) :: ·)=_;rw[zu l];rfl
noncomputable def iL (l:List Nat):List Nat:=(fB (gI l)).map Int.toNat
theorem kT (a:Int):∀ l:List Int,(insI a l).Perm (a::l)
 |[]=>.refl _
 | b::l=>by
  unfold insI;split
  ·exact .refl _
  ·exact ((kT a l).cons b).trans (.swap a b l)
theorem jt:∀ l:List Int,(fB l).Perm l
 |[]=>.refl _
 |a::l=>(kT a _).trans ((jt l).cons a)
theorem qc (a:Int):∀{l:List Int},l.Pairwise (·<=·)->(insI a l).Pairwise (·<=·)
 |[],_=>List.pairwise_singleton _ _
 | b::l,h=>by
  have h':=List.pairwise_cons.mp h;unfold insI;split
  ·rename_i e;refine List.pairwise_cons.mpr ⟨fun x hx=>?_,h⟩;rcases dw.mp hx with rfl | hx
   ·exact e
   ·exact Int.le_trans e (h'.1 x hx)
  ·rename_i e;refine List.pairwise_cons.mpr ⟨fun x hx=>?_,qc a h'.2⟩;rcases dw.mp ((kT a l).mem_iff.mp hx) with rfl | hx
   ·omega
   ·exact h'.1 x hx
theorem mS:∀ l:List Int,(fB l).Pairwise (·<=·)
 |[]=>.nil
 |a::l=>qc a (mS l)
theorem o9 (l:List Nat):(gI l).map Int.toNat=l:=by
 rw[bg]
 conv=>rhs;rw[<-List.map_id l]
 exact fi fun a _=>bo a
theorem jD (l:List Nat):(iL l).Perm l:=by
 have:=(jt (gI l)).map Int.toNat
 rwa [o9] at this
theorem zH (l:List Nat):(fB (gI l)).map D.int=gD (iL l):=by
 unfold iL;rw[gD,bg];refine fi fun z hz=>?_
 obtain⟨a,_,rfl⟩:=List.mem_map.mp ((jt (gI l)).mem_iff.mp hz);show D.int (a:Int)=D.int (((a:Int).toNat:Nat):Int);rw[bo]
theorem qz {l:List Nat}(hn:l.Nodup):(iL l).Pairwise (· < ·):=by
 have h1:(iL l).Pairwise (·<=·):=by
  unfold iL;rw[jb];refine (mS (gI l)).imp fun h=>?_
  omega
 have h2:(iL l).Nodup:=(jD l).nodup_iff.mpr hn;exact (h1.and h2).imp fun ⟨a,b⟩=>by omega
theorem aG.sorted {T:Tb}{env:En}{a:Ex}{l:List Nat}(h:aG T a env (.lst (gD l)))(hl:l.length<64):aG T (.blt .sorted (.cons a .nil)) env (.lst (gD (iL l))):=aG.blt1 h (by
 show (match sE (gD l) with
  |some ns=>if ns.length<64 then some (D.lst ((fB ns).map .int)) else none
  |none=>none)=_
 rw[zu];dsimp only;rw[if_pos (by rw[aj];exact hl),zH])
theorem nT {α:Type}{a b:α}(h:Rs.ok a=Rs.ok b):a=b:=by cases h;rfl
theorem dP {α β:Type}{a:Rs α}{f:α->Rs β}{b:β}(h:a.bind f = .ok b):∃ x,a = .ok x/\f x = .ok b:=by
 cases a with
 |ok x=>exact⟨x,rfl,h⟩
 |exc e=>cases h
 |bad=>cases h
theorem IX {T:Tb}{env:En}{d:D}{k:Dm}{es:nJ}(h:aG T (.blt k es) env d)(hd:d.inner=true):ev T (.blt k es) env = .ok (d,.mv []):=by
 obtain⟨R,h⟩:=h;have h':=h;rw[ev] at h;obtain⟨p,_,h⟩:=dP h;obtain⟨z,_,h⟩:=dP h;have:=nT h;rw[f9] at this;obtain⟨rfl,e⟩:=this;rw[h',<-e];unfold kJ;rw[if_pos hd]
def PLok (T:Tb)(pl:Nat):Prop:=∀(ns:List Int) (m s t:Nat),s<=m->m<=63->∃ ps:List Nat,ps.Pairwise (· < ·)/\ps.length=s/\(∀ p∈ps,p<m)/\T.cl pl [.lst (ns.map D.int),.int (m:Int),.int (s:Int),.int (t:Int)] = .ok (.lst (gD ps),true)
noncomputable def Cp (mx ce:Nat):bJ:=(.cons (.asg (.nm 7) (.call mx (.cons (.call ce (.cons (.var 0) (.cons (.bin .Add (.var 6) (.var 3)) .nil))) (.cons (.bin .Add (.var 6) (.var 3)) .nil))) false)
  (.cons (.apop 5 4 (.cons (.bin .Mod (.bin .FloorDiv (.var 7) (.cst (.int (31)))) (.blt .len (.cons (.var 4) .nil))) .nil))
  .nil))
noncomputable def bPl (mx ce:Nat):bJ:=(.cons (.asg (.nm 4) (.blt .lrng (.cons (.var 1) .nil)) false)
  (.cons (.asg (.nm 5) (.lst .nil) false)
  (.cons (.forr (.nm 6) (.rng1 (.var 2)) (Cp mx ce))
  (.cons (.ret (.blt .sorted (.cons (.var 5) .nil)))
  .nil))))
abbrev EP (S:List D)(m s t:Nat)(L P:List Nat)(o6 o7:Slot):En:=[some (.lst S,.sh []),sN m,sN s,sN t,oG L,oG P,o6,o7]
theorem rH {S:List D}{m s t:Nat}{L P:List Nat}{o6 o7:Slot}(h6:cB o6)(h7:cB o7):Tame (EP S m s t L P o6 o7):=.cons (aJ _) (.cons (aB _) (.cons (aB _) (.cons (aB _) (.cons (aB _) (.cons (aB _) (.cons h6 (.cons h7 .nil)))))))
theorem jF:∀{l:List Nat}{i:Nat},i<l.length->l.Perm (l.getD i 0::l.eraseIdx i)
 |[],i,h=>by cases h
 |a::l,0,h=>.refl _
 | a::l,i+1,h=>by
  have:=jF (l:=l) (i:=i) (by simpa using h);exact (this.cons a).trans (.swap _ _ _)
structure G4 (m k:Nat)(L P:List Nat):Prop where
 nd:(L++P).Nodup
 lt:∀ p∈L++P,p<m
 lp:P.length=k
 ll:L.length+k=m
theorem G4.step {m k i:Nat}{L P:List Nat}(h:G4 m k L P)(hi:i<L.length):G4 m (k+1) (L.eraseIdx i) (P ++ [L.getD i 0]):=by
 have e:(L.eraseIdx i++(P ++ [L.getD i 0])).Perm (L++P):=by
  have h1:=jF hi;refine List.Perm.trans ?_ (h1.symm.append_right P);rw[<-fe];refine (List.perm_append_comm).trans ?_;exact .refl _
 refine⟨e.nodup_iff.mpr h.nd,fun p hp=>h.lt p (e.mem_iff.mp hp),by simp[h.lp],?_⟩;have:=h.ll;rw[gb hi];omega
theorem Cf {T:Tb}{mx ce:Nat}(hm:pH T mx)(hc:uh T ce)(ns:List Int){m s t k:Nat}(hk:k<m)(hm63:m<=63){L P:List Nat}(h:G4 m k L P){o6 o7:Slot}(h6:cB o6)(h7:cB o7) :
  ∃ o7' L' P',cB o7'/\G4 m (k+1) L' P'/\aX [] (.nm 6) (.int (k:Int)) (EP (ns.map D.int) m s t L P o6 o7)=some (EP (ns.map D.int) m s t L P (sN k) o7)/\aC T (Cp mx ce) (EP (ns.map D.int) m s t L P (sN k) o7) = .nx (EP (ns.map D.int) m s t L' P' (sN k) o7'):=by
 have hL:L.length=m - k:=by have:=h.ll;omega
 have te1:Tame (EP (ns.map D.int) m s t L P (sN k) o7):=rH (aB _) h7;have v0:ev T (.var 0) (EP (ns.map D.int) m s t L P (sN k) o7) = .ok (.lst (ns.map D.int),.sh []):=rfl;have e1:ev T (.bin .Add (.var 6) (.var 3)) (EP (ns.map D.int) m s t L P (sN k) o7) = .ok (.int ((k+t:Nat):Int),.mv []):=by
  have v6:ev T (.var 6) (EP (ns.map D.int) m s t L P (sN k) o7) = .ok (.int (k:Int),.mv []):=aI rfl rfl;have v3:ev T (.var 3) (EP (ns.map D.int) m s t L P (sN k) o7) = .ok (.int (t:Int),.mv []):=aI rfl rfl;rw[ev,v6,aA,v3,aA,aO];show (iG (some (D.int ((k:Int)+(t:Int))))).bind _=_;rw[show (k:Int)+(t:Int)=((k+t:Nat):Int) by omega];rfl
 obtain⟨v,hv⟩:=hc ns (k+t);obtain⟨d,hd0,hd⟩:=hm v ((k+t:Nat):Int);have s1:bI T (.asg (.nm 7) (.call mx (.cons (.call ce (.cons (.var 0) (.cons (.bin .Add (.var 6) (.var 3)) .nil))) (.cons (.bin .Add (.var 6) (.var 3)) .nil))) false) (EP (ns.map D.int) m s t L P (sN k) o7) = .nx (EP (ns.map D.int) m s t L P (sN k) (sI d)) :=
  bT te1 (by simp) (Pc.Sm.bL (Pc.Sm.bL v0 e1 hv) e1 hd)
 have te2:Tame (EP (ns.map D.int) m s t L P (sN k) (sI d)):=rH (aB _) (aB _);let i:=(d / 31%(L.length:Int)).toNat;have hL0:(0:Int)<(L.length:Int):=by omega
 have hi0:0<=d / 31%(L.length:Int):=Int.emod_nonneg _ (by omega);have hi1:d / 31%(L.length:Int)<(L.length:Int):=Int.emod_lt_of_pos _ hL0;have e2:ev T (.bin .Mod (.bin .FloorDiv (.var 7) (.cst (.int (31)))) (.blt .len (.cons (.var 4) .nil))) (EP (ns.map D.int) m s t L P (sN k) (sI d)) = .ok (.int ((i:Nat):Int),.mv []):=by
  have v7:ev T (.var 7) (EP (ns.map D.int) m s t L P (sN k) (sI d)) = .ok (.int d,.mv []):=aI rfl rfl;have f:ev T (.bin .FloorDiv (.var 7) (.cst (.int (31)))) (EP (ns.map D.int) m s t L P (sN k) (sI d)) = .ok (.int (d / 31),.mv []):=by
   rw[ev,v7,aA,ev,aA,aO];rfl
  rw[ev,f,aA,iF (T:=T) (env:=EP (ns.map D.int) m s t L P (sN k) (sI d)) (i:=4) (gs:=L) (t:=.own) rfl,aA,aO];show (iG ((if (0:Int)<(L.length:Int) then some (d / 31%(L.length:Int)) else none).map D.int)).bind _=_;rw[if_pos hL0,show d / 31%(L.length:Int)=((i:Nat):Int) by show _=(((d / 31%(L.length:Int)).toNat:Nat):Int);omega];rfl
 have hi:i<L.length:=by show (d / 31%(L.length:Int)).toNat<L.length;omega
 have s2:=zv (T:=T) (x:=4) (y:=5) te2 (by decide) rfl rfl e2 hi (by omega) (by have:=h.lp;omega);refine⟨sI d,L.eraseIdx i,P ++ [L.getD i 0],aB _,h.step hi,fM (rH h6 h7) (by simp),?_⟩;unfold Cp;rw[aC,s1,aD,aC,s2,aD];rfl
theorem Fj {T:Tb}{mx ce:Nat}(hm:pH T mx)(hc:uh T ce)(ns:List Int){m s t:Nat}(hs:s<=m)(hm63:m<=63):∃ ps:List Nat,ps.Pairwise (· < ·)/\ps.length=s/\(∀ p∈ps,p<m)/\Pc.ret (aC T (bPl mx ce) (aF [.lst (ns.map D.int),.int (m:Int),.int (s:Int),.int (t:Int)] 8)) = .ok (.lst (gD ps),true):=by
 have hst:aF [.lst (ns.map D.int),.int (m:Int),.int (s:Int),.int (t:Int)] 8=[some (.lst (ns.map D.int),.sh []),sN m,sN s,sN t,none,none,none,none]:=rfl;have te0:Tame [some (.lst (ns.map D.int),.sh []),sN m,sN s,sN t,none,none,none,none]:=.cons (aJ _) (.cons (aB _) (.cons (aB _) (.cons (aB _) (.cons aH (.cons aH (.cons aH (.cons aH .nil)))))));have r1:ev T (.blt .lrng (.cons (.var 1) .nil)) [some (.lst (ns.map D.int),.sh []),sN m,sN s,sN t,none,none,none,none] = .ok (.lst (gD (List.range m)),.mv []):=by
  have h1:bQ T (.cons (.var 1) .nil) [some (.lst (ns.map D.int),.sh []),sN m,sN s,sN t,none,none,none,none] = .ok [(.int (m:Int),.mv [])]:=rfl;rw[ev,h1,aA];show (iG (if gM (m:Int)=true/\(m:Int)<=1000000 then some (D.lst (bB 0 1 (m:Int).toNat)) else none)).bind _=_;rw[if_pos ⟨qF (by omega),by omega⟩,bo,aM,aA];have:=eP m 0;rw[show ((0:Nat):Int)=0 from rfl] at this;rw[this,<-List.range_eq_range',cZ (fT _)]
 have s1:bI T (.asg (.nm 4) (.blt .lrng (.cons (.var 1) .nil)) false) [some (.lst (ns.map D.int),.sh []),sN m,sN s,sN t,none,none,none,none] = .nx [some (.lst (ns.map D.int),.sh []),sN m,sN s,sN t,oG (List.range m),none,none,none]:=bT te0 (by simp) r1;have s2:bI T (.asg (.nm 5) (.lst .nil) false) [some (.lst (ns.map D.int),.sh []),sN m,sN s,sN t,oG (List.range m),none,none,none] = .nx (EP (ns.map D.int) m s t (List.range m) [] none none):=by
  refine bT (.cons (aJ _) (.cons (aB _) (.cons (aB _) (.cons (aB _) (.cons (aB _) (.cons aH (.cons aH (.cons aH .nil)))))))) (by simp) ?_;rw[ev,bQ,aA];rfl
 obtain⟨e,q,⟨L,P,o6,o7,t6,t7,inv,rfl⟩⟩:=yd (t:=.nm 6) (R:=[]) (b:=aC T (Cp mx ce)) (fun k env=>∃ L P o6 o7,cB o6/\cB o7/\(k<=m->G4 m k L P)/\env=EP (ns.map D.int) m s t L P o6 o7) ((List.range s).map fun (k:Nat)=>D.int (k:Int)) 0 (EP (ns.map D.int) m s t (List.range m) [] none none) ⟨_,_,none,none,aH,aH,fun _=>⟨by rw[List.append_nil];exact List.nodup_range,fun p hp=>by simpa using hp,rfl,by simp⟩,rfl⟩ (fun i d e hd J=>by
  rw[List.getElem?_map] at hd;have hi':i<s:=by
   cases q:(List.range s)[i]? with
   |none=>rw[q] at hd;cases hd
   |some z=>have:=(List.getElem?_eq_some_iff.mp q).1;rwa [bj] at this
  rw[List.getElem?_range hi'] at hd;cases hd;rw[fk] at J ⊢;obtain⟨L,P,o6,o7,t6,t7,inv,rfl⟩:=J;obtain⟨o7',L',P',t7',inv',b1,b2⟩:=Cf (T:=T) hm hc ns (s:=s) (t:=t) (show i<m by omega) hm63 (inv (by omega)) t6 t7;exact⟨_,_,b1,.inl b2,L',P',sN i,o7',aB _,t7',fun _=>inv',rfl⟩)
 have hit:fS T (.rng1 (.var 2)) (EP (ns.map D.int) m s t (List.range m) [] none none) = .ok ((List.range s).map fun (k:Nat)=>D.int (k:Int),[]):=rz ⟨_,(aI rfl rfl:ev T (.var 2) (EP (ns.map D.int) m s t (List.range m) [] none none) = .ok (.int (s:Int),.mv []))⟩ (by omega);have q':=cF hit q;simp only[List.length_map,List.length_range,Nat.zero_add] at inv;have inv:=inv hs;have nP:P.Nodup:=(jc.mp inv.nd).2.1;refine⟨iL P,qz nP,by rw[(jD P).length_eq,inv.lp],fun p hp=>inv.lt p (ak _ ((jD P).mem_iff.mp hp)),?_⟩;rw[hst];unfold bPl;rw[aC,s1,aD,aC,s2,aD,aC,q',aD];exact iE (IX (aG.sorted ⟨_,(cV rfl rfl:ev T (.var 5) (EP (ns.map D.int) m s t L P o6 o7) = .ok (.lst (gD P),.mv [5]))⟩ (by rw[inv.lp];omega)) (fT _))
noncomputable def Dj (mx ce:Nat):bJ:=(.cons (.asg (.nm 6) (.bin .Add (.cst (.int (1))) (.bin .Mod (.bin .FloorDiv (.call mx (.cons (.call ce (.cons (.var 0) (.cons (.var 5) .nil))) (.cons (.bin .Add (.var 5) (.cst (.int (29)))) .nil))) (.cst (.int (11)))) (.cst (.int (63))))) false)
  (.cons (.setix 4 .none (.ix (.var 2) (.var 5)) (.bin .BitXor (.ix (.var 4) (.ix (.var 2) (.var 5))) (.var 6)))
  .nil))
noncomputable def CH (mx ce:Nat):bJ:=(.cons (.setix 4 .none (.ix (.var 3) (.var 5)) (.bin .Mod (.bin .FloorDiv (.call mx (.cons (.call ce (.cons (.var 0) (.cons (.var 5) .nil))) (.cons (.bin .Add (.var 5) (.cst (.int (37)))) .nil))) (.cst (.int (13)))) (.cst (.int (64)))))
  .nil)
noncomputable def bSp (mx ce:Nat):bJ:=(.cons (.asg (.nm 4) (.blt .list (.cons (.var 1) .nil)) false)
  (.cons (.forr (.nm 5) (.rng1 (.blt .len (.cons (.var 2) .nil))) (Dj mx ce))
  (.cons (.forr (.nm 5) (.rng1 (.blt .len (.cons (.var 3) .nil))) (CH mx ce))
  (.cons (.ret (.var 4))
  .nil))))
abbrev ES (S:List D)(row W M l:List Nat)(o5 o6:Slot):En:=[some (.lst S,.sh []),sG row,sG W,sG M,oG l,o5,o6]
theorem lC {S:List D}{row W M l:List Nat}{o5 o6:Slot}(h5:cB o5)(h6:cB o6):Tame (ES S row W M l o5 o6):=.cons (aJ _) (.cons (aJ _) (.cons (aJ _) (.cons (aJ _) (.cons (aB _) (.cons h5 (.cons h6 .nil))))))
theorem tK {T:Tb}{mx ce:Nat}(hm:pH T mx)(hc:uh T ce)(ns:List Int){env:En}(v0:∃ R,ev T (.var 0) env = .ok (.lst (ns.map D.int),R)){k:Nat}(v5:ev T (.var 5) env = .ok (.int (k:Int),.mv []))(a b c:Int)(ha:0<=a)(hb:0<b)(hb':b<1073741824)(hc':0<c) :
  ∃ z:Nat,(z:Int)<c/\ev T (.bin .Mod (.bin .FloorDiv (.call mx (.cons (.call ce (.cons (.var 0) (.cons (.var 5) .nil))) (.cons (.bin .Add (.var 5) (.cst (.int a))) .nil))) (.cst (.int b))) (.cst (.int c))) env = .ok (.int (z:Int),.mv []):=by
 obtain⟨R0,v0⟩:=v0;obtain⟨v,hv⟩:=hc ns k;have e1:ev T (.bin .Add (.var 5) (.cst (.int a))) env = .ok (.int ((k:Int)+a),.mv []):=by
  rw[ev,v5,aA,ev,aA,aO];rfl
 obtain⟨d,hd0,hd⟩:=hm v ((k:Int)+a);have e2:=Pc.Sm.bL (Pc.Sm.bL v0 v5 hv) e1 hd;have e3:ev T (.bin .FloorDiv (.call mx (.cons (.call ce (.cons (.var 0) (.cons (.var 5) .nil))) (.cons (.bin .Add (.var 5) (.cst (.int a))) .nil))) (.cst (.int b))) env = .ok (.int (d / b),.mv []):=by
  rw[ev,e2,aA,ev,aA,aO];show (iG ((if 0<b/\b<1073741824 then some (d / b) else none).map D.int)).bind _=_;rw[if_pos ⟨hb,hb'⟩];rfl
 have h0:0<=d / b%c:=Int.emod_nonneg _ (by omega);have h1:d / b%c<c:=Int.emod_lt_of_pos _ hc';refine⟨(d / b%c).toNat,by omega,?_⟩;rw[ev,e3,aA,ev,aA,aO];show (iG ((if 0<c then some (d / b%c) else none).map D.int)).bind _=_;rw[if_pos hc',Int.toNat_of_nonneg h0];rfl
theorem iH {W:List Nat}{k p:Nat}(hk:k<W.length):p∈W.take (k+1)↔p∈W.take k\/p=W.getD k 0:=by
 rw[List.take_succ,List.getElem?_eq_getElem hk,List.mem_append,List.getD_eq_getElem?_getD,List.getElem?_eq_getElem hk];simp
theorem Az {W:List Nat}(hn:W.Nodup){k:Nat}(hk:k<W.length):W.getD k 0∉W.take k:=fun h=>by
 rw[List.getD_eq_getElem?_getD,List.getElem?_eq_getElem hk] at h;have h:W[k]∈W.take k:=h;obtain⟨i,hi,e⟩:=List.mem_iff_getElem.mp h;rw[List.getElem_take] at e;have hi':i<k:=by rw[eu] at hi;omega
 exact (List.pairwise_iff_getElem.mp hn i k (by omega) hk hi') e
theorem kC {l:List Nat}{p q x:Nat}(h:q≠p):(l.set p x).getD q 0=l.getD q 0:=by
 rw[List.getD_eq_getElem?_getD,List.getElem?_set_ne (cm h),List.getD_eq_getElem?_getD]
theorem pV {l:List Nat}{p x:Nat}(h:p<l.length):(l.set p x).getD p 0=x:=by
 rw[List.getD_eq_getElem?_getD,List.getElem?_set_self h];rfl
theorem xx {l:List Nat}(h:Gr l){p g:Nat}(hg:g<64):Gr (l.set p g):=fun z hz=>by
 rcases i9 hz with q | q
 ·exact h z q
 ·rw[q];exact hg
theorem Ft {a e:Nat}(h:e≠0):a^^^e≠a:=fun q=>h (by
 have:a^^^(a^^^e)=a^^^a:=by rw[q]
 rwa [<-bt,fu,cx] at this)
structure SpI (row:List Nat)(S:List Nat)(l:List Nat):Prop where
 gr:Gr l
 len:l.length=row.length
 ne:∀ p,p∈S->l.getD p 0≠row.getD p 0
 eq:∀ p,p∉S->l.getD p 0=row.getD p 0
theorem mem_getD {W:List Nat}{k:Nat}(hk:k<W.length):W.getD k 0∈W:=by
 rw[List.getD_eq_getElem?_getD,List.getElem?_eq_getElem hk];exact ip hk
theorem zO {T:Tb}{mx ce:Nat}(hm:pH T mx)(hc:uh T ce)(ns:List Int){row W M l:List Nat}(hr:row.length<=63)(hn:W.Nodup)(hW:∀ p∈W,p<row.length){k:Nat}(hk:k<W.length)(h:SpI row (W.take k) l){o5 o6:Slot}(h5:cB o5)(h6:cB o6) :
  ∃ l' o6',cB o6'/\SpI row (W.take (k+1)) l'/\aX [] (.nm 5) (.int (k:Int)) (ES (ns.map D.int) row W M l o5 o6)=some (ES (ns.map D.int) row W M l (sN k) o6)/\aC T (Dj mx ce) (ES (ns.map D.int) row W M l (sN k) o6) = .nx (ES (ns.map D.int) row W M l' (sN k) o6'):=by
 have te1:Tame (ES (ns.map D.int) row W M l (sN k) o6):=lC (aB _) h6;have v5:ev T (.var 5) (ES (ns.map D.int) row W M l (sN k) o6) = .ok (.int (k:Int),.mv []):=aI rfl rfl;obtain⟨z,hz,ez⟩:=tK hm hc ns (env:=ES (ns.map D.int) row W M l (sN k) o6) ⟨_,rfl⟩ v5 29 11 63 (by decide) (by decide) (by decide) (by decide);have e1:ev T (.bin .Add (.cst (.int (1))) (.bin .Mod (.bin .FloorDiv (.call mx (.cons (.call ce (.cons (.var 0) (.cons (.var 5) .nil))) (.cons (.bin .Add (.var 5) (.cst (.int (29)))) .nil))) (.cst (.int (11)))) (.cst (.int (63))))) (ES (ns.map D.int) row W M l (sN k) o6) = .ok (.int ((1+z:Nat):Int),.mv []):=by
  have c1:ev T (.cst (.int (1))) (ES (ns.map D.int) row W M l (sN k) o6) = .ok (.int 1,.mv []):=rfl;rw[ev,c1,aA,ez,aA,aO];show (iG (some (D.int (1+(z:Int))))).bind _=_;rw[show 1+(z:Int)=((1+z:Nat):Int) by omega];rfl
 have s1:bI T (.asg (.nm 6) (.bin .Add (.cst (.int (1))) (.bin .Mod (.bin .FloorDiv (.call mx (.cons (.call ce (.cons (.var 0) (.cons (.var 5) .nil))) (.cons (.bin .Add (.var 5) (.cst (.int (29)))) .nil))) (.cst (.int (11)))) (.cst (.int (63))))) false) (ES (ns.map D.int) row W M l (sN k) o6) = .nx (ES (ns.map D.int) row W M l (sN k) (sN (1+z))):=bT te1 (by simp) e1;have te2:Tame (ES (ns.map D.int) row W M l (sN k) (sN (1+z))):=lC (aB _) (aB _);have w2:ev T (.var 2) (ES (ns.map D.int) row W M l (sN k) (sN (1+z))) = .ok (.lst (gD W),.sh []):=rfl;have w4:ev T (.var 4) (ES (ns.map D.int) row W M l (sN k) (sN (1+z))) = .ok (.lst (gD l),.mv [4]):=cV rfl rfl;have w5:ev T (.var 5) (ES (ns.map D.int) row W M l (sN k) (sN (1+z))) = .ok (.int (k:Int),.mv []):=aI rfl rfl;have w6:ev T (.var 6) (ES (ns.map D.int) row W M l (sN k) (sN (1+z))) = .ok (.int ((1+z:Nat):Int),.mv []):=aI rfl rfl;have hp:W.getD k 0<l.length:=by rw[h.len];exact hW _ (mem_getD hk)
 have i1:ev T (.ix (.var 2) (.var 5)) (ES (ns.map D.int) row W M l (sN k) (sN (1+z))) = .ok (.int ((W.getD k 0:Nat):Int),.mv []):=by
  rw[ev,w2,aA,w5,aA,mq hk,aM,aA];rfl
 have i2:ev T (.ix (.var 4) (.ix (.var 2) (.var 5))) (ES (ns.map D.int) row W M l (sN k) (sN (1+z))) = .ok (.int ((l.getD (W.getD k 0) 0:Nat):Int),.mv []):=by
  rw[ev,w4,aA,i1,aA,mq hp,aM,aA];rfl
 have i3:ev T (.bin .BitXor (.ix (.var 4) (.ix (.var 2) (.var 5))) (.var 6)) (ES (ns.map D.int) row W M l (sN k) (sN (1+z))) = .ok (.int ((l.getD (W.getD k 0) 0^^^(1+z):Nat):Int),.mv []):=by
  rw[ev,i2,aA,w6,aA,aO];show (iG (some (D.int (Builtin.bitXor ((l.getD (W.getD k 0) 0:Nat):Int) ((1+z:Nat):Int))))).bind _=_;rw[cY];rfl
 have s2:=jC (T:=T) (x:=4) te2 rfl i1 (iK (n:=(gD l).length) (by rw[be];exact hp)) i3 (by rw[be];exact cT (by rw[h.len];omega));refine⟨l.set (W.getD k 0) (l.getD (W.getD k 0) 0^^^(1+z)),sN (1+z),aB _,⟨mr h.gr (by omega),by rw[List.length_set,h.len],fun p hp'=>?_,fun p hp'=>?_⟩,fM (lC h5 h6) (by simp),?_⟩
 ·by_cases e:p=W.getD k 0
  ·rw[e,pV hp,h.eq _ (Az hn hk)];exact Ft (by omega)
  ·rw[kC e];exact h.ne p (((iH hk).mp hp').resolve_right e)
 ·have e:p≠W.getD k 0:=fun e=>hp' ((iH hk).mpr (.inr e))
  rw[kC e];exact h.eq p fun q=>hp' ((iH hk).mpr (.inl q))
 ·unfold Dj;rw[aC,s1,aD,aC,s2,aD,kM];rfl
structure SqI (M l0 l:List Nat):Prop where
 gr:Gr l
 len:l.length=l0.length
 eq:∀ p,p∉M->l.getD p 0=l0.getD p 0
theorem Bk {T:Tb}{mx ce:Nat}(hm:pH T mx)(hc:uh T ce)(ns:List Int){row W M l0 l:List Nat}(hr:l0.length<=63)(hM:∀ p∈M,p<l0.length){k:Nat}(hk:k<M.length)(h:SqI M l0 l){o5 o6:Slot}(h5:cB o5)(h6:cB o6) :
  ∃ l',SqI M l0 l'/\aX [] (.nm 5) (.int (k:Int)) (ES (ns.map D.int) row W M l o5 o6)=some (ES (ns.map D.int) row W M l (sN k) o6)/\aC T (CH mx ce) (ES (ns.map D.int) row W M l (sN k) o6) = .nx (ES (ns.map D.int) row W M l' (sN k) o6):=by
 have te1:Tame (ES (ns.map D.int) row W M l (sN k) o6):=lC (aB _) h6;have v5:ev T (.var 5) (ES (ns.map D.int) row W M l (sN k) o6) = .ok (.int (k:Int),.mv []):=aI rfl rfl;have v3:ev T (.var 3) (ES (ns.map D.int) row W M l (sN k) o6) = .ok (.lst (gD M),.sh []):=rfl;obtain⟨z,hz,ez⟩:=tK hm hc ns (env:=ES (ns.map D.int) row W M l (sN k) o6) ⟨_,rfl⟩ v5 37 13 64 (by decide) (by decide) (by decide) (by decide);have hp:M.getD k 0<l.length:=by rw[h.len];exact hM _ (mem_getD hk)
 have i1:ev T (.ix (.var 3) (.var 5)) (ES (ns.map D.int) row W M l (sN k) o6) = .ok (.int ((M.getD k 0:Nat):Int),.mv []):=by
  rw[ev,v3,aA,v5,aA,mq hk,aM,aA];rfl
 have s2:=jC (T:=T) (x:=4) te1 rfl i1 (iK (n:=(gD l).length) (by rw[be];exact hp)) ez (by rw[be];exact cT (by rw[h.len];omega));refine⟨l.set (M.getD k 0) z,⟨xx h.gr (by omega),by rw[List.length_set,h.len],fun p hp'=>?_⟩,fM (lC h5 h6) (by simp),?_⟩
 ·rw[kC fun e=>hp' (by rw[e];exact mem_getD hk)];exact h.eq p hp'
 ·unfold CH;rw[aC,s2,aD,kM];rfl
theorem w9 {n i:Nat}{d:D}(hd:((List.range n).map fun (k:Nat)=>D.int (k:Int))[i]? = some d):i<n/\d = .int (i:Int):=by
 rw[List.getElem?_map] at hd;have hi':i<n:=by
  cases q:(List.range n)[i]? with
  |none=>rw[q] at hd;cases hd
  |some z=>have:=(List.getElem?_eq_some_iff.mp q).1;rwa [bj] at this
 rw[List.getElem?_range hi'] at hd;cases hd;exact⟨hi',rfl⟩
theorem BV {T:Tb}{mx ce:Nat}(hm:pH T mx)(hc:uh T ce)(ns:List Int){row W M:List Nat}(hg:Gr row)(hr:row.length<=63)(hn:W.Nodup)(hW:∀ p∈W,p<row.length)(hM:∀ p∈M,p<row.length)(lW:W.length<=63)(lM:M.length<=63) :
  ∃ l,Gr l/\l.length=row.length/\(∀ p,p∉M->p∈W->l.getD p 0≠row.getD p 0)/\(∀ p,p∉M->p∉W->l.getD p 0=row.getD p 0)/\Pc.ret (aC T (bSp mx ce) (aF [.lst (ns.map D.int),.lst (gD row),.lst (gD W),.lst (gD M)] 7)) = .ok (.lst (gD l),true):=by
 have hst:aF [.lst (ns.map D.int),.lst (gD row),.lst (gD W),.lst (gD M)] 7=[some (.lst (ns.map D.int),.sh []),sG row,sG W,sG M,none,none,none]:=rfl;have te0:Tame [some (.lst (ns.map D.int),.sh []),sG row,sG W,sG M,none,none,none]:=.cons (aJ _) (.cons (aJ _) (.cons (aJ _) (.cons (aJ _) (.cons aH (.cons aH (.cons aH .nil))))));have c0:ev T (.blt .list (.cons (.var 1) .nil)) [some (.lst (ns.map D.int),.sh []),sG row,sG W,sG M,none,none,none] = .ok (.lst (gD row),.mv []):=by
  have h1:bQ T (.cons (.var 1) .nil) [some (.lst (ns.map D.int),.sh []),sG row,sG W,sG M,none,none,none] = .ok [(.lst (gD row),.sh [])]:=rfl;rw[ev,h1,aA];show (Rs.ok (Pc.D.lst (gD row))).bind _=_;rw[aA,cZ (fT _)]
 have s0:bI T (.asg (.nm 4) (.blt .list (.cons (.var 1) .nil)) false) [some (.lst (ns.map D.int),.sh []),sG row,sG W,sG M,none,none,none] = .nx (ES (ns.map D.int) row W M row none none):=bT te0 (by simp) c0;obtain⟨e1,q1,⟨l1,o5,o6,t5,t6,i1,rfl⟩⟩:=yd (t:=.nm 5) (R:=[]) (b:=aC T (Dj mx ce)) (fun k env=>∃ l o5 o6,cB o5/\cB o6/\SpI row (W.take k) l/\env=ES (ns.map D.int) row W M l o5 o6) ((List.range W.length).map fun (k:Nat)=>D.int (k:Int)) 0 (ES (ns.map D.int) row W M row none none) ⟨row,none,none,aH,aH,⟨hg,rfl,fun p hp=>by simp at hp,fun _ _=>rfl⟩,rfl⟩ (fun i d e hd J=>by
  obtain⟨hi,rfl⟩:=w9 hd;rw[fk] at J ⊢;obtain⟨l,o5,o6,t5,t6,inv,rfl⟩:=J;obtain⟨l',o6',t6',inv',b1,b2⟩:=zO (T:=T) (M:=M) hm hc ns hr hn hW hi inv t5 t6;exact⟨_,_,b1,.inl b2,l',sN i,o6',aB _,t6',inv',rfl⟩)
 have r1:=cF (rz ⟨_,iF (T:=T) (env:=ES (ns.map D.int) row W M row none none) (i:=2) (gs:=W) (t:=.sh []) rfl⟩ (by omega)) q1;simp only[List.length_map,List.length_range,Nat.zero_add,List.take_length] at i1;obtain⟨e2,q2,⟨l2,p5,p6,u5,u6,i2,rfl⟩⟩:=yd (t:=.nm 5) (R:=[]) (b:=aC T (CH mx ce)) (fun k env=>∃ l o5 o6,cB o5/\cB o6/\SqI M l1 l/\env=ES (ns.map D.int) row W M l o5 o6) ((List.range M.length).map fun (k:Nat)=>D.int (k:Int)) 0 (ES (ns.map D.int) row W M l1 o5 o6) ⟨l1,o5,o6,t5,t6,⟨i1.gr,rfl,fun _ _=>rfl⟩,rfl⟩ (fun i d e hd J=>by
  obtain⟨hi,rfl⟩:=w9 hd;obtain⟨l,o5,o6,t5,t6,inv,rfl⟩:=J;obtain⟨l',inv',b1,b2⟩:=Bk (T:=T) (row:=row) (W:=W) hm hc ns (by rw[i1.len];exact hr) (fun p hp=>by rw[i1.len];exact hM p hp) hi inv t5 t6;exact⟨_,_,b1,.inl b2,l',sN i,o6,aB _,t6,inv',rfl⟩)
 have r2:=cF (rz ⟨_,iF (T:=T) (env:=ES (ns.map D.int) row W M l1 o5 o6) (i:=3) (gs:=M) (t:=.sh []) rfl⟩ (by omega)) q2;refine⟨l2,i2.gr,by rw[i2.len,i1.len],fun p h1 h2=>by rw[i2.eq p h1];exact i1.ne p h2,fun p h1 h2=>by rw[i2.eq p h1];exact i1.eq p h2,?_⟩;rw[hst];unfold bSp;rw[aC,s0,aD,aC,r1,aD,aC,r2,aD];rw[aC,bI,(cV rfl rfl:ev T (.var 4) (ES (ns.map D.int) row W M l2 p5 p6) = .ok (.lst (gD l2),.mv [4])),aS];rfl
def Hf (T:Tb)(sp:Nat):Prop:=∀(ns:List Int) (row W M:List Nat),Gr row->row.length<=63->W.Nodup->(∀ p∈W,p<row.length)->(∀ p∈M,p<row.length)->W.length<=63->M.length<=63->∃ l,Gr l/\l.length=row.length/\(∀ p,p∉M->p∈W->l.getD p 0≠row.getD p 0)/\(∀ p,p∉M->p∉W->l.getD p 0=row.getD p 0)/\T.cl sp [.lst (ns.map D.int),.lst (gD row),.lst (gD W),.lst (gD M)] = .ok (.lst (gD l),true)
section
variable {T:Tb}{env:En}{d:D}
theorem Cr {op:Operator}{a b:Ex}(h:aG T (.bin op a b) env d)(hd:d.inner=true):ev T (.bin op a b) env = .ok (d,.mv []):=by
 obtain⟨R,h⟩:=h;have h':=h;rw[ev] at h;obtain⟨p,_,h⟩:=dP h;obtain⟨q,_,h⟩:=dP h;obtain⟨z,_,h⟩:=dP h;have:=nT h;rw[f9] at this;obtain⟨rfl,e⟩:=this;rw[h',<-e];unfold kJ;rw[if_pos hd]
theorem ixM {a i:Ex}(h:aG T (.ix a i) env d)(hd:d.flat=true):ev T (.ix a i) env = .ok (d,.mv []):=by
 obtain⟨R,h⟩:=h;have h':=h;rw[ev] at h;obtain⟨p,_,h⟩:=dP h;obtain⟨q,_,h⟩:=dP h;obtain⟨z,_,h⟩:=dP h;have:=nT h;rw[f9] at this;obtain⟨rfl,e⟩:=this;rw[h',<-e];unfold uN;rw[if_pos hd]
theorem varM {i:Nat}(h:aG T (.var i) env d)(hd:d.flat=true):ev T (.var i) env = .ok (d,.mv []):=by
 obtain⟨R,h⟩:=h;cases q:env[i]? with
 |none=>rw[ev,q] at h;cases h
 |some o =>
  cases o with
  |none=>rw[ev,q] at h;cases h
  |some p =>
   obtain⟨d',t⟩:=p;rw[ev,q] at h;have:=nT h;rw[f9] at this;obtain⟨rfl,e⟩:=this;exact aI q hd
theorem ze:∀{l:List (D×Rt)}{gs:List Nat},l.map (·.1)=gD gs->l.all (fun q=>q.1.flat || fJ q.2)=true
 |[],_,_=>rfl
 |p::l,[],h=>by cases h
 | p::l,g::gs,h=>by
  have h1:p.1 = .int (g:Int):=(List.cons.inj h).1;have h2:l.map (·.1)=gD gs:=(List.cons.inj h).2;rw[dk,ze h2,h1];rfl
theorem DT {o:Nat}{pick:List Nat}{t:pE}{it:sO}{c:rk}{e:Ex}{gs:List Nat}(h:aG T (.comp o pick t it c e) env (.lst (gD gs))):ev T (.comp o pick t it c e) env = .ok (.lst (gD gs),.mv []):=by
 obtain⟨R,h⟩:=h;have h':=h;rw[ev] at h;obtain⟨p,_,h⟩:=dP h;obtain⟨q,_,h⟩:=dP h;split at h
 ·have:=nT h;rw[f9] at this;obtain⟨e1,e2⟩:=this;have e1:q.map (·.1)=gD gs:=by injection e1
  rw[ze e1,if_pos rfl] at e2;rw[h',<-e2]
 ·cases h
theorem xh (l:List Nat):(D.lst (gD l)).inner=true:=fT l
theorem aG.call4 {f:Nat}{r:D}{fr:Bool}{a b c g:Ex}{x y z w:D}(h:aG T a env x)(h2:aG T b env y)(h3:aG T c env z)(h4:aG T g env w)(e:T.cl f [x,y,z,w] = .ok (r,fr)):aG T (.call f (.cons a (.cons b (.cons c (.cons g .nil))))) env r:=by
 obtain⟨R,h⟩:=h;obtain⟨R2,h2⟩:=h2;obtain⟨R3,h3⟩:=h3;obtain⟨R4,h4⟩:=h4;exact⟨_,by rw[ev,bQ,h,aA,bQ,h2,aA,bQ,h3,aA,bQ,h4,aA,bQ,aA,aA,aA,aA,aA];show (T.cl f [x,y,z,w]).bind _=_;rw[e,aA]⟩
end
structure Tv (env:En)(vs:List (Option (D×Bool))):Prop where
 len:env.length=vs.length
 tm:Tame env
 at':∀(j:Nat) (d:D) (b:Bool),vs[j]? = some (some (d,b))->∃ t,env[j]? = some (some (d,t))/\(b=true->t = .own)
section
variable {T:Tb}{env:En}{vs:List (Option (D×Bool))}{d:D}
theorem Tv.vw (h:Tv env vs):Vw env (vs.map fun o=>o.map (·.1)):=by
 refine⟨by rw[aj];exact h.len,fun j d e=>?_⟩;rw[List.getElem?_map] at e;cases q:vs[j]? with
 |none=>rw[q] at e;cases e
 |some o =>
  cases o with
  |none=>rw[q] at e;cases e
  |some p =>
   rw[q] at e;cases e;obtain⟨t,a,_⟩:=h.at' j p.1 p.2 q;exact⟨t,a⟩
theorem Tv.own (h:Tv env vs){i:Nat}(e:vs[i]? = some (some (d,true))):env[i]? = some (some (d,.own)):=by
 obtain⟨t,a,b⟩:=h.at' i d true e;rw[a,b rfl]
theorem Tv.var (h:Tv env vs){i:Nat}{b:Bool}(e:vs[i]? = some (some (d,b))):aG T (.var i) env d:=by
 obtain⟨t,a,_⟩:=h.at' i d b e;rw[aG,ev,a];exact⟨_,rfl⟩
theorem Tv.set (h:Tv env vs)(i:Nat)(d:D)(t:Tg)(b:Bool)(ht:cB (some (d,t)))(hb:b=true->t = .own):Tv (env.set i (some (d,t))) (vs.set i (some (d,b))):=by
 refine⟨by rw[aq,aq];exact h.len,h.tm.set ht i,fun j x y e=>?_⟩;by_cases hj:i=j
 ·subst hj;have hl:i<vs.length:=by
   have:=(List.getElem?_eq_some_iff.mp e).1
   rwa [aq] at this
  rw[List.getElem?_set_self hl] at e;cases e;exact⟨t,List.getElem?_set_self (by rw[h.len];exact hl),hb⟩
 ·rw[List.getElem?_set_ne hj] at e;rw[List.getElem?_set_ne hj];exact h.at' j x y e
theorem Tv.asg (h:Tv env vs){i:Nat}(hi:i<vs.length){e:Ex}(he:ev T e env = .ok (d,.mv [])):∃ env',bI T (.asg (.nm i) e false) env = .nx env'/\Tv env' (vs.set i (some (d,true))) :=
 ⟨_,bT h.tm (by rw[h.len];exact hi) he,h.set i d .own true (aB _) fun _=>rfl⟩
theorem Tv.asgS (h:Tv env vs){i:Nat}(hi:i<vs.length){e:Ex}{R:Rt}(hR:R = .mv []\/R = .sh [])(he:ev T e env = .ok (d,R)):∃ env',bI T (.asg (.nm i) e false) env = .nx env'/\Tv env' (vs.set i (some (d,false))):=by
 rcases hR with rfl | rfl
 ·exact⟨_,bT h.tm (by rw[h.len];exact hi) he,h.set i d .own false (aB _) fun h=>by cases h⟩
 ·refine⟨_,?_,h.set i d (.sh []) false (aJ _) fun h=>by cases h⟩;rw[bI,he,aS];show (if i<env.length then _ else _)=_;rw[if_pos (by rw[h.len];exact hi)];show Fl.nx (put env i d (.sh []))=_;rw[gJ h.tm]
theorem Tv.setg (h:Tv env vs){x:Nat}{l:List Nat}(hx:vs[x]? = some (some (.lst (gD l),true))){k e:Ex}{p z:Nat}(hk:aG T k env (.int (p:Int)))(hp:p<l.length)(hl:l.length<=1000)(he:ev T e env = .ok (.int (z:Int),.mv [])):∃ env',bI T (.setix x .none k e) env = .nx env'/\Tv env' (vs.set x (some (.lst (gD (l.set p z)),true))):=by
 obtain⟨R,hk⟩:=hk;have:=jC (T:=T) (x:=x) h.tm (h.own hx) hk (iK (n:=(gD l).length) (by rw[be];exact hp)) he (by rw[be];exact cT hl);rw[kM] at this;exact⟨_,this,h.set x _ .own true (aB _) fun _=>rfl⟩
theorem Tv.start (ds:List D)(n:Nat):Tv (aF ds n) (ds.map (fun d=>some (d,false))++List.replicate (n - ds.length) none):=by
 unfold aF;refine⟨by simp,fun s hs=>?_,fun j d b e=>?_⟩
 ·rcases List.mem_append.mp hs with q | q
  ·obtain⟨d,_,rfl⟩:=List.mem_map.mp q;unfold cI;split
   ·exact aB _
   ·exact aJ _
  ·rw[List.eq_of_mem_replicate q];exact aH
 ·by_cases hj:j<ds.length
  ·rw[List.getElem?_append_left (by rw[aj];exact hj),List.getElem?_map] at e;rw[List.getElem?_append_left (by rw[aj];exact hj),List.getElem?_map];cases q:ds[j]? with
   |none=>rw[q] at e;cases e
   |some x=>rw[q] at e;cases e;exact⟨_,rfl,fun h=>by cases h⟩
  ·rw[List.getElem?_append_right (by rw[aj];omega),List.getElem?_replicate] at e;split at e<;>cases e
end
end Pc.Vw
end
section
namespace Pc.Vw
open PySem Pc Pc.Sm Pc.Gr Fl64 Md
theorem uU {T:Tb}{env:En}{a b c:Ex}{x y z:D}{f:Nat}{r:D}(h:aG T a env x)(h2:aG T b env y)(h3:aG T c env z)(e:T.cl f [x,y,z] = .ok (r,true)):ev T (.call f (.cons a (.cons b (.cons c .nil)))) env = .ok (r,.mv []):=by
 obtain⟨R,h⟩:=h;obtain⟨R2,h2⟩:=h2;obtain⟨R3,h3⟩:=h3;rw[ev,bQ,h,aA,bQ,h2,aA,bQ,h3,aA,bQ,aA,aA,aA,aA];show (T.cl f [x,y,z]).bind _=_;rw[e,aA];rfl
theorem vV {T:Tb}{wa cn su ch:Nat}(hw:tJ T wa)(hc:A4 T cn)(hs:Dq T su)(hch:Dy T ch){env:En}{g mi:List Nat}{c:Nat}(gg:Gr g)(lg:g.length<=63)(lm:mi.length<=63)(lc:c<=62)(hm:∀ p∈mi,p<g.length){b0 b1 b2:Bool}{w3 w4 w5 w6:Option (D×Bool)}(T0:Tv env [some (.lst (gD g),b0),some (.lst (gD mi),b1),some (.int (c:Int),b2),w3,w4,w5,w6]) :
  ∃ e,(∀ r,aC T (.cons (.asg (.nm 3) (.comp 1 [0] (.nm 0) (.seq (.call cn (.cons (.var 2) .nil))) .none (.call wa (.cons (.var 1) (.cons (.var 0) .nil)))) false)
  (.cons (.asg (.nm 4) (.bin .Add (.blt .list (.cons (.var 1) .nil)) (.call su (.cons (.var 3) (.cons (.var 1) (.cons (.blt .len (.cons (.var 0) .nil)) .nil))))) false)
  (.cons (.asg (.nm 5) (.call ch (.cons (.var 0) (.cons (.var 4) (.cons (.var 3) .nil)))) false)
  (.cons (.asg (.nm 6) (.comp 1 [0,5,1] (.nm 0) (.rng1 (.blt .len (.cons (.var 0) .nil))) (.some (.and (.cmp .NotIn (.var 0) (.var 3)) (.cmp .NotEq (.ix (.var 2) (.var 0)) (.ix (.var 1) (.var 0))))) (.var 0)) false) r)))) env=aC T r e)/\Tv e [some (.lst (gD g),b0),some (.lst (gD mi),b1),some (.int (c:Int),b2),some (.lst (gD (aU g c)),true),some (.lst (gD (uf g mi c)),true),some (.lst (gD (bP g mi c)),true),some (.lst (gD (aT g (bP g mi c) mi)),true)]:=by
 have V:Vw env [lD g,lD mi,nD c,w3.map (·.1),w4.map (·.1),w5.map (·.1),w6.map (·.1)]:=T0.vw;have gw:=iU gg c;have lw:=k6 g c;obtain⟨R1,i1⟩:=Fw (T:=T) (aG.me (V.var (i:=2) rfl) (hc c (by omega)));have pk0:∀(j:Nat) (d:D),[lD g][j]? = some (some d)->∃ i,[0][j]? = some i/\[lD g,lD mi,nD c,w3.map (·.1),w4.map (·.1),w5.map (·.1),w6.map (·.1)][i]? = some (some d):=fun j d e=>by
  cases j with
  |zero=>exact⟨0,rfl,e⟩
  |succ j=>cases e
 have c1:aG T (.comp 1 [0] (.nm 0) (.seq (.call cn (.cons (.var 2) .nil))) .none (.call wa (.cons (.var 1) (.cons (.var 0) .nil)))) env (.lst (gD (aU g c))):=DD i1 (by rw[jR];omega) (fun a ha=>by
  obtain⟨_,W⟩:=V.picked (pick:=[0]) (ws:=[lD g]) pk0 rfl (.int (a:Int));exact aG.bL (W.var (i:=1) rfl) (W.var (i:=0) rfl) (hw g a (kQ c a ha))) (V.picked (pick:=[0]) (ws:=[lD g]) pk0 rfl .non).1
 obtain⟨e1,q1,T1⟩:=T0.asg (T:=T) (i:=3) (show (3:Nat)<7 by decide) (DT c1);have V1:Vw e1 [lD g,lD mi,nD c,lD (aU g c),w4.map (·.1),w5.map (·.1),w6.map (·.1)]:=T1.vw;obtain⟨fr,h2⟩:=hs (aU g c) mi g.length gw (by omega) lm hm lg;have sl:=Bl (aU g c) mi g.length;obtain⟨e2,q2,T2⟩:=T1.asg (T:=T) (i:=4) (show (4:Nat)<7 by decide) (Cr (aG.bin (op:=.Add) (aG.blt1 (k:=.list) (V1.var (i:=1) rfl) (z:=.lst (gD mi)) rfl) (aG.call3 (V1.var (i:=3) rfl) (V1.var (i:=1) rfl) (V1.len (i:=0) rfl) h2) (z:=.lst (gD (uf g mi c))) (by
  show ck ((gD mi).length+(gD (susp (aU g c) mi g.length)).length) (.lst (gD mi++gD (susp (aU g c) mi g.length)))=_;unfold ck;rw[if_pos (by rw[be,be];exact cT (by omega)),ki])) (xh _))
 have V2:Vw e2 [lD g,lD mi,nD c,lD (aU g c),lD (uf g mi c),w5.map (·.1),w6.map (·.1)]:=T2.vw;obtain⟨e3,q3,T3⟩:=T2.asg (T:=T) (i:=5) (show (5:Nat)<7 by decide) (uU (V2.var (i:=0) rfl) (V2.var (i:=4) rfl) (V2.var (i:=3) rfl) (hch g (uf g mi c) (aU g c) gg gw lg (by rw[df];omega) (by omega) (fun p hp=>(List.mem_append.mp hp).elim (hm p) zo)));have V3:Vw e3 [lD g,lD mi,nD c,lD (aU g c),lD (uf g mi c),lD (bP g mi c),w6.map (·.1)]:=T3.vw;have pk3:∀(j:Nat) (d:D),[lD g,lD (bP g mi c),lD mi][j]? = some (some d)->∃ i,[0,5,1][j]? = some i/\[lD g,lD mi,nD c,lD (aU g c),lD (uf g mi c),lD (bP g mi c),w6.map (·.1)][i]? = some (some d):=fun j d e=>by
  cases j with
  |zero=>exact⟨0,rfl,e⟩
  |succ j=>cases j with
   |zero=>exact⟨5,rfl,e⟩
   |succ j=>cases j with
    |zero=>exact⟨1,rfl,e⟩
    |succ j=>cases e
 have tl:=qH g mi c;have c4:aG T (.comp 1 [0,5,1] (.nm 0) (.rng1 (.blt .len (.cons (.var 0) .nil))) (.some (.and (.cmp .NotIn (.var 0) (.var 3)) (.cmp .NotEq (.ix (.var 2) (.var 0)) (.ix (.var 1) (.var 0))))) (.var 0)) e3 (.lst (gD (aT g (bP g mi c) mi))):=xy (l:=List.range g.length) (rz (V3.len (i:=0) rfl) (by omega)) (by rw[bj];omega) (fun a ha=>by
  obtain⟨_,W⟩:=V3.picked (pick:=[0,5,1]) (ws:=[lD g,lD (bP g mi c),lD mi]) pk3 rfl (.int (a:Int));have al:=List.mem_range.mp ha;refine aG.and (k:=!mi.contains a) (aG.cmp (W.var (i:=0) rfl) (W.var (i:=3) rfl) (by show (inD _ _).map _=_;rw[vR];rfl)) (fun hk=>aG.cmp (aG.ix (W.var (i:=2) rfl) (W.var (i:=0) rfl) (mq (by omega))) (aG.ix (W.var (i:=1) rfl) (W.var (i:=0) rfl) (mq al)) ?_) (fun hk=>by rw[hk];rfl);rw[hk,iw];show some (!((((bP g mi c).getD a 0:Nat):Int)==((g.getD a 0:Nat):Int)))=_;congr 1;rw[eo];simp only[Bool.not_eq_true',beq_eq_false_iff_ne,bne_iff_ne,ne_eq];omega) (V3.picked (pick:=[0,5,1]) (ws:=[lD g,lD (bP g mi c),lD mi]) pk3 rfl .non).1
 obtain⟨e4,q4,T4⟩:=T3.asg (T:=T) (i:=6) (show (6:Nat)<7 by decide) (DT c4);refine⟨e4,fun r=>?_,T4⟩;rw[aC,q1,aD,aC,q2,aD,aC,q3,aD,aC,q4,aD]
noncomputable def vS (wa cn ic su ch:Nat):Rb:=.seq .nil Ac 0 (.seq (bMDm wa cn su ch) (Ar ic) 0 (.fin (.cons (.ret (.tup (.cons (.var 5) (.cons (.var 6) .nil)))) .nil)))
noncomputable def Ip (wa cn ic su ch:Nat):bJ:=(vS wa cn ic su ch).ask
noncomputable def nu (g mi:List Nat)(c:Nat):D:=if c<mi.length\/xU g mi c=true then .non else Cc g mi c
theorem CW {T:Tb}{wa cn ic su ch:Nat}(hw:tJ T wa)(hc:A4 T cn)(hi:C8 T ic)(hs:Dq T su)(hch:Dy T ch){g mi:List Nat}{c:Nat}(gg:Gr g)(lg:g.length<=63)(lm:mi.length<=63)(lc:c<=62)(hm:∀ p∈mi,p<g.length) :
  Pc.ret (aC T (Ip wa cn ic su ch) (aF [.lst (gD g),.lst (gD mi),.int (c:Int)] 7)) = .ok (nu g mi c,true):=by
 have T0:Tv (aF [.lst (gD g),.lst (gD mi),.int (c:Int)] 7) [some (.lst (gD g),false),some (.lst (gD mi),false),some (.int (c:Int),false),none,none,none,none]:=Tv.start _ 7;have V0:Vw (aF [.lst (gD g),.lst (gD mi),.int (c:Int)] 7) [lD g,lD mi,nD c,none,none,none,none]:=T0.vw;obtain⟨e,q,TT⟩:=vV hw hc hs hch gg lg lm lc hm T0;have V:Vw e [lD g,lD mi,nD c,lD (aU g c),lD (uf g mi c),lD (bP g mi c),lD (aT g (bP g mi c) mi)]:=TT.vw;show Pc.ret (aC T (.cons (.ite Ac (.cons .retN .nil) .nil) _) _)=_;rw[aC,mF (D8 V0)];by_cases h1:c<mi.length
 ·have e1:nu g mi c = .non:=if_pos (Or.inl h1);rw[cq h1,e1,if_pos rfl,aC,bI];rfl
 rw[cj h1];simp only[Bool.false_eq_true,if_false];rw[aC,aD];refine (iy Pc.ret (q (.cons (.ite (Ar ic) (.cons .retN .nil) .nil) (.cons (.ret (.tup (.cons (.var 5) (.cons (.var 6) .nil)))) .nil)))).trans ?_;rw[aC,mF (DM hi lc V)];by_cases h2:xU g mi c=true
 ·have e1:nu g mi c = .non:=if_pos (Or.inr h2);rw[h2,e1,if_pos rfl,aC,bI];rfl
 rw[ir] at h2;rw[h2];simp only[Bool.false_eq_true,if_false];have e1:nu g mi c=Cc g mi c:=if_neg (by simp[h1,h2]);rw[aC,aD,e1];have o5:=TT.own (i:=5) rfl;have o6:=TT.own (i:=6) rfl;have f5:(D.lst (gD (bP g mi c))).flat=false:=rfl;have f6:(D.lst (gD (aT g (bP g mi c) mi))).flat=false:=rfl;have h:ev T (.tup (.cons (.var 5) (.cons (.var 6) .nil))) e = .ok (Cc g mi c,.mv [5,6]):=by
  rw[ev,bQ,ev,o5];dsimp only;rw[aA,bQ,ev,o6];dsimp only;rw[aA,bQ,aA,aA,aA];rfl
 rw[aC,bI,h,aS];show Rs.ok (Cc g mi c,bV e [5,6])=_;have:bV e [5,6]=true:=by
  unfold bV;simp only[List.all_cons,List.all_nil,o5,o6];rfl
 rw[this]
noncomputable def HX (wa cn ic su ch:Nat):bJ:=(vS wa cn ic su ch).rfd
noncomputable def uR (g mi:List Nat)(c:Nat):Bool:=decide (c<mi.length) || xU g mi c
theorem Cm {T:Tb}{wa cn ic su ch:Nat}(hw:tJ T wa)(hc:A4 T cn)(hi:C8 T ic)(hs:Dq T su)(hch:Dy T ch){g mi:List Nat}{c:Nat}(gg:Gr g)(lg:g.length<=63)(lm:mi.length<=63)(lc:c<=62)(hm:∀ p∈mi,p<g.length) :
  Pc.ret (aC T (HX wa cn ic su ch) (aF [.lst (gD g),.lst (gD mi),.int (c:Int)] 7)) = .ok (.bl (uR g mi c),true):=by
 have T0:Tv (aF [.lst (gD g),.lst (gD mi),.int (c:Int)] 7) [some (.lst (gD g),false),some (.lst (gD mi),false),some (.int (c:Int),false),none,none,none,none]:=Tv.start _ 7;have V0:Vw _ [lD g,lD mi,nD c,none,none,none,none]:=T0.vw;obtain⟨e,q,TT⟩:=vV hw hc hs hch gg lg lm lc hm T0;have V:Vw e [lD g,lD mi,nD c,lD (aU g c),lD (uf g mi c),lD (bP g mi c),lD (aT g (bP g mi c) mi)]:=TT.vw;show Pc.ret (aC T (.cons (.ite Ac (.cons (.ret (.cst (.bl true))) .nil) .nil) _) _)=_;unfold uR;rw[aC,mF (D8 V0)];by_cases h1:c<mi.length
 ·rw[cq h1,if_pos rfl,aC,bI,ev,eZ];rfl
 rw[cj h1];simp only[Bool.false_eq_true,if_false];rw[aC,aD];refine (iy Pc.ret (q (.cons (.ite (Ar ic) (.cons (.ret (.cst (.bl true))) .nil) .nil) (.cons (.expr (.tup (.cons (.var 5) (.cons (.var 6) .nil)))) (.cons (.ret (.cst (.bl false))) .nil))))).trans ?_;rw[aC,mF (DM hi lc V)];by_cases h2:xU g mi c=true
 ·rw[h2,if_pos rfl,aC,bI,ev,eZ];rfl
 rw[ir] at h2;rw[h2];simp only[Bool.false_eq_true,if_false];obtain⟨R,ht⟩:=aG.tup2 (T:=T) (V.var (i:=5) rfl) (V.var (i:=6) rfl);rw[aC,aD,aC,bI,ht,eZ,aD,aC,bI,ev,eZ];rfl
end Pc.Vw
end
section
namespace Pc.Vw
open PySem Pc Pc.Sm Pc.Gr Pc.Lw Fl64 Md
theorem sq {T:Tb}{env e:En}{s:St}{r:bJ}{x:Rs (D×Bool)}(h:bI T s env = .nx e)(h':Pc.ret (aC T r e)=x):Pc.ret (aC T (.cons s r) env)=x:=by
 rw[aC,h,aD];exact h'
theorem Ei {T:Tb}{env:En}:aC T .nil env = .nx env:=by rw[aC]
theorem nH {T:Tb}{env:En}{a:Ex}{x:Nat}(b:Nat)(hb:0<b)(hb':b<1073741824)(h:aG T a env (.int (x:Int))):aG T (.bin .FloorDiv a (.cst (.int (b:Int)))) env (.int ((x / b:Nat):Int)):=aG.bin h (aG.cst _) (by
 rw[aO];show ((if 0<(b:Int)/\(b:Int)<1073741824 then some ((x:Int) / (b:Int)) else none).map D.int)=_;rw[if_pos (by omega),Int.natCast_ediv];rfl)
theorem ou {T:Tb}{env:En}{a e:Ex}{x b:Nat}(hb:0<b)(h:aG T a env (.int (x:Int)))(h':aG T e env (.int (b:Int))):aG T (.bin .Mod a e) env (.int ((x%b:Nat):Int)):=aG.bin h h' (by
 rw[aO];show ((if 0<(b:Int) then some ((x:Int)%(b:Int)) else none).map D.int)=_;rw[if_pos (by omega),Int.natCast_emod];rfl)
theorem kS {T:Tb}{env:En}{a e:Ex}{x b:Nat}(h:aG T a env (.int (x:Int)))(h':aG T e env (.int (b:Int))):aG T (.bin .Add a e) env (.int ((x+b:Nat):Int)):=aG.bin h h' (by
 show some (D.int ((x:Int)+(b:Int)))=_;congr 2)
theorem Ew {T:Tb}{env:En}{a e:Ex}{x b:Nat}(hb:b<=x)(h:aG T a env (.int (x:Int)))(h':aG T e env (.int (b:Int))):aG T (.bin .Sub a e) env (.int ((x - b:Nat):Int)):=aG.bin h h' (by
 show some (D.int ((x:Int) - (b:Int)))=_;congr 2;omega)
theorem lit {T:Tb}{env:En}(b:Nat):aG T (.cst (.int (b:Int))) env (.int (b:Int)):=aG.cst _
theorem Br {T:Tb}{env:En}{a b:Ex}{x y:D}{f:Nat}{r:D}(h:aG T a env x)(h2:aG T b env y)(e:T.cl f [x,y] = .ok (r,true)):ev T (.call f (.cons a (.cons b .nil))) env = .ok (r,.mv []):=by
 obtain⟨R,h⟩:=h;obtain⟨R2,h2⟩:=h2;rw[ev,bQ,h,aA,bQ,h2,aA,bQ,aA,aA,aA];show (T.cl f [x,y]).bind _=_;rw[e,aA];rfl
theorem vv {T:Tb}{env:En}{a b c g:Ex}{x y z w:D}{f:Nat}{r:D}(h:aG T a env x)(h2:aG T b env y)(h3:aG T c env z)(h4:aG T g env w)(e:T.cl f [x,y,z,w] = .ok (r,true)):ev T (.call f (.cons a (.cons b (.cons c (.cons g .nil))))) env = .ok (r,.mv []):=by
 obtain⟨R,h⟩:=h;obtain⟨R2,h2⟩:=h2;obtain⟨R3,h3⟩:=h3;obtain⟨R4,h4⟩:=h4;rw[ev,bQ,h,aA,bQ,h2,aA,bQ,h3,aA,bQ,h4,aA,bQ,aA,aA,aA,aA,aA];show (T.cl f [x,y,z,w]).bind _=_;rw[e,aA];rfl
theorem FY {T:Tb}{env:En}{a b:Ex}{x y:D}{f:Nat}{r:D}{fr:Bool}(h:ev T a env = .ok (x,.mv []))(h2:ev T b env = .ok (y,.mv []))(e:T.cl f [x,y] = .ok (r,fr)):∃ R:Rt,(R = .mv []\/R = .sh [])/\ev T (.call f (.cons a (.cons b .nil))) env = .ok (r,R):=by
 refine⟨if fr=true then .mv [] else .sh [],by cases fr;exact .inr rfl;exact .inl rfl,?_⟩;rw[ev,bQ,h,aA,bQ,h2,aA,bQ,aA,aA,aA];show (T.cl f [x,y]).bind _=_;rw[e,aA];rfl
theorem EY {T:Tb}{mx ce:Nat}(hm:pH T mx)(hc:uh T ce)(ns:List Int)(j k:Nat):∃ d:Nat,∀{env:En},aG T (.var 0) env (.lst (ns.map D.int))->ev T (.call mx (.cons (.call ce (.cons (.var 0) (.cons (.cst (.int (j:Int))) .nil))) (.cons (.cst (.int (k:Int))) .nil))) env = .ok (.int (d:Int),.mv []):=by
 obtain⟨v,hv⟩:=hc ns j;obtain⟨z,h0,hz⟩:=hm v k;refine⟨z.toNat,fun {env} h=>?_⟩;have:=Br (aG.bL h (lit j) hv) (lit k) hz;rw[Int.toNat_of_nonneg h0];exact this
theorem AE:∀{a b:List Nat},a.Pairwise (· < ·)->b.Pairwise (· < ·)->(∀ p,p∈a↔p∈b)->a=b
 |[],[],_,_,_=>rfl
 |[],y::b,_,_,h=>absurd ((h y).mpr List.mem_cons_self) (by simp)
 |x::a,[],_,_,h=>absurd ((h x).mp List.mem_cons_self) (by simp)
 | x::a,y::b,ha,hb,h=>by
  have ha':=List.pairwise_cons.mp ha;have hb':=List.pairwise_cons.mp hb;have e:x=y:=by
   rcases dw.mp ((h x).mp ae) with q | q
   ·exact q
   ·rcases dw.mp ((h y).mpr ae) with r | r
    ·exact r.symm
    ·have:=hb'.1 x q;have:=ha'.1 y r;omega
  subst e;rw[AE ha'.2 hb'.2 fun p=>⟨fun hp=>?_,fun hp=>?_⟩]
  ·rcases dw.mp ((h p).mp (aa _ hp)) with q | q
   ·have:=ha'.1 p hp;omega
   ·exact q
  ·rcases dw.mp ((h p).mpr (aa _ hp)) with q | q
   ·have:=hb'.1 p hp;omega
   ·exact q
theorem yo (n:Nat):(List.range n).Pairwise (· < ·):=List.pairwise_lt_range
theorem u7 (g y mi:List Nat):(aT g y mi).Pairwise (· < ·):=(yo _).filter _
theorem Tv.mutg {env:En}{vs:List (Option (D×Bool))}(h:Tv env vs){x:Nat}{xs ys:List Nat}(hl:ys.length<=1000):cH x none env (.lst (gD xs)) (gD ys) [] = .nx (env.set x (some (.lst (gD ys),.own))):=by
 have hll:(gD ys).length<=lim:=by rw[be];exact cT hl
 simp only[cH,fA,List.nodup_nil,decide_true,bV,List.all_nil,List.contains_nil,Bool.not_false,Bool.and_self,hll,if_true,D.set1,Bool.true_and];rw[jY h.tm]
theorem Tv.jM {env:En}{vs:List (Option (D×Bool))}(h:Tv env vs){y:Nat}(hy:y<vs.length)(d:D):Pc.jM (.nm y) false env (d,.mv []) = .nx (env.set y (some (d,.own))):=by
 show (if y<env.length then Fl.nx (put env y d .own) else .bad)=_;rw[if_pos (by rw[h.len];exact hy),gJ h.tm]
section
variable {T:Tb}{env:En}{vs:List (Option (D×Bool))}
theorem Ci {x y:Nat}{e:Ex}{xs rest:List D}{d it:D}{R:Rt}(ht:Tame env)(hx:env[x]? = some (some (.lst xs,.own)))(hy:y<env.length)(h:ev T e env = .ok (d,R))(hp:kZ xs [d]=some (it,rest))(hll:rest.length<=lim) :
  bI T (.popa y x (.cons e .nil)) env = .nx ((env.set x (some (.lst rest,.own))).set y (some (it,.own))):=by
 have ho:ownAt env x=some (.lst xs):=by unfold ownAt;rw[hx]
 have h1:bQ T (.cons e .nil) env = .ok [(d,R)]:=by
  rw[bQ,h,aA];rfl
 rw[bI,ho];simp only[D.at1,h1,aS,List.map_cons,List.map_nil,hp,cH,fA,List.nodup_nil,decide_true,bV,List.all_nil,List.contains_nil,Bool.not_false,Bool.and_self,hll,if_true,D.set1,Bool.true_and];rw[jY ht];show (if y<(env.set x (some (D.lst rest,Tg.own))).length then Fl.nx (put (env.set x (some (D.lst rest,Tg.own))) y it .own) else .bad)=_;rw[if_pos (by rw[aq];exact hy),gJ (ht.set (aB _) x)]
theorem Tv.pop (h:Tv env vs){x y:Nat}{xs:List Nat}(hx:vs[x]? = some (some (.lst (gD xs),true)))(hy:y<vs.length){e:Ex}{i:Nat}(he:aG T e env (.int (i:Int)))(hi:i<xs.length)(lx:xs.length<=1000) :
  ∃ env',bI T (.popa y x (.cons e .nil)) env = .nx env'/\Tv env' ((vs.set x (some (.lst (gD (xs.eraseIdx i)),true))).set y (some (.int ((xs.getD i 0:Nat):Int),true))):=by
 obtain⟨R,he⟩:=he;exact⟨_,Ci h.tm (h.own hx) (by rw[h.len];exact hy) he (zQ hi lx) (by rw[be];exact cT (br (jf _ _) lx)),(h.set x _ .own true (aB _) fun _=>rfl).set y _ .own true (aB _) fun _=>rfl⟩
theorem yD {f:D->List D->Rs (List (D×Rt))}{k d it:D}{r xs rest:List D}{R:Rt}{z:List D×List D}(h:f k xs = .ok [(d,R)])(hp:kZ xs [d]=some (it,rest))(hz:oW f r rest=some z):oW f (k::r) xs=some (it::z.1,z.2):=by
 rw[oW,h];simp only[List.map_cons,List.map_nil,hp,Option.bind_some,hz,Option.map_some]
noncomputable def iB:List Nat->List Nat->List Nat×List Nat
 |[],xs=>([],xs)
 |k::r,xs=>(xs.getD (k%xs.length) 0::(iB r (xs.eraseIdx (k%xs.length))).1,(iB r (xs.eraseIdx (k%xs.length))).2)
theorem kN:∀(ks xs:List Nat),ks.length<=xs.length->((iB ks xs).1++(iB ks xs).2).Perm xs/\(iB ks xs).2.Sublist xs/\(iB ks xs).1.length=ks.length
 |[],xs,_=>⟨.refl _,List.Sublist.refl _,rfl⟩
 | k::r,xs,h=>by
  rw[cw] at h;have hk:k%xs.length<xs.length:=i8 _ (by omega);obtain⟨a,b,c⟩:=kN r (xs.eraseIdx (k%xs.length)) (by rw[gb hk];omega);refine⟨?_,b.trans (List.eraseIdx_sublist _ _),by simp[iB,c]⟩;exact ((List.Perm.cons _ a).trans (jF hk).symm)
abbrev Fc:Ex:=.bin .Mod (.var 0) (.blt .len (.cons (.var 1) .nil))
theorem y0:∀(ks xs:List Nat),ks.length<=xs.length->xs.length<=1000->oW (fun k cur=>bQ T (.cons Fc .nil) [some (k,.sh []),some (.lst cur,.sh [])]) (gD ks) (gD xs)=some (gD (iB ks xs).1,gD (iB ks xs).2)
 |[],xs,_,_=>rfl
 | k::r,xs,h,lx=>by
  rw[cw] at h;have hk:k%xs.length<xs.length:=i8 _ (by omega);have V:Vw [some (.int (k:Int),.sh []),some (.lst (gD xs),.sh [])] [nD k,lD xs]:=⟨rfl,fun j d e=>by
   match j,e with
   |0,e=>cases e;exact⟨_,rfl⟩
   |1,e=>cases e;exact⟨_,rfl⟩⟩
  obtain⟨R,he⟩:=ou (T:=T) (show 0<xs.length by omega) (V.var (i:=0) rfl) (V.len (i:=1) rfl);have h1:bQ T (.cons Fc .nil) [some (.int (k:Int),.sh []),some (.lst (gD xs),.sh [])] = .ok [(.int ((k%xs.length:Nat):Int),R)]:=by rw[bQ,he,aA];rfl
  exact yD h1 (zQ hk lx) (y0 r _ (by rw[gb hk];omega) (br (jf _ _) lx))
theorem D4 (l:List Nat):(gD l).all yT=true:=by
 rw[bw];intro d hd;obtain⟨k,_,rfl⟩:=List.mem_map.mp hd;rfl
theorem Tv.popc (h:Tv env vs){x y n:Nat}{xs:List Nat}{m:Ex}(hx:vs[x]? = some (some (.lst (gD xs),true)))(hy:y<vs.length)(hm:aG T m env (.int (n:Int)))(hn:n<=xs.length)(lx:xs.length<=1000) :
  ∃ env',bI T (.popc y x (.rng1 m) (.cons Fc .nil)) env = .nx env'/\Tv env' ((vs.set x (some (.lst (gD (iB (List.range n) xs).2),true))).set y (some (.lst (gD (iB (List.range n) xs).1),true))):=by
 have ho:ownAt env x=some (.lst (gD xs)):=by unfold ownAt;rw[h.own hx]
 have h':=h.set x (.lst (gD (iB (List.range n) xs).2)) .own true (aB _) fun _=>rfl
 have hr:fS T (.rng1 m) env = .ok (gD (List.range n),[]):=rz hm (by omega);have lr:(List.range n).length<=xs.length:=by rw[bj];exact hn
 refine⟨_,?_,h'.set y _ .own true (aB _) fun _=>rfl⟩;rw[bI,ho];show eZ env (fS T (.rng1 m) env) _=_;rw[hr,aS];dsimp only;rw[if_pos ⟨rfl,D4 _,D4 _,by rw[be];exact cT (by omega)⟩,y0 _ _ lr lx];show (cH x none env (.lst (gD xs)) (gD (iB (List.range n) xs).2) []).andThen _=_;rw[h.mutg (br (kN _ _ lr).2.1.length_le lx),aD];exact h'.jM (by rw[aq];exact hy) _
end
end Pc.Vw
end
section
namespace K18
open PySem Pc Pc.Sm Pc.Gr Pc.Lw Pc.Vw Fl64 Md
noncomputable def b0:bJ:=vk 0 1
noncomputable def b1:bJ:=bIN 0 2
noncomputable def b2:bJ:=FL 0
noncomputable def b3:bJ:=Bs 0
noncomputable def b4:bJ:=bRP 0
noncomputable def b5:bJ:=bRN 4
noncomputable def b6:bJ:=bCN 2
noncomputable def b7:bJ:=bIC 6 3
noncomputable def b8:bJ:=bMD 3 6 7 10 15
noncomputable def b9:bJ:=bLO 2
noncomputable def b10:bJ:=bSU 3 4 5 9 11
noncomputable def b11:bJ:=bSR 0 1 12 13 14
noncomputable def b12:bJ:=bGP 0
noncomputable def b13:bJ:=bSC 0
noncomputable def b14:bJ:=bAD
noncomputable def b15:bJ:=bCH 0 1 3 4 5 9 16
noncomputable def b16:bJ:=bDP 0
noncomputable def b17:bJ:=bWh
noncomputable def b18:bJ:=bLT
noncomputable def b19:bJ:=bCe
noncomputable def b20:bJ:=bMx
noncomputable def b21:bJ:=bRw 20
noncomputable def b22:bJ:=(.cons (.asg (.nm 2) (.cst (.int (0))) false)
  (.cons (.forr (.nm 3) (.seq (.var 0)) (.cons (.asg (.nm 2) (.bin .BitXor (.call 18 (.cons (.var 2) (.cons (.var 1) .nil))) (.var 3)) false)
  .nil))
  (.cons (.ret (.var 2))
  .nil)))
noncomputable def b23:bJ:=(.cons (.asg (.nm 2) (.cst (.int (1))) false)
  (.cons (.forr (.nm 3) (.rng1 (.var 1)) (.cons (.asg (.nm 2) (.call 18 (.cons (.var 2) (.cons (.cst (.int (2))) .nil))) false)
  (.cons (.ite (.cmp .NotEq (.call 22 (.cons (.var 0) (.cons (.var 2) .nil))) (.cst (.int (0)))) (.cons (.ret (.cst (.bl false)))
  .nil) .nil)
  .nil)))
  (.cons (.ret (.cst (.bl true)))
  .nil)))
noncomputable def b24:bJ:=bMa 18
noncomputable def b25:bJ:=bPl 20 19
noncomputable def b26:bJ:=bSp 20 19
noncomputable def b27:bJ:=bLG 17
noncomputable def b28:bJ:=HX 3 6 7 10 15
noncomputable def b29:bJ:=Ip 3 6 7 10 15
noncomputable def HE:bJ:=(.cons (.ite (.or (.not (.blt (.isi "tuple") (.cons (.var 0) .nil))) (.or (.cmp .NotEq (.blt .len (.cons (.var 0) .nil)) (.cst (.int (2)))) (.not (.call 27 (.cons (.ix (.var 0) (.cst (.int (0)))) (.cons (.blt .len (.cons (.var 1) .nil)) .nil)))))) (.cons (.ret (.cst (.bl false)))
  .nil) .nil)
  (.cons (.ite (.or (.not (.blt (.isi "list") (.cons (.ix (.var 0) (.cst (.int (1)))) .nil))) (.not (.call 23 (.cons (.ix (.var 0) (.cst (.int (0)))) (.cons (.var 3) .nil))))) (.cons (.ret (.cst (.bl false)))
  .nil) .nil)
  (.cons (.asg (.nm 4) (.comp 1 [0,2,1] (.nm 0) (.rng1 (.blt .len (.cons (.var 1) .nil))) (.some (.and (.cmp .NotIn (.var 0) (.var 2)) (.cmp .NotEq (.ix (.ix (.var 1) (.cst (.int (0)))) (.var 0)) (.ix (.var 3) (.var 0))))) (.var 0)) false)
  (.cons (.ret (.and (.call 27 (.cons (.ix (.var 0) (.cst (.int (1)))) (.cons (.blt .len (.cons (.var 4) .nil)) .nil))) (.and (.cmp .Eq (.ix (.var 0) (.cst (.int (1)))) (.var 4)) (.cmp .LtE (.bin .Add (.bin .Mult (.cst (.int (2))) (.blt .len (.cons (.var 4) .nil))) (.blt .len (.cons (.var 2) .nil))) (.var 3)))))
  .nil))))
noncomputable def BR:Ex:=.call 29 (.cons (.blt .list (.cons (.var 8) .nil)) (.cons (.blt .list (.cons (.var 6) .nil)) (.cons (.var 2) .nil)))
noncomputable def rF:bJ:=.cons (.ret (.cst (.bl false))) .nil
noncomputable def b31:bJ:=(.cons (.asg (.nm 1) (.call 20 (.cons (.call 19 (.cons (.var 0) (.cons (.cst (.int (0))) .nil))) (.cons (.cst (.int (1))) .nil))) false)
  (.cons (.asg (.nm 2) (.bin .Add (.cst (.int (1))) (.bin .Mod (.var 1) (.cst (.int (10))))) false)
  (.cons (.asg (.nm 3) (.call 24 (.cons (.call 21 (.cons (.var 0) (.cons (.bin .Add (.cst (.int (1))) (.bin .Mod (.bin .FloorDiv (.var 1) (.cst (.int (10)))) (.cst (.int (12))))) .nil))) (.cons (.var 2) .nil))) false)
  (.cons (.asg (.nm 4) (.bin .Mod (.bin .FloorDiv (.var 1) (.cst (.int (120)))) (.bin .Add (.var 2) (.cst (.int (1))))) false)
  (.cons (.asg (.nm 5) (.bin .Add (.bin .FloorDiv (.bin .Sub (.var 2) (.var 4)) (.cst (.int (2)))) (.cst (.int (1)))) false)
  (.cons (.asg (.nm 6) (.call 25 (.cons (.var 0) (.cons (.blt .len (.cons (.var 3) .nil)) (.cons (.bin .Add (.var 4) (.var 5)) (.cons (.cst (.int (5))) .nil))))) false)
  (.cons (.popc 7 6 (.rng1 (.var 5)) (.cons (.bin .Mod (.var 0) (.blt .len (.cons (.var 1) .nil))) .nil))
  (.cons (.asg (.nm 7) (.blt .sorted (.cons (.var 7) .nil)) false)
  (.cons (.asg (.nm 8) (.call 26 (.cons (.var 0) (.cons (.var 3) (.cons (.var 7) (.cons (.var 6) .nil))))) false)
  (.cons (.asg (.nm 9) BR false)
  (.cons (.ite (.and (.cmp .Is (.var 9) (.cst .non)) (.not (.call 28 (.cons (.blt .list (.cons (.var 8) .nil)) (.cons (.blt .list (.cons (.var 6) .nil)) (.cons (.var 2) .nil)))))) rF .nil)
  (.cons (.ite (.and (.cmp .IsNot (.var 9) (.cst .non)) (.not (.call 30 (.cons (.var 9) (.cons (.var 8) (.cons (.var 6) (.cons (.var 2) .nil))))))) rF .nil)
  (.cons (.ite (.and (.cmp .IsNot (.var 9) (.cst .non)) (.cmp .Eq (.ix (.var 9) (.cst (.int (0)))) (.var 3))) rF .nil)
  (.cons (.popa 10 7 (.cons (.bin .Mod (.bin .FloorDiv (.var 1) (.cst (.int (2000)))) (.blt .len (.cons (.var 7) .nil))) .nil))
  (.cons (.setix 8 .none (.var 10) (.ix (.var 3) (.var 10)))
  (.cons (.asg (.nm 9) BR false)
  (.cons (.ite (.or (.cmp .Is (.var 9) (.cst .non)) (.or (.cmp .NotEq (.ix (.var 9) (.cst (.int (0)))) (.var 3)) (.cmp .NotEq (.ix (.var 9) (.cst (.int (1)))) (.var 7)))) rF .nil)
  (.cons (.asg (.nm 6) (.call 25 (.cons (.var 0) (.cons (.blt .len (.cons (.var 3) .nil)) (.cons (.bin .Add (.var 2) (.cst (.int (1)))) (.cons (.cst (.int (71))) .nil))))) false)
  (.cons (.ret (.call 28 (.cons (.blt .list (.cons (.var 3) .nil)) (.cons (.var 6) (.cons (.var 2) .nil)))))
  .nil)))))))))))))))))))
noncomputable def fns:List Fn:=[⟨2,5,b0⟩,⟨1,1,b1⟩,⟨2,5,b2⟩,⟨2,4,b3⟩,⟨2,7,b4⟩,⟨1,3,b5⟩,⟨1,1,b6⟩,⟨2,2,b7⟩,⟨3,7,b8⟩,⟨2,2,b9⟩,⟨3,7,b10⟩,⟨1,8,b11⟩,⟨3,6,b12⟩,⟨2,2,b13⟩,⟨2,5,b14⟩,⟨3,9,b15⟩,⟨2,4,b16⟩,⟨1,1,b17⟩,⟨2,4,b18⟩,⟨2,2,b19⟩,⟨2,3,b20⟩,⟨2,4,b21⟩,⟨2,4,b22⟩,⟨2,4,b23⟩,⟨2,5,b24⟩,⟨4,8,b25⟩,⟨4,7,b26⟩,⟨2,3,b27⟩,⟨3,7,b28⟩,⟨3,7,b29⟩,⟨4,5,HE⟩,⟨1,11,b31⟩]
noncomputable def gl:Nat->D
 |0=>.int 64
 |1=>.int 67
 |_=>.non
noncomputable abbrev T (n:Nat):Tb:=⟨Pc.run fns gl 1000 n,gl,1000⟩
theorem k9 (n:Nat):(T n).cl=Pc.run fns gl 1000 n:=rfl
theorem h0 (n:Nat):jN (T (n+1)) 0:=fun a b hb=>by
 rw[k9,bE (F:=⟨2,5,b0⟩) rfl rfl];exact AB (T:=T n) rfl rfl (by show 7<=1000;decide) a b hb
theorem h2 (n:Nat):Cs (T (n+2)) 2:=fun a k ha hk=>by
 rw[k9,bE (F:=⟨2,5,b2⟩) rfl rfl];exact Eo (h0 n) (by show 41<=1000;decide) a k ha hk
theorem h1 (n:Nat):Bz (T (n+3)) 1:=fun a ha h=>by
 rw[k9,bE (F:=⟨1,1,b1⟩) rfl rfl];exact Jj (T:=T (n+2)) rfl (h2 n) ha h
theorem h3 (n:Nat):tJ (T (n+2)) 3:=fun gs x hx=>by
 rw[k9,bE (F:=⟨2,4,b3⟩) rfl rfl];exact Gz (h0 n) gs x hx
theorem h4 (n:Nat):Ak (T (n+2)) 4:=fun a b ha hb hb0 hl=>by
 rw[k9,bE (F:=⟨2,7,b4⟩) rfl rfl];exact Hi (h0 n) ha hb hb0 hl
theorem h5 (n:Nat):Fu (T (n+3)) 5:=fun ns hn hl=>by
 rw[k9,bE (F:=⟨1,3,b5⟩) rfl rfl];exact Jb (h4 n) hn hl
theorem h6 (n:Nat):A4 (T (n+3)) 6:=fun c hc=>by
 rw[k9,bE (F:=⟨1,1,b6⟩) rfl rfl];exact Jc (h2 n) c hc
theorem h7 (n:Nat):C8 (T (n+4)) 7:=fun gs c hc=>by
 rw[k9,bE (F:=⟨2,2,b7⟩) rfl rfl];exact IE (h6 n) (h3 (n+1)) gs c hc
theorem h9 (n:Nat):Ec (T (n+3)) 9:=fun p m h hm=>by
 rw[k9,bE (F:=⟨2,2,b9⟩) rfl rfl];exact HU (h2 n) h hm
theorem h12 (n:Nat):Fs (T (n+2)) 12:=fun r ns p a b c d=>by
 rw[k9,bE (F:=⟨3,6,b12⟩) rfl rfl];exact Ja (h0 n) a b c d
theorem h13 (n:Nat):Fp (T (n+2)) 13:=fun r f a b c=>by
 rw[k9,bE (F:=⟨2,2,b13⟩) rfl rfl];exact Jg (h0 n) a b c
theorem h14 (n:Nat):Eu (T (n+1)) 14:=fun a b ha hb=>by
 rw[k9,bE (F:=⟨2,5,b14⟩) rfl rfl];exact Vw.HF ha hb
theorem h11 (n:Nat):Hs (T (n+4)) 11:=fun ns hn hl=>by
 obtain⟨fr,h⟩:=Fv (h0 (n+2)) (h1 n) (h12 (n+1)) (h13 (n+1)) (h14 (n+2)) hn hl;exact⟨fr,by rw[k9,bE (F:=⟨1,8,b11⟩) rfl rfl];exact h⟩
theorem h16 (n:Nat):Gq (T (n+2)) 16:=fun x ls hx hl=>by
 rw[k9,bE (F:=⟨2,4,b16⟩) rfl rfl];exact IK (h0 n) hx hl
theorem h10 (n:Nat):Dq (T (n+5)) 10:=fun wo mi m a b c d e=>by
 obtain⟨fr,h⟩:=Fx (h3 (n+2)) (h4 (n+2)) (h5 (n+1)) (h9 (n+1)) (h11 n) a b c d e;exact⟨fr,by rw[k9,bE (F:=⟨3,7,b10⟩) rfl rfl];exact h⟩
theorem h15 (n:Nat):Dy (T (n+4)) 15:=fun g su wo a b c d e f=>by
 rw[k9,bE (F:=⟨3,9,b15⟩) rfl rfl];exact Im (h0 (n+2)) (h1 n) (h3 (n+1)) (h4 (n+1)) (h5 n) (h9 n) (h16 (n+1)) a b c d e f
theorem h17 (n:Nat):ID (T (n+1)) 17:=fun x=>by
 rw[k9,bE (F:=⟨1,1,b17⟩) rfl rfl];exact Iq x
theorem h18 (n:Nat):AQ (T (n+1)) 18:=fun a b ha hb=>by
 rw[k9,bE (F:=⟨2,4,b18⟩) rfl rfl];exact IJ a b ha hb
theorem h19 (n:Nat):uh (T (n+1)) 19:=fun ns k=>by
 obtain⟨v,h⟩:=HW (T:=T n) ns k;exact⟨v,by rw[k9,bE (F:=⟨2,2,b19⟩) rfl rfl];exact h⟩
theorem h20 (n:Nat):pH (T (n+1)) 20:=fun c k=>by
 obtain⟨v,h',h⟩:=Hg (T:=T n) c k;exact⟨v,h',by rw[k9,bE (F:=⟨2,3,b20⟩) rfl rfl];exact h⟩
theorem h21 (k:Nat)(ns:List Int)(hl:ns.length<=63)(n:Nat)(hn:0<n)(hn':n<=1000):∃ gs,Gr gs/\gs.length=n/\(T (k+2)).cl 21 [.lst (ns.map D.int),.int (n:Int)] = .ok (.lst (gD gs),true):=by
 obtain⟨gs,a,b,h⟩:=HM (h20 k) ns hl n hn hn';exact⟨gs,a,b,by rw[k9,bE (F:=⟨2,4,b21⟩) rfl rfl];exact h⟩
theorem h24 (n:Nat):MAok (T (n+2)) 24:=fun r c hr hl=>by
 obtain⟨fr,h⟩:=Ed (h18 n) hr hl;exact⟨fr,by rw[k9,bE (F:=⟨2,5,b24⟩) rfl rfl];exact h⟩
theorem h25 (n:Nat):PLok (T (n+2)) 25:=fun ns m s t hs hm=>by
 obtain⟨ps,a,b,c,h⟩:=Fj (h20 n) (h19 n) ns (t:=t) hs hm;exact⟨ps,a,b,c,by rw[k9,bE (F:=⟨4,8,b25⟩) rfl rfl];exact h⟩
theorem h26 (n:Nat):Hf (T (n+2)) 26:=fun ns row W M a b c d e f g=>by
 obtain⟨l,x1,x2,x3,x4,h⟩:=BV (h20 n) (h19 n) ns a b c d e f g;exact⟨l,x1,x2,x3,x4,by rw[k9,bE (F:=⟨4,7,b26⟩) rfl rfl];exact h⟩
theorem h27 (n:Nat){gs:List Nat}(hg:Gr gs)(m:Nat)(hm:gs.length=m):(T (n+2)).cl 27 [.lst (gD gs),.int (m:Int)] = .ok (.bl true,true):=by
 rw[k9,bE (F:=⟨2,3,b27⟩) rfl rfl];exact Hx (h17 n) hg m hm
theorem wX {T:Tb}{t:Nat}(ht:AQ T t)(d:D)(x:Nat)(hx:x<64):∀(gs:List Nat) (w:Nat) (o:Slot),w<64->Fl64.Gr gs->∃ o',bC (.nm 3) [] (aC T (tU t)) (gD gs) [some (d,.sh []),sN x,sN w,o] = .nx [some (d,.sh []),sN x,sN (Fl64.gU x w gs),o']
 |[],w,o,_,_=>⟨o,rfl⟩
 | g::r,w,o,hw,hg=>by
  have g64:=hg g ae;obtain⟨o',h⟩:=wX ht d x hx r (Fl64.tm w x^^^g) (sN g) (Fl64.aV (Fl64.bF hw hx) g64) (fun z hz=>hg z (aa _ hz));refine⟨o',?_⟩;rw[gD,ay,bC];have hb:aX [] (.nm 3) (.int (g:Int)) [some (d,.sh []),sN x,sN w,o]=some [some (d,.sh []),sN x,sN w,sN g]:=by
   simp[aX,put,Tg.drop,cI,D.flat]
  rw[hb];dsimp only;rw[zq x w g ((Fl64.tm w x:Nat):Int) d (ht w x hw hx),cY];exact h
theorem h22 (n:Nat){gs:List Nat}(hg:Fl64.Gr gs)(x:Nat)(hx:x<64):(T (n+2)).cl 22 [.lst (gD gs),.int (x:Int)] = .ok (.int ((Fl64.cG x gs:Nat):Int),true):=by
 rw[k9,bE (F:=⟨2,4,b22⟩) rfl rfl];have hst:aF [.lst (gD gs),.int (x:Int)] 4=[sG gs,sN x,none,none]:=rfl;dsimp only;rw[hst];obtain⟨o',h⟩:=wX (h18 n) (.lst (gD gs)) x hx gs 0 none (by decide) hg;have g1:bI (T (n+1)) (.asg (.nm 2) (.cst (.int 0)) false) [sG gs,sN x,none,none] = .nx [sG gs,sN x,sN 0,none]:=rfl;have hit:fS (T (n+1)) (.seq (.var 0)) [sG gs,sN x,sN 0,none] = .ok (gD gs,[]):=rfl;have g2:=cF hit h;show Pc.ret (aC (T (n+1)) (Bs 18) _)=_;unfold Bs;rw[aC,g1,aD,aC,g2,aD];show _=Rs.ok (D.int ((Fl64.gU x 0 gs:Nat):Int),true);generalize Fl64.gU x 0 gs=y;simp[aC,bI,ev,aS,D.flat,lO,Pc.ret,bV]
theorem h23 (n:Nat){gs:List Nat}(hg:Fl64.Gr gs)(c:Nat)(hc:c<=900):(T (n+3)).cl 23 [.lst (gD gs),.int (c:Int)] = .ok (.bl (decide (Fl64.uM gs c)),true):=by
 rw[k9,bE (F:=⟨2,4,b23⟩) rfl rfl];exact Hq (h18 (n+1)) gs (fun x hx=>h22 n hg x hx) c hc
theorem h28 (n:Nat){g mi:List Nat}{c:Nat}(gg:Gr g)(lg:g.length<=63)(lm:mi.length<=63)(lc:c<=62)(hm:∀ p∈mi,p<g.length):(T (n+6)).cl 28 [.lst (gD g),.lst (gD mi),.int (c:Int)] = .ok (.bl (uR g mi c),true):=by
 rw[k9,bE (F:=⟨3,7,b28⟩) rfl rfl];exact Cm (h3 (n+3)) (h6 (n+2)) (h7 (n+1)) (h10 n) (h15 (n+1)) gg lg lm lc hm
theorem h29 (n:Nat){g mi:List Nat}{c:Nat}(gg:Gr g)(lg:g.length<=63)(lm:mi.length<=63)(lc:c<=62)(hm:∀ p∈mi,p<g.length):(T (n+6)).cl 29 [.lst (gD g),.lst (gD mi),.int (c:Int)] = .ok (nu g mi c,true):=by
 rw[k9,bE (F:=⟨3,7,b29⟩) rfl rfl];exact CW (h3 (n+3)) (h6 (n+2)) (h7 (n+1)) (h10 n) (h15 (n+1)) gg lg lm lc hm
theorem h30 (n:Nat){g mi:List Nat}{c:Nat}(gg:Gr g)(lg:g.length<=63)(lm:mi.length<=63)(lc:c<=62)(hf:Vw.xU g mi c=false):∃ fr,(T (n+4)).cl 30 [Cc g mi c,.lst (gD g),.lst (gD mi),.int (c:Int)] = .ok (.bl true,fr):=by
 obtain⟨gy,ly,code,near⟩:=tY gg hf;generalize hy:bP g mi c=y at gy ly code near;have wl:(aT g y mi).length<=63:=br (ik _ _) (by rw[bj];omega);have gw:Gr (aT g y mi):=fun p hp=>by
  have:=List.mem_range.mp (gn.mp hp).1;omega
 have hmd:Cc g mi c = .tup [.lst (gD y),.lst (gD (aT g y mi))]:=by rw[Cc,hy]
 rw[hmd,k9,bE (F:=⟨4,5,HE⟩) rfl rfl];show ∃ fr,Pc.ret (aC (T (n+3)) HE (aF [.tup [.lst (gD y),.lst (gD (aT g y mi))],.lst (gD g),.lst (gD mi),.int (c:Int)] 5))=_;have V:Vw (aF [.tup [.lst (gD y),.lst (gD (aT g y mi))],.lst (gD g),.lst (gD mi),.int (c:Int)] 5) [some (.tup [.lst (gD y),.lst (gD (aT g y mi))]),lD g,lD mi,nD c,none]:=Vw.start _ 5;generalize aF [.tup [.lst (gD y),.lst (gD (aT g y mi))],.lst (gD g),.lst (gD mi),.int (c:Int)] 5=env at V ⊢;have i0:∀{e:En}{v:Option D},Vw e [some (.tup [.lst (gD y),.lst (gD (aT g y mi))]),lD g,lD mi,nD c,v]->aG (T (n+3)) (.ix (.var 0) (.cst (.int (0)))) e (.lst (gD y)):=fun V=>aG.ix (V.var (i:=0) rfl) (aG.cst _) rfl
 have i1:∀{e:En}{v:Option D},Vw e [some (.tup [.lst (gD y),.lst (gD (aT g y mi))]),lD g,lD mi,nD c,v]->aG (T (n+3)) (.ix (.var 0) (.cst (.int (1)))) e (.lst (gD (aT g y mi))):=fun V=>aG.ix (V.var (i:=0) rfl) (aG.cst _) rfl
 have c1:=aG.or (k:=false) (aG.not (k:=true) (aG.blt1 (T:=T (n+3)) (k:=.isi "tuple") (V.var (i:=0) rfl) rfl)) (fun _=>aG.or (k:=false) (aG.cmp (op:=.NotEq) (aG.blt1 (V.var (i:=0) rfl) (k:=.len) (z:=.int 2) rfl) (aG.cst (.int 2)) rfl) (fun _=>aG.not (k:=true) (aG.bL (i0 V) (V.len (i:=1) rfl) (h27 (n+1) gy g.length ly))) (fun h=>by cases h)) (fun h=>by cases h);have c2:=aG.or (k:=false) (aG.not (k:=true) (aG.blt1 (T:=T (n+3)) (k:=.isi "list") (i1 V) rfl)) (fun _=>aG.not (k:=true) (aG.bL (i0 V) (V.var (i:=3) rfl) (by rw[h23 n gy c (by omega),cq code]))) (fun h=>by cases h);have pk:∀(j:Nat) (d:D),[some (D.tup [.lst (gD y),.lst (gD (aT g y mi))]),lD mi,lD g][j]? = some (some d)->∃ i,[0,2,1][j]? = some i/\[some (D.tup [.lst (gD y),.lst (gD (aT g y mi))]),lD g,lD mi,nD c,none][i]? = some (some d):=fun j d e=>by
  match j,e with
  |0,e=>exact⟨0,rfl,e⟩
  |1,e=>exact⟨2,rfl,e⟩
  |2,e=>exact⟨1,rfl,e⟩
 have c3:aG (T (n+3)) (.comp 1 [0,2,1] (.nm 0) (.rng1 (.blt .len (.cons (.var 1) .nil))) (.some (.and (.cmp .NotIn (.var 0) (.var 2)) (.cmp .NotEq (.ix (.ix (.var 1) (.cst (.int (0)))) (.var 0)) (.ix (.var 3) (.var 0))))) (.var 0)) env (.lst (gD (aT g y mi))):=by
  refine xy (l:=List.range g.length) (rz (V.len (i:=1) rfl) (by omega)) (by rw[bj];omega) (fun p hp=>?_) (V.picked (pick:=[0,2,1]) (ws:=[some (D.tup [.lst (gD y),.lst (gD (aT g y mi))]),lD mi,lD g]) pk rfl .non).1;obtain⟨_,W⟩:=V.picked (pick:=[0,2,1]) (ws:=[some (D.tup [.lst (gD y),.lst (gD (aT g y mi))]),lD mi,lD g]) pk rfl (.int (p:Int));have pl:=List.mem_range.mp hp;refine aG.and (k:=!mi.contains p) (aG.cmp (W.var (i:=0) rfl) (W.var (i:=2) rfl) (by show (inD _ _).map _=_;rw[vR];rfl)) (fun hk=>aG.cmp (aG.ix (aG.ix (W.var (i:=1) rfl) (aG.cst (.int 0)) (z:=.lst (gD y)) rfl) (W.var (i:=0) rfl) (mq (by omega))) (aG.ix (W.var (i:=3) rfl) (W.var (i:=0) rfl) (mq pl)) ?_) (fun hk=>by rw[hk];rfl);rw[hk,iw];show some (!(((y.getD p 0:Nat):Int)==((g.getD p 0:Nat):Int)))=_;congr 1;rw[eo];simp only[Bool.not_eq_true',beq_eq_false_iff_ne,bne_iff_ne,ne_eq];omega
 obtain⟨e4,q4,V4⟩:=V.asg (T:=T (n+3)) (i:=4) (show (4:Nat)<5 by decide) c3;have V4:Vw e4 [some (.tup [.lst (gD y),.lst (gD (aT g y mi))]),lD g,lD mi,nD c,lD (aT g y mi)]:=V4;have c5:=aG.and (k:=true) (aG.bL (i1 V4) (V4.len (i:=4) rfl) (h27 (n+1) gw (aT g y mi).length rfl)) (fun _=>aG.and (k:=true) (aG.cmp (op:=.Eq) (i1 V4) (V4.var (i:=4) rfl) (HP _)) (fun _=>aG.cmp (op:=.LtE) (k:=true) (kS (aG.bin (op:=.Mult) (T:=T (n+3)) (aG.cst (.int 2)) (V4.len (i:=4) rfl) (z:=.int ((2*(aT g y mi).length:Nat):Int)) rfl) (V4.len (i:=2) rfl)) (V4.var (i:=3) rfl) (by
   show some (decide (((2*(aT g y mi).length+mi.length:Nat):Int)<=(c:Int)))=_;rw[cq (by omega)])) (fun h=>by cases h)) (fun h=>by cases h)
 obtain⟨fr,hr⟩:=za c5;refine⟨fr,?_⟩;unfold HE;rw[aC,mF c1];simp only[Bool.not_true,Bool.false_eq_true,if_false];rw[aC,aD,aC,mF c2];simp only[Bool.not_true,Bool.false_eq_true,if_false];rw[aC,aD];exact sq q4 hr
abbrev N (k:Nat):Option (D×Bool):=some (.int (k:Int),true)
abbrev L (l:List Nat)(b:Bool):Option (D×Bool):=some (.lst (gD l),b)
theorem DN {sp row W M:List Nat}(asc:W.Pairwise (· < ·))(lt:∀ p∈W,p<sp.length)(dis:∀ p∈W,p∉M)(ne:∀ p,p∉M->p∈W->sp.getD p 0≠row.getD p 0)(eq:∀ p,p∉M->p∉W->sp.getD p 0=row.getD p 0):aT sp row M=W:=by
 refine AE (u7 _ _ _) asc fun p=>?_
 unfold aT;rw[gn,List.mem_range];simp only[Bool.and_eq_true,Bool.not_eq_true',bne_iff_ne,ne_eq];have c2:M.contains p=false↔p∉M:=by rw[<-ir,List.contains_iff_mem]
 rw[c2];constructor
 ·rintro⟨_,hm,n⟩;exact Classical.byContradiction fun hw=>n (eq p hm hw).symm
 ·exact fun hw=>⟨lt p hw,dis p hw,fun e=>ne p (dis p hw) hw e.symm⟩
theorem IC {a b:List Nat}(h:a≠b):ni .Eq (.lst (gD a)) (.lst (gD b))=some false:=by
 show D.eqf 40 (.lst (gD a)) (.lst (gD b))=_;rw[rG,rG,wy 38];congr 1;rw[fh];intro e;refine h ?_;have:∀{a b:List Nat},gI a=gI b->a=b:=fun {a b} e=>by rw[<-o9 a,e,o9]
 exact this e
theorem HA (a:List Nat):ni .NotEq (.lst (gD a)) (.lst (gD a))=some false:=by
 show (D.eqf 40 (.lst (gD a)) (.lst (gD a))).map _=_;rw[HP];rfl
theorem law (ns:List Int)(hl:ns.length<=63):∃ fr,Pc.run fns gl 1000 8 31 [.lst (ns.map D.int)] = .ok (.bl true,fr):=by
 have V0:Tv (aF [.lst (ns.map D.int)] 11) [some (.lst (ns.map D.int),false),none,none,none,none,none,none,none,none,none,none]:=Tv.start _ 11;obtain⟨d,hd'⟩:=EY (h20 6) (h19 6) ns 0 1;obtain⟨e1,q1,V1⟩:=V0.asg (T:=T 7) (i:=1) (show (1:Nat)<11 by decide) (hd' (V0.var (i:=0) rfl));obtain⟨e2,q2,V2⟩:=V1.asg (T:=T 7) (i:=2) (show (2:Nat)<11 by decide) (Cr (kS (lit 1) (ou (b:=10) (by decide) (V1.var (i:=1) rfl) (lit 10))) rfl);have c0:0<1+d%10:=by omega
 have c10:1+d%10<=10:=by omega
 generalize 1+d%10=c at V2 c0 c10;have V2:Tv e2 [some (.lst (ns.map D.int),false),N d,N c,none,none,none,none,none,none,none,none]:=V2;obtain⟨gs,ggs,lgs,hgs⟩:=h21 5 ns hl (1+d / 10%12) (by omega) (by omega);obtain⟨fr3,h3'⟩:=h24 5 gs c ggs (by omega);obtain⟨R3,hR3,x3⟩:=FY (T:=T 7) (f:=24) (Br (V2.var (i:=0) rfl) (kS (lit 1) (ou (b:=12) (by decide) (nH 10 (by decide) (by decide) (V2.var (i:=1) rfl)) (lit 12))) hgs) (varM (V2.var (i:=2) rfl) rfl) h3';obtain⟨e3,q3,V3⟩:=V2.asgS (T:=T 7) (i:=3) (show (3:Nat)<11 by decide) hR3 x3;have grow:=qa c 0 ggs;have lrow:=pC c 0 gs;have code:=yJ c ggs;generalize eN c 0 gs=row at V3 grow lrow code;have V3:Tv e3 [some (.lst (ns.map D.int),false),N d,N c,L row false,none,none,none,none,none,none,none]:=V3;obtain⟨e4,q4,V4⟩:=V3.asg (T:=T 7) (i:=4) (show (4:Nat)<11 by decide) (Cr (ou (Nat.succ_pos _) (nH 120 (by decide) (by decide) (V3.var (i:=1) rfl)) (kS (V3.var (i:=2) rfl) (lit 1))) rfl);have lc:d / 120%(c+1)<=c:=Nat.le_of_lt_succ (i8 _ (Nat.succ_pos _));generalize d / 120%(c+1)=lo at V4 lc;have V4:Tv e4 [some (.lst (ns.map D.int),false),N d,N c,L row false,N lo,none,none,none,none,none,none]:=V4;obtain⟨e5,q5,V5⟩:=V4.asg (T:=T 7) (i:=5) (show (5:Nat)<11 by decide) (Cr (kS (nH 2 (by decide) (by decide) (Ew lc (V4.var (i:=2) rfl) (V4.var (i:=4) rfl))) (lit 1)) rfl);obtain⟨mn,em⟩:∃ mn,mn=(c - lo) / 2+1:=⟨_,rfl⟩;rw[<-em] at V5;have V5:Tv e5 [some (.lst (ns.map D.int),false),N d,N c,L row false,N lo,N mn,none,none,none,none,none]:=V5;obtain⟨ps,pasc,lps,ltp,hps⟩:=h25 5 ns row.length (lo+mn) 5 (by omega) (by omega);obtain⟨e6,q6,V6⟩:=V5.asg (T:=T 7) (i:=6) (show (6:Nat)<11 by decide) (vv (V5.var (i:=0) rfl) (V5.vw.len (i:=3) rfl) (kS (V5.var (i:=4) rfl) (V5.var (i:=5) rfl)) (lit 5) hps);obtain⟨e7,q7,V7⟩:=V6.popc (T:=T 7) (x:=6) (y:=7) (n:=mn) (m:=.var 5) (xs:=ps) rfl (show (7:Nat)<11 by decide) (V6.var (i:=5) rfl) (by omega) (by omega);obtain⟨zp,zs,zl⟩:=kN (List.range mn) ps (by rw[bj];omega);rw[bj] at zl;generalize iB (List.range mn) ps=z at V7 zp zs zl;obtain⟨W0,M⟩:=z;dsimp only at V7 zp zs zl;have V7:Tv e7 [some (.lst (ns.map D.int),false),N d,N c,L row false,N lo,N mn,L M true,L W0 true,none,none,none]:=V7;obtain⟨e8,q8,V8⟩:=V7.asg (T:=T 7) (i:=7) (show (7:Nat)<11 by decide) (IX (aG.sorted (V7.var (i:=7) rfl) (by omega)) (xh _));have nd:(W0++M).Nodup:=zp.nodup_iff.mpr (pasc.imp fun h=>by omega);have nd':=jc.mp nd;have wasc:=qz nd'.1;have wp:=jD W0;have zlen:=zp.length_eq;rw[df] at zlen;have wl:(iL W0).length=mn:=by rw[wp.length_eq,zl]
 have ltw:∀ p∈iL W0,p<row.length:=fun p hp=>ltp p (zp.mem_iff.mp (aw _ (wp.mem_iff.mp hp)))
 have ltm:∀ p∈M,p<row.length:=fun p hp=>ltp p (zp.mem_iff.mp (ak _ hp))
 have dis:∀ p∈iL W0,p∉M:=fun p hp hm=>nd'.2.2 p (wp.mem_iff.mp hp) p hm rfl
 generalize iL W0=W at V8 wasc wl ltw dis;have V8:Tv e8 [some (.lst (ns.map D.int),false),N d,N c,L row false,N lo,N mn,L M true,L W true,none,none,none]:=V8;have lM:M.length=lo:=by omega
 have mnd:M.Nodup:=nd'.2.1;obtain⟨sp,gsp,lsp,spn,spe,hsp⟩:=h26 5 ns row W M grow (by omega) (wasc.imp fun h=>by omega) ltw ltm (by omega) (by omega);obtain⟨e9,q9,V9⟩:=V8.asg (T:=T 7) (i:=8) (show (8:Nat)<11 by decide) (vv (V8.var (i:=0) rfl) (V8.var (i:=3) rfl) (V8.var (i:=7) rfl) (V8.var (i:=6) rfl) hsp);have V9:Tv e9 [some (.lst (ns.map D.int),false),N d,N c,L row false,N lo,N mn,L M true,L W true,L sp true,none,none]:=V9;have ls:∀{env:En}{i:Nat}{l:List Nat},aG (T 7) (.var i) env (.lst (gD l))->aG (T 7) (.blt .list (.cons (.var i) .nil)) env (.lst (gD l)):=fun h=>aG.blt1 (k:=.list) h (z:=.lst (gD _)) rfl
 have ltm':∀ p∈M,p<sp.length:=fun p hp=>by rw[lsp];exact ltm p hp
 obtain⟨eA,qA,VA⟩:=V9.asg (T:=T 7) (i:=9) (e:=BR) (show (9:Nat)<11 by decide) (uU (ls (V9.var (i:=8) rfl)) (ls (V9.var (i:=6) rfl)) (V9.var (i:=2) rfl) (h29 1 gsp (by omega) (by omega) (by omega) ltm'));have VA:Tv eA [some (.lst (ns.map D.int),false),N d,N c,L row false,N lo,N mn,L M true,L W true,L sp true,some (nu sp M c,true),none]:=VA;have k1:aG (T 7) (.and (.cmp .Is (.var 9) (.cst .non)) (.not (.call 28 (.cons (.blt .list (.cons (.var 8) .nil)) (.cons (.blt .list (.cons (.var 6) .nil)) (.cons (.var 2) .nil)))))) eA (.bl false) /\
   aG (T 7) (.and (.cmp .IsNot (.var 9) (.cst .non)) (.not (.call 30 (.cons (.var 9) (.cons (.var 8) (.cons (.var 6) (.cons (.var 2) .nil))))))) eA (.bl false) /\
   aG (T 7) (.and (.cmp .IsNot (.var 9) (.cst .non)) (.cmp .Eq (.ix (.var 9) (.cst (.int (0)))) (.var 3))) eA (.bl false):=by
  cases hf:Vw.xU sp M c with
  |true =>
   have ea:nu sp M c = .non:=if_pos (.inr hf);have er:uR sp M c=true:=by unfold uR;rw[hf,Bool.or_true]
   rw[ea] at VA;refine⟨aG.and (k:=true) (aG.cmp (VA.var (i:=9) rfl) (aG.cst _) rfl) (fun _=>aG.not (k:=true) (aG.call3 (ls (VA.var (i:=8) rfl)) (ls (VA.var (i:=6) rfl)) (VA.var (i:=2) rfl) (by rw[h28 1 gsp (by omega) (by omega) (by omega) ltm',er]))) (fun h=>by cases h),
    aG.and (k:=false) (aG.cmp (VA.var (i:=9) rfl) (aG.cst _) rfl) (fun h=>by cases h) (fun _=>rfl),aG.and (k:=false) (aG.cmp (VA.var (i:=9) rfl) (aG.cst _) rfl) (fun h=>by cases h) (fun _=>rfl)⟩
  |false =>
   have ea:nu sp M c=Cc sp M c:=if_neg (by rw[hf];simp;omega);obtain⟨fr30,h30'⟩:=h30 3 (g:=sp) (mi:=M) (c:=c) gsp (by omega) (by omega) (by omega) hf;have nr:=tY gsp hf;have tn:bP sp M c≠row:=fun e=>by
    have:=nr.2.2.2;rw[e,DN wasc (fun p hp=>by rw[lsp];exact ltw p hp) dis spn spe,wl,lM] at this;omega
   rw[ea] at VA;refine⟨aG.and (k:=false) (aG.cmp (VA.var (i:=9) rfl) (aG.cst _) rfl) (fun h=>by cases h) (fun _=>rfl),
    aG.and (k:=true) (aG.cmp (VA.var (i:=9) rfl) (aG.cst _) rfl) (fun _=>aG.not (k:=true) (aG.call4 (VA.var (i:=9) rfl) (VA.var (i:=8) rfl) (VA.var (i:=6) rfl) (VA.var (i:=2) rfl) h30')) (fun h=>by cases h),
    aG.and (k:=true) (aG.cmp (VA.var (i:=9) rfl) (aG.cst _) rfl) (fun _=>aG.cmp (aG.ix (VA.var (i:=9) rfl) (aG.cst (.int 0)) (z:=.lst (gD (bP sp M c))) rfl) (VA.var (i:=3) rfl) (IC tn)) (fun h=>by cases h)⟩
 obtain⟨k1,k2,k3⟩:=k1;have hi:d / 2000%W.length<W.length:=i8 _ (by omega);obtain⟨eB,qB,VB⟩:=VA.pop (T:=T 7) (x:=7) (y:=10) (xs:=W) rfl (show (10:Nat)<11 by decide) (ou (by omega) (nH 2000 (by decide) (by decide) (VA.var (i:=1) rfl)) (VA.vw.len (i:=7) rfl)) hi (by omega);have wperm:=jF hi;have wel:=gb hi;have wel':(W.eraseIdx (d / 2000%W.length)).Pairwise (· < ·):=wasc.sublist (List.eraseIdx_sublist _ _);generalize W.getD (d / 2000%W.length) 0=pl at VB wperm;generalize W.eraseIdx (d / 2000%W.length)=W' at VB wperm wel wel';have VB:Tv eB [some (.lst (ns.map D.int),false),N d,N c,L row false,N lo,N mn,L M true,L W' true,L sp true,some (nu sp M c,true),N pl]:=VB;have wmem:∀ p,p∈W↔p=pl\/p∈W':=fun p=>by rw[wperm.mem_iff,dw]
 have plW':pl∉W':=(jk.mp (wperm.nodup_iff.mp (wasc.imp fun h=>by omega))).1;have plt:pl<row.length:=ltw pl ((wmem pl).mpr (.inl rfl));obtain⟨eC,qC,VC⟩:=VB.setg (T:=T 7) (x:=8) (l:=sp) (k:=.var 10) (e:=.ix (.var 3) (.var 10)) (p:=pl) (z:=row.getD pl 0) rfl (VB.var (i:=10) rfl) (by omega) (by omega) (ixM (aG.ix (VB.var (i:=3) rfl) (VB.var (i:=10) rfl) (mq plt)) rfl);have row64:row.getD pl 0<64:=by
  rw[List.getD_eq_getElem?_getD,List.getElem?_eq_getElem plt];exact grow _ (ip plt)
 have gsp':Gr (sp.set pl (row.getD pl 0)):=xx gsp row64;have lsp':(sp.set pl (row.getD pl 0)).length=row.length:=by rw[aq,lsp]
 have at1:(sp.set pl (row.getD pl 0)).getD pl 0=row.getD pl 0:=pV (by omega);have at2:∀ p,p≠pl->(sp.set pl (row.getD pl 0)).getD p 0=sp.getD p 0:=fun p h=>kC h
 generalize sp.set pl (row.getD pl 0)=sq' at VC gsp' lsp' at1 at2;have VC:Tv eC [some (.lst (ns.map D.int),false),N d,N c,L row false,N lo,N mn,L M true,L W' true,L sq' true,some (nu sp M c,true),N pl]:=VC;have we:aT sq' row M=W':=by
  refine DN wel' (fun p hp=>by rw[lsp'];exact ltw p ((wmem p).mpr (.inr hp))) (fun p hp=>dis p ((wmem p).mpr (.inr hp))) (fun p hm hp=>?_) (fun p hm hp=>?_)
  ·rw[at2 p (fun e=>plW' (e ▸ hp))];exact spn p hm ((wmem p).mpr (.inr hp))
  ·by_cases e:p=pl
   ·rw[e,at1]
   ·rw[at2 p e];exact spe p hm fun h=>(wmem p).mp h |>.elim e hp
 have ltm2:∀ p∈M,p<sq'.length:=fun p hp=>by rw[lsp'];exact ltm p hp
 obtain⟨et,ef⟩:=uV gsp' (by omega) (by omega) mnd ltm2 ⟨grow,by rw[lsp'],code,by rw[we];omega⟩;have ea:nu sq' M c = .tup [.lst (gD row),.lst (gD W')]:=by
  rw[nu,if_neg (by rw[ef];simp;omega),Cc,et,we]
 obtain⟨eD,qD,VD⟩:=VC.asg (T:=T 7) (i:=9) (e:=BR) (show (9:Nat)<11 by decide) (uU (ls (VC.var (i:=8) rfl)) (ls (VC.var (i:=6) rfl)) (VC.var (i:=2) rfl) (h29 1 gsp' (by omega) (by omega) (by omega) ltm2));rw[ea] at VD;have VD:Tv eD [some (.lst (ns.map D.int),false),N d,N c,L row false,N lo,N mn,L M true,L W' true,L sq' true,some (.tup [.lst (gD row),.lst (gD W')],true),N pl]:=VD;have k4:aG (T 7) (.or (.cmp .Is (.var 9) (.cst .non)) (.or (.cmp .NotEq (.ix (.var 9) (.cst (.int (0)))) (.var 3)) (.cmp .NotEq (.ix (.var 9) (.cst (.int (1)))) (.var 7)))) eD (.bl false) :=
  aG.or (k:=false) (aG.cmp (VD.var (i:=9) rfl) (aG.cst _) rfl) (fun _=>aG.or (k:=false) (aG.cmp (aG.ix (VD.var (i:=9) rfl) (aG.cst (.int 0)) (z:=.lst (gD row)) rfl) (VD.var (i:=3) rfl) (HA _)) (fun _=>aG.cmp (aG.ix (VD.var (i:=9) rfl) (aG.cst (.int 1)) (z:=.lst (gD W')) rfl) (VD.var (i:=7) rfl) (HA _)) (fun h=>by cases h)) (fun h=>by cases h)
 obtain⟨p2,_,lp2,ltp2,hp2⟩:=h25 5 ns row.length (c+1) 71 (by omega) (by omega);obtain⟨eE,qE,VE⟩:=VD.asg (T:=T 7) (i:=6) (show (6:Nat)<11 by decide) (vv (VD.var (i:=0) rfl) (VD.vw.len (i:=3) rfl) (kS (VD.var (i:=2) rfl) (lit 1)) (lit 71) hp2);have er:uR row p2 c=true:=by unfold uR;rw[cq (by omega)];rfl
 obtain⟨fr,hr⟩:=za (aG.call3 (T:=T 7) (f:=28) (ls (VE.var (i:=3) rfl)) (VE.var (i:=6) rfl) (VE.var (i:=2) rfl) (h28 1 grow (by omega) (by omega) (by omega) ltp2));rw[er] at hr;have no:∀{q:Ex}{e:En},aG (T 7) q e (.bl false)->bI (T 7) (.ite q rF .nil) e = .nx e:=fun h=>by
  rw[mF h];simp only[Bool.false_eq_true,if_false];exact Ei
 refine⟨fr,?_⟩;rw[bE (F:=⟨1,11,b31⟩) rfl rfl];exact sq q1 (sq q2 (sq q3 (sq q4 (sq q5 (sq q6 (sq q7 (sq q8 (sq q9 (sq qA (sq (no k1) (sq (no k2) (sq (no k3) (sq qB (sq qC (sq qD (sq (no k4) (sq qE hr)))))))))))))))))
end K18
end
section
namespace K18
open PySem PySem.Spec PyProof.Rows L2 Pc
section
variable {P:Program}{w:World}{K:Frag}{mg:Str->Option Value}{base:Heap}
def RPd (A:Around):Prop:=A.depth+1<recursionLimit
theorem whole {f:Addr}{fd:FuncData}(F:L2.sR K "_law_whole" "_law_whole" (st 35) f fd) (S:cL ["_law_x"] ["_law_x"] (aE (st 35))) (hi:mg "isinstance" = none) (h1:mg "int" = none) (h2:mg "bool" = none) :
  kH P w K mg base sj RPd f fd ["_law_x"] (fun vs H Q E=>∃ n:Int,vs=[.int n]/\Q (.bl true) H):=by
 refine GY F S (fun A h=>Nat.lt_of_succ_lt h) (fun vs H Q E ⟨n,e,_⟩=>by rw[e];rfl) fun cdv A outer s H vs Q E hr hs=>?_
 obtain⟨n,rfl,hQ⟩:=hs;refine⟨_,jv (rO (ph (gF mJ rfl hi boot_isinstance (aW (pv 0) (aW (nz (v:=.ty "int") rfl h1 (by rfl) rfl) fE))) (rQ (uY (gF mJ rfl hi boot_isinstance (aW (pv 0) (aW (nz (v:=.ty "bool") rfl h2 (by rfl) rfl) fE))))))),?_⟩;exact⟨.int n,rfl,.int n,"int",.int n,[],rfl,by decide,.int n,true,rfl,.int n,rfl,.int n,"bool",.int n,[],rfl,by decide,.int n,false,rfl,hQ⟩
structure IV (K:Frag)(mg:Str->Option Value)(cS cM fI:Addr)(fdI:FuncData)(stI:Stmt)(cs:List Addr):Prop where
 k:Bq K mg "SquareError" "block" "NoMend.__init__" cM cS fI fdI stI
 m:mg "NoMend" = some (.ref cM)
 sB:nZ K cS=true
 mB:nZ K cM=true
 sm:eK K cM cS=true
 mm:eK K cM cM=true
 o:vB (fun q:Str×Addr=>(PySem.W.nsIn K mainGlobals q.1=some (some (.ref q.2))/\lB K q.2=true)/\eK K cM q.2=false) (List.zip ["NoText","TooLong","NoInverse","NoLabel","NoMarks","NoSquare","NoSign","NoPicture"] cs)
 l:cs.length=8
theorem len8 {cs:List Addr}(h:cs.length=8):∃ a b c d e f g i,cs=[a,b,c,d,e,f,g,i]:=by
 match cs,h with
 |[a,b,c,d,e,f,g,i],_=>exact⟨a,b,c,d,e,f,g,i,rfl⟩
theorem Av {C:Addr}(q:nZ K C=true):lB K C=true:=by
 unfold nZ at q;rw[ai] at q;exact q.1
def tsR (K:Frag)(cM c1 c2 c3 c4 c5 c6 c7 c8 a:Addr)(k:Nat):TS:=F8 (pO (E9 (BQ K a cM) (dI (nR 4) (dI (IL (dI (tC (.ref c1)) (dI (tC (.ref c2)) (dI (tC (.ref c3)) (dI (tC (.ref c4)) (dI (tC (.ref c5)) (dI (tC (.ref c6)) (dI (tC (.ref c7)) (dI (tC (.ref c8)) pJ))))))))) pJ))) (jI 5))
 (F8 (pO (xl (E9 (BQ K a cM) (dI (nR 4) (dI (tC (.ref cM)) pJ))) (xl (E9 (BQ K a cM) (dI (nR 4) (dI (tC (.ty "ValueError")) pJ))) (DZ (nR 5)))) (jI 3))
 (HD (tB (nR 3)) (pO (xl (fun σ H Q=>dI (Dh 4 a k) pJ σ H fun vs H1=>∃ n:Int,vs=[.int n]/\Q (.bl true) H1) (Iv (Dh 4 a k) (tC (.int 0)))) (jI 3)) (fun D σ H=>D.nx σ H)))
theorem refused {n:Nat}{f f' fW cS cM fI:Addr}{cs:List Addr}{fd fd' fdW fdI:FuncData}{stI:Stmt}{h:Heap}{spx:Sp}(KX:K.In h)(G:h.Ns mainGlobals mg)(hh:IV K mg cS cM fI fdI stI cs)
  (F:L2.sR K "_law_refused" "_law_refused" (st 46) f fd) (S:cL ["_law_row_here","_law_missing","_law_count","_law_fits","e","_law_others"] ["_law_row_here","_law_missing","_law_count"] (aE (st 46)))
  (FR:kH P w K mg base (EJ "block" P w) (lK n) f' fd' ["grains","missing","count"] spx) (kp:PySem.W.keepIn K (.ref f')=true) (B':Binds K fd' ["grains","missing","count"] []) (hm':mg "mended_row" = some (.ref f'))
  (FW:L2.sR K "_law_whole" "_law_whole" (st 35) fW fdW) (SW:cL ["_law_x"] ["_law_x"] (aE (st 35))) (BW:Binds K fdW ["_law_x"] []) (hmW:mg "_law_whole" = some (.ref fW))
  (hi:mg "isinstance" = none) (hv:mg "ValueError" = none) (h1:mg "int" = none) (h2:mg "bool" = none) (sp:Sp)
  (hl:∀ vs H Q E,sp vs H Q E->∃ v1 v2 v3,vs=[v1,v2,v3]/\spx [v1,v2,v3] H (fun _ H'=>Q (.bl false) H') (fun C' o H'=>∃ m,o=some m/\C' = .ref cM/\m=0/\∀ H2,aN H' H2->Q (.bl true) H2)):lX P w K mg base sj (n+1) f fd ["_law_row_here","_law_missing","_law_count"] sp:=by
 obtain⟨c1,c2,c3,c4,c5,c6,c7,c8,rfl⟩:=len8 hh.l;obtain⟨⟨o1,n1⟩,⟨o2,n2⟩,⟨o3,n3⟩,⟨o4,n4⟩,⟨o5,n5⟩,⟨o6,n6⟩,⟨o7,n7⟩,⟨o8,n8⟩,_⟩:=hh.o;have FWk:=whole (P:=P) (w:=w) (base:=base) FW SW hi h1 h2;have EP:D9 K cM:=B6 hh.k.cls;refine (vN (RP:=gS (n+1)) F S (fun A r=>⟨r.hd,r.depth⟩) (fun vs H Q E h=>by obtain⟨v1,v2,v3,e,_⟩:=hl vs H Q E h;rw[e];rfl) fun cdv A outer s H vs Q E hr hs=>?_).plain;obtain⟨v1,v2,v3,rfl,hx⟩:=hl vs H Q E hs;have hrest:j6 (eW sj P w K mg base ["_law_row_here","_law_missing","_law_count","_law_fits","e","_law_others"] "_law_refused" (aE (st 46)) f cdv A outer s H E).nox ((bM (st 46)).drop 1)
   (fun D σ H1=>σ=[some v1,some v2,some v3,some (.bl false),none,none]/\spx [v1,v2,v3] H1 (fun _ H'=>D.rt (.bl false) H') (fun C' o H'=>∃ m,o=some m/\C' = .ref cM/\m=0/\∀ H2,aN H' H2->D.rt (.bl true) H2)):=by
  intro pins s1 σ H1 D I ⟨hσ,hx⟩;subst hσ;refine wpAny_execs_cons (wpAny_mono (Q:=SP _ pins {D with nx:=fun σ' H'=>∃ z,σ'[3]? = some (some z)/\D.rt z H'}) (Dw (x:="block") (i:=4) (ts:=tsR K cM c1 c2 c3 c4 c5 c6 c7 c8) (W:=fun C' m H'=>C' = .ref cM/\m=0/\∀ H2,aN H' H2->D.rt (.bl true) H2) rfl rfl I.ok S.nd rfl rfl rfl hh.k.hS hh.sB
   (fun a o dx od C k H' hW hc hda hdi hns=>?su) (fun C k H' hW=>?w) (by decide)
   (xI (Q:=fun _ H'=>D.rt (.bl false) H') I (qr FR (lK.of hr _) rfl hm' kp B' .nil I (aW (pv 0) (aW (pv 1) (aW (pv 2) fE))) ⟨v1,rfl,v2,rfl,v3,rfl,hx⟩) fun _ H' q=>⟨_,rfl,q⟩)) (fun fl s2 q=>?_) fun _ _ z=>z)
  case su =>
   have hc:o.cls = .ref cM:=hc.trans hW.1;have ea:∀{p p':Pos},PE (kG (pI (eW sj P w K mg base ["_law_row_here","_law_missing","_law_count","_law_fits","e","_law_others"] "_law_refused" (aE (st 46)) f cdv A outer s H E).nox dx od) a o) (.Attribute (.Name "e" p) "block" p') (Dh 4 a k):=fun {p p'}=>FE (X:=(eW sj P w K mg base ["_law_row_here","_law_missing","_law_count","_law_fits","e","_law_others"] "_law_refused" (aE (st 46)) f cdv A outer s H E).nox) hh.k.cls hh.k.nx hc hda hdi hns (pv 4)
   exact gL (jo (i:=5) S.nd rfl (.inl rfl) (gF (kW EP hc) rfl hi boot_isinstance (aW (pv 4) (aW (AG (aW (fK rfl (du KX G o1.1) rfl) (aW (fK rfl (du KX G o2.1) rfl) (aW (fK rfl (du KX G o3.1) rfl) (aW (fK rfl (du KX G o4.1) rfl) (aW (fK rfl (du KX G o5.1) rfl) (aW (fK rfl (du KX G o6.1) rfl) (aW (fK rfl (du KX G o7.1) rfl) (aW (fK rfl (du KX G o8.1) rfl) fE))))))))) fE))))
    (gL (jo (i:=3) S.nd rfl (.inl rfl) (ph (gF (kW EP hc) rfl hi boot_isinstance (aW (pv 4) (aW (fK rfl hh.m rfl) fE))) (ph (gF (kW EP hc) rfl hi boot_isinstance (aW (pv 4) (aW (nz (v:=.ty "ValueError") rfl hv (by rfl) rfl) fE))) (rQ (uY (pv 5))))))
    (jv (Ax (ET (pv 3)) (jv (jo (i:=3) S.nd rfl (.inl rfl) (ph (Bv (X:=kG (pI (eW sj P w K mg base ["_law_row_here","_law_missing","_law_count","_law_fits","e","_law_others"] "_law_refused" (aE (st 46)) f cdv A outer s H E).nox dx od) a o) (y:="_law_whole") FWk (show A.depth+1+1<_ by have:=hr.dp;omega) rfl hmW FW.kp BW (aW ea fE)) (rQ (FG (GO ea sg)))))) r8)))
  case w =>
   obtain⟨rfl,rfl,hQ⟩:=hW;refine⟨⟨cM,rfl,Av hh.mB,hh.sm⟩,fun a=>?_⟩;refine⟨.ref a,rfl,(show (8:Nat)<=sizeLine by decide),fun p hp=>.inr (.inr ⟨p,[c1,c2,c3,c4,c5,c6,c7,c8],rfl,bG,?_,?_⟩)⟩
   ·intro D hD;simp only[List.mem_cons,List.not_mem_nil,or_false] at hD;rcases hD with rfl | rfl | rfl | rfl | rfl | rfl | rfl | rfl
    ·exact o1.2
    ·exact o2.2
    ·exact o3.2
    ·exact o4.2
    ·exact o5.2
    ·exact o6.2
    ·exact o7.2
    ·exact o8.2
   ·have e:(([c1,c2,c3,c4,c5,c6,c7,c8].map (eK K cM)).any id)=false:=by
     simp only[List.map_cons,List.map_nil,List.any_cons,List.any_nil,n1,n2,n3,n4,n5,n6,n7,n8];rfl
    rw[e];refine⟨.ref a,rfl,.inl ⟨cM,rfl,Av hh.mB,true,iy V.bl hh.mm,?_⟩⟩;refine⟨.ref a,rfl,.inr (.inl ⟨rfl,true,rfl,?_⟩)⟩;refine⟨.bl false,rfl,false,rfl,?_⟩;refine⟨.bl true,rfl,true,rfl,?_⟩;refine⟨rfl,0,rfl,true,rfl,?_⟩;exact⟨rfl,0,0,rfl,rfl,_,rfl,hQ _ (aN.new hp)⟩
  cases fl with
  |next =>
   obtain⟨σ',H',J,z,hz,q⟩:=q;exact jv (rO (kf (i:=3) rfl (.inl rfl))) pins s2 _ H' D J ⟨z,hz,q⟩
  |ret u=>exact q
  |brk=>exact q
  |cont=>exact q
 exact⟨_,j6.nox (gL (jo (i:=3) S.nd rfl (.inl rfl) A6) hrest),rfl,hx⟩
end
noncomputable def fL:List Str:=["range","len","isinstance","int","bool","list","tuple","sorted","all","enumerate","zip","ValueError"]
noncomputable def yV:List Str:=["GRAINS","FOLD"]
noncomputable def df0:Df:=⟨"times_of",st 14,["a","b"],["a","b","product","doubled","left"],b0⟩
noncomputable def df1:Df:=⟨"inverse_of",st 15,["a"],["a"],b1⟩
noncomputable def df2:Df:=⟨"power_of",st 16,["a","k"],["a","k","power","squared","left"],b2⟩
noncomputable def df3:Df:=⟨"worth_at",st 17,["grains","x"],["grains","x","worth","grain"],b3⟩
noncomputable def df4:Df:=⟨"row_product",st 19,["first","second"],["first","second","product","place","grain","step","other"],b4⟩
noncomputable def df5:Df:=⟨"row_with_noughts",st 20,["noughts"],["noughts","row","nought"],b5⟩
noncomputable def df6:Df:=⟨"code_noughts",st 22,["count"],["count"],b6⟩
noncomputable def df7:Df:=⟨"is_code",st 23,["grains","count"],["grains","count"],b7⟩
noncomputable def GL:Df:=⟨"mended_row",st 25,["grains","missing","count"],["grains","missing","count","worths","suspects","mended","wrong"],b8⟩
noncomputable def df9:Df:=⟨"locator_of",st 26,["place","length"],["place","length"],b9⟩
noncomputable def df10:Df:=⟨"suspect_places",st 27,["worths","missing","length"],["worths","missing","length","gaps","freed","rule","others"],b10⟩
noncomputable def df11:Df:=⟨"shortest_rule",st 28,["numbers"],["numbers","rule","length","former","former_gap","place","gap","amended"],b11⟩
noncomputable def df12:Df:=⟨"gap_of_rule",st 29,["rule","numbers","place"],["rule","numbers","place","gap","back","factor"],b12⟩
noncomputable def df13:Df:=⟨"scaled_row",st 30,["row","factor"],["row","factor"],b13⟩
noncomputable def df14:Df:=⟨"added_rows",st 31,["first","second"],["first","second","added","place","grain"],b14⟩
noncomputable def df15:Df:=⟨"changed_row",st 32,["grains","suspects","worths"],["grains","suspects","worths","place","locators","heads","changed","locator","share"],b15⟩
noncomputable def df16:Df:=⟨"distances_product",st 33,["locator","locators"],["locator","locators","product","other"],b16⟩
noncomputable def Dz:Df:=⟨"_law_whole",st 35,["_law_x"],["_law_x"],b17⟩
noncomputable def df18:Df:=⟨"_law_times",st 36,["_law_a","_law_b"],["_law_a","_law_b","_law_wide","_law_k"],b18⟩
noncomputable def df19:Df:=⟨"_law_cell",st 37,["_law_script","_law_k"],["_law_script","_law_k"],b19⟩
noncomputable def df20:Df:=⟨"_law_mixed",st 38,["_law_cell_here","_law_k"],["_law_cell_here","_law_k","_law_once"],b20⟩
noncomputable def df21:Df:=⟨"_law_row",st 39,["_law_script","_law_many"],["_law_script","_law_many","_law_k","_law_row_here"],b21⟩
noncomputable def df22:Df:=⟨"_law_worth",st 40,["_law_row_here","_law_x"],["_law_row_here","_law_x","_law_total","_law_grain"],b22⟩
noncomputable def df23:Df:=⟨"_law_is_code",st 41,["_law_row_here","_law_count"],["_law_row_here","_law_count","_law_x","_law_j"],b23⟩
noncomputable def df24:Df:=⟨"_law_made",st 42,["_law_message","_law_count"],["_law_message","_law_count","_law_row_here","_law_x","_law_j"],b24⟩
noncomputable def df25:Df:=⟨"_law_places",st 43,["_law_script","_law_many","_law_some","_law_turn"],["_law_script","_law_many","_law_some","_law_turn","_law_left","_law_places_here","_law_k","_law_d"],b25⟩
noncomputable def df26:Df:=⟨"_law_spoilt",st 44,["_law_script","_law_row_here","_law_wrong","_law_missing"],["_law_script","_law_row_here","_law_wrong","_law_missing","_law_spoilt_here","_law_k","_law_change"],b26⟩
noncomputable def df27:Df:=⟨"_law_grains",st 45,["_law_found","_law_many"],["_law_found","_law_many","_law_grain"],b27⟩
noncomputable def df28:Df:=⟨"_law_refused",st 46,["_law_row_here","_law_missing","_law_count"],["grains","missing","count","worths","suspects","mended","wrong"],b28⟩
noncomputable def df29:Df:=⟨"_law_asked",st 47,["_law_row_here","_law_missing","_law_count"],["grains","missing","count","worths","suspects","mended","wrong"],b29⟩
noncomputable def df30:Df:=⟨"_law_near",st 48,["_law_found","_law_row_here","_law_missing","_law_count"],["_law_found","_law_row_here","_law_missing","_law_count","_law_wrong"],HE⟩
noncomputable def Ir:Df:=⟨"law",st 49,["_law_script"],["_law_script","_law_d","_law_count","_law_row_here","_law_lost","_law_many","_law_places_here","_law_wrong","_law_spoilt_here","_law_found","_law_place"],b31⟩
noncomputable def p:Pg:=⟨[df0,df1,df2,df3,df4,df5,df6,df7,GL,df9,df10,df11,df12,df13,df14,df15,df16,Dz,df18,df19,df20,df21,df22,df23,df24,df25,df26,df27,df28,df29,df30,Ir],yV,fL,gl,1000⟩
noncomputable def fgn:List Str:=["_law_refused","_law_asked"]
theorem ok:vB (Df.OkX p fgn) p.dfs:=by
 refine⟨?a0,?a1,?a2,?a3,?a4,?a5,?a6,?a7,?a8,?a9,?a10,?a11,?a12,?a13,?a14,?a15,?a16,?a17,?a18,?a19,?a20,?a21,?a22,?a23,?a24,?a25,?a26,?a27,?a28,?a29,?a30,?a31,trivial⟩
 case a0 | a2 | a3 | a4 | a7 | a9 | a13 | a14 | a16 | a18 | a19 | a20 | a21 | a22 | a23 | a24 | a27=>exact .inl (Df.ok_of (n:=60) (by decide +kernel) rfl (fun _ _ _ _ _ _ us hl=>@GV (fun us=>bindArgs _ ⟨us,[]⟩=pure (List.zip _ us)) us hl (fun _ _=>rfl)))
 case a1 | a5 | a6 | a11 | a17 | a31=>exact .inl (Df.ok_of (n:=60) (by decide +kernel) rfl (fun _ _ _ _ _ _ us hl=>@HG (fun us=>bindArgs _ ⟨us,[]⟩=pure (List.zip _ us)) us hl (fun _=>rfl)))
 case a8 | a10 | a12 | a15=>exact .inl (Df.ok_of (n:=60) (by decide +kernel) rfl (fun _ _ _ _ _ _ us hl=>@CG (fun us=>bindArgs _ ⟨us,[]⟩=pure (List.zip _ us)) us hl (fun _ _ _=>rfl)))
 case a25 | a26 | a30=>exact .inl (Df.ok_of (n:=60) (by decide +kernel) rfl (fun _ _ _ _ _ _ us hl=>@len4 (fun us=>bindArgs _ ⟨us,[]⟩=pure (List.zip _ us)) us hl (fun _ _ _ _=>rfl)))
 case a28=>exact .inr ⟨(fun _ _ _ _ _ _ us hl=>@CG (fun us=>bindArgs _ ⟨us,[]⟩=pure (List.zip _ us)) us hl (fun _ _ _=>rfl)),.head _⟩
 case a29=>exact .inr ⟨(fun _ _ _ _ _ _ us hl=>@CG (fun us=>bindArgs _ ⟨us,[]⟩=pure (List.zip _ us)) us hl (fun _ _ _=>rfl)),.tail _ (.head _)⟩
theorem plaw (ns:List Int)(hl:ns.length<=63):∃ fr,p.run 8 31 [.lst (ns.map D.int)] = .ok (.bl true,fr):=law ns hl
noncomputable def dT:Df:=⟨"_law_asked",st 47,["_law_row_here","_law_missing","_law_count"],["_law_row_here","_law_missing","_law_count","_law_told"],.nil⟩
noncomputable def dR:Df:=⟨"_law_refused",st 46,["_law_row_here","_law_missing","_law_count"],["_law_row_here","_law_missing","_law_count","_law_fits","e","_law_others"],.nil⟩
noncomputable def stI:Stmt:=match st 9 with
 |.ClassDef _ _ _ b ..=>b.getD 0 (.Pass ⟨0,0,0,0⟩)
 |s=>s
theorem Jk:z8 (st 47) "_law_row_here" "_law_missing" "_law_count" "_law_told" "mended_row" "NoMend" :=
 ⟨⟨_,_,_,_,_,_,_,_,_,_,_,_,_,_,_,_,_,_,_,_,rfl⟩,iR (p:=p) (d:=dT) (n:=60) (by decide +kernel),rfl,rfl,rfl,rfl,rfl,rfl,by decide⟩
theorem Ie:DI stI "SquareError" "block" :=
 ⟨⟨_,_,_,_,_,_,_,_,_,_,_,_,_,_,_,_,rfl,rfl,by decide,by decide⟩,iR (p:=p) (d:=⟨"__init__",stI,["self","block"],["self","block"],.nil⟩) (n:=60) (by decide +kernel),rfl,rfl,rfl,by decide,by decide⟩
section
variable {P:Program}{w:World}{K:Frag}{mg:Str->Option Value}{base h:Heap}
theorem foreign (KX:K.In h)(G:h.Ns mainGlobals mg)(I:p.In K mg)(hH:yR w K)(hh:∃ cS cM fI fd cs,IV K mg cS cM fI fd stI cs):rS p fgn P w K mg base:=by
 obtain⟨cS,cM,fI,fdI,cs,hh⟩:=hh;intro n i d hd hn ih f fd F;have e24:∀ j,j<32->j≠28->j≠29->∀ e,p.dfs[j]? = some e->e.nm≠("_law_refused" : Str)/\e.nm≠("_law_asked" : Str):=by
  intro j h1 h2 h3 e he;have:∀ j,j<32->j≠28->j≠29->(p.dfs[j]?.all fun e=>e.nm != ("_law_refused" : Str)&&e.nm != ("_law_asked" : Str))=true:=by decide +kernel
  have:=this j h1 h2 h3;rw[he] at this;simpa using this
 have hi:i=28\/i=29:=Classical.byContradiction fun z=>by
  obtain⟨y1,y2⟩:=e24 i (List.getElem?_eq_some_iff.mp hd).1 (fun e=>z (.inl e)) (fun e=>z (.inr e)) d hd;rcases dw.mp hn with e | e
  ·exact y1 e
  ·exact y2 (List.mem_singleton.mp e)
 rcases hi with rfl | rfl
 ·cases hd;obtain⟨f',fd',F',M'⟩:=I.fn 8 GL rfl;have B':=F'.binds (eO ok GL (List.mem_of_getElem? (i:=8) rfl)).bd;have FR:=wJ (m:=60) (d:=GL) (rb:=Vw.vS 3 6 7 10 15) (P:=P) (base:=base) (eO ok) I hH ih (iR (p:=p) (d:=GL) (n:=60) (by decide +kernel)) F' rfl rfl hh.m hh.k (by decide);obtain⟨fW,fdW,FW,MW⟩:=I.fn 17 Dz rfl;have BW:=FW.binds (eO ok Dz (List.mem_of_getElem? (i:=17) rfl)).bd;refine refused KX G hh F (iR (p:=p) (d:=dR) (n:=60) (by decide +kernel)) FR F'.kp B' M' FW (iR (p:=p) (d:=Dz) (n:=60) (by decide +kernel)) BW MW (I.blt "isinstance" (by decide)) (I.blt "ValueError" (by decide)) (I.blt "int" (by decide)) (I.blt "bool" (by decide)) _ fun vs H Q E hs=>?_
  obtain⟨ds,G',hlen,rs,r,hrun,kk⟩:=hs;have hl:ds.length=3:=hlen;have hv:vs.length=3:=by rw[<-rs.len];exact hl
  obtain⟨v1,v2,v3,rfl⟩:∃ v1 v2 v3,vs=[v1,v2,v3]:=by
   match vs,hv with
   |[v1,v2,v3],_=>exact⟨v1,v2,v3,rfl⟩
  refine⟨v1,v2,v3,rfl,ds,G',hl,rs,?_⟩;have hrun:Pc.ret (aC ⟨p.run n,p.gl,p.fuel⟩ (Vw.vS 3 6 7 10 15).rfd (aF ds 7)) = .ok r:=(bE (F:=⟨3,7,b28⟩) rfl hl).symm.trans hrun;have bl:∀(b:Bool) H',r=(.bl b,true)->aN H H'->Q (.bl b) H':=fun b H' e sm=>by
   subst e;exact kk (.bl b) H' [] sm (.bl b) (fun _ z=>(nomatch z)) fun _=>⟨bq,fun _ z=>(nomatch z)⟩
  show match uk ⟨p.run n,p.gl,p.fuel⟩ (Vw.vS 3 6 7 10 15) (aF ds 7) with
   | some (.inl (d,fr))=>_
   | some (.inr k)=>_
   |none=>False
  rcases Af (Vw.vS 3 6 7 10 15) rfl hrun with ⟨q,e,er⟩ | ⟨e,er⟩
  ·rw[e];intro v H' G'' sm _ _ _;exact bl false H' er sm
  ·rw[e];intro H' sm;exact⟨0,rfl,rfl,rfl,fun H2 s2=>bl true H2 er (sm.trans s2)⟩
 ·cases hd;exact C0 (m:=60) (iM:=8) (dM:=GL) (rb:=Vw.vS 3 6 7 10 15) (eO ok) I hH ih rfl rfl rfl rfl rfl rfl (iR (p:=p) (d:=GL) (n:=60) (by decide +kernel)) rfl rfl hh.m hh.k (by decide) Jk hh.mB hh.mm F
end
theorem bdI (kV doc pm:Value)(an:Option Addr)(cdv ct:Value)(us:List Value)(hl:us.length=2):bindArgs (PySem.W.fnOf "__init__" "NoMend.__init__" (eU stI) (bM stI) (aE stI) .none kV doc pm an cdv ct) ⟨us,[]⟩=pure ([("self" : Str),"block"].zip us) :=
 @GV (fun us=>bindArgs _ ⟨us,[]⟩=pure (List.zip _ us)) us hl (fun _ _=>rfl)
theorem nxI:typeLookup (.type "ValueError") "block" = pure none:=by rw[typeLookup_type,builtinLookup_eq_fast];kernel_rfl
end K18
open PySem PySem.W PyProof.Rows
theorem PySem.Challenge.cw_patchsquare_k18_just_beyond_holds : PySem.Challenge.rw_patchsquare_k18_just_beyond.Holds := by
 refine holds_law (by decide +kernel) fun said=>?_
 refine holds_open (q:=K18.Q) (loose:=[]) (XP:=XL K18.Q []) (YP:=Hook.says K18.H) K18.left (Hook.of K18.H) (Hook.keeps K18.H) (fun s e=>xl_of s (Bool.and_eq_true_iff.mp e).1) XL.keeps (by rfl) (by rfl) (by rfl) (fun s e=>recFacts_of (Bool.and_eq_true_iff.mp e).2) (by rfl) said (by decide +kernel) ⟨rfl,rfl,rfl,rfl,rfl,by decide +kernel⟩ ?hw ?hc
 case hw=>w_witness2
 refine Pc.Ji (l:=PySem.Challenge.rw_patchsquare_k18_just_beyond) K18.p K18.fgn 8 31 "_law_script" K18.Ir rfl rfl (fun w h Y=>PySem.W.kIn_of Y) rfl rfl rfl ⟨rfl,by decide,by decide⟩ K18.ok ?st ?nl ?hh ?hf K18.plaw
 case nl=>intro w;rfl
 case hh=>intro w;exact Pc.D7 rfl
 case hf =>
  intro w mg h base KX G I;have F:L2.sR (K18.K w.params) "__init__" "NoMend.__init__" K18.stI 132 _:=⟨⟨_,_,_,_,_,_,_,_,_,rfl,rfl,rfl⟩,rfl⟩;exact K18.foreign KX G I (Pc.D7 rfl) ⟨24,135,132,_,[37,49,61,73,85,97,116,154],⟨du KX G rfl,by kernel_rfl,rfl,by kernel_rfl,by kernel_rfl,by kernel_rfl,F,rfl,F.binds K18.bdI,K18.Ie,K18.nxI⟩,du KX G rfl,by kernel_rfl,by kernel_rfl,by kernel_rfl,by kernel_rfl,⟨⟨⟨rfl,rfl⟩,rfl⟩,⟨⟨rfl,rfl⟩,rfl⟩,⟨⟨rfl,rfl⟩,rfl⟩,⟨⟨rfl,rfl⟩,rfl⟩,⟨⟨rfl,rfl⟩,rfl⟩,⟨⟨rfl,rfl⟩,rfl⟩,⟨⟨rfl,rfl⟩,rfl⟩,⟨⟨rfl,rfl⟩,rfl⟩,trivial⟩,rfl⟩
 case st =>
  intro w;refine⟨⟨?d0,?d1,?d2,?d3,?d4,?d5,?d6,?d7,?d8,?d9,?d10,?d11,?d12,?d13,?d14,?d15,?d16,?d17,?d18,?d19,?d20,?d21,?d22,?d23,?d24,?d25,?d26,?d27,?d28,?d29,?d30,?d31,trivial⟩,Pc.C2 ⟨?glb0,?glb1,trivial⟩,⟨?e0,?e1,?e2,?e3,?e4,?e5,?e6,?e7,?e8,?e9,?e10,?e11,trivial⟩⟩
  case d0 | d1 | d2 | d3 | d4 | d5 | d6 | d7 | d8 | d9 | d10 | d11 | d12 | d13 | d14 | d15 | d16 | d17 | d18 | d19 | d20 | d21 | d22 | d23 | d24 | d25 | d26 | d27 | d28 | d29 | d30 | d31=>refine' Pc.EC ?a ?l ?c ?k;(case a=>rfl);(case l=>rfl);(case c=>rfl);(case k=>rfl)
  case glb0=>refine' Pc.gl_int (i:=64) ?ga0;(case ga0=>rfl)
  case glb1=>refine' Pc.gl_int (i:=67) ?ga1;(case ga1=>rfl)
  case e0 | e1 | e2 | e3 | e4 | e5 | e6 | e7 | e8 | e9 | e10 | e11=>dsimp only;rfl
end
