import PyProof.Rows.All
import Wide.All
import OpenK.AllK
import Wide.FinOn
import Lean
import PyProof.EqAt
import PyProof.EqKinds
import PyProof.TupleCall
import PySem.Syntax
import PySem.Str
import PySem.Sem
import PySem.Builtin.Int.W1All
import PySem.Builtin.Str.Common
import PySem.Builtin.Range.Common
import KE.IntText
import KE.KSortAsk
import PyProof.IsRules
import PyProof.NeKinds
import PyProof.DictWalks
import PyProof.EnumMake
import PyProof.EnumFor
import PyProof.ZipIter
import PyProof.Rows.EnumRows
import PyProof.Rows.FactsT2
import KE.KRevIter
import PyProof.CompFree
import PyProof.CompUse
import PyProof.Cells
import PyProof.ConsumeWalk
import PyProof.IsInstanceH
import PyProof.IsiNone
import PyProof.SumWalkG
import PyProof.Rows.SumGenD
import KE.KDictList
import KE.KSortTup
import KE.KSorted
import KE.KSort
import PyProof.Draws
import PyProof.ListRange
import PyProof.MinMaxWalk
import PyProof.WalkInts
import PyProof.Conv_int_bool
import PyProof.Rows.CallKwBuiltin
import KE.KIntText
import PyProof.Rows.SeqMore
import PyProof.Rows.StrJoin2
import PyProof.Rows.StrSplitAre
import PyProof.Rows.StrSplitJoin
import OpenK.KOwn
import PyProof.RulesAs
import PyProof.RulesDel
import PyProof.ExcArgsOwn
import PyProof.ExcAttrAll.ValueError
import PyProof.Rows.RuleN_isinstance
import PyProof.IsiTuple
import PyProof.ExcInit
import PyProof.InstStoreFacts
import PyProof.ExcBaseAll.ValueError
import PyProof.FString
import PyProof.AssignAttr
import OpenK.KMore
import PyProof.StrCalls
import PyProof.CallStr
import PyProof.StrBlock
import PySem.Challenge.RW_patchsquare_k03_pieces_read
set_option Elab.async false
set_option linter.all false
set_option maxRecDepth 100000
set_option maxHeartbeats 0
abbrev aa:=@Option.map_eq_some_iff
abbrev ae:=@Option.bind_eq_some_iff
abbrev ag:=@List.length_append
abbrev ah:=@List.size_toArray
abbrev ai:=@List.mem_cons_of_mem
abbrev aj:=@Bool.and_eq_true
abbrev ak:=@List.length_cons
abbrev ao:=@Bool.false_ne_true
abbrev aq:=@List.mem_cons_self
abbrev au:=@List.length_map
abbrev av:=@Nat.le_refl
abbrev aw:=@List.mem_append_right
abbrev ax:=@List.append_assoc
abbrev ay:=@List.map_cons
abbrev az:=@decide_eq_false
abbrev ba:=@List.append_nil
abbrev be:=@Nat.le_trans
abbrev bg:=@Nat.lt_of_lt_of_le
abbrev bh:=@List.mem_append_left
abbrev bj:=@decide_eq_true
abbrev bo:=@Nat.ne_of_lt
abbrev bp:=@Option.map_some
abbrev bq:=@PySem.mem_of_lookup
abbrev bt:=@List.length_take
abbrev bu:=@List.length_nil
abbrev bw:=@List.all_eq_true
abbrev bz:=@Option.some.injEq
abbrev cf:=@List.mem_of_getElem
abbrev cg:=@List.nodup_nil
abbrev cj:=@Option.some.inj
abbrev cm:=@List.lookup_cons
abbrev cn:=@List.length_drop
abbrev cq:=@beq_self_eq_true
abbrev cu:=@Ne.symm
abbrev cv:=@Array.length_toList
abbrev cw:=@of_decide_eq_true
abbrev cx:=@decide_eq_true_eq
abbrev cy:=@List.flatten_cons
abbrev cz:=@Bool.false_eq_true
abbrev c5:=@Int.toNat_natCast
abbrev c6:=@List.replicate_succ
abbrev c7:=@Nat.lt_irrefl
abbrev c8:=@if_true
abbrev c9:=@Int.eq_ofNat_of_zero_le
abbrev de:=@Nat.zero_le
abbrev df:=@List.all_cons
abbrev dh:=@List.length_singleton
abbrev dk:=@if_false
abbrev dm:=@List.map_map
abbrev dn:=@List.length_range
abbrev dq:=@List.any_cons
abbrev dr:=@PySem.F.plainAttrs_list
abbrev dt:=@Option.bind_some
abbrev du:=@Nat.lt_succ_self
abbrev dw:=@Nat.zero_add
abbrev dz:=@List.length_replicate
abbrev ed:=@Int.mul_comm
abbrev eg:=@List.mem_singleton
abbrev eh:=@List.lookup_append
abbrev en:=@Nat.lt_succ_of_lt
abbrev eo:=@List.take_of_length_le
abbrev fh:=@Bool.not_eq_true'
abbrev fi:=@List.nil_sublist
abbrev fk:=@PySem.W.mg_of
abbrev fm:=@List.map_append
abbrev fq:=@Bool.or_eq_true
abbrev fu:=@List.map_nil
abbrev fv:=@congrArg
abbrev fw:=@PySem.W.callWith_K
abbrev f6:=@PySem.F.excBase_ValueError
abbrev f7:=@List.zip_cons_cons
abbrev f9:=@List.drop_eq_getElem_cons
abbrev gc:=@List.nodup_append
abbrev gd:=@List.mem_cons
abbrev gg:=@Nat.le_of_not_lt
abbrev gh:=@List.not_mem_nil
abbrev gi:=@List.ext_getElem
abbrev gj:=@beq_iff_eq
abbrev gn:=@PySem.W.cellsFrom_some
abbrev gp:=@PySem.F.plainAttrs_str
abbrev gq:=@List.range_succ_eq_map
abbrev gr:=@List.of_mem_zip
abbrev gu:=@List.nil_append
abbrev gv:=@List.foldl_cons
abbrev gw:=@Int.emod_nonneg
abbrev gx:=@Int.mul_ediv_add_emod
section
namespace L2
open PySem PySem.Spec PyProof.Rows
noncomputable abbrev Key:=Sum Int Str
noncomputable def ja:Key->Value->Bool
 |.inl k,v=>Value.isInt k v
 |.inr x,v=>Value.isStrOf x v
noncomputable def keyH (w:World):Key->Int
 |.inl k=>hashInt k
 |.inr x=>hashStr w x
theorem aV:∀{k:Key}{v:Value},ja k v=true->(∃ i t,k=Sum.inl i/\v=Value.int i t)\/(∃ x t,k=Sum.inr x/\v=Value.str x t)
 | .inl i,v,h=>by
  obtain⟨t,e⟩:=Value.isInt_shape (k:=i) (v:=v) h;exact .inl ⟨i,t,rfl,e⟩
 | .inr x,v,h=>by
  obtain⟨t,e⟩:=Value.isStrOf_shape (x:=x) (v:=v) h;exact .inr ⟨x,t,rfl,e⟩
theorem rV (i:Int)(t:Tok):ja (.inl i) (.int i t)=true:=by simp[ja,Value.isInt]
theorem rW (x:Str)(t:Tok):ja (.inr x) (.str x t)=true:=by simp[ja,Value.isStrOf]
theorem zq (a b:Int):decide ((Sum.inl a:Key)=Sum.inl b)=(a==b):=by
 by_cases e:a=b
 ·subst e;simp
 ·have h:¬ (Sum.inl a:Key)=Sum.inl b:=fun q=>e (Sum.inl.inj q)
  rw[az h];exact (beq_eq_false_iff_ne.mpr e).symm
theorem zU (a b:Str):decide ((Sum.inr a:Key)=Sum.inr b)=decide (a=b):=by
 by_cases e:a=b
 ·subst e;simp
 ·have h:¬ (Sum.inr a:Key)=Sum.inr b:=fun q=>e (Sum.inr.inj q)
  rw[az h,az e]
theorem AU (a:Int)(b:Str):decide ((Sum.inl a:Key)=Sum.inr b)=false:=az (fun q=>nomatch q)
theorem Bc (a:Str)(b:Int):decide ((Sum.inr a:Key)=Sum.inl b)=false:=az (fun q=>nomatch q)
noncomputable def aO (prog:Program)(w:World):PySem.KeyKind prog w Key where
 is:=ja
 hash:=keyH w
 inj:=fun v a b ha hb=>by
  rcases aV ha with ⟨i,t,rfl,rfl⟩ | ⟨x,t,rfl,rfl⟩
  ·rcases aV hb with ⟨j,u,rfl,e⟩ | ⟨y,u,rfl,e⟩
   ·injection e with e1 _;rw[e1]
   ·exact nomatch e
  ·rcases aV hb with ⟨j,u,rfl,e⟩ | ⟨y,u,rfl,e⟩
   ·exact nomatch e
   ·injection e with e1 _;rw[e1]
 byValue:=fun k v h=>by
  rcases aV h with ⟨i,t,rfl,rfl⟩ | ⟨x,t,rfl,rfl⟩<;>rfl
 pyHash:=fun hv h=>by
  rcases aV hv with ⟨i,t,rfl,rfl⟩ | ⟨x,t,rfl,rfl⟩
  ·exact wpAny_pyHash_int h
  ·exact wpAny_pyHash_str h
 eqBool:=fun hu hv h=>by
  rcases aV hu with ⟨i,t,rfl,rfl⟩ | ⟨x,t,rfl,rfl⟩
  ·rcases aV hv with ⟨j,u,rfl,rfl⟩ | ⟨y,u,rfl,rfl⟩
   ·rw[zq] at h;exact wpAny_eqBool_int h
   ·rw[AU] at h;exact SeqAt.EqAt.int_str i t y u _ _ _ _ h
  ·rcases aV hv with ⟨j,u,rfl,rfl⟩ | ⟨y,u,rfl,rfl⟩
   ·rw[Bc] at h;exact SeqAt.EqAt.str_int x t j u _ _ _ _ h
   ·rw[zU] at h;exact wpAny_eqBool_str h
 «strs»:=fun k x t v h=>by
  rcases aV h with ⟨i,u,rfl,e⟩ | ⟨y,u,rfl,e⟩
  ·exact nomatch e
  ·injection e with e1 _
   subst e1;cases v<;>rfl
theorem dI (prog:Program)(w:World)(i:Int)(t:Tok):(aO prog w).is (.inl i) (.int i t)=true:=rV i t
theorem cL (prog:Program)(w:World)(x:Str)(t:Tok):(aO prog w).is (.inr x) (.str x t)=true:=rW x t
end L2
namespace L2
open PySem PySem.Spec PyProof.Rows
inductive V where
 | non | bl (b:Bool) | int (i:Int) | str (x:Str) | byt (b:Array UInt8) | flt (b:UInt64) | ref (a:Addr) | ty (n:String)
 deriving DecidableEq
noncomputable def RelV:V->Value->Prop
 |.non,u=>u=Value.none
 |.bl b,u=>u=Value.bool b
 |.int i,u=>∃ t,u=Value.int i t
 |.str x,u=>∃ t,u=Value.str x t
 |.byt b,u=>∃ t,u=Value.bytes b t
 |.flt b,u=>∃ t,u=Value.float b t
 |.ref a,u=>u=Value.ref a
 |.ty n,u=>u=Value.type n
noncomputable abbrev aN:List V->List Value->Prop:=Paired RelV
theorem aN.length {xs:List V}{us:List Value}(r:aN xs us):xs.length=us.length:=Paired.length r
theorem aN.get:∀{xs:List V}{us:List Value}{i:Nat}{x:V},aN xs us->xs[i]? = some x->∃ u,us[i]? = some u/\RelV x u
 |_,_,_,_,.nil,e=>by simp at e
 |_,_,0,_,.cons r _,e=>by simp at e;subst e;exact⟨_,rfl,r⟩
 | _,_,i+1,x,.cons _ t,e=>by
  obtain⟨u,h1,h2⟩:=aN.get (i:=i) (x:=x) t (by simpa using e);exact⟨u,by simpa using h1,h2⟩
theorem aN.append:∀{xs ys:List V}{us ws:List Value},aN xs us->aN ys ws->aN (xs++ys) (us++ws)
 |_,_,_,_,.nil,s=>s
 |_,_,_,_,.cons r t,s=>.cons r (aN.append t s)
theorem aN.take:∀{xs:List V}{us:List Value}(n:Nat),aN xs us->aN (xs.take n) (us.take n)
 |_,_,0,_=>.nil
 |_,_,_+1,.nil=>.nil
 |_,_,n+1,.cons r t=>.cons r (aN.take n t)
theorem aN.drop:∀{xs:List V}{us:List Value}(n:Nat),aN xs us->aN (xs.drop n) (us.drop n)
 |_,_,0,r=>r
 |_,_,_+1,.nil=>.nil
 |_,_,n+1,.cons _ t=>aN.drop n t
noncomputable def iq:Option V->Option Value->Prop
 |some v,some u=>RelV v u
 |none,none=>True
 |_,_=>False
def KV {κ:Type}:List (κ×V)->List (κ×Value)->Prop:=Paired fun (p:κ×V) (q:κ×Value)=>p.1=q.1/\RelV p.2 q.2
noncomputable def kV:Key->V
 |.inl i=>.int i
 |.inr x=>.str x
inductive HO where
 | lst (xs:List V)
 | tup (xs:List V)
 | dK (kvs:List (Key×V)) | dT (kvs:List (List Key×V))
 | set (S:Int->Bool) (n:Nat)
 | ins (C dx:Addr) (fs:List (Str×V))
 | own (x:Addr)
 | xd (fs:List (Str×V))
 | met (f x:Addr)
 | rng (lo hi:Int)
 | frz (o:Obj) (u:HO)
 | tbl (ps:Array Value)
 | ext (φ:Heap->Prop)
noncomputable abbrev Hp:=Addr->Option HO
noncomputable def upd (H:Hp)(a:Addr)(o:HO):Hp:=fun b=>if b=a then some o else H b
theorem aI {H:Hp}{a:Addr}{o:HO}:upd H a o a=some o:=by unfold upd;rw[if_pos rfl]
theorem aL {H:Hp}{a b:Addr}{o:HO}(h:b≠a):upd H a o b=H b:=by unfold upd;rw[if_neg h]
theorem eH {H:Hp}{a b:Addr}{o:HO}(h:H a=some o)(h':H b=none):a≠b:=by
 intro e;subst e;rw[h] at h';cases h'
section
variable (P:Program)(w:World)
noncomputable def bQ (H:Hp)(h:Heap)(a:Addr):HO->Prop
 |.lst xs=>xs.length<=sizeLine/\∃(its:List Value) (n:Nat),aN xs its/\h.get? a=some { cls:=.type "list",data:=.seq its.toArray n }
 |.tup xs=>xs.length<=sizeLine/\∃ its:List Value,aN xs its/\IsTup h a its.toArray
 |.dK kvs=>kvs.length<=sizeLine/\(a==sysModules)=false/\∃ vs,KV kvs vs/\h.DictOf (aO P w) a vs
 | .dT kvs=>kvs.length<=sizeLine/\(a==sysModules)=false/\∃ xs:List (List Key×Addr×Value),
   Paired (fun (p:List Key×V) (q:List Key×Addr×Value)=>p.1=q.1/\H q.2.1=some (.tup (p.1.map kV))/\RelV p.2 q.2.2) kvs xs /\
   ∃ o es ep,h.get? a=some o/\o.ExactDict/\o.data = .dict es ep/\es.toList=xs.map (entryOfKey (tupleKind (aO P w)))/\(xs.map (·.1)).Nodup
 |.set S n=>h.SetOf (intKind P w) a S n
 | .ins C dx fs=>H dx=some (.own a)/\fs.length<=1000/\dx≠a/\h.get? a=some (PySem.W.instObj C dx) /\
   ∃ mA,h.Ns1 dx mA/\(∀ f,iq (fs.lookup f) (mA f))/\PySem.Within mA (fs.map (·.1))
 |.own _=>∃ o,h.get? a=some o
 |.xd fs=>∃ mA,h.Ns1 a mA/\∀ f,iq (fs.lookup f) (mA f)
 |.rng lo hi=>∃ t u v,h.get? a=some { cls:=.type "range",data:=.fields #[.int lo t,.int hi u,.int 1 v] }
 |.frz o u=>h.get? a=some o/\bQ H h a u
 |.tbl ps=>h.get? a=some { cls:=.none,data:=.fields ps }
 |.met f x=>h.get? a=some (PySem.W.methodObj (.ref f) (.ref x))
 |.ext φ=>φ h/\(∃ o,h.get? a=some o)/\∀ h1 h2:Heap,φ h1->(∀ o,h1.get? a=some o->h2.get? a=some o)->φ h2
def gU (H:Hp)(h:Heap):Prop:=∀ a o,H a=some o->bQ P w H h a o
end
section
variable {P:Program}{w:World}{H H':Hp}{h h':Heap}{a:Addr}{o:HO}
theorem bQ.lt (x:bQ P w H h a o):a<h.objs.size:=by
 cases o with
 |lst xs=>obtain⟨_,_,_,_,e⟩:=x;exact Heap.lt_size e
 |tup xs=>obtain⟨_,_,_,p⟩:=x;exact p.lt
 |dK kvs=>obtain⟨_,_,_,_,o,_,_,e,_⟩:=x;exact Heap.lt_size e
 |dT kvs=>obtain⟨_,_,_,_,o,_,_,e,_⟩:=x;exact Heap.lt_size e
 |set S n=>obtain⟨o,_,_,_,e,_⟩:=x;exact Heap.lt_size e
 |ins C dx fs=>obtain⟨_,_,_,e,_⟩:=x;exact Heap.lt_size e
 |own y=>obtain⟨_,e⟩:=x;exact Heap.lt_size e
 |xd fs=>obtain⟨_,⟨_,_,_,e,_⟩,_⟩:=x;exact Heap.lt_size e
 |rng lo hi=>obtain⟨_,_,_,e⟩:=x;exact Heap.lt_size e
 |frz ob u=>obtain⟨e,_⟩:=x;exact Heap.lt_size e
 |tbl ps=>exact Heap.lt_size (show h.get? a=some _ from x)
 |met f y=>exact Heap.lt_size (show h.get? a=some _ from x)
 |ext φ=>obtain⟨_,⟨_,e⟩,_⟩:=x;exact Heap.lt_size e
theorem Paired.mapP {α β:Type}{F G:α->β->Prop}:∀{l₁:List α}{l₂:List β},Paired F l₁ l₂->(∀ a b,F a b->G a b)->Paired G l₁ l₂
 |_,_,.nil,_=>.nil
 |_,_,.cons r t,f=>.cons (f _ _ r) (Paired.mapP t f)
theorem bQ.stay (x:bQ P w H h a o)(k:∀ b u,(b=a\/H b=some (.own a))->h.get? b=some u->h'.get? b=some u)
  (ho:∀ b,H b=some (.own a)->H' b=some (.own a)) (ht:∀ b xs,H b=some (.tup xs)->H' b=some (.tup xs)):bQ P w H' h' a o:=by
 induction o with
 |lst xs=>obtain⟨z,its,n,r,e⟩:=x;exact⟨z,its,n,r,k _ _ (.inl rfl) e⟩
 |tup xs=>obtain⟨z,its,r,ob,e,c⟩:=x;exact⟨z,its,r,ob,k _ _ (.inl rfl) e,c⟩
 |dK kvs=>obtain⟨z,y,vs,r,ob,es,ep,e,c⟩:=x;exact⟨z,y,vs,r,ob,es,ep,k _ _ (.inl rfl) e,c⟩
 |dT kvs =>
  obtain⟨z,y,xs,r,ob,es,ep,e,c⟩:=x;exact⟨z,y,xs,Paired.mapP r fun p q z=>⟨z.1,ht _ _ z.2.1,z.2.2⟩,ob,es,ep,k _ _ (.inl rfl) e,c⟩
 |set S n=>obtain⟨ob,es,ep,t,e,c⟩:=x;exact⟨ob,es,ep,t,k _ _ (.inl rfl) e,c⟩
 |ins C dx fs =>
  obtain⟨d,z,ne,e,mA,⟨od,es,ep,e2,c⟩,r⟩:=x;exact⟨ho _ d,z,ne,k _ _ (.inl rfl) e,mA,⟨od,es,ep,k _ _ (.inr d) e2,c⟩,r⟩
 |own y=>obtain⟨ob,e⟩:=x;exact⟨ob,k _ _ (.inl rfl) e⟩
 |xd fs=>obtain⟨mA,⟨od,es,ep,e,c⟩,r⟩:=x;exact⟨mA,⟨od,es,ep,k _ _ (.inl rfl) e,c⟩,r⟩
 |rng lo hi=>obtain⟨t,u,v,e⟩:=x;exact⟨t,u,v,k _ _ (.inl rfl) e⟩
 |frz ob u ih=>obtain⟨e,q⟩:=x;exact⟨k _ _ (.inl rfl) e,ih q⟩
 |tbl ps =>
  have e:h.get? a=some { cls:=.none,data:=.fields ps }:=x;show h'.get? a=some { cls:=.none,data:=.fields ps };exact k a _ (.inl rfl) e
 |met f y =>
  have e:h.get? a=some (PySem.W.methodObj (.ref f) (.ref y)):=x;show h'.get? a=some (PySem.W.methodObj (.ref f) (.ref y));exact k a _ (.inl rfl) e
 |ext φ=>obtain⟨p,⟨o,e⟩,st⟩:=x;exact⟨st _ _ p fun o q=>k _ _ (.inl rfl) q,⟨o,k _ _ (.inl rfl) e⟩,st⟩
theorem gU.lt (x:gU P w H h)(e:H a=some o):a<h.objs.size:=(x a o e).lt
theorem gU.fresh (x:gU P w H h)(e:h.objs.size<=a):H a=none:=by
 cases q:H a with
 |none=>rfl
 |some u=>exact absurd (bg (x.lt q) e) (c7 _)
theorem gU.kept (x:gU P w H h)(k:∀ b u,h.get? b=some u->h'.get? b=some u):gU P w H h':=fun a o e =>
 (x a o e).stay (fun b u _ q=>k b u q) (fun _ q=>q) fun _ _ q=>q
theorem gU.laid (x:gU P w H h)(k:∀ b u,h.get? b=some u->h'.get? b=some u)(hp:h.objs.size<=a)(new:bQ P w (upd H a o) h' a o):gU P w (upd H a o) h':=fun b u e=>by
 have hn:=x.fresh hp;by_cases hb:b=a
 ·subst hb;rw[aI] at e;cases e;exact new
 ·rw[aL hb] at e;exact (x b u e).stay (fun c v _ q=>k c v q) (fun c q=>by rw[aL (eH q hn)];exact q) fun c xs q=>by rw[aL (eH q hn)];exact q
end
def Rd (H:Hp)(a:Addr)(u:HO):Prop:=H a=some u\/∃ o,H a=some (.frz o u)
theorem Rd.ok {P:Program}{w:World}{H:Hp}{h:Heap}{a:Addr}{u:HO}(r:Rd H a u)(x:gU P w H h):bQ P w H h a u:=by
 rcases r with r | ⟨o,r⟩
 ·exact x a u r
 ·obtain⟨_,q⟩:=x a _ r;exact q
noncomputable def nQ:Option HO->Prop
 | some (.lst _)=>True
 | some (.dK _)=>True
 | some (.dT _)=>True
 | some (.set _ _)=>True
 | some (.ins _ _ _)=>True
 | some (.ext _)=>True
 |_=>False
section
variable {P:Program}{w:World}{H:Hp}{h h':Heap}{x e:Addr}{o':HO}
theorem gU.write (ok:gU P w H h)(mu:nQ (H x))(he:e=x\/H e=some (.own x))(k:∀ b u,b≠e->h.get? b=some u->h'.get? b=some u)(heo:∃ u,h'.get? e=some u)
  (new:bQ P w (upd H x o') h' x o'):gU P w (upd H x o') h':=fun b u q=>by
 have nown:∀ c y,H c=some (.own y)->c≠x:=fun c y r z=>by subst z;rw[r] at mu;exact mu
 have ntup:∀ c xs,H c=some (.tup xs)->c≠x:=fun c xs r z=>by subst z;rw[r] at mu;exact mu
 by_cases hb:b=x
 ·subst hb;rw[aI] at q;cases q;exact new
 ·rw[aL hb] at q;by_cases hbe:b=e
  ·have q':H b=some (.own x):=by
    rcases he with z | z
    ·exact absurd (hbe.trans z) hb
    ·rw[hbe];exact z
   rw[q] at q';cases q';obtain⟨v,hv⟩:=heo;exact⟨v,by rw[hbe];exact hv⟩
  ·refine (ok b u q).stay (fun c v hc r=>k c v ?_ r) (fun c r=>by rw[aL (nown c b r)];exact r) fun c xs r=>by rw[aL (ntup c xs r)];exact r
   rcases hc with rfl | hc
   ·exact hbe
   ·rintro rfl;rcases he with z | z
    ·exact nown c b hc z
    ·rw[hc] at z;cases z;exact hb rfl
end
structure Un (fs ex:List Addr)(H H':Hp)(h h':Heap):Prop where
 keep:∀ b o,h.get? b=some o->H b=none->b∉fs->b∉ex->h'.get? b=some o
 slot:∀ b o,h.get? b=some o->H b=none->b∈fs->b∉ex->∃ sl,h'.get? b=some { o with slots:=sl }
 free:∀ b o,h.get? b=some o->H b=none->b∉ex->H' b=none
 there:∀ b o,h.get? b=some o->b∉ex->∃ o',h'.get? b=some o'
 tups:∀ b xs,H b=some (.tup xs)->H' b=some (.tup xs)
 frzs:∀ b o u,H b=some (.frz o u)->H' b=some (.frz o u)
 tbls:∀ b ps,H b=some (.tbl ps)->∃ more,H' b=some (.tbl (ps++more))
section
variable {fs fs' ex ex':List Addr}{H H1 H2:Hp}{h h1 h2 h':Heap}{a x e:Addr}{o:HO}
theorem Un.any (u:Un fs ex H H1 h h1){b:Addr}{ob:Obj}(q:h.get? b=some ob)(n:H b=none)(hx:b∉ex):∃ sl,h1.get? b=some { ob with slots:=sl }:=by
 by_cases hb:b∈fs
 ·exact u.slot b ob q n hb hx
 ·exact⟨ob.slots,u.keep b ob q n hb hx⟩
theorem Un.kept (k:∀ b u,h.get? b=some u->h'.get? b=some u):Un fs ex H H h h' :=
 ⟨fun b ob q _ _ _=>k b ob q,fun b ob q _ _ _=>⟨ob.slots,k b ob q⟩,fun _ _ _ n _=>n,fun b ob q _=>⟨ob,k b ob q⟩,fun _ _ q=>q,fun _ _ _ q=>q,fun _ ps q=>⟨#[],by rw[q];simp⟩⟩
theorem Un.refl:Un fs ex H H h h:=Un.kept fun _ _ q=>q
theorem Un.laid (k:∀ b u,h.get? b=some u->h'.get? b=some u)(hp:h.objs.size<=a)(hn:H a=none):Un fs ex H (upd H a o) h h' where
 keep:=fun b u q _ _ _=>k b u q
 slot:=fun b u q _ _ _=>⟨u.slots,k b u q⟩
 free:=fun b u q n _=>by rw[aL (bo (bg (Heap.lt_size q) hp))];exact n
 there:=fun b u q _=>⟨u,k b u q⟩
 tups:=fun b xs q=>by rw[aL (eH q hn)];exact q
 frzs:=fun b u xs q=>by rw[aL (eH q hn)];exact q
 tbls:=fun b ps q=>⟨#[],by rw[aL (eH q hn),q];simp⟩
theorem Un.write (mu:nQ (H x))(he:e=x\/H e=some (.own x))(k:∀ b u,b≠e->h.get? b=some u->h'.get? b=some u)(heo:∃ u,h'.get? e=some u):Un fs ex H (upd H x o) h h':=by
 have hx:∀ b,H b=none->b≠x:=fun b n z=>by subst z;rw[n] at mu;exact mu
 have hb:∀ b,H b=none->b≠e:=fun b n z=>by
  subst z;rcases he with r | r
  ·exact hx b n r
  ·rw[n] at r;cases r
 have hm:∀ b u,H b=some u->¬ nQ (some u)->b≠x:=fun b u q nm z=>by subst z;rw[q] at mu;exact nm mu
 refine⟨fun b u q n _ _=>k b u (hb b n) q,fun b u q n _ _=>⟨u.slots,k b u (hb b n) q⟩,fun b u q n _=>by rw[aL (hx b n)];exact n,fun b u q _=>?_,
  fun b xs q=>by rw[aL (hm b _ q fun z=>z)];exact q,fun b u xs q=>by rw[aL (hm b _ q fun z=>z)];exact q,fun b ps q=>⟨#[],by rw[aL (hm b _ q fun z=>z),q];simp⟩⟩
 by_cases hbe:b=e
 ·subst hbe;exact heo
 ·exact⟨u,k b u hbe q⟩
end
noncomputable def trk (h:Heap)(H:Hp):List Addr:=(List.range h.objs.size).filter fun a=>(H a).isSome
noncomputable def mJ (h:Heap)(H:Hp):Heap:=PySem.W.hideAll h (trk h H)
theorem rZ (h:Heap)(H:Hp):(mJ h H).objs.size=h.objs.size:=PySem.W.hideAll_size _ _
theorem tH {h:Heap}{H:Hp}{b:Addr}{o:Obj}(e:h.get? b=some o)(n:H b=none):(mJ h H).get? b=some o :=
 PySem.W.hideAll_get _ e fun hm=>by
  have q:(H b).isSome=true:=(List.mem_filter.mp hm).2;rw[n] at q;simp at q
theorem xF {h:Heap}{H:Hp}{b:Addr}{o:Obj}(e:(mJ h H).get? b=some o):h.get? b=some o/\H b=none:=by
 have e':h.get? b=some o:=PySem.W.of_hideAll (trk h H) e;refine⟨e',?_⟩;cases q:H b with
 |none=>rfl
 |some x =>
  have hm:b∈trk h H:=List.mem_filter.mpr ⟨List.mem_range.mpr (Heap.lt_size e'),by simp[q]⟩;have z:(mJ h H).get? b=none:=PySem.W.hideAll_none (trk h H) hm;rw[z] at e;cases e
noncomputable def x3 (g h:Heap)(L:Addr):List (Addr×Obj):=(List.range h.objs.size).filterMap fun a=>if a=L\/(g.get? a).isSome=true then none else (h.get? a).map fun o=>(a,o)
noncomputable def rest (g h:Heap)(L d:Addr):List (Addr×Obj):=(x3 g h L).filter fun p=>decide (p.1≠d)
end L2
namespace L2
open PySem PySem.Spec PyProof.Rows
structure Mod (K:PySem.W.Frag)(mg:Str->Option Value)(base:Heap):Prop where
 kin:K.In base
 glob:base.Ns mainGlobals mg
 blt:∃ mb,base.Ns builtinsNs mb/\∀ x:Str,x≠"__name__"->mb x=bootBuiltins x
 nolimit:base.NoLimit
structure Cx where
 prog:Program
 w:World
 K:PySem.W.Frag
 mg:Str->Option Value
 base:Heap
 A:Around
 N:List Str
 s₀:Shared
 H₀:Hp
 env:Env
 outer:List Env
 stack:List Env
 ex:List Addr
 fn:Str->Bool
 calm:Bool
 pn:List (Addr×Obj)
 xe:Value->Shared->Prop
noncomputable def fR (l:List Env):List Addr:=l.filterMap (·.frame)
noncomputable abbrev Cx.fs (X:Cx):List Addr:=fR X.outer
def yU (sc:Scope)(x:Str):Prop:=sc.names.lookup x=some .local\/sc.names.lookup x=some .cell\/sc.names.lookup x=some .free
def Loc (sc:Scope)(x:Str):Prop:=sc.names.lookup x=some .local\/sc.names.lookup x=some .cell
noncomputable def Look (env:Env)(h:Heap)(m:Str->Option Value)(x:Str)(u:Value):Prop :=
 (env.kindOf x=some .local/\m x=some u)\/((env.kindOf x=some .cell\/env.kindOf x=some .free)/\∃ c,env.cells.lookup x=some c/\h.IsCell c (some u))
structure Cx.Ok (X:Cx):Prop where
 mod:Mod X.K X.mg X.base
 kind:X.env.scope.kind = .function
 glob:X.env.globals=mainGlobals
 blt:X.env.builtins=builtinsNs
 above:X.s₀.heap.objs.size<=X.env.locals
 inj:∀ x y c,X.env.cells.lookup x=some c->X.env.cells.lookup y=some c->x=y
 has:∀ x,(X.env.kindOf x=some .cell\/X.env.kindOf x=some .free)->∃ c,X.env.cells.lookup x=some c
 cab:∀ x c,X.fn x=true->X.env.cells.lookup x=some c->X.s₀.heap.objs.size<=c
 hd:X.calm=true->X.A.handled=none
 frames:X.A.frames=some X.stack
 stk:X.stack=X.outer\/(X.stack=X.env::X.outer/\X.env.frame=some X.env.locals)
 exf:∀ b∈X.ex,b≠X.env.locals/\∀ x c,X.env.cells.lookup x=some c->c≠b
 bs:∀ b o,X.base.get? b=some o->X.s₀.heap.get? b=some o/\X.H₀ b=none
 bsz:X.base.objs.size<=X.s₀.heap.objs.size
 noex:∀ b o,X.base.get? b=some o->b∉X.ex
 exfs:∀ b∈X.ex,b∉X.fs
 funs:X.s₀.heap.FunFrames X.base X.outer
 frf:∀ b∈X.fs,X.H₀ b=none
structure Inv (X:Cx)(pins:List (Addr×Obj))(σ:List (Option V))(H:Hp)(s:Shared):Prop where
 ok:X.Ok
 os:s.os=X.s₀.os
 bare:AllBare s.gens
 base:Un X.fs X.ex X.H₀ H X.s₀.heap s.heap
 loc:∃ m,s.heap.Ns X.env.locals m/\∀(i:Nat) (x:Str) (v:V),X.N[i]? = some x->σ[i]? = some (some v)->yU X.env.scope x->∃ u,RelV v u/\Look X.env s.heap m x u
 cell:∀ x c,X.env.cells.lookup x=some c->∃ v,s.heap.IsCell c v
 free:H X.env.locals=none
 freeC:∀ x c,X.env.cells.lookup x=some c->H c=none
 pin:∀ p∈X.pn++pins,s.heap.get? p.1=some p.2/\H p.1=none/\p.1≠X.env.locals/\p.1∉X.fs/\∀ v,p.2.data≠.cell v
 hok:gU X.prog X.w H s.heap
 len:σ.length=X.N.length
section
variable {X:Cx}{pins:List (Addr×Obj)}{σ:List (Option V)}{H H':Hp}{s:Shared}{h':Heap}
theorem Cx.Ok.nofr (ok:X.Ok){b:Addr}{o:Obj}(e:X.base.get? b=some o):b∉X.fs:=fun hb=>by
 have:=(ok.funs.mem hb).1;rw[e] at this;cases this
theorem Inv.bs (I:Inv X pins σ H s):∀ b o,X.base.get? b=some o->s.heap.get? b=some o/\H b=none:=fun b o e =>
 ⟨I.base.keep b o (I.ok.bs b o e).1 (I.ok.bs b o e).2 (I.ok.nofr e) (I.ok.noex b o e),I.base.free b o (I.ok.bs b o e).1 (I.ok.bs b o e).2 (I.ok.noex b o e)⟩
theorem Inv.bk (I:Inv X pins σ H s):∀ b o,X.base.get? b=some o->s.heap.get? b=some o:=fun b o e=>(I.bs b o e).1
theorem Inv.mod (I:Inv X pins σ H s):Mod X.K X.mg X.base:=I.ok.mod
theorem Inv.kIn (I:Inv X pins σ H s):X.K.In s.heap:=I.ok.mod.kin.keeps I.bk
theorem Inv.lt (I:Inv X pins σ H s):X.env.locals<s.heap.objs.size:=let ⟨_,hn,_⟩:=I.loc;hn.lt
theorem Inv.sz (I:Inv X pins σ H s):X.s₀.heap.objs.size<=s.heap.objs.size:=be I.ok.above (Nat.le_of_lt I.lt)
theorem Inv.nofs (I:Inv X pins σ H s){a:Addr}(h:s.heap.objs.size<=a):a∉X.fs:=fun hb=>by
 obtain⟨_,o,ho,_⟩:=I.ok.funs.mem hb;exact absurd (bg (Heap.lt_size ho) (be I.sz h)) (c7 _)
theorem Inv.cne (I:Inv X pins σ H s):∀ x c,X.env.cells.lookup x=some c->c≠X.env.locals:=fun x c e z=>by
 obtain⟨v,o,ho,hd⟩:=I.cell x c e;obtain⟨m,⟨o',es,ep,ho',hd',_⟩,_⟩:=I.loc;rw[z,ho'] at ho;cases ho;rw[hd'] at hd;cases hd
theorem Inv.funs (I:Inv X pins σ H s):s.heap.FunFrames X.base X.outer:=by
 have all:∀(l:List Env),(∀ b∈fR l,b∈X.fs)->X.s₀.heap.FunFrames X.base l->s.heap.FunFrames X.base l:=by
  intro l
  induction l with
  |nil=>intro _ _;trivial
  |cons env r ih =>
   intro hs hl;obtain⟨hk,⟨L,o,hf,hn,ho,hd⟩,hr⟩:=hl;have hL:L∈X.fs:=hs L (by unfold fR;rw[List.filterMap_cons,hf];exact aq);obtain⟨sl,e⟩:=I.base.slot L o ho (I.ok.frf L hL) hL fun z=>I.ok.exfs L z hL
   exact⟨hk,⟨L,_,hf,hn,e,hd⟩,ih (fun b hb=>hs b (by unfold fR;rw[List.filterMap_cons,hf];exact ai _ hb)) hr⟩
 exact all X.outer (fun _ hb=>hb) I.ok.funs
theorem Inv.stack (I:Inv X pins σ H s):s.heap.FunFrames X.base X.stack:=by
 rcases I.ok.stk with e | ⟨e,hf⟩
 ·rw[e];exact I.funs
 ·rw[e];obtain⟨m,hn,_⟩:=I.loc;refine .cons (by rw[I.ok.kind];decide) hf hn ?_ I.funs;exact Heap.get?_none_of_le (be I.ok.bsz I.ok.above)
theorem Inv.stkSub (I:Inv X pins σ H s):∀ b∈fR X.stack,b∈X.env.locals::X.fs:=fun b hb=>by
 rcases I.ok.stk with e | ⟨e,hf⟩
 ·rw[e] at hb;exact ai _ hb
 ·rw[e] at hb;unfold fR at hb;rw[List.filterMap_cons,hf] at hb;exact hb
theorem Inv.stkFree (I:Inv X pins σ H s):∀ b∈fR X.stack,H b=none:=fun b hb=>by
 rcases gd.mp (I.stkSub b hb) with e | hb
 ·rw[e];exact I.free
 ·obtain⟨_,o,ho,_⟩:=I.ok.funs.mem hb;exact I.base.free b o ho (I.ok.frf b hb) fun z=>I.ok.exfs b z hb
theorem Inv.step {g':Array GenState}{t':Nat}{d':Drawn}{ch:List Addr}(I:Inv X pins σ H s)
  (hch:∀ b∈ch,(b∈X.ex\/X.s₀.heap.objs.size<=b)/\b≠X.env.locals/\(∀ x c,X.env.cells.lookup x=some c->c≠b)/\∀ p∈X.pn++pins,p.1≠b)
  (keep:∀ b o,b≠X.env.locals->b∉X.fs->b∉ch->s.heap.get? b=some o->H b=none->h'.get? b=some o)
  (slot:∀ b o,b≠X.env.locals->b∈X.fs->b∉ch->s.heap.get? b=some o->H b=none->∃ sl,h'.get? b=some { o with slots:=sl }) (free:∀ b o,b∉ch->s.heap.get? b=some o->H b=none->H' b=none)
  (there:∀ b o,b∉ch->s.heap.get? b=some o->∃ o',h'.get? b=some o')
  (tups:∀ b xs,H b=some (.tup xs)->H' b=some (.tup xs)) (frzs:∀ b o u,H b=some (.frz o u)->H' b=some (.frz o u)) (tbls:∀ b ps,H b=some (.tbl ps)->∃ more,H' b=some (.tbl (ps++more)))
  (ns:∀ m,s.heap.Ns X.env.locals m->h'.Ns X.env.locals m) (hok:gU X.prog X.w H' h') (hg:AllBare g') :
  Inv X pins σ H' { s with heap:=h',gens:=g',drawn:=d',toks:=t' }:=by
 have neL:∀ b o,X.s₀.heap.get? b=some o->b≠X.env.locals:=fun b o e=>bo (bg (Heap.lt_size e) I.ok.above)
 have neC:∀ b o,X.s₀.heap.get? b=some o->b∉X.ex->b∉ch:=fun b o e hx hb=>by
  rcases (hch b hb).1 with z | z
  ·exact hx z
  ·exact absurd (bg (Heap.lt_size e) z) (c7 _)
 have cellK:∀ x c,X.env.cells.lookup x=some c->∀ v,s.heap.IsCell c v->h'.IsCell c v:=fun x c e v ⟨o,ho,hd⟩=>by
  have nch:c∉ch:=fun z=>(hch c z).2.2.1 x c e rfl
  by_cases hc:c∈X.fs
  ·obtain⟨sl,q⟩:=slot c o (I.cne x c e) hc nch ho (I.freeC x c e);exact⟨_,q,hd⟩
  ·exact⟨o,keep c o (I.cne x c e) hc nch ho (I.freeC x c e),hd⟩
 refine⟨I.ok,I.os,hg,⟨fun b o e n hb hx=>?_,fun b o e n hb hx=>?_,fun b o e n hx=>?_,fun b o e hx=>?_,fun b xs e=>tups b xs (I.base.tups b xs e),fun b o xs e=>frzs b o xs (I.base.frzs b o xs e),fun b ps e=>?_⟩,?_,fun x c e=>?_,?_,fun x c e=>?_,fun p hp=>?_,hok,I.len⟩
 ·exact keep b o (neL b o e) hb (neC b o e hx) (I.base.keep b o e n hb hx) (I.base.free b o e n hx)
 ·obtain⟨sl,e1⟩:=I.base.slot b o e n hb hx;obtain⟨sl',e2⟩:=slot b _ (neL b o e) hb (neC b o e hx) e1 (I.base.free b o e n hx);exact⟨sl',e2⟩
 ·obtain⟨o',e1⟩:=I.base.there b o e hx;exact free b o' (neC b o e hx) e1 (I.base.free b o e n hx)
 ·obtain⟨o',e1⟩:=I.base.there b o e hx;exact there b o' (neC b o e hx) e1
 ·obtain⟨m1,e1⟩:=I.base.tbls b ps e;obtain⟨m2,e2⟩:=tbls b _ e1;exact⟨m1++m2,by rw[e2,Array.append_assoc]⟩
 ·obtain⟨m,hn,hl⟩:=I.loc;refine⟨m,ns m hn,fun i x v e1 e2 e3=>?_⟩;obtain⟨u,r,l⟩:=hl i x v e1 e2 e3;refine⟨u,r,?_⟩;rcases l with l | ⟨k,c,e,z⟩
  ·exact .inl l
  ·exact .inr ⟨k,c,e,cellK x c e _ z⟩
 ·obtain⟨v,z⟩:=I.cell x c e;exact⟨v,cellK x c e v z⟩
 ·obtain⟨m,⟨o,_,_,ho,_⟩,_⟩:=I.loc;exact free _ o (fun z=>(hch _ z).2.1 rfl) ho I.free
 ·obtain⟨v,o,ho,hd⟩:=I.cell x c e;exact free c o (fun z=>(hch c z).2.2.1 x c e rfl) ho (I.freeC x c e)
 ·obtain⟨e,n,ne,nf,d⟩:=I.pin p hp;have nch:p.1∉ch:=fun z=>(hch p.1 z).2.2.2 p hp rfl
  exact⟨keep p.1 p.2 ne nf nch e n,free p.1 p.2 nch e n,ne,nf,d⟩
theorem Inv.un {t':Nat}(I:Inv X pins σ H s)(u:Un X.fs [] H H' s.heap h')(hok:gU X.prog X.w H' h'):Inv X pins σ H' { s with heap:=h',toks:=t' }:=by
 obtain⟨m,⟨o,es,ep,ho,r⟩,_⟩:=id I.loc;obtain⟨sl,hL⟩:=u.any ho I.free (by simp);exact I.step (g':=s.gens) (d':=s.drawn) (ch:=[]) (fun _ z=>nomatch z) (fun b o _ hb _ e n=>u.keep b o e n hb (by simp)) (fun b o _ hb _ e n=>u.slot b o e n hb (by simp)) (fun b o _ e n=>u.free b o e n (by simp)) (fun b o _ e=>u.there b o e (by simp)) u.tups u.frzs u.tbls (fun m' hm=>by
  obtain⟨o',es',ep',ho',r'⟩:=hm;rw[ho] at ho';cases ho';exact⟨_,es',ep',hL,r'⟩) hok I.bare
theorem Inv.call {g':Array GenState}{t':Nat}{d':Drawn}{ch:List Addr}(I:Inv X pins σ H s)(u:Un (fR X.stack) ch H H' s.heap h')(hok:gU X.prog X.w H' h')(hg:AllBare g')
  (hch:∀ b∈ch,(b∈X.ex\/X.s₀.heap.objs.size<=b)/\b≠X.env.locals/\(∀ x c,X.env.cells.lookup x=some c->c≠b)/\∀ p∈X.pn++pins,p.1≠b) :
  Inv X pins σ H' { s with heap:=h',gens:=g',drawn:=d',toks:=t' }:=by
 obtain⟨m,⟨o,es,ep,ho,r⟩,_⟩:=id I.loc;obtain⟨sl,hL⟩:=u.any ho I.free fun z=>(hch _ z).2.1 rfl
 exact I.step (ch:=ch) hch (fun b o hL hb hc e n=>u.keep b o e n (fun z=>(gd.mp (I.stkSub b z)).elim hL hb) hc) (fun b o _ _ hc e n=>u.any e n hc) (fun b o hc e n=>u.free b o e n hc) (fun b o hc e=>u.there b o e hc) u.tups u.frzs u.tbls (fun m' hm=>by
  obtain⟨o',es',ep',ho',r'⟩:=hm;rw[ho] at ho';cases ho';exact⟨_,es',ep',hL,r'⟩) hok hg
theorem Inv.turned {t':Nat}{it:Addr}(I:Inv X pins σ H s)(k:∀ b o,b≠it->s.heap.get? b=some o->h'.get? b=some o)(hn:H it=none)(hL:it≠X.env.locals)
  (h1:it∈X.ex\/X.s₀.heap.objs.size<=it) (h2:∀ x c,X.env.cells.lookup x=some c->c≠it) (h3:∀ p∈X.pn++pins,p.1≠it):Inv X pins σ H { s with heap:=h',toks:=t' }:=by
 have nit:∀ b u,H b=some u->b≠it:=fun b u e z=>by rw[z,hn] at e;cases e
 refine I.step (g':=s.gens) (d':=s.drawn) (ch:=[it]) (fun b hb=>?_) (fun b o _ _ hc e _=>k b o (fun z=>hc (by simp[z])) e) (fun b o _ _ hc e _=>⟨o.slots,k b o (fun z=>hc (by simp[z])) e⟩) (fun _ _ _ _ n=>n)
  (fun b o hc e=>⟨o,k b o (fun z=>hc (by simp[z])) e⟩) (fun _ _ e=>e) (fun _ _ _ e=>e) (fun b ps e=>⟨#[],by rw[e];simp⟩) (fun m hm=>?_) (fun b u e=>?_) I.bare
 ·have e:b=it:=by simpa using hb
  subst e;exact⟨h1,hL,h2,h3⟩
 ·obtain⟨o,es,ep,ho,r⟩:=hm;exact⟨o,es,ep,k _ o (cu hL) ho,r⟩
 ·refine (I.hok b u e).stay (fun c v hc q=>k c v ?_ q) (fun _ q=>q) fun _ _ q=>q
  rcases hc with z | z
  ·rw[z];exact nit b u e
  ·exact nit c _ z
theorem Inv.tok (I:Inv X pins σ H s)(t:Nat):Inv X pins σ H { s with toks:=t }:=I.un (h':=s.heap) (t':=t) Un.refl I.hok
theorem Inv.kept {t':Nat}(I:Inv X pins σ H s)(k:∀ b u,s.heap.get? b=some u->h'.get? b=some u):Inv X pins σ H { s with heap:=h',toks:=t' }:=I.un (Un.kept k) (I.hok.kept k)
theorem Inv.laid {a:Addr}{o:HO}{t':Nat}(I:Inv X pins σ H s)(k:∀ b u,s.heap.get? b=some u->h'.get? b=some u)(hp:s.heap.objs.size<=a)(new:bQ X.prog X.w (upd H a o) h' a o) :
  Inv X pins σ (upd H a o) { s with heap:=h',toks:=t' }:=I.un (Un.laid k hp (I.hok.fresh hp)) (I.hok.laid k hp new)
theorem Inv.write {x e:Addr}{o:HO}{t':Nat}(I:Inv X pins σ H s)(mu:nQ (H x))(he:e=x\/H e=some (.own x))(k:∀ b u,b≠e->s.heap.get? b=some u->h'.get? b=some u)(heo:∃ u,h'.get? e=some u)
  (new:bQ X.prog X.w (upd H x o) h' x o):Inv X pins σ (upd H x o) { s with heap:=h',toks:=t' }:=I.un (Un.write mu he k heo) (I.hok.write mu he k heo new)
theorem Inv.weak {σ':List (Option V)}(I:Inv X pins σ H s)(hl:σ'.length=σ.length)(w:∀(i:Nat) v,σ'[i]? = some (some v)->σ[i]? = some (some v)):Inv X pins σ' H s :=
 ⟨I.ok,I.os,I.bare,I.base,let ⟨m,hn,hl'⟩:=I.loc;⟨m,hn,fun i x v e1 e2 e3=>hl' i x v e1 (w i v e2) e3⟩,I.cell,I.free,I.freeC,I.pin,I.hok,hl.trans I.len⟩
theorem Inv.pins_of {pins':List (Addr×Obj)}(I:Inv X pins σ H s)(h:∀ p∈pins',s.heap.get? p.1=some p.2/\H p.1=none/\p.1≠X.env.locals/\p.1∉X.fs/\∀ v,p.2.data≠.cell v):Inv X pins' σ H s :=
 ⟨I.ok,I.os,I.bare,I.base,I.loc,I.cell,I.free,I.freeC,fun p hp=>(List.mem_append.mp hp).elim (fun z=>I.pin p (bh _ z)) (h p),I.hok,I.len⟩
theorem nE {N:List Str}(hN:N.Nodup){i j:Nat}{x:Str}(a:N[i]? = some x)(b:N[j]? = some x):i=j:=by
 obtain⟨h1,e1⟩:=List.getElem?_eq_some_iff.mp a;obtain⟨h2,e2⟩:=List.getElem?_eq_some_iff.mp b;exact (List.getElem_inj hN).mp (e1.trans e2.symm)
theorem rq {M:Model}{A:Around}{E:Value->Shared->Prop}{i:Nat}{x:Str}{v:V}{u:Value}{Q:Unit->Shared->Prop}(I:Inv X pins σ H s)(hN:X.N.Nodup)(hi:X.N[i]? = some x)(hx:Loc X.env.scope x)(r:RelV v u)
  (h:∀ s',Inv X pins (σ.set i (some v)) H s'->(∃ a,Heap.SameBut a s.heap s'.heap/\(a=X.env.locals\/X.env.cells.lookup x=some a))->Q () s') (hf:X.fn x=true\/X.env.scope.names.lookup x=some .local:=by first | exact .inl rfl | exact .inr rfl | assumption):wpAny M A (storeName X.env x u) Q E s:=by
 obtain⟨m,hn,hl⟩:=id I.loc;have hcls:(X.env.scope.kind == .class || (X.env.scope.kind == .module&&X.env.locals != X.env.globals))=false:=by rw[I.ok.kind];rfl
 have hiσ:i<σ.length:=by rw[I.len];exact (List.getElem?_eq_some_iff.mp hi).1
 have cne:=I.cne;have tracked:∀{a:Addr}{h':Heap},(∃ o,s.heap.get? a=some o/\H a=none)->Heap.SameBut a s.heap h'->gU X.prog X.w H h':=fun {a h'} ha hs b ob e=>by
  obtain⟨_,_,hfree⟩:=ha;refine (I.hok b ob e).stay (fun c w' hc q=>(hs.2 c ?_).trans q) (fun _ q=>q) fun _ _ q=>q
  rintro rfl;rcases hc with rfl | hc
  ·rw[hfree] at e;cases e
  ·rw[hfree] at hc;cases hc
 rcases hx with hk | hk
 ·refine wpAny_storeName_local hk hn (fun h' hn' hs=>?_) hcls;obtain⟨oL,_,_,hoL,_⟩:=id hn;refine h _ ⟨I.ok,I.os,I.bare,⟨fun b o e n hb hx=>?_,fun b o e n hb hx=>?_,I.base.free,fun b o e hx=>?_,I.base.tups,I.base.frzs,I.base.tbls⟩,⟨_,hn',fun j y v' e1 e2 e3=>?_⟩,fun y c e=>?_,I.free,I.freeC,fun p hp=>?_,tracked ⟨oL,hoL,I.free⟩ hs,by simpa using I.len⟩ ⟨_,hs,.inl rfl⟩
  ·exact (hs.2 b (bo (bg (Heap.lt_size e) I.ok.above))).trans (I.base.keep b o e n hb hx)
  ·obtain⟨sl,e1⟩:=I.base.slot b o e n hb hx;exact⟨sl,(hs.2 b (bo (bg (Heap.lt_size e) I.ok.above))).trans e1⟩
  ·obtain⟨o',e1⟩:=I.base.there b o e hx;exact⟨o',(hs.2 b (bo (bg (Heap.lt_size e) I.ok.above))).trans e1⟩
  ·by_cases hj:j=i
   ·subst hj;rw[hi] at e1;cases e1;rw[List.getElem?_set_self hiσ] at e2;cases e2;exact⟨u,r,.inl ⟨hk,by simp⟩⟩
   ·rw[List.getElem?_set_ne (cu hj)] at e2;obtain⟨u',r',q⟩:=hl j y v' e1 e2 e3;refine⟨u',r',?_⟩;rcases q with ⟨k,e⟩ | ⟨k,c,e,z⟩
    ·refine .inl ⟨k,?_⟩;have:y≠x:=fun e=>hj (nE hN e1 (e ▸ hi))
     simp[this,e]
    ·exact .inr ⟨k,c,e,z.sameBut hs (cne y c e)⟩
  ·obtain⟨w',z⟩:=I.cell y c e;exact⟨w',z.sameBut hs (cne y c e)⟩
  ·obtain⟨e,n,ne,nf,d⟩:=I.pin p hp;exact⟨(hs.2 p.1 ne).trans e,n,ne,nf,d⟩
 ·have hfn:X.fn x=true:=by
   rcases hf with z | z
   ·exact z
   ·rw[z] at hk;cases hk
  obtain⟨c,hc⟩:=I.ok.has x (.inl hk);obtain⟨w',z⟩:=I.cell x c hc;refine wpAny_storeName_cell I.ok.kind hk hc z (fun h' hc' hs=>?_);obtain⟨oc,hoc,hocd⟩:=id z;refine h { s with heap:=h' } ⟨I.ok,I.os,I.bare,⟨fun b o e n hb hx=>?_,fun b o e n hb hx=>?_,I.base.free,fun b o e hx=>?_,I.base.tups,I.base.frzs,I.base.tbls⟩,⟨m,hn.sameBut hs (Ne.symm (cne x c hc)),fun j y v' e1 e2 e3=>?_⟩,fun y c' e=>?_,I.free,I.freeC,fun p hp=>?_,tracked ⟨oc,hoc,I.freeC x c hc⟩ hs,by simpa using I.len⟩ ⟨c,hs,.inr hc⟩
  ·exact (hs.2 b (bo (bg (Heap.lt_size e) (I.ok.cab x c hfn hc)))).trans (I.base.keep b o e n hb hx)
  ·obtain⟨sl,e1⟩:=I.base.slot b o e n hb hx;exact⟨sl,(hs.2 b (bo (bg (Heap.lt_size e) (I.ok.cab x c hfn hc)))).trans e1⟩
  ·obtain⟨o',e1⟩:=I.base.there b o e hx;exact⟨o',(hs.2 b (bo (bg (Heap.lt_size e) (I.ok.cab x c hfn hc)))).trans e1⟩
  ·by_cases hj:j=i
   ·subst hj;rw[hi] at e1;cases e1;rw[List.getElem?_set_self hiσ] at e2;cases e2;exact⟨u,r,.inr ⟨.inl hk,c,hc,hc'⟩⟩
   ·rw[List.getElem?_set_ne (cu hj)] at e2;obtain⟨u',r',q⟩:=hl j y v' e1 e2 e3;refine⟨u',r',?_⟩;rcases q with q | ⟨k,c',e,z'⟩
    ·exact .inl q
    ·refine .inr ⟨k,c',e,z'.sameBut hs ?_⟩;rintro rfl;exact hj (nE hN e1 (I.ok.inj _ _ _ e hc ▸ hi))
  ·by_cases hcc:c'=c
   ·subst hcc;exact⟨_,hc'⟩
   ·obtain⟨w2,z2⟩:=I.cell y c' e;exact⟨w2,z2.sameBut hs hcc⟩
  ·obtain⟨e,n,ne,nf,d⟩:=I.pin p hp;refine⟨(hs.2 p.1 ?_).trans e,n,ne,nf,d⟩;intro q;rw[q,hoc] at e;have q':oc=p.2:=cj e;exact d w' (by rw[<-q'];exact hocd)
theorem ke {M:Model}{A:Around}{E:Value->Shared->Prop}{i:Nat}{x:Str}{v:V}{u:Value}{Q:Unit->Shared->Prop}(I:Inv X pins σ H s)(hN:X.N.Nodup)(hi:X.N[i]? = some x)(hx:Loc X.env.scope x)(r:RelV v u)
  (h:∀ s',Inv X pins (σ.set i (some v)) H s'->Q () s') (hf:X.fn x=true\/X.env.scope.names.lookup x=some .local:=by first | exact .inl rfl | exact .inr rfl | assumption):wpAny M A (storeName X.env x u) Q E s :=
 rq I hN hi hx r (fun s' I' _=>h s' I') hf
theorem Inv.call' {s':Shared}{ch:List Addr}(I:Inv X pins σ H s)(ho:s'.os=s.os)(u:Un (fR X.stack) ch H H' s.heap s'.heap)(hok:gU X.prog X.w H' s'.heap)(hg:AllBare s'.gens)
  (hch:∀ b∈ch,(b∈X.ex\/X.s₀.heap.objs.size<=b)/\b≠X.env.locals/\(∀ x c,X.env.cells.lookup x=some c->c≠b)/\∀ p∈X.pn++pins,p.1≠b):Inv X pins σ H' s':=by
 obtain⟨h',g',d',t',o'⟩:=s';have e:o'=s.os:=ho;subst e;exact I.call (g':=g') (t':=t') (d':=d') u hok hg hch
end
noncomputable abbrev XK:=Value->Option Addr->Hp->Prop
noncomputable abbrev St:=List (Option V)
noncomputable abbrev VK:=V->Hp->Prop
noncomputable abbrev TE:=St->Hp->VK->Prop
noncomputable abbrev TT:=St->Hp->(Bool->Hp->Prop)->Prop
noncomputable abbrev TA:=St->Hp->(List V->Hp->Prop)->Prop
structure Ends where
 nx:St->Hp->Prop
 rt:VK
 bk:St->Hp->Prop:=fun _ _=>False
 ct:St->Hp->Prop:=fun _ _=>False
noncomputable abbrev TS:=Ends->St->Hp->Prop
def EP (X:Cx)(pins:List (Addr×Obj))(σ:St)(Q:VK)(u:Value)(s':Shared):Prop:=∃ v H',Inv X pins σ H' s'/\RelV v u/\Q v H'
def TP (X:Cx)(pins:List (Addr×Obj))(σ:St)(Q:Bool->Hp->Prop)(b:Bool)(s':Shared):Prop:=∃ H',Inv X pins σ H' s'/\Q b H'
def AP (X:Cx)(pins:List (Addr×Obj))(σ:St)(Q:List V->Hp->Prop)(us:List Value)(s':Shared):Prop:=∃ vs H',Inv X pins σ H' s'/\aN vs us/\Q vs H'
noncomputable def SP (X:Cx)(pins:List (Addr×Obj))(D:Ends)(f:Flow)(s':Shared):Prop :=
 match f with
 |.next=>∃ σ' H',Inv X pins σ' H' s'/\D.nx σ' H'
 |.brk=>∃ σ' H',Inv X pins σ' H' s'/\D.bk σ' H'
 |.cont=>∃ σ' H',Inv X pins σ' H' s'/\D.ct σ' H'
 |.ret u=>∃ v σ' H',Inv X pins σ' H' s'/\RelV v u/\D.rt v H'
noncomputable def PE (X:Cx)(e:Expr)(t:TE):Prop :=
 ∀(pins:List (Addr×Obj)) (s:Shared) (σ:St) (H:Hp) (Q:VK),Inv X pins σ H s->t σ H Q->wpAny (model X.prog X.w) X.A (eval e X.env) (EP X pins σ Q) X.xe s
noncomputable def PT (X:Cx)(e:Expr)(t:TT):Prop :=
 ∀(pins:List (Addr×Obj)) (s:Shared) (σ:St) (H:Hp) (Q:Bool->Hp->Prop),Inv X pins σ H s->t σ H Q->wpAny (model X.prog X.w) X.A (isTrue e X.env (eval e X.env)) (TP X pins σ Q) X.xe s
noncomputable def PW (X:Cx)(e:Expr)(t:TT):Prop :=
 ∀(whole:Sem Value) (pins:List (Addr×Obj)) (s:Shared) (σ:St) (H:Hp) (Q:Bool->Hp->Prop),Inv X pins σ H s->t σ H Q->wpAny (model X.prog X.w) X.A (isTrue e X.env whole) (TP X pins σ Q) X.xe s
theorem PW.pt {X:Cx}{e:Expr}{t:TT}(h:PW X e t):PT X e t:=h _
noncomputable def PA (X:Cx)(es:List Expr)(t:TA):Prop :=
 ∀(pos:Pos) (pins:List (Addr×Obj)) (s:Shared) (σ:St) (H:Hp) (Q:List V->Hp->Prop),Inv X pins σ H s->t σ H Q->wpAny (model X.prog X.w) X.A (spliced (backTo pos (starEach es X.env))) (AP X pins σ Q) X.xe s
noncomputable def PS (X:Cx)(st:Stmt)(t:TS):Prop :=
 ∀(pins:List (Addr×Obj)) (s:Shared) (σ:St) (H:Hp) (D:Ends),Inv X pins σ H s->t D σ H->wpAny (model X.prog X.w) X.A (exec st X.env) (SP X pins D) X.xe s
noncomputable def jS (X:Cx)(st:List Stmt)(t:TS):Prop :=
 ∀(pins:List (Addr×Obj)) (s:Shared) (σ:St) (H:Hp) (D:Ends),Inv X pins σ H s->t D σ H->wpAny (model X.prog X.w) X.A (execs st X.env) (SP X pins D) X.xe s
theorem bW {α:Type}{t:Sem α}{Q Q':α->Shared->Prop}{M:Model}{A:Around}{E:Value->Shared->Prop}{s:Shared}(h:wpAny M A t Q E s)(hQ:∀ a s,Q a s->Q' a s):wpAny M A t Q' E s:=wpAny_mono h hQ fun _ _ x=>x
end L2
namespace L2
open PySem PySem.Spec PyProof.Rows
section
variable {X:Cx}
def jk (i:Nat):TE:=fun σ H Q=>∃ v,σ[i]? = some (some v)/\Q v H
def tC (v:V):TE:=fun _ H Q=>Q v H
theorem pX {i:Nat}{x:Str}{pos:Pos}(hN:X.N[i]? = some x)(hv:yU X.env.scope x)(hd:(x==("__debug__" : Str))=false:=by decide) (hcd:(x==("__classdict__" : Str))=false:=by decide):PE X (.Name x pos) (jk i):=by
 intro pins s σ H Q I h;obtain⟨v,e,h⟩:=h;obtain⟨m,hn,hl⟩:=I.loc;obtain⟨u,r,l⟩:=hl i x v hN e hv;have fin:EP X pins σ Q u s:=⟨v,H,I,r,h⟩;rcases l with ⟨hk,hm⟩ | ⟨hk,c,hc,hcell⟩
 ·exact wpAny_Name (wpAny_loadName_local I.ok.kind hk hn hm fin) hd
 ·rcases hk with hk | hk
  ·exact wpAny_Name (wpAny_loadName_cell I.ok.kind hk hc hcell fin) hd
  ·exact wpAny_Name (wpAny_loadName_free I.ok.kind hk hc hcell fin hcd) hd
theorem jG {i j pos}:PE X (.Constant (.int i) j pos) (tC (.int i)):=fun _ _ _ H _ I h=>wpAny_Constant_int ⟨.int i,H,I.tok _,⟨_,rfl⟩,h⟩
theorem zc {b j pos}:PE X (.Constant (.bool b) j pos) (tC (.bl b)):=fun _ _ _ H _ I h=>Constant_bool ⟨.bl b,H,I,rfl,h⟩
theorem vc {j pos}:PE X (.Constant .none j pos) (tC .non):=fun _ _ _ H _ I h=>Constant_none ⟨.non,H,I,rfl,h⟩
theorem hV {x j pos}:PE X (.Constant (.str x) j pos) (tC (.str x)):=fun _ _ _ H _ I h=>Calls.Constant_str ⟨.str x,H,I.tok _,⟨_,rfl⟩,h⟩
def Gl (X:Cx)(x:Str):Prop:=X.env.kindOf x=some .globalImplicit
theorem gO {E:Value->Shared->Prop}{pins:List (Addr×Obj)}{s:Shared}{σ:St}{H:Hp}{x:Str}{u:Value}{pos:Pos}{Q:Value->Shared->Prop}(I:Inv X pins σ H s)(hg:Gl X x)(hm:X.mg x=some u)(h:Q u s)
  (hd:(x==("__debug__" : Str))=false:=by decide):wpAny (model X.prog X.w) X.A (eval (.Name x pos) X.env) Q E s :=
 Calls.Name_function_global I.ok.kind hg (Calls.loadGlobal_global (by rw[I.ok.glob];exact I.mod.glob.keeps I.bk) hm h) hd
theorem mj {E:Value->Shared->Prop}{pins:List (Addr×Obj)}{s:Shared}{σ:St}{H:Hp}{x:Str}{u:Value}{pos:Pos}{Q:Value->Shared->Prop}(I:Inv X pins σ H s)(hg:Gl X x)(hm:X.mg x=none)(hv:bootBuiltins x=some u)(h:Q u s)
  (hn:x≠"__name__":=by decide) (hd:(x==("__debug__" : Str))=false:=by decide):wpAny (model X.prog X.w) X.A (eval (.Name x pos) X.env) Q E s:=by
 obtain⟨mb,h1,h2⟩:=I.mod.blt;exact Calls.Name_function_global I.ok.kind hg (Calls.loadGlobal_builtin (by rw[I.ok.glob];exact I.mod.glob.keeps I.bk) hm (by rw[I.ok.blt];exact h1.keeps I.bk) ((h2 x hn).trans hv) h) hd
theorem rl {x:Str}{v:V}{u:Value}{pos:Pos}(hg:Gl X x)(hm:X.mg x=some u)(r:RelV v u)(hd:(x==("__debug__" : Str))=false:=by decide):PE X (.Name x pos) (tC v) :=
 fun _ _ _ H _ I h=>gO I hg hm ⟨v,H,I,r,h⟩ hd
theorem xP {x:Str}{v:V}{u:Value}{pos:Pos}(hg:Gl X x)(hm:X.mg x=none)(hv:bootBuiltins x=some u)(r:RelV v u)(hn:x≠"__name__":=by decide) (hd:(x==("__debug__" : Str))=false:=by decide):PE X (.Name x pos) (tC v) :=
 fun _ _ _ H _ I h=>mj I hg hm hv ⟨v,H,I,r,h⟩ hn hd
variable {a b:Expr}{ta tb:TE}{pos:Pos}
variable {tA tB':TT}{rest:List Expr}
def tAnd (t u:TT):TT:=fun σ H Q=>t σ H fun c H1=>if c=true then u σ H1 Q else Q false H1
def tOr (t u:TT):TT:=fun σ H Q=>t σ H fun c H1=>if c=true then Q true H1 else u σ H1 Q
def tNot (t:TT):TT:=fun σ H Q=>t σ H fun c H1=>Q (!c) H1
theorem xZ (ha:PT X a tA):PW X (.BoolOp .And [a] pos) tA:=by
 intro wh pins s σ H Q I h;refine isTrue_and (bW (ha pins s σ H Q I h) fun c s1 e=>?_);cases c with
 |true=>exact isTrue_and_nil e
 |false=>exact e
theorem BB (ha:PT X a tA):PW X (.BoolOp .Or [a] pos) tA:=by
 intro wh pins s σ H Q I h;refine isTrue_or (bW (ha pins s σ H Q I h) fun c s1 e=>?_);cases c with
 |false=>exact isTrue_or_nil e
 |true=>exact e
theorem A0 (ha:PT X a tA)(hb:PW X (.BoolOp .And (b::rest) pos) tB'):PW X (.BoolOp .And (a::b::rest) pos) (tAnd tA tB'):=by
 intro wh pins s σ H Q I h;refine isTrue_and (bW (ha pins s σ H _ I h) fun c s1 ⟨H1,I1,q1⟩=>?_);cases c with
 |true=>exact hb wh pins s1 σ H1 Q I1 q1
 |false=>exact⟨H1,I1,q1⟩
theorem DL (ha:PT X a tA)(hb:PW X (.BoolOp .Or (b::rest) pos) tB'):PW X (.BoolOp .Or (a::b::rest) pos) (tOr tA tB'):=by
 intro wh pins s σ H Q I h;refine isTrue_or (bW (ha pins s σ H _ I h) fun c s1 ⟨H1,I1,q1⟩=>?_);cases c with
 |true=>exact⟨H1,I1,q1⟩
 |false=>exact hb wh pins s1 σ H1 Q I1 q1
theorem zz (ha:PT X a tA):PT X (.UnaryOp .Not a pos) (tNot tA):=by
 intro pins s σ H Q I h;exact isTrue_not (ha pins s σ H (fun c H1=>Q (!c) H1) I h)
def CF (ta tb:TE):TE:=fun σ H Q=>ta σ H fun x H1=>∃ c,x = .bl c/\if c=true then tb σ H1 Q else Q (.bl false) H1
def tOrV (ta tb:TE):TE:=fun σ H Q=>ta σ H fun x H1=>∃ c,x = .bl c/\if c=true then Q (.bl true) H1 else tb σ H1 Q
def Cc (ta:TE):TE:=fun σ H Q=>ta σ H fun x H1=>∃ c,x = .bl c/\Q (.bl (!c)) H1
theorem Bo {op}{t:TE}(h:PE X a t):PE X (.BoolOp op [a] pos) t:=fun pins s σ H Q I hw=>BoolOp_one (h pins s σ H Q I hw)
theorem zA (ha:PE X a ta)(hb:PE X (.BoolOp .And (b::rest) pos) tb):PE X (.BoolOp .And (a::b::rest) pos) (CF ta tb):=by
 intro pins s σ H Q I h;refine BoolOp_and (bW (ha pins s σ H _ I h) fun v s1 ⟨x,H1,I1,r1,q1⟩=>?_);obtain⟨c,rfl,q1⟩:=q1;cases r1;refine wpAny_truthy_bool ?_;cases c with
 |true=>exact hb pins s1 σ H1 Q I1 q1
 |false=>exact⟨.bl false,H1,I1,rfl,q1⟩
theorem C2 (ha:PE X a ta)(hb:PE X (.BoolOp .Or (b::rest) pos) tb):PE X (.BoolOp .Or (a::b::rest) pos) (tOrV ta tb):=by
 intro pins s σ H Q I h;refine BoolOp_or (bW (ha pins s σ H _ I h) fun v s1 ⟨x,H1,I1,r1,q1⟩=>?_);obtain⟨c,rfl,q1⟩:=q1;cases r1;refine wpAny_truthy_bool ?_;cases c with
 |false=>exact hb pins s1 σ H1 Q I1 q1
 |true=>exact⟨.bl true,H1,I1,rfl,q1⟩
theorem As (ha:PE X a ta):PE X (.UnaryOp .Not a pos) (Cc ta):=by
 intro pins s σ H Q I h;refine UnaryOp_ (bW (ha pins s σ H _ I h) fun v s1 ⟨x,H1,I1,r1,q1⟩=>?_);obtain⟨c,rfl,q1⟩:=q1;cases r1;exact not_of (wpAny_truthy_bool ⟨.bl (!c),H1,I1,rfl,q1⟩)
def tIf (t:TT)(ta tb:TE):TE:=fun σ H Q=>t σ H fun c H1=>if c=true then ta σ H1 Q else tb σ H1 Q
theorem nh {c:Expr}(hc:PT X c tA)(ha:PE X a ta)(hb:PE X b tb):PE X (.IfExp c a b pos) (tIf tA ta tb):=by
 intro pins s σ H Q I h;refine wpAny_IfExp (bW (hc pins s σ H _ I h) fun d s1 ⟨H1,I1,q1⟩=>?_);cases d with
 |true=>exact ha pins s1 σ H1 Q I1 q1
 |false=>exact hb pins s1 σ H1 Q I1 q1
end
end L2
namespace L2
open PySem PySem.Spec PyProof.Rows
noncomputable def mE (K:PySem.W.Frag)(H:Hp)(a:Addr)(xs:List V):Prop :=
 Rd H a (.lst xs) \/
  ∃(o:Obj) (its:Array Value) (n:Nat),K.lookup a=some o/\o.cls = .type "list"/\o.dict=none/\o.data = .seq its n/\its.size<=sizeLine/\aN xs its.toList
noncomputable def hZ (K:PySem.W.Frag)(H:Hp)(a:Addr)(xs:List V):Prop :=
 Rd H a (.tup xs) \/
  ∃(o:Obj) (its:Array Value) (n:Nat),K.lookup a=some o/\o.cls = .type "tuple"/\o.data = .seq its n/\its.size<=sizeLine/\aN xs its.toList
noncomputable def absV:Value->Option V
 |.none=>some .non
 |.bool b=>some (.bl b)
 |.int i _=>some (.int i)
 |.str x _=>some (.str x)
 |.bytes b _=>some (.byt b)
 |.float b _=>some (.flt b)
 |.ref a=>some (.ref a)
 |.type n=>some (.ty n)
 |_=>none
theorem RelV.abs {x:V}{u:Value}(r:RelV x u):absV u=some x:=by
 cases x with
 |non=>cases r;rfl
 |bl _=>cases r;rfl
 |int _=>obtain⟨t,rfl⟩:=r;rfl
 |str _=>obtain⟨t,rfl⟩:=r;rfl
 |byt _=>obtain⟨t,rfl⟩:=r;rfl
 |flt _=>obtain⟨t,rfl⟩:=r;rfl
 |ref _=>cases r;rfl
 |ty _=>cases r;rfl
theorem RelV.inj {x y:V}{u:Value}(r:RelV x u)(q:RelV y u):x=y:=cj (r.abs.symm.trans q.abs)
theorem aN.inj:∀{xs ys:List V}{us:List Value},aN xs us->aN ys us->xs=ys
 |_,_,_,.nil,.nil=>rfl
 |_,_,_,.cons r t,.cons r' t'=>by rw[r.inj r',aN.inj t t']
section
variable {X:Cx}{pins:List (Addr×Obj)}{σ:St}{H:Hp}{s:Shared}{a:Addr}{xs ys:List V}
theorem Inv.list (I:Inv X pins σ H s)(h:mE X.K H a xs):∃ its:List Value,aN xs its/\PlainL s.heap a its.toArray/\xs.length<=sizeLine:=by
 rcases h with h | ⟨o,its,n,hk,hc,hd,hs,hz,r⟩
 ·obtain⟨z,its,n,r,e⟩:=h.ok I.hok;exact⟨its,r,⟨_,n,e,rfl,rfl,rfl⟩,z⟩
 ·refine⟨its.toList,r,⟨o,n,I.kIn a o hk,hc,hd,by simpa using hs⟩,?_⟩;have e:=r.length;simp only[Array.length_toList] at e;omega
theorem Inv.tuple (I:Inv X pins σ H s)(h:hZ X.K H a xs):∃ its:List Value,aN xs its/\IsTup s.heap a its.toArray/\xs.length<=sizeLine:=by
 rcases h with h | ⟨o,its,n,hk,hc,hs,hz,r⟩
 ·obtain⟨z,its,r,p⟩:=h.ok I.hok;exact⟨its,r,p,z⟩
 ·refine⟨its.toList,r,⟨o,I.kIn a o hk,hc,n,by simpa using hs⟩,?_⟩;have e:=r.length;simp only[Array.length_toList] at e;omega
theorem Inv.list_inj (I:Inv X pins σ H s)(h:mE X.K H a xs)(h':mE X.K H a ys):xs=ys:=by
 obtain⟨its,r,⟨o,n,e,_,_,d⟩,_⟩:=I.list h;obtain⟨its',r',⟨o',n',e',_,_,d'⟩,_⟩:=I.list h';rw[e] at e';cases e';rw[d] at d';injection d' with d1 _
 have:its=its':=by simpa using congrArg Array.toList d1
 subst this;exact r.inj r'
theorem Inv.tuple_inj (I:Inv X pins σ H s)(h:hZ X.K H a xs)(h':hZ X.K H a ys):xs=ys:=by
 obtain⟨its,r,⟨o,e,_,n,d⟩,_⟩:=I.tuple h;obtain⟨its',r',⟨o',e',_,n',d'⟩,_⟩:=I.tuple h';rw[e] at e';cases e';rw[d] at d';injection d' with d1 _
 have:its=its':=by simpa using congrArg Array.toList d1
 subst this;exact r.inj r'
end
noncomputable abbrev Cx.wish (X:Cx)(E:Value->Shared->Prop):Cx:={ X with xe:=E }
noncomputable abbrev Cx.nox (X:Cx):Cx:=X.wish fun _ _=>False
theorem Cx.Ok.wish {X:Cx}(ok:X.Ok)(E:Value->Shared->Prop):(X.wish E).Ok :=
 ⟨ok.mod,ok.kind,ok.glob,ok.blt,ok.above,ok.inj,ok.has,ok.cab,ok.hd,ok.frames,ok.stk,ok.exf,ok.bs,ok.bsz,ok.noex,ok.exfs,ok.funs,ok.frf⟩
theorem Cx.Ok.unwish {X:Cx}{E:Value->Shared->Prop}(ok:(X.wish E).Ok):X.Ok :=
 ⟨ok.mod,ok.kind,ok.glob,ok.blt,ok.above,ok.inj,ok.has,ok.cab,ok.hd,ok.frames,ok.stk,ok.exf,ok.bs,ok.bsz,ok.noex,ok.exfs,ok.funs,ok.frf⟩
section
variable {X:Cx}{pins:List (Addr×Obj)}{σ:St}{H:Hp}{s:Shared}{E:Value->Shared->Prop}
theorem Inv.wish (I:Inv X pins σ H s)(E:Value->Shared->Prop):Inv (X.wish E) pins σ H s:=⟨I.ok.wish E,I.os,I.bare,I.base,I.loc,I.cell,I.free,I.freeC,I.pin,I.hok,I.len⟩
theorem Inv.unwish (I:Inv (X.wish E) pins σ H s):Inv X pins σ H s:=⟨I.ok.unwish,I.os,I.bare,I.base,I.loc,I.cell,I.free,I.freeC,I.pin,I.hok,I.len⟩
theorem SP.unwish {D:Ends}{f:Flow}{s':Shared}(h:SP (X.wish E) pins D f s'):SP X pins D f s':=by
 cases f with
 |next=>obtain⟨σ',H',I,q⟩:=h;exact⟨σ',H',I.unwish,q⟩
 |brk=>obtain⟨σ',H',I,q⟩:=h;exact⟨σ',H',I.unwish,q⟩
 |cont=>obtain⟨σ',H',I,q⟩:=h;exact⟨σ',H',I.unwish,q⟩
 |ret u=>obtain⟨v,σ',H',I,r,q⟩:=h;exact⟨v,σ',H',I.unwish,r,q⟩
theorem PE.nox {e:Expr}{t:TE}(h:PE X.nox e t):PE X e t:=fun pins s σ H Q I hw =>
 wpAny_mono (h pins s σ H Q (I.wish _) hw) (fun _ _ ⟨v,H',I',r,q⟩=>⟨v,H',I'.unwish,r,q⟩) fun _ _ z=>False.elim z
theorem PT.nox {e:Expr}{t:TT}(h:PT X.nox e t):PT X e t:=fun pins s σ H Q I hw =>
 wpAny_mono (h pins s σ H Q (I.wish _) hw) (fun _ _ ⟨H',I',q⟩=>⟨H',I'.unwish,q⟩) fun _ _ z=>False.elim z
theorem jS.nox {st:List Stmt}{t:TS}(h:jS X.nox st t):jS X st t:=fun pins s σ H D I hw =>
 wpAny_mono (h pins s σ H D (I.wish _) hw) (fun _ _ q=>q.unwish) fun _ _ z=>False.elim z
end
section
variable {X:Cx}{st:Stmt}{rest:List Stmt}{t u:TS}{e:Expr}{te:TE}{pos:Pos}
def tQ:TS:=fun D σ H=>D.nx σ H
def tSeq (t u:TS):TS:=fun D σ H=>t { D with nx:=u D } σ H
theorem jr:jS X [] tQ:=fun _ _ σ H _ I h=>wpAny_execs_nil ⟨σ,H,I,h⟩
theorem aQ (h1:PS X st t)(h2:jS X rest u):jS X (st::rest) (tSeq t u):=by
 intro pins s σ H D I h;refine wpAny_execs_cons (bW (h1 pins s σ H { D with nx:=u D } I h) fun f s1 q=>?_);cases f with
 |next =>
  obtain⟨σ',H',I',q⟩:=q;exact h2 pins s1 σ' H' D I' q
 |ret v=>exact q
 |brk=>exact q
 |cont=>exact q
theorem cO (h1:PS X st t):jS X [st] t:=by
 intro pins s σ H D I h;refine wpAny_execs_cons (bW (h1 pins s σ H D I h) fun f s1 q=>?_);cases f with
 |next=>exact wpAny_execs_nil q
 |ret v=>exact q
 |brk=>exact q
 |cont=>exact q
theorem wd:PS X (.Pass pos) tQ:=fun _ _ σ H _ I h=>wpAny_Pass ⟨σ,H,I,h⟩
theorem Inv.quiet {pins:List (Addr×Obj)}{σ:St}{H:Hp}{s:Shared}(I:Inv X pins σ H s):interactive X.env=false:=by simp[interactive,I.ok.kind]
theorem BD {x j pos pos'}:PS X (.Expr (.Constant (.str x) j pos) pos') tQ:=fun _ s σ H _ I h=>wpAny_Expr (Calls.Constant_str (show SP X _ _ .next { s with toks:=s.toks+1 } from ⟨σ,H,I.tok _,h⟩)) I.quiet
def va (te:TE):TS:=fun D σ H=>te σ H fun _ H1=>D.nx σ H1
theorem iu (he:PE X e te)(hs:swapsWith e none pos.line X.env=pure false:=by rfl):PS X (.Expr e pos) (va te):=by
 intro pins s σ H D I h;exact wpAny_Expr_any (bW (he pins s σ H _ I h) fun v s1 ⟨x,H1,I1,r1,q1⟩=>⟨σ,H1,I1,q1⟩) I.quiet hs
def tRet (te:TE):TS:=fun D σ H=>te σ H D.rt
theorem jR (he:PE X e te):PS X (.Return (some e) pos) (tRet te):=by
 intro pins s σ H D I h;exact wpAny_Return_some (bW (he pins s σ H _ I h) fun v s1 ⟨x,H1,I1,r1,q1⟩=>⟨x,σ,H1,I1,r1,q1⟩)
def Dt:TS:=fun D _ H=>D.rt .non H
theorem xa:PS X (.Return none pos) Dt:=fun _ _ σ H _ I h=>wpAny_Return_none ⟨.non,σ,H,I,rfl,h⟩
def tIfS (c:TT)(t u:TS):TS:=fun D σ H=>c σ H fun b H1=>if b=true then t D σ H1 else u D σ H1
theorem qD {c:Expr}{a b:List Stmt}{tc:TT}(hc:PT X c tc)(ha:jS X a t)(hb:jS X b u):PS X (.If c a b pos) (tIfS tc t u):=by
 intro pins s σ H D I h;refine wpAny_If (bW (hc pins s σ H _ I h) fun d s1 ⟨H1,I1,q1⟩=>?_);cases d with
 |true=>exact ha pins s1 σ H1 D I1 q1
 |false=>exact hb pins s1 σ H1 D I1 q1
end
noncomputable abbrev TG:=V->St->Hp->(St->Hp->Prop)->Prop
noncomputable abbrev y9:=List V->St->Hp->(St->Hp->Prop)->Prop
noncomputable def PG (X:Cx)(target:Expr)(t:TG):Prop :=
 ∀(pins:List (Addr×Obj)) (s:Shared) (σ:St) (H:Hp) (v:V) (u:Value) (Q:St->Hp->Prop),Inv X pins σ H s->RelV v u->t v σ H Q ->
  wpAny (model X.prog X.w) X.A (assign target X.env u) (fun _ s'=>∃ σ' H',Inv X pins σ' H' s'/\Q σ' H') X.xe s
noncomputable def Dn (X:Cx)(ts:List Expr)(t:y9):Prop :=
 ∀(pins:List (Addr×Obj)) (s:Shared) (σ:St) (H:Hp) (vs:List V) (us:List Value) (Q:St->Hp->Prop),Inv X pins σ H s->aN vs us->t vs σ H Q ->
  wpAny (model X.prog X.w) X.A (assignInOrder ((assignEach ts X.env).map (·.2)) us) (fun _ s'=>∃ σ' H',Inv X pins σ' H' s'/\Q σ' H') X.xe s
section
variable {X:Cx}{pos:Pos}
noncomputable def lI (i:Nat):TG:=fun v σ H Q=>Q (σ.set i (some v)) H
theorem rh {i:Nat}{x:Str}(hN:X.N.Nodup)(hi:X.N[i]? = some x)(hx:Loc X.env.scope x)(hf:X.fn x=true\/X.env.scope.names.lookup x=some .local:=by first | exact .inl rfl | exact .inr rfl | assumption):PG X (.Name x pos) (lI i):=by
 intro pins s σ H v u Q I r h;exact wpAny_assign_Name (ke I hN hi hx r (fun s' I'=>⟨_,H,I',h⟩) hf)
noncomputable def B4:y9:=fun vs σ H Q=>vs=[]/\Q σ H
noncomputable def yT (t:TG)(u:y9):y9:=fun vs σ H Q=>∃ v r,vs=v::r/\t v σ H fun σ' H'=>u r σ' H' Q
theorem we:Dn X [] B4:=by
 intro pins s σ H vs us Q I r h;obtain⟨e,h⟩:=h;subst e;cases r;exact assignInOrder_nil ⟨σ,H,I,h⟩
theorem tW {e:Expr}{es:List Expr}{t:TG}{u:y9}(h1:PG X e t)(h2:Dn X es u)
  (hs:(assignEach (e::es) X.env).map (·.2)=assign e X.env::(assignEach es X.env).map (·.2):=by rfl):Dn X (e::es) (yT t u):=by
 intro pins s σ H vs us Q I r h;obtain⟨v,vr,e1,h⟩:=h;subst e1;cases r with
 |cons r rr =>
  rw[hs];refine assignInOrder_cons (bW (h1 pins s σ H _ _ _ I r h) fun _ s1 ⟨σ1,H1,I1,q1⟩=>?_);exact h2 pins s1 σ1 H1 _ _ Q I1 rr q1
noncomputable def tR (K:PySem.W.Frag)(n:Nat)(t:y9):TG:=fun v σ H Q=>∃ a xs,v = .ref a/\hZ K H a xs/\xs.length=n/\t xs σ H Q
theorem ur {es:List Expr}{k:Nat}{t:y9}{n:Nat}(hc:X.calm=true)(h:Dn X es t)
  (hn:(assignEach es X.env).length=n:=by rfl) (hst:(assignEach es X.env).findIdx? (·.1)=none:=by rfl):PG X (.Tuple es k pos) (tR X.K n t):=by
 intro pins s σ H v u Q I r hw;obtain⟨a,xs,e1,hq,hl,hw⟩:=hw;subst e1;cases r;obtain⟨its,rv,ht,hz⟩:=I.tuple hq;refine assign_Tuple_tuple (I.ok.hd hc) ht (by simp[hn,<-hl,rv.length]) hst fun h' hx=>?_
 have I1:Inv X pins σ H { s with heap:=h' }:=I.kept (t':=s.toks) fun b o e=>hx b o (bo (Heap.lt_size e)) e
 exact h pins _ σ H xs _ Q I1 (by simpa using rv) hw
def Br (te:TE)(g:TG):TS:=fun D σ H=>te σ H fun x H1=>g x σ H1 D.nx
theorem zw {tg e:Expr}{te:TE}{g:TG}(he:PE X e te)(hg:PG X tg g)(hs:swapsWithSole [tg] e pos.line X.env=pure false:=by rfl)(hw:swappedStores [tg] e X.env=pure none:=by rfl)
  (h1:(assignEach [tg] X.env).map (·.2)=[assign tg X.env]:=by rfl):PS X (.Assign [tg] e pos) (Br te g):=by
 intro pins s σ H D I h;refine wpAny_Assign_stores (bW (he pins s σ H _ I h) fun v s1 ⟨x,H1,I1,r1,q1⟩=>?_) hs hw;rw[h1];exact bW (hg pins s1 σ H1 x v _ I1 r1 q1) fun _ s2 q=>q
theorem cB {i:Nat}{x:Str}{e:Expr}{te:TE}{pos':Pos}(hN:X.N.Nodup)(hi:X.N[i]? = some x)(hx:Loc X.env.scope x)(he:PE X e te)(hs:swapsWith e (some (.Name x pos')) pos.line X.env=pure false:=by rfl)(hf:X.fn x=true\/X.env.scope.names.lookup x=some .local:=by first | exact .inl rfl | exact .inr rfl | assumption) :
  PS X (.Assign [.Name x pos'] e pos) (Br te (lI i)):=by
 intro pins s σ H D I h;refine wpAny_Assign_Name (bW (he pins s σ H _ I h) fun v s1 ⟨y,H1,I1,r1,q1⟩=>?_) hs;exact ke I1 hN hi hx r1 (fun s2 I2=>⟨_,H1,I2,q1⟩) hf
end
section
variable {X:Cx}{pos:Pos}
def zP (c:TT)(tb:TS):TS:=fun D σ H=>∃ W:Nat->St->Hp->Prop,(∃ m,W m σ H)/\∀ m σ H,W m σ H ->
 c σ H fun b H1=>if b=true then ∃ N:St->Hp->Prop,(∀ σ' H',N σ' H'->∃ m',m'<m/\W m' σ' H')/\tb { D with nx:=N,ct:=N,bk:=D.nx } σ H1 else D.nx σ H1
theorem jy {c:Expr}{body:List Stmt}{tc:TT}{tb:TS}(hp:PassesOwn (model X.prog X.w) X.A X.env X.xe)(hc:PT X c tc)(hb:jS X body tb):PS X (.While c body [] pos) (zP tc tb):=by
 intro pins s σ H D I h;obtain⟨W,⟨m0,w0⟩,turn⟩:=h;refine wpAny_While (codeAny_whileLoop (fun n s'=>∃ σ' H',Inv X pins σ' H' s'/\W n σ' H') ?_ m0 ⟨σ,H,I,w0⟩);rintro n s1 ⟨σ1,H1,I1,w1⟩;refine wpAny_passesOwn hp (bW (hc pins s1 σ1 H1 _ I1 (turn n σ1 H1 w1)) fun b s2 ⟨H2,I2,q2⟩=>?_);cases b with
 |true =>
  obtain⟨N,hN,q2⟩:=q2;rw[if_pos rfl];refine wpAny_passesOwn hp (bW (hb pins s2 σ1 H2 _ I2 q2) fun f s3 q3=>?_);cases f with
  |next =>
   obtain⟨σ3,H3,I3,n3⟩:=q3;obtain⟨m',hm,w3⟩:=hN σ3 H3 n3;exact⟨m',hm,σ3,H3,I3,w3⟩
  |cont =>
   obtain⟨σ3,H3,I3,n3⟩:=q3;obtain⟨m',hm,w3⟩:=hN σ3 H3 n3;exact⟨m',hm,σ3,H3,I3,w3⟩
  |brk=>exact q3
  |ret v=>exact q3
 |false =>
  rw[if_neg ao];exact wpAny_execs_nil ⟨σ1,H2,I2,q2⟩
end
structure It where
 go:Nat->Hp->Prop
 yld:Nat->Hp->V->Hp->Prop
 stop:Nat->Hp->Prop
noncomputable def jI (X:Cx)(pins:List (Addr×Obj))(H:Hp)(b:Addr):Prop :=
 H b=none/\b≠X.env.locals/\b∉X.fs/\(b∈X.ex\/X.s₀.heap.objs.size<=b)/\(∀ x c,X.env.cells.lookup x=some c->c≠b)/\∀ p∈X.pn++pins,p.1≠b
theorem Inv.fpOk {X:Cx}{pins:List (Addr×Obj)}{σ:St}{H H':Hp}{s:Shared}{b:Addr}(I:Inv X pins σ H s)(hb:s.heap.objs.size<=b)(hn:H' b=none):jI X pins H' b:=by
 refine⟨hn,Nat.ne_of_gt (bg I.lt hb),I.nofs hb,.inr (be I.sz hb),fun x c e z=>?_,fun p hp z=>?_⟩
 ·obtain⟨v,q⟩:=I.cell x c e;exact absurd (bg q.lt (by rw[z];exact hb)) (c7 _)
 ·exact absurd (bg (Heap.lt_size (I.pin p hp).1) (by rw[z];exact hb)) (c7 _)
structure Turn (P:Program)(w:World)(K:PySem.W.Frag)(tg:Expr)(J:It)(fp:List Addr)(it:Addr)(tn:Nat->Heap->Prop):Prop where
 mem:it∈fp
 obj:∀ i h,tn i h->∀ b∈fp,∃ o,h.get? b=some o/\∀ v,o.data≠.cell v
 keep:∀ i h h',tn i h->(∀ b∈fp,∀ o,h.get? b=some o->h'.get? b=some o)->tn i h'
 item:∀(X:Cx),X.prog=P->X.w=w->X.K=K->X.calm=true->∀(i:Nat) (pins:List (Addr×Obj)) (s:Shared) (σ:St) (H:Hp) (E:Value->Shared->Prop),Inv X pins σ H s->(∀ b∈fp,jI X pins H b)->tn i s.heap->J.go i H ->
  wpAny (model P w) X.A (pyNext (.ref it)) (fun r s1=>∃ u,r=some u /\
   wpAny (model P w) X.A (letOwnedTupleGo tg (.ref it) u) (fun _ s2=>∃ x H',Inv X pins σ H' s2/\RelV x u/\J.yld i H x H'/\tn (i+1) s2.heap/\∀ b∈fp,H' b=none) E s1) E s
 done:∀(X:Cx),X.prog=P->X.w=w->X.K=K->X.calm=true->∀(i:Nat) (pins:List (Addr×Obj)) (s:Shared) (σ:St) (H:Hp) (E:Value->Shared->Prop),Inv X pins σ H s->(∀ b∈fp,jI X pins H b)->tn i s.heap->J.stop i H ->
  wpAny (model P w) X.A (pyNext (.ref it)) (fun r s1=>r=none/\Inv X pins σ H s1) E s
 self:∀(A:Around) (i:Nat) (s:Shared) (Q:Value->Shared->Prop) (E:Value->Shared->Prop),tn i s.heap->Q (.ref it) s->wpAny (model P w) A (pyIter (.ref it)) Q E s
noncomputable abbrev TI:=St->Hp->(It->Hp->Prop)->Prop
noncomputable def BF (X:Cx)(pins:List (Addr×Obj))(σ:St)(tg:Expr)(R:It->Hp->Prop)(itv:Value)(s2:Shared):Prop :=
 ∃(it:Addr) (fp:List Addr) (tn:Nat->Heap->Prop) (J:It) (H':Hp),itv = .ref it/\Inv X pins σ H' s2/\Turn X.prog X.w X.K tg J fp it tn/\tn 0 s2.heap/\(∀ b∈fp,jI X pins H' b)/\R J H'
noncomputable def PI (X:Cx)(tg iter:Expr)(wi:TI):Prop :=
 ∀(pins:List (Addr×Obj)) (s:Shared) (σ:St) (H:Hp) (R:It->Hp->Prop),Inv X pins σ H s->wi σ H R ->
  wpAny (model X.prog X.w) X.A (eval iter X.env) (fun v s1=>wpAny (model X.prog X.w) X.A (pyIter v) (BF X pins σ tg R) X.xe s1) X.xe s
theorem qY {M:Model}{A:Around}{E:Value->Shared->Prop}{s:Shared}{tg:Expr}{it:Addr}{u:Value}{o:Obj}{n:String}{vs:Array Value}{Q:Unit->Shared->Prop}(ho:s.heap.get? it=some o)(hc:o.cls = .type n)(hd:o.data = .fields vs)
  (hn:["enumerate","zip","dict_itemiterator","dict_reverseitemiterator","odict_iterator","itertools.zip_longest","itertools.pairwise"].contains n=false) (hQ:Q () s):wpAny M A (letOwnedTupleGo tg (.ref it) u) Q E s:=by
 unfold letOwnedTupleGo;cases tg<;>first
  | exact wpAny_pure hQ
  | (cases u<;>first
    | exact wpAny_pure hQ
    | (refine wpAny_bind (wpAny_load ho ?_)
       rw[hc,hd];show wpAny M A (if (["enumerate","zip","dict_itemiterator","dict_reverseitemiterator","odict_iterator","itertools.zip_longest","itertools.pairwise"].contains n&&vs[0]?==some (rawInt _))=true then _ else _) Q E s;rw[if_neg (by intro h;rw[hn,Bool.false_and] at h;cases h)];exact wpAny_pure hQ))
noncomputable def Itl (K:PySem.W.Frag)(a:Addr):It :=
 ⟨fun i H=>∃ xs x,mE K H a xs/\xs[i]? = some x,fun i H x H'=>H'=H/\∀ xs,mE K H a xs->xs[i]? = some x,fun i H=>∃ xs,mE K H a xs/\xs.length<=i⟩
noncomputable def Itt (K:PySem.W.Frag)(a:Addr):It :=
 ⟨fun i H=>∃ xs x,hZ K H a xs/\xs[i]? = some x,fun i H x H'=>H'=H/\∀ xs,hZ K H a xs->xs[i]? = some x,fun i H=>∃ xs,hZ K H a xs/\xs.length<=i⟩
theorem sF {P:Program}{w:World}{K:PySem.W.Frag}{tg:Expr}(a it:Addr):Turn P w K tg (Itl K a) [it] it (fun i h=>h.IsListIter it a i) where
 mem:=by simp
 obj:=fun i h st b hb=>by
  have e:b=it:=by simpa using hb
  subst e;obtain⟨o,e,c,d⟩:=st;exact⟨o,e,fun v z=>by rw[d] at z;cases z⟩
 keep:=fun i h h' st k=>st.at fun o e=>k it (by simp) o e
 item:=by
  intro X hP hw hK hc i pins s σ H E I hf st hg;subst hP hw hK;obtain⟨xs,x,hq,hx⟩:=hg;obtain⟨its,rv,p,hz⟩:=I.list hq;obtain⟨u,hu,ru⟩:=rv.get hx;obtain⟨f0,f1,f2,f3,f4,f5⟩:=hf it (by simp);refine wpAny_pyNext_list_item st p.isList (x:=u) (by simpa using hu) fun h' st' sb=>?_
  have I1:Inv X pins σ H { s with heap:=h' }:=I.turned (t':=s.toks) (fun b o hb e=>(sb.2 b hb).trans e) f0 f1 f3 f4 f5;obtain⟨o,e,c,d⟩:=id st';exact⟨u,rfl,qY (s:={ s with heap:=h' }) e c d (by decide) ⟨x,H,I1,ru,⟨rfl,fun ys hy=>by rw[I.list_inj hy hq];exact hx⟩,st',fun b hb=>(hf b hb).1⟩⟩
 done:=by
  intro X hP hw hK hc i pins s σ H E I hf st hg;subst hP hw hK;obtain⟨xs,hq,hx⟩:=hg;obtain⟨its,rv,p,hz⟩:=I.list hq;obtain⟨f0,f1,f2,f3,f4,f5⟩:=hf it (by simp);have hl:=rv.length;exact wpAny_pyNext_list_end (I.ok.hd hc) st p.isList (by simp;omega) fun h' eb=>⟨rfl,I.turned (t':=s.toks) (fun b o hb e=>eb b o hb e) f0 f1 f3 f4 f5⟩
 self:=fun _ _ _ _ _ st h=>wpAny_pyIter_listiter st h
theorem oW {P:Program}{w:World}{K:PySem.W.Frag}{tg:Expr}(a it:Addr):Turn P w K tg (Itt K a) [it] it (fun i h=>h.IsTupleIter it a i) where
 mem:=by simp
 obj:=fun i h st b hb=>by
  have e:b=it:=by simpa using hb
  subst e;obtain⟨o,e,c,d⟩:=st;exact⟨o,e,fun v z=>by rw[d] at z;cases z⟩
 keep:=fun i h h' st k=>st.at fun o e=>k it (by simp) o e
 item:=by
  intro X hP hw hK hc i pins s σ H E I hf st hg;subst hP hw hK;obtain⟨xs,x,hq,hx⟩:=hg;obtain⟨its,rv,p,hz⟩:=I.tuple hq;obtain⟨u,hu,ru⟩:=rv.get hx;obtain⟨f0,f1,f2,f3,f4,f5⟩:=hf it (by simp);refine wpAny_pyNext_tuple_item st (show s.heap.IsTuple a its.toArray from p) (x:=u) (by simpa using hu) fun h' st' sb=>?_
  have I1:Inv X pins σ H { s with heap:=h' }:=I.turned (t':=s.toks) (fun b o hb e=>(sb.2 b hb).trans e) f0 f1 f3 f4 f5;obtain⟨o,e,c,d⟩:=id st';exact⟨u,rfl,qY (s:={ s with heap:=h' }) e c d (by decide) ⟨x,H,I1,ru,⟨rfl,fun ys hy=>by rw[I.tuple_inj hy hq];exact hx⟩,st',fun b hb=>(hf b hb).1⟩⟩
 done:=by
  intro X hP hw hK hc i pins s σ H E I hf st hg;subst hP hw hK;obtain⟨xs,hq,hx⟩:=hg;obtain⟨its,rv,p,hz⟩:=I.tuple hq;obtain⟨f0,f1,f2,f3,f4,f5⟩:=hf it (by simp);have hl:=rv.length;exact wpAny_pyNext_tuple_end (I.ok.hd hc) st (show s.heap.IsTuple a its.toArray from p) (by simp;omega) fun h' eb=>⟨rfl,I.turned (t':=s.toks) (fun b o hb e=>eb b o hb e) f0 f1 f3 f4 f5⟩
 self:=fun _ _ _ _ _ st h=>wpAny_pyIter_tupleiter st h
end L2
namespace L2
open PySem PySem.Spec PyProof.Rows
section
variable {X:Cx}{tg:Expr}
def tFor (wi:TI)(g:TG)(tb:TS):TS:=fun D σ H=>wi σ H fun J H1=>∃ W:Nat->Nat->St->Hp->Prop,(∃ m,W 0 m σ H1)/\∀ i m σ H,W i m σ H ->
 (J.stop i H/\D.nx σ H)\/(J.go i H/\∃ N:St->Hp->Prop,(∀ σ' H',N σ' H'->∃ m',m'<m/\W (i+1) m' σ' H')/\∀ x H',J.yld i H x H'->g x σ H' fun σ2 H2=>tb { D with nx:=N,ct:=N,bk:=D.nx } σ2 H2)
noncomputable def kh (fp:List Addr)(h:Heap):List (Addr×Obj):=fp.filterMap fun b=>(h.get? b).map fun o=>(b,o)
theorem eA {fp:List Addr}{h:Heap}{b:Addr}{o:Obj}(hb:b∈fp)(e:h.get? b=some o):(b,o)∈kh fp h:=List.mem_filterMap.mpr ⟨b,hb,by rw[e];rfl⟩
theorem rM {fp:List Addr}{h:Heap}{p:Addr×Obj}(hp:p∈kh fp h):p.1∈fp/\h.get? p.1=some p.2:=by
 obtain⟨b,hb,e⟩:=List.mem_filterMap.mp hp;cases q:h.get? b with
 |none=>rw[q] at e;cases e
 |some o =>
  rw[q] at e;have e':(b,o)=p:=cj e;subst e';exact⟨hb,q⟩
theorem Inv.pinned {pins:List (Addr×Obj)}{σ:St}{H:Hp}{s:Shared}{fp:List Addr}(I:Inv X pins σ H s)(hf:∀ b∈fp,jI X pins H b)(ho:∀ b∈fp,∃ o,s.heap.get? b=some o/\∀ v,o.data≠.cell v):Inv X (pins++kh fp s.heap) σ H s :=
 I.pins_of fun p hp=>(List.mem_append.mp hp).elim (fun z=>I.pin p (aw _ z)) fun z=>by
  obtain⟨hb,e⟩:=rM z;obtain⟨f0,f1,f2,_⟩:=hf p.1 hb;obtain⟨o,e',d⟩:=ho p.1 hb;rw[e] at e';cases e';exact⟨e,f0,f1,f2,d⟩
theorem Inv.unpinned {pins pl:List (Addr×Obj)}{σ:St}{H:Hp}{s:Shared}(I:Inv X (pins++pl) σ H s):Inv X pins σ H s:=I.pins_of fun p hp=>I.pin p (aw _ (bh _ hp))
theorem Ac {iter:Expr}{body:List Stmt}{wi:TI}{g:TG}{tb:TS}{pos:Pos}(hp:PassesOwn (model X.prog X.w) X.A X.env X.xe)(hc:X.calm=true)(hi:PI X tg iter wi)(hg:PG X tg g)(hb:jS X body tb)
  (hs:∀ x,foldedSetIterable iter X.env x=pure x:=by intro _;rfl):PS X (.For tg iter body [] pos) (tFor wi g tb):=by
 intro pins s σ H D I h;refine wpAny_For (bW (hi pins s σ H _ I h) fun v s1 h1=>bW h1 fun itv s2 h2=>?_) hs;obtain⟨it,fp,tn,J,H2,e,I2,T,st2,f2,W,⟨m0,w0⟩,turn⟩:=h2;subst e;have stat:∀{H':Hp},(∀ b∈fp,H' b=none)->∀ b∈fp,jI X pins H' b:=fun hn b hb=>⟨hn b hb,(f2 b hb).2⟩
 refine codeAny_forLoop_any (fun n s'=>∃ i σ' H',Inv X pins σ' H' s'/\tn i s'.heap/\(∀ b∈fp,H' b=none)/\W i n σ' H') ?_ m0 ⟨0,σ,H2,I2,st2,fun b hb=>(f2 b hb).1,w0⟩;rintro n s3 ⟨i,σ3,H3,I3,st3,fr3,w3⟩;rcases turn i n σ3 H3 w3 with ⟨stop,qn⟩ | ⟨go,N,hN,step⟩
 ·refine wpAny_passesOwn hp (bW (T.done X rfl rfl rfl hc i pins s3 σ3 H3 X.xe I3 (stat fr3) st3 stop) fun r s4 ⟨hr,I4⟩=>?_);subst hr;exact wpAny_execs_nil ⟨σ3,H3,I4,qn⟩
 ·refine wpAny_passesOwn hp (bW (T.item X rfl rfl rfl hc i pins s3 σ3 H3 X.xe I3 (stat fr3) st3 go) fun r s4 ⟨u,hr,h4⟩=>?_);subst hr;refine wpAny_passesOwn hp (bW h4 fun _ s5 ⟨x,H5,I5,r5,y5,st5,fr5⟩=>?_);have I5':=I5.pinned (stat fr5) (T.obj _ _ st5);refine wpAny_passesOwn hp (bW (hg _ s5 σ3 H5 x u _ I5' r5 (step x H5 y5)) fun _ s6 ⟨σ6,H6,I6,q6⟩=>?_);refine wpAny_passesOwn hp (bW (hb _ s6 σ6 H6 _ I6 q6) fun f s7 q7=>?_);have again:∀{σ7:St}{H7:Hp},Inv X (pins++kh fp s5.heap) σ7 H7 s7->N σ7 H7->∃ m,m<n/\∃ i σ' H',Inv X pins σ' H' s7/\tn i s7.heap/\(∀ b∈fp,H' b=none)/\W i m σ' H':=fun {σ7 H7} I7 n7=>by
   obtain⟨m',hm,w7⟩:=hN σ7 H7 n7;refine⟨m',hm,i+1,σ7,H7,I7.unpinned,T.keep _ _ _ st5 fun b hb o e=>(I7.pin (b,o) (aw _ (aw _ (eA hb e)))).1,fun b hb=>?_,w7⟩;obtain⟨o,e,d⟩:=T.obj _ _ st5 b hb;exact (I7.pin (b,o) (aw _ (aw _ (eA hb e)))).2.1
  cases f with
  |next=>obtain⟨σ7,H7,I7,n7⟩:=q7;exact again I7 n7
  |cont=>obtain⟨σ7,H7,I7,n7⟩:=q7;exact again I7 n7
  |brk=>obtain⟨σ7,H7,I7,q7⟩:=q7;exact⟨σ7,H7,I7.unpinned,q7⟩
  |ret v=>obtain⟨x7,σ7,H7,I7,r7,q7⟩:=q7;exact⟨x7,σ7,H7,I7.unpinned,r7,q7⟩
end
end L2
namespace L2
open PySem PySem.Spec PyProof.Rows
noncomputable abbrev R2:=V->V->Hp->VK->Prop
noncomputable def fQ (X:Cx)(f:Value->Value->Sem Value)(r:R2):Prop :=
 ∀(pins:List (Addr×Obj)) (s:Shared) (σ:St) (H:Hp) (x y:V) (v u:Value) (Q:VK),Inv X pins σ H s->RelV x v->RelV y u->r x y H Q ->
  wpAny (model X.prog X.w) X.A (f v u) (EP X pins σ Q) X.xe s
noncomputable def UnR (X:Cx)(f:Value->Sem Value)(r:V->Hp->VK->Prop):Prop :=
 ∀(pins:List (Addr×Obj)) (s:Shared) (σ:St) (H:Hp) (x:V) (v:Value) (Q:VK),Inv X pins σ H s->RelV x v->r x H Q ->
  wpAny (model X.prog X.w) X.A (f v) (EP X pins σ Q) X.xe s
noncomputable def dP (X:Cx)(f:Value)(r:List V->Hp->VK->Prop):Prop :=
 ∀(pins:List (Addr×Obj)) (s:Shared) (σ:St) (H:Hp) (xs:List V) (us:List Value) (Q:VK),Inv X pins σ H s->aN xs us->r xs H Q ->
  wpAny (model X.prog X.w) X.A (call f us) (EP X pins σ Q) X.xe s
noncomputable def TruR (X:Cx)(r:V->Hp->(Bool->Hp->Prop)->Prop):Prop :=
 ∀(pins:List (Addr×Obj)) (s:Shared) (σ:St) (H:Hp) (x:V) (v:Value) (Q:Bool->Hp->Prop),Inv X pins σ H s->RelV x v->r x H Q ->
  wpAny (model X.prog X.w) X.A (truthy v) (TP X pins σ Q) X.xe s
def CC (r:R2)(ta tb:TE):TE:=fun σ H Q=>ta σ H fun x H1=>tb σ H1 fun y H2=>r x y H2 Q
def tUn (r:V->Hp->VK->Prop)(ta:TE):TE:=fun σ H Q=>ta σ H fun x H1=>r x H1 Q
noncomputable def rI (C:Int->Int->Prop)(g:Int->Int->V):R2:=fun x y H Q=>∃ i j,x = .int i/\y = .int j/\C i j/\Q (g i j) H
noncomputable def tf (g:Int->Int->V):R2:=fun x y H Q=>∃ i j,x = .int i/\y = .int j/\Q (g i j) H
def rU (g:Int->V):V->Hp->VK->Prop:=fun x H Q=>∃ i,x = .int i/\Q (g i) H
section
variable {X:Cx}{a b c:Expr}{ta tb tc:TE}{pos:Pos}
theorem Ae (ha:PE X a ta)(hb:PE X b tb){pins:List (Addr×Obj)}{s:Shared}{σ:St}{H:Hp}{R:V->V->Hp->Prop}(I:Inv X pins σ H s)
  (h:ta σ H fun x H1=>tb σ H1 fun y H2=>R x y H2) {Q:Value->Shared->Prop}{f:Value->Value->Sem Value}
  (hf:∀ v u s2 x y H2,Inv X pins σ H2 s2->RelV x v->RelV y u->R x y H2->wpAny (model X.prog X.w) X.A (f v u) Q X.xe s2) :
  wpAny (model X.prog X.w) X.A (eval a X.env) (fun v s₁=>wpAny (model X.prog X.w) X.A (eval b X.env) (fun u s₂=>wpAny (model X.prog X.w) X.A (f v u) Q X.xe s₂) X.xe s₁) X.xe s:=by
 refine bW (ha pins s σ H _ I h) fun v s1 ⟨x,H1,I1,r1,q1⟩=>?_
 refine bW (hb pins s1 σ H1 _ I1 q1) fun u s2 ⟨y,H2,I2,r2,q2⟩=>?_
 exact hf v u s2 x y H2 I2 r1 r2 q2
theorem nV {op:Operator}{r:R2}(ho:fQ X (binaryOp op) r)(ha:PE X a ta)(hb:PE X b tb):PE X (.BinOp a op b pos) (CC r ta tb):=by
 intro pins s σ H Q I h;exact wpAny_BinOp (Ae ha hb I h fun v u s2 x y H2 I2 rx ry q=>ho pins s2 σ H2 x y v u Q I2 rx ry q)
theorem CL {op:UnaryOp}{r:V->Hp->VK->Prop}(ho:UnR X (unaryOp op) r)(ha:PE X a ta):PE X (.UnaryOp op a pos) (tUn r ta):=by
 intro pins s σ H Q I h;exact UnaryOp_ (bW (ha pins s σ H _ I h) fun v s1 ⟨x,H1,I1,r1,q1⟩=>ho pins s1 σ H1 x v Q I1 r1 q1)
theorem BO {f:Value->Value->Sem Value}{C:Int->Int->Prop}{g:Int->Int->Int}
  (rule:∀(i j:Int) (t u:Tok) (s:Shared) (Q:Value->Shared->Prop) (E:Value->Shared->Prop),C i j->Q (.int (g i j) s.toks) { s with toks:=s.toks+1 }->wpAny (model X.prog X.w) X.A (f (.int i t) (.int j u)) Q E s) :
  fQ X f (rI C fun i j=>.int (g i j)):=by
 intro pins s σ H x y v u Q I rx ry h;obtain⟨i,j,rfl,rfl,hc,q⟩:=h;obtain⟨t,rfl⟩:=rx;obtain⟨t',rfl⟩:=ry;exact rule i j t t' s _ _ hc ⟨.int (g i j),H,I.tok _,⟨_,rfl⟩,q⟩
theorem tJ {f:Value->Value->Sem Value}{g:Int->Int->Int}
  (rule:∀(i j:Int) (t u:Tok) (s:Shared) (Q:Value->Shared->Prop) (E:Value->Shared->Prop),Q (.int (g i j) s.toks) { s with toks:=s.toks+1 }->wpAny (model X.prog X.w) X.A (f (.int i t) (.int j u)) Q E s) :
  fQ X f (tf fun i j=>.int (g i j)):=by
 intro pins s σ H x y v u Q I rx ry h;obtain⟨i,j,rfl,rfl,q⟩:=h;obtain⟨t,rfl⟩:=rx;obtain⟨t',rfl⟩:=ry;exact rule i j t t' s _ _ ⟨.int (g i j),H,I.tok _,⟨_,rfl⟩,q⟩
theorem xn {f:Value->Value->Sem Value}{g:Int->Int->Bool}
  (rule:∀(i j:Int) (t u:Tok) (s:Shared) (Q:Value->Shared->Prop) (E:Value->Shared->Prop),Q (.bool (g i j)) s->wpAny (model X.prog X.w) X.A (f (.int i t) (.int j u)) Q E s) :
  fQ X f (tf fun i j=>.bl (g i j)):=by
 intro pins s σ H x y v u Q I rx ry h;obtain⟨i,j,rfl,rfl,q⟩:=h;obtain⟨t,rfl⟩:=rx;obtain⟨t',rfl⟩:=ry;exact rule i j t t' s _ _ ⟨.bl (g i j),H,I,rfl,q⟩
def CDiv (i j:Int):Prop:=0<j/\j<1073741824
def B9 (i j:Int):Prop:=0<=j/\j<=1000000/\i.natAbs<2 ^ 64
def Bu (i j:Int):Prop:=(-(2 ^ 64)<i/\i<2 ^ 64)\/(-(2 ^ 64)<j/\j<2 ^ 64)
theorem Bu.ok {i j:Int}(h:Bu i j):IntMulOk i j:=by
 rcases h with ⟨h1,h2⟩ | ⟨h1,h2⟩
 ·exact .of_left (intBits_le_64 h1 h2)
 ·exact .of_right (intBits_le_64 h1 h2)
theorem oK (k:Nat):(0:Int)<=2 ^ k:=by
 rw[two_pow_cast];exact Int.natCast_nonneg _
theorem oX:fQ X (binaryOp .Add) (tf fun i j=>.int (i+j)):=tJ fun _ _ _ _ _ _ _ q=>add_int q
theorem Ad:fQ X (binaryOp .Sub) (tf fun i j=>.int (i - j)):=tJ fun _ _ _ _ _ _ _ q=>sub_int q
theorem AQ:fQ X (binaryOp .Mult) (rI Bu fun i j=>.int (i*j)):=BO fun _ _ _ _ _ _ _ hc q=>mul_int q hc.ok
theorem wR:fQ X (binaryOp .FloorDiv) (rI CDiv fun i j=>.int (i / j)):=BO fun i j _ _ _ _ _ hc q=>by
 have h1:(0:Int)<j:=hc.1;have h2:j<1073741824:=hc.2;exact floordiv_int (by omega) (by rw[Int.fdiv_eq_ediv_of_nonneg i (by omega)];exact q) (.inl (PyProof.noPylong_small (by omega)))
theorem Af:fQ X (binaryOp .Mod) (rI (fun _ j=>0<j) fun i j=>.int (i%j)):=BO fun i j _ _ _ _ _ hc q=>by
 have h1:(0:Int)<j:=hc;exact mod_int' (by omega) (by rw[Int.fmod_eq_emod_of_nonneg i (by omega)];exact q)
theorem AW:fQ X (binaryOp .Pow) (rI B9 fun i j=>.int (i ^ j.toNat)):=BO fun _ _ _ _ _ _ _ hc q=>pow_int_small hc.1 hc.2.1 hc.2.2 q
theorem BK:fQ X (binaryOp .LShift) (rI B9 fun i j=>.int (i*2 ^ j.toNat)):=BO fun _ _ _ _ _ _ _ hc q=>lshift_int_small hc.1 hc.2.1 hc.2.2 q
theorem zT:fQ X (binaryOp .RShift) (rI (fun _ j=>0<=j) fun i j=>.int (i / 2 ^ j.toNat)):=BO fun i j _ _ _ _ _ hc q =>
 rshift_int hc (by rw[Int.fdiv_eq_ediv_of_nonneg i (oK _)];exact q)
theorem Bs:fQ X (binaryOp .BitAnd) (tf fun i j=>.int (Builtin.bitAnd i j)):=tJ fun _ _ _ _ _ _ _ q=>and_int q
theorem Cq:fQ X (binaryOp .BitOr) (tf fun i j=>.int (Builtin.bitOr i j)):=tJ fun _ _ _ _ _ _ _ q=>or_int q
theorem zX:fQ X (binaryOp .BitXor) (tf fun i j=>.int (Builtin.bitXor i j)):=tJ fun _ _ _ _ _ _ _ q=>xor_int q
theorem unI {f:Value->Sem Value}{g:Int->Int}
  (rule:∀(i:Int) (t:Tok) (s:Shared) (Q:Value->Shared->Prop) (E:Value->Shared->Prop),Q (.int (g i) s.toks) { s with toks:=s.toks+1 }->wpAny (model X.prog X.w) X.A (f (.int i t)) Q E s) :
  UnR X f (rU fun i=>.int (g i)):=by
 intro pins s σ H x v Q I rx h;obtain⟨i,rfl,q⟩:=h;obtain⟨t,rfl⟩:=rx;exact rule i t s _ _ ⟨.int (g i),H,I.tok _,⟨_,rfl⟩,q⟩
theorem AH:UnR X (unaryOp .USub) (rU fun i=>.int (-i)):=unI fun _ _ _ _ _ q=>neg_int q
end
noncomputable def cX:V->V->Bool
 |.non,.non=>true | .non,.int _=>true | .int _,.non=>true | .non,.bl _=>true | .bl _,.non=>true | .non,.str _=>true | .str _,.non=>true
 |.int _,.int _=>true | .bl _,.bl _=>true | .str _,.str _=>true | .byt _,.byt _=>true
 |.int _,.str _=>true | .str _,.int _=>true | .bl _,.str _=>true | .str _,.bl _=>true
 |_,_=>false
section
variable {X:Cx}{a b c:Expr}{ta tb tc:TE}{pos:Pos}
theorem pV {pins:List (Addr×Obj)}{σ:St}{H:Hp}{s:Shared}{Q:VK}{k k':Bool}(I:Inv X pins σ H s)(q:Q (.bl k) H)(e:k=k'):EP X pins σ Q (.bool k') s:=by
 subst e;exact⟨.bl k,H,I,rfl,q⟩
theorem DC:fQ X (compareOp .Lt) (tf fun i j=>.bl (decide (i<j))):=xn fun _ _ _ _ _ _ _ q=>lt_int q
theorem CN:fQ X (compareOp .LtE) (tf fun i j=>.bl (decide (i<=j))):=xn fun _ _ _ _ _ _ _ q=>le_int q
theorem yV:fQ X (compareOp .Gt) (tf fun i j=>.bl (decide (j<i))):=xn fun _ _ _ _ _ _ _ q=>gt_int q
theorem Dd:fQ X (compareOp .GtE) (tf fun i j=>.bl (decide (j<=i))):=xn fun _ _ _ _ _ _ _ q=>ge_int q
theorem rT:fQ X (compareOp .In) (fun x y H Q=>∃ i j,x = .str i/\y = .str j/\Q (.bl (!(Builtin.Str.occurrences j i 0 j.length 1).isEmpty)) H):=by
 intro pins s σ H x y v u Q I rx ry h;obtain⟨i,j,rfl,rfl,q⟩:=h;obtain⟨t,rfl⟩:=rx;obtain⟨t',rfl⟩:=ry;exact in_str (pV I q rfl)
theorem Bv:fQ X (compareOp .Is) (fun x y H Q=>y = .non/\Q (.bl (decide (x = .non))) H):=by
 intro pins s σ H x y v u Q I rx ry h;obtain⟨rfl,q⟩:=h;cases ry;refine is_none_gen (pV I q ?_);cases x<;>first
  | (cases rx;rfl)
  | (obtain⟨t,rfl⟩:=rx;rfl)
theorem wj:fQ X (compareOp .IsNot) (fun x y H Q=>y = .non/\Q (.bl (!decide (x = .non))) H):=by
 intro pins s σ H x y v u Q I rx ry h;obtain⟨rfl,q⟩:=h;cases ry;refine isnot_none_gen (pV I q ?_);cases x<;>first
  | (cases rx;rfl)
  | (obtain⟨t,rfl⟩:=rx;rfl)
theorem wu {op:CmpOp}{r:R2}(ho:fQ X (compareOp op) r)(ha:PE X a ta)(hb:PE X b tb)(hm:behindInMarks op b=false):PE X (.Compare a [op] [b] pos) (CC r ta tb):=by
 intro pins s σ H Q I h;exact wpAny_Compare1 (Ae ha hb I h fun v u s2 x y H2 I2 rx ry q=>ho pins s2 σ H2 x y v u Q I2 rx ry q) hm
def CZ (t:TE):TT:=fun σ H Q=>t σ H fun x H'=>∃ k,x = .bl k/\Q k H'
theorem qF {op:CmpOp}{r:R2}(ho:fQ X (compareOp op) r)(ha:PE X a ta)(hb:PE X b tb)(hm:behindInMarks op b=false):PT X (.Compare a [op] [b] pos) (CZ (CC r ta tb)):=by
 intro pins s σ H Q I h;refine wpAny_isTrue_Compare1 (bW (ha pins s σ H _ I h) fun v s1 ⟨x,H1,I1,r1,q1⟩=>bW (hb pins s1 σ H1 _ I1 q1) fun u s2 ⟨y,H2,I2,r2,q2⟩ =>
  bW (ho pins s2 σ H2 x y v u _ I2 r1 r2 q2) fun c s3 ⟨z,H3,I3,r3,k,e,q3⟩=>?_) hm
 subst e;cases r3;exact wpAny_truthy_bool ⟨H3,I3,q3⟩
noncomputable def z6 (K:PySem.W.Frag)(x:V)(H:Hp)(k:Bool):Prop :=
 match x with
 |.non=>k=false
 |.bl b=>k=b
 |.int i=>k=(i != 0)
 |.str y=>y.length<=sizeLine/\k=((y.length:Int) != 0)
 |.byt y=>y.size<=sizeLine/\k=((y.size:Int) != 0)
 |.ref p=>(∃ xs,mE K H p xs/\k = !xs.isEmpty)\/(∃ xs,hZ K H p xs/\k = !xs.isEmpty)\/∃ kvs,H p=some (.dK kvs)/\k = !kvs.isEmpty
 |_=>False
theorem oJ {κ:Type}{kvs:List (κ×V)}{vs:List (κ×Value)}(r:KV kvs vs):(!vs.isEmpty) = !kvs.isEmpty:=by
 cases r<;>rfl
theorem kq {xs:List V}{its:List Value}(r:aN xs its):(!its.toArray.isEmpty) = !xs.isEmpty:=by
 cases r<;>simp
theorem iT:(sizeLine:Nat)<2 ^ 63:=by rw[sizeLine_eq];decide
theorem zy:TruR X (fun x H Q=>∃ k,z6 X.K x H k/\Q k H):=by
 intro pins s σ H x v Q I rx h;obtain⟨k,e,q⟩:=h;have hl:=iT;have hs:sizeLine=16777216:=sizeLine_eq;cases x with
 |non =>
  cases rx;have e':k=false:=e;subst e';exact truthy_none ⟨H,I,q⟩
 |bl b =>
  cases rx;have e':k=b:=e;subst e';exact wpAny_truthy_bool ⟨H,I,q⟩
 |int i =>
  obtain⟨t,rfl⟩:=rx;have e':k=(i != 0):=e;subst e';exact PySem.P.truthy_int ⟨H,I,q⟩
 |str y =>
  obtain⟨t,rfl⟩:=rx;obtain⟨hy,e'⟩:y.length<=sizeLine/\k=((y.length:Int) != 0):=e;subst e';exact PySem.P.truthy_str (by omega) ⟨H,I.tok _,q⟩
 |byt y =>
  obtain⟨t,rfl⟩:=rx;obtain⟨hy,e'⟩:y.size<=sizeLine/\k=((y.size:Int) != 0):=e;subst e';exact PySem.W.truthy_bytes (by omega) ⟨H,I.tok _,q⟩
 |ref p =>
  cases rx;have e':(∃ xs,mE X.K H p xs/\k = !xs.isEmpty)\/(∃ xs,hZ X.K H p xs/\k = !xs.isEmpty)\/∃ kvs,H p=some (.dK kvs)/\k = !kvs.isEmpty:=e;rcases e' with ⟨xs,hx,e'⟩ | ⟨xs,hx,e'⟩ | ⟨kvs,hx,e'⟩
  ·subst e';obtain⟨its,r,pl,hz⟩:=I.list hx;have hlen:=r.length;exact wpAny_truthy_list pl.isList (by simp only[List.size_toArray];omega) ⟨H,I.tok _,by rw[kq r];exact q⟩
  ·subst e';obtain⟨its,r,pl,hz⟩:=I.tuple hx;have hlen:=r.length;exact truthy_tuple pl (by simp only[List.size_toArray];omega) ⟨H,I.tok _,by rw[kq r];exact q⟩
  ·subst e';obtain⟨hz,hS,vs,r,m⟩:kvs.length<=sizeLine/\(p==sysModules)=false/\∃ vs,KV kvs vs/\s.heap.DictOf (aO X.prog X.w) p vs:=I.hok p _ hx;have hlen:kvs.length=vs.length:=Paired.length r;exact wpAny_truthy_dict hS m (by omega) ⟨H,I.tok _,by rw[oJ r];exact q⟩
 |_=>exact (show False from e).elim
theorem vW (ha:PE X a ta)(he:∀ whole,isTrue a X.env whole=(do let v <- whole;standAt a.pos;holding [v] (truthy v))) :
  PT X a (fun σ H Q=>ta σ H fun x H'=>∃ k,z6 X.K x H' k/\Q k H'):=by
 intro pins s σ H Q I h;exact isTrue_plain (bW (ha pins s σ H _ I h) fun v s1 ⟨x,H1,I1,r1,q1⟩=>zy pins s1 σ H1 x v Q I1 r1 q1) (he _)
theorem kf:fQ X (binaryOp .Add) (fun x y H Q=>∃ i j,x = .str i/\y = .str j/\i.length+j.length<=sizeLine/\Q (.str (i++j)) H):=by
 intro pins s σ H x y v u Q I rx ry h;obtain⟨i,j,rfl,rfl,hz,q⟩:=h;obtain⟨t,rfl⟩:=rx;obtain⟨t',rfl⟩:=ry;exact add_str (fun t' tk=>⟨.str (i++j),H,I.tok _,⟨_,rfl⟩,q⟩) hz
theorem vals1 {x:V}{us:List Value}(r:aN [x] us):∃ u,us=[u]/\RelV x u:=by
 cases r with
 |cons r1 r2=>cases r2;exact⟨_,rfl,r1⟩
theorem vals2 {x y:V}{us:List Value}(r:aN [x,y] us):∃ u w',us=[u,w']/\RelV x u/\RelV y w':=by
 cases r with
 |cons r1 r2 =>
  cases r2 with
  |cons r3 r4=>cases r4;exact⟨_,_,rfl,r1,r3⟩
theorem sd (hc:X.calm=true):dP X (.builtin "min") (fun xs H Q=>∃ i j,xs=[.int i,.int j]/\Q (.int (if j<i then j else i)) H):=by
 intro pins s σ H xs us Q I r h;obtain⟨i,j,rfl,q⟩:=h;obtain⟨u,w',rfl,⟨t,rfl⟩,⟨t',rfl⟩⟩:=vals2 r;refine min_two_ints (I.ok.hd hc) fun h' tk k=>⟨_,H,I.kept k,?_,q⟩
 by_cases hj:j<i
 ·rw[if_pos hj,if_pos hj];exact⟨_,rfl⟩
 ·rw[if_neg hj,if_neg hj];exact⟨_,rfl⟩
end
end L2
namespace L2
open PySem PySem.Spec PyProof.Rows
structure oO (h:Heap)(x dx C:Addr)(mA:Str->Option Value):Prop where
 obj:h.get? x=some (PySem.W.instObj C dx)
 ns:h.Ns1 dx mA
 ne:dx≠x
theorem sW {h:Heap}{dx:Addr}{mA:Str->Option Value}(n:h.Ns1 dx mA):∃ od,h.get? dx=some od/\∀ name,PySem.W.lookIn name od=some (mA name):=by
 obtain⟨o,es,ep,ho,hd,hk,_,hm⟩:=n;refine⟨o,ho,fun name=>?_⟩;have e:=hm name;unfold nsFind findBy at e;rw[<-Array.find?_toList] at e;unfold PySem.W.lookIn;rw[hd];dsimp only;split
 ·rename_i y q;rw[q] at e;exact fv some e
 ·rename_i q;rw[q] at e;have a:es.toList.any (·.refKey)=false:=by
   rw[List.any_eq_false];intro y hy;obtain⟨z,t,hkey⟩:=hk y (Array.mem_toList_iff.mp hy);simp[DictEntry.refKey,hkey]
  have a':¬ es.toList.any (·.refKey)=true:=by rw[a];exact ao
  rw[if_neg a'];exact fv some e
theorem oO.look {h:Heap}{x dx C:Addr}{mA:Str->Option Value}(I:oO h x dx C mA):∃ od,PySem.W.InstAt h x (PySem.W.instObj C dx) C (some od)/\∀ name,PySem.W.lookIn name od=some (mA name) :=
 let ⟨od,ho,hl⟩:=sW I.ns
 ⟨od,⟨I.obj,rfl,rfl,ho⟩,hl⟩
section
variable {prog:Program}{w:World}{A:Around}{E:Value->Shared->Prop}{s:Shared}{K:PySem.W.Frag}{x dx C f:Addr}{mA:Str->Option Value}{name:Str}{v:Value}
theorem get_map {expr:Bool}{Q:Value->Shared->Prop}(X:K.In s.heap)(I:oO s.heap x dx C mA)(hg:PySem.W.plainGet K C name=true)(hh:PySem.W.hasDictIn K C=true)
  (ha:PySem.W.findIn K (.ref C) name=some none) (hv:mA name=some v) (hv':PySem.W.handedIn v=true) (h:Q v { s with toks:=s.toks+1 }) :
  wpAny (model prog w) A (getAttr (.ref x) name expr) Q E s:=by
 obtain⟨od,J,hl⟩:=I.look;exact PySem.W.get_value X J (PySem.W.plainGet_of hg).1 (PySem.W.findObj_own hh ha rfl (by rw[hl,hv])) hv' h
theorem uj {pl:Sem Bool}{Q:Value×List Value->Shared->Prop}(X:K.In s.heap)(I:oO s.heap x dx C mA)(hg:PySem.W.plainGet K C name=true)
  (hf:PySem.W.findIn K (.ref C) name=some (some (.ref f))) (ht:PySem.W.isFn K (.ref f)=true) (hv:mA name=none) (h:Q (.ref f,[.ref x]) s) :
  wpAny (model prog w) A (getMethod (.ref x) name pl) Q E s:=by
 obtain⟨od,J,hl⟩:=I.look;exact PySem.W.method_fn X J (PySem.W.plainGet_of hg).1 (PySem.W.plainGet_of hg).2 hf (gj.mp ht) (by show (PySem.W.lookIn name od).map (·.isSome)=some false;rw[hl,hv];rfl) h
theorem xI {ns:List Str}{Q:Unit->Shared->Prop}(X:K.In s.heap)(I:oO s.heap x dx C mA)
  (hs:PySem.W.findIn K (.ref C) "__setattr__" = some (some (.builtin "object.__setattr__"))) (hp:PySem.W.plainOver K C=true) (ht:PySem.W.takerIn K C name=some none) (hh:PySem.W.hasDictIn K C=true)
  (hw:PySem.Within mA ns) (hsz:ns.length<=sizeLine)
  (h:∀ h',oO h' x dx C (fun y=>if y=name then some v else mA y)->Heap.SameBut dx s.heap h'->Q () { s with heap:=h',toks:=s.toks+2 }) :
  wpAny (model prog w) A (setAttr (.ref x) name v) Q E s:=by
 obtain⟨od,J,hl⟩:=I.look;refine PySem.W.set_plain X J hs (PySem.W.osa_open (s:={ s with toks:=s.toks+1 }) (r:=none) X J hp ht fun b=>?_);obtain⟨cd,hc,hd'⟩:=PySem.W.any_some hh;have hx:s.heap.get? x=some ⟨.ref C,some dx,.plain,#[]⟩:=I.obj;refine wpAny_bind (wpAny_pure (wpAny_bind (wpAny_bind (wpAny_loadPart hx (wpAny_bind (PySem.W.Looks.here (s:={ s with toks:=s.toks+1 }) (PySem.W.looks_clsIn X hc) ?_))))));rw[hd'];refine wpAny_pure (a:=some dx) (wpAny_bind (wpAny_pure (wpAny_bind ?_)));refine wpAny_nsSet1 (s:={ s with toks:=s.toks+1 }) I.ns fun h' hn2 hs2=>?_
 obtain⟨oD,esD,epD,hoD,hdD,hcD⟩:=hn2.count (PySem.Within.cons name v hw);refine wpAny_bind (wpAny_lookBehind hoD (by rw[hdD];exact pastItsLine_dict (be hcD (by rw[ak];omega))) ?_);exact wpAny_pure (h _ ⟨(hs2.2 _ (cu I.ne)).trans I.obj,hn2,I.ne⟩ hs2)
theorem vo {R:Result->Shared->Prop}{vs:List Value}{kw:List (Str×Value)}(X:K.In s.heap)(hm:PySem.W.makesIn K C=true)
  (hi:PySem.W.findIn K (.ref C) "__init__" = some (some (.ref f))) (hf:PySem.W.typeIn K (.ref f)=some (.type "function"))
  (h:codeAny (model prog w) (A.under (.builtin "type.__call__" ⟨.ref C::vs,kw⟩)) (.call (.ref f) ⟨.ref (s.heap.objs.size+1)::vs,kw⟩) (PySem.W.InitBack (s.heap.objs.size+1) R)
   { s with heap:=(s.heap.push PySem.W.emptyDict).push (PySem.W.instObj C s.heap.objs.size) }) :
  codeAny (model prog w) A (.call (.ref C) ⟨vs,kw⟩) R s:=by
 obtain⟨hh,g,d,t,os⟩:=s;exact PySem.W.make_core (PySem.W.makes_of X hm) (PySem.W.looks_findIn X hi) (fun self=>PySem.W.bind_fn X self hf) (.inl rfl) h
end
noncomputable def gT (f:Str)(v:V):List (Str×V)->List (Str×V)
 |[]=>[(f,v)]
 | (g,x)::r=>if g=f then (g,v)::r else (g,x)::gT f v r
theorem jc (f g:Str)(v:V):∀ fs:List (Str×V),(gT f v fs).lookup g=if g=f then some v else fs.lookup g
 | []=>by
  show List.lookup g [(f,v)]=_;by_cases h:g=f
  ·have hb:(g==f)=true:=gj.mpr h;simp only[List.lookup,hb,if_pos h]
  ·have hb:(g==f)=false:=beq_eq_false_iff_ne.mpr h;simp only[List.lookup,hb,if_neg h]
 | (k,x)::r=>by
  have ih:=jc f g v r;rw[show gT f v ((k,x)::r)=(if k=f then (k,v)::r else (k,x)::gT f v r) from rfl];by_cases hk:k=f
  ·rw[if_pos hk];by_cases h:g=k
   ·have hb:(g==k)=true:=gj.mpr h;simp only[List.lookup,hb,if_pos (h.trans hk)]
   ·have hb:(g==k)=false:=beq_eq_false_iff_ne.mpr h;simp only[List.lookup,hb,if_neg (fun e:g=f=>h (e.trans hk.symm))]
  ·rw[if_neg hk];by_cases h:g=k
   ·have hb:(g==k)=true:=gj.mpr h;simp only[List.lookup,hb,if_neg (fun e:g=f=>hk (h.symm.trans e))]
   ·have hb:(g==k)=false:=beq_eq_false_iff_ne.mpr h;simp only[List.lookup,hb];exact ih
theorem iL (f:Str)(v:V):∀ fs:List (Str×V),f∈(gT f v fs).map (·.1)/\∀ g,g∈fs.map (·.1)->g∈(gT f v fs).map (·.1)
 |[]=>⟨by simp[gT],fun g h=>by simp at h⟩
 | (k,x)::r=>by
  obtain⟨i1,i2⟩:=iL f v r;rw[show gT f v ((k,x)::r)=(if k=f then (k,v)::r else (k,x)::gT f v r) from rfl];by_cases hk:k=f
  ·rw[if_pos hk];subst hk;exact⟨by simp,fun g h=>by simpa using h⟩
  ·rw[if_neg hk];refine⟨?_,fun g h=>?_⟩
   ·rw[ay];exact ai _ i1
   ·rw[ay] at h ⊢;rcases gd.mp h with e | e
    ·exact gd.mpr (.inl e)
    ·exact ai _ (i2 g e)
theorem jb (f:Str)(v:V):∀ fs:List (Str×V),(gT f v fs).length<=fs.length+1
 |[]=>by simp[gT]
 | (k,x)::r=>by
  have ih:=jb f v r;rw[show gT f v ((k,x)::r)=(if k=f then (k,v)::r else (k,x)::gT f v r) from rfl];by_cases hk:k=f
  ·rw[if_pos hk,ak,ak];omega
  ·rw[if_neg hk,ak,ak];omega
theorem iq.some_of {v:V}{o:Option Value}(r:iq (some v) o):∃ u,o=some u/\RelV v u:=by
 cases o with
 |none=>exact (show False from r).elim
 |some u=>exact⟨u,rfl,r⟩
theorem iq.none_of {o:Option Value}(r:iq none o):o=none:=by
 cases o with
 |none=>rfl
 |some u=>exact (show False from r).elim
theorem rz {v:V}{u:Value}(r:RelV v u):PySem.W.handedIn u=true:=by
 cases v with
 |non=>cases (show u=Value.none from r);rfl
 |bl b=>cases (show u=Value.bool b from r);rfl
 |int i=>obtain⟨t,e⟩:=(show ∃ t,u=Value.int i t from r);cases e;rfl
 |str x=>obtain⟨t,e⟩:=(show ∃ t,u=Value.str x t from r);cases e;rfl
 |byt b=>obtain⟨t,e⟩:=(show ∃ t,u=Value.bytes b t from r);cases e;rfl
 |flt b=>obtain⟨t,e⟩:=(show ∃ t,u=Value.float b t from r);cases e;rfl
 |ref a=>cases (show u=Value.ref a from r);rfl
 |ty n=>cases (show u=Value.type n from r);rfl
section
variable {P:Program}{w:World}{H H':Hp}{h h':Heap}{a C dx:Addr}{fs fs':List (Str×V)}
theorem mH (hok:gU P w H h)(e:H a=some (.ins C dx fs)):∃ mA,oO h a dx C mA/\(∀ f,iq (fs.lookup f) (mA f))/\PySem.Within mA (fs.map (·.1))/\fs.length<=1000/\H dx=some (.own a):=by
 obtain⟨d,z,ne,ob,mA,n,r,q⟩:=(show bQ P w H h a (.ins C dx fs) from hok a _ e);exact⟨mA,⟨ob,n,ne⟩,r,q,z,d⟩
end
structure vR (K:PySem.W.Frag)(C:Addr):Prop where
 pg:PySem.W.plainGet K C Str.empty=true
 hd:PySem.W.hasDictIn K C=true
 po:PySem.W.plainOver K C=true
 sa:PySem.W.findIn K (.ref C) "__setattr__" = some (some (.builtin "object.__setattr__"))
theorem vR.get {K:PySem.W.Frag}{C:Addr}(c:vR K C)(f:Str):PySem.W.plainGet K C f=true:=c.pg
def eR (K:PySem.W.Frag)(C:Addr)(f:Str):Prop:=PySem.W.findIn K (.ref C) f=some none
theorem eR.taker {K:PySem.W.Frag}{C:Addr}{f:Str}(n:eR K C f):PySem.W.takerIn K C f=some none:=by
 unfold PySem.W.takerIn;rw[show PySem.W.findIn K (.ref C) f=some none from n];rfl
structure Con (K:PySem.W.Frag)(C:Addr)(f:Str)(v:V)(u:Value):Prop where
 at_:PySem.W.findIn K (.ref C) f=some (some u)
 rel:RelV v u
 get:PySem.W.specialIn K u "__get__" = some none
 cp:PySem.W.copiedNames.contains f=false
structure zr (K:PySem.W.Frag)(C:Addr)(m:Str)(f:Addr):Prop where
 at_:PySem.W.findIn K (.ref C) m=some (some (.ref f))
 fn:PySem.W.isFn K (.ref f)=true
 kp:PySem.W.keepIn K (.ref f)=true
section
variable {X:Cx}{pins:List (Addr×Obj)}{σ:St}{H:Hp}{s:Shared}{a C dx:Addr}{fs:List (Str×V)}{f:Str}{v:V}{A:Around}{E:Value->Shared->Prop}
theorem pO {b:Bool}{Q:Value->Shared->Prop}(I:Inv X pins σ H s)(e:H a=some (.ins C dx fs))(c:vR X.K C)(n:eR X.K C f)(l:fs.lookup f=some v)
  (h:∀ u s',Inv X pins σ H s'->RelV v u->Q u s'):wpAny (model X.prog X.w) A (getAttr (.ref a) f b) Q E s:=by
 obtain⟨mA,O,r,_,_,_⟩:=mH I.hok e;obtain⟨u,hu,ru⟩:=iq.some_of (v:=v) (o:=mA f) (by rw[<-l];exact r f);exact get_map I.kIn O (c.get f) c.hd n hu (rz ru) (h u _ (I.tok _) ru)
theorem oZ {m:Str}{g:Addr}{pl:Sem Bool}{Q:Value×List Value->Shared->Prop}(I:Inv X pins σ H s)(e:H a=some (.ins C dx fs))(c:vR X.K C)(k:zr X.K C m g)(l:fs.lookup m=none)
  (h:Q (.ref g,[.ref a]) s):wpAny (model X.prog X.w) A (getMethod (.ref a) m pl) Q E s:=by
 obtain⟨mA,O,r,_,_,_⟩:=mH I.hok e;have hn:mA m=none:=iq.none_of (by rw[<-l];exact r m);exact uj I.kIn O (c.get m) k.at_ k.fn hn h
theorem pE {y:V}{u:Value}{Q:Unit->Shared->Prop}(I:Inv X pins σ H s)(e:H a=some (.ins C dx fs))(c:vR X.K C)(n:eR X.K C f)(hl:fs.length<1000)(ry:RelV y u)
  (h:∀ s',Inv X pins σ (upd H a (.ins C dx (gT f y fs))) s'->Q () s'):wpAny (model X.prog X.w) A (setAttr (.ref a) f u) Q E s:=by
 obtain⟨mA,O,r,wi,_,ho⟩:=mH I.hok e;have hz:(fs.map (·.1)).length<=sizeLine:=by rw[au,sizeLine_eq];omega
 refine xI I.kIn O c.sa c.po n.taker c.hd wi hz fun h' O' sb=>h _ ?_
 have hd:∃ o,h'.get? dx=some o:=let ⟨o,_,_,e',_⟩:=O'.ns;⟨o,e'⟩;refine I.write (x:=a) (e:=dx) (by rw[e];exact True.intro) (.inr ho) (fun b q hb z=>(sb.2 b hb).trans z) hd ?_;refine⟨by rw[aL O.ne];exact ho,?_,O.ne,O'.obj,_,O'.ns,fun g=>?_,fun g hg=>?_⟩
 ·have:=jb f y fs;omega
 ·show iq ((gT f y fs).lookup g) (if g=f then some u else mA g);rw[jc];by_cases q:g=f
  ·rw[if_pos q,if_pos q];exact ry
  ·rw[if_neg q,if_neg q];exact r g
 ·by_cases q:g=f
  ·rw[q];exact (iL f y fs).1
  ·refine (iL f y fs).2 g (wi g fun z=>hg ?_);show (if g=f then some u else mA g)=none;rw[if_neg q];exact z
theorem Inv.made (I:Inv X pins σ H s):Inv X pins σ (upd (upd H s.heap.objs.size (.own (s.heap.objs.size+1))) (s.heap.objs.size+1) (.ins C s.heap.objs.size []))
  { s with heap:=(s.heap.push PySem.W.emptyDict).push (PySem.W.instObj C s.heap.objs.size) }:=by
 have e1:(s.heap.push PySem.W.emptyDict).get? s.heap.objs.size=some PySem.W.emptyDict:=Heap.get?_push_size s.heap rfl;have e2:((s.heap.push PySem.W.emptyDict).push (PySem.W.instObj C s.heap.objs.size)).get? (s.heap.objs.size+1)=some (PySem.W.instObj C s.heap.objs.size):=by
  have:=Heap.get?_push_size (s.heap.push PySem.W.emptyDict) (o:=PySem.W.instObj C s.heap.objs.size) rfl
  rwa [Heap.size_push] at this
 have e3:(s.heap.push PySem.W.emptyDict).Ns s.heap.objs.size (fun _=>none):=⟨PySem.W.emptyDict,#[],_,e1,rfl,(fun e he=>absurd he (by simp)),fun _=>rfl⟩;have I1:=I.laid (a:=s.heap.objs.size) (o:=.own (s.heap.objs.size+1)) (h':=s.heap.push PySem.W.emptyDict) (t':=s.toks) (fun b u q=>Heap.get?_push_of_some _ q) (av _) ⟨_,e1⟩;refine I1.laid (a:=s.heap.objs.size+1) (o:=.ins C s.heap.objs.size []) (t':=s.toks) (fun b u q=>Heap.get?_push_of_some _ q) (Nat.le_of_eq (Heap.size_push _ _)) ?_;have ne:s.heap.objs.size≠s.heap.objs.size+1:=bo (du _);refine⟨by rw[aL ne,aI],de _,ne,e2,fun _=>none,(Heap.Ns1.of_empty e3).at fun o q=>Heap.get?_push_of_some _ q,fun _=>True.intro,fun y hy=>absurd rfl hy⟩
theorem wt {prog:Program}{w:World}{env:Env}{e:Expr}{f:Str}{pos:Pos}{s:Shared}{Q:Value->Shared->Prop}(hb:attributeBase e f env (eval e env)=eval e env)
  (h:wpAny (model prog w) A (eval e env) (fun o s₁=>wpAny (model prog w) A (getAttr o f true) Q E s₁) E s):wpAny (model prog w) A (eval (.Attribute e f pos) env) Q E s :=
 Attribute_any_ h (by rw[arm_eval_Attribute,hb])
end
def tFld (K:PySem.W.Frag)(ta:TE)(f:Str):TE:=fun σ H Q=>ta σ H fun x H1=>∃ a C dx fs v,x = .ref a/\H1 a=some (.ins C dx fs)/\vR K C/\eR K C f/\fs.lookup f=some v/\Q v H1
def sFld (K:PySem.W.Frag)(ta tv:TE)(f:Str):TS:=fun D σ H=>tv σ H fun y H1=>ta σ H1 fun x H2=>∃ a C dx fs,x = .ref a/\H2 a=some (.ins C dx fs)/\vR K C/\eR K C f/\fs.length<1000 /\
 D.nx σ (upd H2 a (.ins C dx (gT f y fs)))
section
variable {X:Cx}{o e value:Expr}{f:Str}{pos pos' tpos:Pos}{ta tv:TE}
theorem j8 (he:PE X e ta)(hb:attributeBase e f X.env (eval e X.env)=eval e X.env):PE X (.Attribute e f pos) (tFld X.K ta f):=by
 intro pins s σ H Q I h;refine wt hb (bW (he pins s σ H _ I h) fun u s1 ⟨x,H1,I1,rx,a,C,dx,fs,v,ex,ea,c,n,l,q⟩=>?_);subst ex;obtain rfl:u=Value.ref a:=rx;exact pO I1 ea c n l fun u' s2 I2 ru=>⟨v,H1,I2,ru,q⟩
theorem pe (ha:PE X o ta)(hv:PE X value tv)(hs:swapsWith value (some (.Attribute o f pos')) pos.line X.env=pure false):PS X (.Assign [.Attribute o f pos'] value pos) (sFld X.K ta tv f):=by
 intro pins s σ H D I h;refine plainObj_wpAny_Assign_Attribute (bW (hv pins s σ H _ I h) fun u s1 ⟨y,H1,I1,ry,q⟩=>bW (ha pins s1 σ H1 _ I1 q) fun ov s2 ⟨x,H2,I2,rx,a,C,dx,fs,ex,ea,c,n,l,q2⟩=>?_) hs;subst ex;obtain rfl:ov=Value.ref a:=rx;exact pE I2 ea c n l ry fun s3 I3=>⟨σ,_,I3,q2⟩
end
section
variable {X:Cx}{pins:List (Addr×Obj)}{σ:St}{H:Hp}{s:Shared}{A:Around}{E:Value->Shared->Prop}{Q:Value->Shared->Prop}{c:Value}{b:Bool}
inductive j4 (K:PySem.W.Frag) (H:Hp):V->Value->Prop where
 | non:j4 K H .non (.type "NoneType")
 | bl (x:Bool):j4 K H (.bl x) (.type "bool")
 | int (i:Int):j4 K H (.int i) (.type "int")
 | str (x:Str):j4 K H (.str x) (.type "str")
 | flt (x:UInt64):j4 K H (.flt x) (.type "float")
 | lst {a:Addr}{xs:List V}(e:H a=some (.lst xs)):j4 K H (.ref a) (.type "list")
 | frz {a:Addr}{o:Obj}{xs:List V}(e:H a=some (.frz o (.lst xs))):j4 K H (.ref a) (.type "list")
 | tup {a:Addr}{xs:List V}(e:H a=some (.tup xs)):j4 K H (.ref a) (.type "tuple")
 | dK {a:Addr}{kvs:List (Key×V)}(e:H a=some (.dK kvs)):j4 K H (.ref a) (.type "dict")
 | dT {a:Addr}{kvs:List (List Key×V)}(e:H a=some (.dT kvs)):j4 K H (.ref a) (.type "dict")
 | ins {a C dx:Addr}{fs:List (Str×V)}(e:H a=some (.ins C dx fs)) (cl:vR K C) (ha:PySem.W.findIn K (.ref C) "__class__" = some (some (.builtin "object.__class__")))
   (hn:PySem.W.specialIn K (.builtin "object.__class__") "__get__" = some (some (.builtin "getset_descriptor.__get__"))) (htk:PySem.W.takesIn K (.builtin "object.__class__")=some true)
   (hm:PySem.W.mroIn K C (.type "object")=some true):j4 K H (.ref a) (.ref C)
end
end L2
namespace L2
open PySem PySem.Spec PyProof.Rows
structure eT (k:Nat)(A:Around):Prop where
 hd:A.handled=none
 dp:A.depth+3*k+5<recursionLimit
 un:A.units+16*k+200<cLine
theorem eT.deeper {k:Nat}{A:Around}(r:eT (k+1) A)(env:Env):eT k (A.deeper env) :=
 ⟨r.hd,by have:=r.dp;show A.depth+1+3*k+5<_;omega,by have:=r.un;show A.units+3+16*k+200<_;omega⟩
theorem oF {A:Around}{C:Addr}{us:List Value}{kw:List (Str×Value)}:(A.under (.builtin "type.__call__" ⟨.ref C::us,kw⟩)).depth=A.depth+1:=by
 first | rfl | simp[Around.under,Code.weight,Code.isCreation,Code.isGuard,Code.isCaller,Code.frames,Code.isFrame,guardIds]
theorem pj {A:Around}{C:Addr}{us:List Value}{kw:List (Str×Value)}:(A.under (.builtin "type.__call__" ⟨.ref C::us,kw⟩)).units=A.units+1:=by
 first | rfl | simp[Around.under,Code.cUnits,Code.frames,Code.isFrame]
theorem eT.depth {k:Nat}{A:Around}(r:eT k A):A.depth<recursionLimit:=by have:=r.dp;omega
theorem eT.units {k:Nat}{A:Around}(r:eT k A):A.units+64<cLine:=by have:=r.un;omega
def oS:TA:=fun _ H Q=>Q [] H
def eW (ta:TE)(tr:TA):TA:=fun σ H Q=>ta σ H fun x H1=>tr σ H1 fun xs H2=>Q (x::xs) H2
section
variable {X:Cx}{e:Expr}{es:List Expr}{te:TE}{t:TA}{pos:Pos}
theorem bL:PA X [] oS:=fun _ _ _ _ H Q I h=>Calls.spliced_nil ⟨[],H,I,.nil,h⟩
theorem aP (ha:PE X e te)(hr:PA X es t)(hs:starEach (e::es) X.env=(false,eval e X.env)::starEach es X.env:=by rfl):PA X (e::es) (eW te t):=by
 intro pos pins s σ H Q I h;rw[hs];show wpAny _ _ (spliced ((false,eval e X.env)::backTo pos (starEach es X.env))) _ _ s;refine Calls.spliced_cons (bW (ha pins s σ H _ I h) fun u s1 ⟨x,H1,I1,r1,q1⟩=>?_);exact bW (hr pos pins s1 σ H1 _ I1 q1) fun us s2 ⟨xs,H2,I2,r2,q2⟩=>⟨x::xs,H2,I2,.cons r1 r2,q2⟩
def tTup (t:TA):TE:=fun σ H Q=>t σ H fun xs H1=>xs.length<=sizeLine/\∀ p,H1 p=none->Q (.ref p) (upd H1 p (.tup xs))
def tLst (t:TA):TE:=fun σ H Q=>t σ H fun xs H1=>xs.length<=sizeLine/\∀ p,H1 p=none->Q (.ref p) (upd H1 p (.lst xs))
theorem qb {x1}(h:PA X es t):PE X (.Tuple es x1 pos) (tTup t):=by
 intro pins s σ H Q I hq;refine wpAny_Tuple_spliced (bW (h pos pins s σ H _ I hq) fun us s1 ⟨xs,H1,I1,r,z,q⟩=>⟨by rw[<-r.length];exact z,?_⟩);have hf:H1 s1.heap.objs.size=none:=I1.hok.fresh (av _);refine⟨.ref s1.heap.objs.size,upd H1 s1.heap.objs.size (.tup xs),I1.laid (t':=s1.toks) (fun b u e=>Heap.get?_push_of_some _ e) (av _) ?_,rfl,q _ hf⟩;exact⟨z,us,r,⟨_,Heap.get?_push_size _ rfl,rfl,_,rfl⟩⟩
theorem pU (h:PA X es t):PE X (.List es pos) (tLst t):=by
 intro pins s σ H Q I hq;refine wpAny_List_spliced (bW (h pos pins s σ H _ I hq) fun us s1 ⟨xs,H1,I1,r,z,q⟩=>⟨by rw[<-r.length];exact z,?_⟩);have hf:H1 s1.heap.objs.size=none:=I1.hok.fresh (av _);refine⟨.ref s1.heap.objs.size,upd H1 s1.heap.objs.size (.lst xs),I1.laid (t':=s1.toks) (fun b u e=>Heap.get?_push_of_some _ e) (av _) ?_,rfl,q _ hf⟩;exact⟨z,us,0,r,Heap.get?_push_size _ rfl⟩
end
noncomputable abbrev Sp:=List V->Hp->VK->XK->Prop
noncomputable abbrev nS:=List Env->Hp->Shared->XK->Value->Shared->Prop
structure nz (P:Program)(w:World)(K:PySem.W.Frag)(mg:Str->Option Value)(base:Heap)(A:Around)(outer:List Env)(s:Shared)(H:Hp):Prop where
 frames:A.frames=some outer
 mod:Mod K mg base
 bs:∀ b o,base.get? b=some o->s.heap.get? b=some o/\H b=none
 bsz:base.objs.size<=s.heap.objs.size
 funs:s.heap.FunFrames base outer
 frf:∀ b∈fR outer,H b=none
 hok:gU P w H s.heap
 bare:AllBare s.gens
noncomputable def CE (outer:List Env)(P:Program)(w:World)(H:Hp)(s:Shared)(Q:VK)(u:Value)(s':Shared):Prop :=
 ∃ v H',s'.os=s.os/\AllBare s'.gens/\Un (fR outer) [] H H' s.heap s'.heap/\gU P w H' s'.heap/\RelV v u/\Q v H'
noncomputable def CR (CX:nS)(outer:List Env)(P:Program)(w:World)(H:Hp)(s:Shared)(Q:VK)(E:XK)(r:Result)(s':Shared):Prop :=
 match r with
 | .ok (.ret u)=>CE outer P w H s Q u s'
 |.ok _=>False
 |.error e=>CX outer H s E e s'
structure jh (P:Program)(w:World)(K:PySem.W.Frag)(mg:Str->Option Value)(base:Heap)(CX:nS)(k:Nat)(f:Addr)(fd:FuncData)(ps:List Str)(sp:Sp):Prop where
 len:∀ vs H Q E,sp vs H Q E->vs.length=ps.length
 run:∀(A:Around) (outer:List Env) (s:Shared) (H:Hp) (args:Args) (us:List Value) (vs:List V) (Q:VK) (E:XK),eT k A->nz P w K mg base A outer s H->BindsTo s fd args (ps.zip us)->aN vs us->sp vs H Q E ->
  codeAny (model P w) A (.call (.ref f) args) (CR CX outer P w H s Q E) s
theorem nz.make {P:Program}{w:World}{K:PySem.W.Frag}{mg:Str->Option Value}{base:Heap}{A:Around}{outer:List Env}{s:Shared}{H:Hp}(e:nz P w K mg base A outer s H)(C:Addr)(us:List Value)(kw:List (Str×Value)) :
  nz P w K mg base (A.under (.builtin "type.__call__" ⟨.ref C::us,kw⟩)) outer s H:=⟨by first | exact e.frames | (simpa[Around.under,Code.envs,Code.isFrame,pushEnvs] using e.frames),e.mod,e.bs,e.bsz,e.funs,e.frf,e.hok,e.bare⟩
section
variable {X:Cx}{pins:List (Addr×Obj)}{σ:St}{H:Hp}{s s':Shared}
theorem Inv.env0 (I:Inv X pins σ H s):nz X.prog X.w X.K X.mg X.base X.A X.stack s H :=
 ⟨I.ok.frames,I.ok.mod,I.bs,be I.ok.bsz I.sz,I.stack,I.stkFree,I.hok,I.bare⟩
theorem Inv.after {Q:VK}{u:Value}(I:Inv X pins σ H s)(h:CE X.stack X.prog X.w H s Q u s'):EP X pins σ Q u s':=by
 obtain⟨v,H',os,bare,un,hok,r,q⟩:=h;obtain⟨hh,g,d,t,os'⟩:=s';obtain rfl:os'=s.os:=os;exact⟨v,H',I.call (h':=hh) (g':=g) (d':=d) (t':=t) (ch:=[]) un hok bare (fun b z=>absurd z (by simp)),r,q⟩
end
def vN (sp:Sp)(dvs:List V)(E:XK)(t:TA):TE:=fun σ H Q=>t σ H fun vs H1=>sp (vs++dvs) H1 Q E
noncomputable def Binds (K:PySem.W.Frag)(fd:FuncData)(ps:List Str)(ds:List Value):Prop :=
 ∀(s:Shared) (us:List Value),K.In s.heap->(us++ds).length=ps.length->BindsTo s fd ⟨us,[]⟩ (ps.zip (us++ds))
theorem Binds.all {K:PySem.W.Frag}{fd:FuncData}{ps:List Str}(h:∀ us:List Value,us.length=ps.length->bindArgs fd ⟨us,[]⟩=pure (ps.zip us)):Binds K fd ps []:=fun s us _ hl=>by
 rw[ba] at hl ⊢;exact .of_eq (h us hl)
def eS (CX:nS)(X:Cx)(E:XK):Prop:=∀(pins:List (Addr×Obj)) (σ:St) (H:Hp) (s:Shared) (e:Value) (s':Shared),Inv X pins σ H s->CX X.stack H s E e s'->X.xe e s'
section
variable {X:Cx}{CX:nS}{k:Nat}{f C:Addr}{fd:FuncData}{ps:List Str}{sp:Sp}{dvs:List V}{ds:List Value}{E:XK}{x m:Str}{p pos apos:Pos}{e o:Expr}{es:List Expr}{ta:TE}{t:TA}
theorem uk {pins:List (Addr×Obj)}{σ:St}{H:Hp}{s:Shared}{Q:VK}{us:List Value}{vs:List V}(F:jh X.prog X.w X.K X.mg X.base CX k f fd ps sp)(hr:eT k X.A)(hb:Binds X.K fd ps ds)(hd:aN dvs ds)(hx:eS CX X E)
  (I:Inv X pins σ H s) (r:aN vs us) (h:sp (vs++dvs) H Q E):wpAny (model X.prog X.w) X.A (call (.ref f) us) (EP X pins σ Q) X.xe s:=by
 have r2:aN (vs++dvs) (us++ds):=r.append hd;have hl:(us++ds).length=ps.length:=by rw[<-r2.length];exact F.len _ _ _ _ h
 refine wpAny_call (codeAny_mono (F.run X.A X.stack s H ⟨us,[]⟩ (us++ds) (vs++dvs) Q E hr I.env0 (hb s us I.kIn hl) r2 h) fun r s' hq=>?_);cases r with
 |error e=>exact hx pins σ H s e s' I hq
 |ok fl =>
  cases fl with
  |ret u=>exact I.after hq
  |next=>exact False.elim hq
  |brk=>exact False.elim hq
  |cont=>exact False.elim hq
theorem wZ (F:jh X.prog X.w X.K X.mg X.base CX k f fd ps sp)(hr:eT k X.A)(hg:Gl X x)(hm:X.mg x=some (.ref f))(hk:PySem.W.keepIn X.K (.ref f)=true)(hb:Binds X.K fd ps ds)(hd:aN dvs ds)(hx:eS CX X E)
  (ha:PA X (e::es) t) (hdb:(x==("__debug__" : Str))=false:=by decide) (he:starEach (e::es) X.env=(false,eval e X.env)::starEach es X.env:=by rfl) (hpl:(backTo pos (starEach es X.env)).any (·.1)=false:=by rfl) :
  PE X (.Call (.Name x p) (e::es) [] pos) (vN sp dvs E t):=by
 intro pins s σ H Q I h;refine wpAny_Call_Name_kw (gO I hg hm ?_ hdb);refine fw (h₀:=X.base) I.ok.mod.kin hk (bW (ha pos pins s σ H _ I h) fun us s1 ⟨vs,H1,I1,r,q⟩=>⟨I1.kIn,?_⟩) he hpl;exact uk F hr hb hd hx I1 r q
theorem uG (F:jh X.prog X.w X.K X.mg X.base CX k f fd ps sp)(hr:eT k X.A)(hg:Gl X x)(hm:X.mg x=some (.ref f))(hk:PySem.W.keepIn X.K (.ref f)=true)(hb:Binds X.K fd ps ds)(hd:aN dvs ds)(hx:eS CX X E)
  (hdb:(x==("__debug__" : Str))=false:=by decide):PE X (.Call (.Name x p) [] [] pos) (vN sp dvs E oS):=by
 intro pins s σ H Q I h;refine wpAny_Call_Name_kw (gO I hg hm ?_ hdb);exact PySem.W.callWith_K0 I.kIn hk (uk (us:=[]) F hr hb hd hx I .nil h)
structure Mk (K:PySem.W.Frag)(C f:Addr):Prop where
 makes:PySem.W.makesIn K C=true
 init:PySem.W.findIn K (.ref C) "__init__" = some (some (.ref f))
 fn:PySem.W.isFn K (.ref f)=true
 kp:PySem.W.keepIn K (.ref C)=true
end
section
variable {X:Cx}{CX:nS}{k:Nat}{f C:Addr}{fd:FuncData}{ps ks:List Str}{sp:Sp}{E:XK}{x m:Str}{p pos apos kpos:Pos}{e o:Expr}{es:List Expr}{kws:List Keyword}{te ta:TE}{t tk:TA}{nm:Option Str}
structure KBinds (K:PySem.W.Frag)(fd:FuncData)(ps ks:List Str)(g:List Value->List Value->List Value)(gV:List V->List V->List V):Prop where
 to:∀(s:Shared) (us ws:List Value),K.In s.heap->(g us ws).length=ps.length->BindsTo s fd ⟨us,ks.zip ws⟩ (ps.zip (g us ws))
 rel:∀{vs:List V}{us:List Value}{zs:List V}{ws:List Value},aN vs us->aN zs ws->aN (gV vs zs) (g us ws)
variable {g:List Value->List Value->List Value}{gV:List V->List V->List V}
end
structure bV (N P:List Str)(sc:Scope):Prop where
 kind:sc.kind = .function
 co:sc.isCoroutine=false
 gen:sc.isGenerator=false
 nd:N.Nodup
 pre:N.take P.length=P
 par:∀ x∈P,sc.names.lookup x=some .local\/sc.names.lookup x=some .cell
 nofree:∀ y∈sc.names,y.2≠.free
theorem lX {kindOf:Str->Option NameKind}{x:Str}:∀{binds:List (Str×Value)}{m:Str->Option Value},(∀ v,(x,v)∉binds)->bindL kindOf binds m x=m x
 |[],_,_=>rfl
 | (n,v)::r,m,h=>by
  unfold bindL;rw[lX fun w hw=>h w (ai _ hw)];split
  ·have:x≠n:=by rintro rfl;exact h v aq
   simp[this]
  ·rfl
theorem lH {kindOf:Str->Option NameKind}{x:Str}:∀{binds:List (Str×Value)}{m:Str->Option Value},(∀ v,(x,v)∉binds)->bindC kindOf binds m x=m x
 |[],_,_=>rfl
 | (n,v)::r,m,h=>by
  unfold bindC;rw[lH fun w hw=>h w (ai _ hw)];split
  ·rfl
  ·have:x≠n:=by rintro rfl;exact h v aq
   simp[this]
theorem lz {kindOf:Str->Option NameKind}{x:Str}{v:Value}:∀{P:List Str}{vs:List Value}{i:Nat}{m:Str->Option Value},P.Nodup->P[i]? = some x->vs[i]? = some v->kindOf x=some .local ->
  bindL kindOf (P.zip vs) m x=some v
 |[],_,_,_,_,h,_,_=>by simp at h
 |_::_,[],_,_,_,_,h,_=>by simp at h
 | p::P,w::vs,0,m,nd,h1,h2,hk=>by
  simp at h1 h2;subst h1;subst h2;show bindL kindOf ((p,w)::P.zip vs) m p=_;unfold bindL;rw[lX fun v hv=>(List.nodup_cons.mp nd).1 (gr hv).1,if_pos hk];simp
 | p::P,w::vs,i+1,m,nd,h1,h2,hk=>by
  show bindL kindOf ((p,w)::P.zip vs) m x=_;unfold bindL;exact lz (i:=i) (List.nodup_cons.mp nd).2 (by simpa using h1) (by simpa using h2) hk
theorem lK {kindOf:Str->Option NameKind}{x:Str}{v:Value}:∀{P:List Str}{vs:List Value}{i:Nat}{m:Str->Option Value},P.Nodup->P[i]? = some x->vs[i]? = some v->kindOf x≠some .local ->
  bindC kindOf (P.zip vs) m x=some v
 |[],_,_,_,_,h,_,_=>by simp at h
 |_::_,[],_,_,_,_,h,_=>by simp at h
 | p::P,w::vs,0,m,nd,h1,h2,hk=>by
  simp at h1 h2;subst h1;subst h2;show bindC kindOf ((p,w)::P.zip vs) m p=_;unfold bindC;rw[lH fun v hv=>(List.nodup_cons.mp nd).1 (gr hv).1,if_neg hk];simp
 | p::P,w::vs,i+1,m,nd,h1,h2,hk=>by
  show bindC kindOf ((p,w)::P.zip vs) m x=_;unfold bindC;exact lK (i:=i) (List.nodup_cons.mp nd).2 (by simpa using h1) (by simpa using h2) hk
noncomputable def start (N:List Str)(vs:List V):St:=vs.map some++List.replicate (N.length - vs.length) none
noncomputable def dR (CX:nS)(P:Program)(w:World)(K:PySem.W.Frag)(mg:Str->Option Value)(base:Heap)(N:List Str)(qual:Str)(scope:Scope)(f:Addr)(cd:Value)(A:Around)(outer:List Env)(s:Shared)(H:Hp)(E:XK):Cx where
 prog:=P
 w:=w
 K:=K
 mg:=mg
 base:=base
 A:=A.deeper (envOfC qual scope s.heap.objs.size f cd)
 N:=N
 s₀:=s
 H₀:=H
 env:=envOfC qual scope s.heap.objs.size f cd
 outer:=outer
 stack:=envOfC qual scope s.heap.objs.size f cd::outer
 ex:=[]
 calm:=true
 fn:=fun _=>true
 pn:=[]
 xe:=fun e s'=>wpAny (model P w) (A.deeper (envOfC qual scope s.heap.objs.size f cd)) (leaving (envOfC qual scope s.heap.objs.size f cd) e) (fun _ s''=>CX outer H s E e s'') (fun e' s''=>CX outer H s E e' s'') s'
theorem nO {sc:Scope}{n:Nat}{x:Str}(h:sc.names.lookup x=some .cell):∃ c,(cellsFrom n sc.names []).lookup x=some c:=by
 have q:=gn sc.names n [] (.inl h);exact Option.isSome_iff_exists.mp q
theorem lL {CX:nS}{P:Program}{w:World}{K:PySem.W.Frag}{mg:Str->Option Value}{base:Heap}{N ps:List Str}{qual:Str}{scope:Scope}{f:Addr}{cd:Value}{A:Around}{outer:List Env}{s s1:Shared}{H:Hp}{E:XK}{us:List Value}{vs:List V}
  (S:bV N ps scope) (hd:A.handled=none) (e0:nz P w K mg base A outer s H) (hl:vs.length=ps.length) (r:aN vs us)
  (x:InCallC s s.heap.objs.size (bindL (envOfC qual scope s.heap.objs.size f cd).kindOf (ps.zip us) fun _=>none) (cellsFrom (s.heap.objs.size+1) scope.names []) (bindC (envOfC qual scope s.heap.objs.size f cd).kindOf (ps.zip us) fun _=>none) s1) :
  Inv (dR CX P w K mg base N qual scope f cd A outer s H E) [] (start N vs) H s1:=by
 have hpl:ps.length<=N.length:=by have:=fv List.length S.pre;rw[bt] at this;omega
 obtain⟨h1,tk,rfl,hk⟩:=x.done;have noA:∀ b:Addr,b∉(dR CX P w K mg base N qual scope f cd A outer s H E).ex:=fun b z=>absurd (show b∈([]:List Addr) from z) (by simp)
 refine⟨⟨e0.mod,S.kind,rfl,rfl,av _,fun y z c h1 h2=>?_,fun y hy=>?_,fun y c _ h=>?_,fun _=>hd,Around.frames_deeper e0.frames,.inr ⟨rfl,rfl⟩,fun b z=>absurd z (noA b),e0.bs,e0.bsz,fun b _ _=>noA b,fun b z=>absurd z (noA b),e0.funs,e0.frf⟩,
  rfl,e0.bare,Un.kept hk,⟨_,x.toInCall.ns,fun i y v h1 h2 h3=>?_⟩,fun y c h=>⟨_,x.cell y c h⟩,e0.hok.fresh (Nat.le_refl _),fun y c h=>?_,fun p hp=>absurd (show p∈([]:List (Addr×Obj)) from hp) (by simp),e0.hok.kept hk,?_⟩
 ·exact name_of_addr x.apart (bq h1) (bq h2)
 ·have hy:scope.names.lookup y=some .cell\/scope.names.lookup y=some .free:=hy;rcases hy with hy | hy
  ·exact nO hy
  ·exact absurd rfl (S.nofree _ (bq hy))
 ·exact Nat.le_of_lt (x.above y c (bq h))
 ·have hi:i<vs.length:=by
   unfold start at h2;by_cases hi:i<vs.length
   ·exact hi
   ·rw[List.getElem?_append_right (by simpa using hi)] at h2;rw[List.getElem?_replicate] at h2;split at h2<;>cases h2
  have ha:vs[i]? = some v:=by
   unfold start at h2;rw[List.getElem?_append_left (by simpa using hi),List.getElem?_map] at h2;cases e:vs[i]? with
   |none=>rw[e] at h2;cases h2
   |some a=>rw[e] at h2;cases h2;rfl
  obtain⟨u,hu,rv⟩:=r.get ha;have hp:ps[i]? = some y:=by
   rw[<-S.pre,List.getElem?_take_of_lt (by omega)];exact h1
  have ndP:ps.Nodup:=by rw[<-S.pre];exact S.nd.sublist (List.take_sublist _ _)
  refine⟨u,rv,?_⟩;rcases S.par y (List.mem_of_getElem? hp) with k | k
  ·exact .inl ⟨k,lz ndP hp hu k⟩
  ·obtain⟨c,e⟩:=nO (n:=s.heap.objs.size+1) k;refine .inr ⟨.inl k,c,e,?_⟩;have q:=x.cell y c e;rw[lK ndP hp hu (by show scope.names.lookup y≠_;rw[k];decide)] at q;exact q
 ·exact e0.hok.fresh (Nat.le_of_lt (x.above y c (bq h)))
 ·unfold start;show _=N.length;rw[ag,au,dz];omega
theorem Dk {CX:nS}{P:Program}{w:World}{K:PySem.W.Frag}{mg:Str->Option Value}{base:Heap}{k:Nat}{f:Addr}{name qual:Str}{params:Arguments}{body:List Stmt}{scope:Scope}{dV kV doc pm cdv ct oc:Value}{an od:Option Addr}
  {osl:Array (Option Value)}{N ps:List Str}{sp:Sp}(lk:K.lookup f=some ⟨oc,od,.func (PySem.W.fnOf name qual params body scope dV kV doc pm an cdv ct),osl⟩) (hcd:PySem.W.codeIn K cdv qual=true) (S:bV N ps scope)
  (len:∀ vs H Q E,sp vs H Q E->vs.length=ps.length)
  (hbody:∀(A:Around) (outer:List Env) (s:Shared) (H:Hp) (vs:List V) (Q:VK) (E:XK),eT k (A.deeper (envOfC qual scope s.heap.objs.size f cdv))->sp vs H Q E ->
   ∃ t,jS (dR CX P w K mg base N qual scope f cdv A outer s H E) body t/\t { nx:=fun _ H'=>Q .non H',rt:=Q } (start N vs) H) :
  jh P w K mg base CX (k+1) f (PySem.W.fnOf name qual params body scope dV kV doc pm an cdv ct) ps sp:=by
 refine⟨len,fun A outer s H args us vs Q E hr e0 hb r hsp=>?_⟩;have hl:=len _ _ _ _ hsp;have KX:K.In s.heap:=e0.mod.kin.keeps fun b o e=>(e0.bs b o e).1
 have lim:s.heap.NoLimit:=e0.mod.nolimit.keeps fun b o e=>(e0.bs b o e).1
 have hkind:∀ y∈ps.zip us,scope.names.lookup y.1=some .local\/(scope.names.lookup y.1=some .cell/\((cellsFrom (s.heap.objs.size+1) scope.names []).lookup y.1).isSome=true):=fun ⟨n,v⟩ hy=>by
  rcases S.par n (gr hy).1 with q | q
  ·exact .inl q
  ·exact .inr ⟨q,gn _ _ _ (.inl q)⟩
 refine codeAny_call_function hr.depth (KX _ _ lk) rfl S.co S.gen rfl (PySem.W.codeRec_of KX hcd) (hb _ _ _ _ ?_);refine wpAny_newFunctionEnv_cells S.kind hkind fun env he s1 x=>?_
 subst he;refine⟨lim.keeps x.toInCall.keep,codeAny_func ?_⟩;obtain⟨t,ht,hq⟩:=hbody A outer s H vs Q E (hr.deeper _) hsp;have I:Inv (dR CX P w K mg base N qual scope f cdv A outer s H E) [] (start N vs) H s1:=lL S hr.hd e0 hl r x;refine wpAny_mono (ht [] s1 (start N vs) H _ I hq) (fun fl s' hs=>?_) fun e s' hs=>hs
 have fin:∀{σ':St}{H':Hp}{v:V}{u:Value},Inv (dR CX P w K mg base N qual scope f cdv A outer s H E) [] σ' H' s'->RelV v u->Q v H'->CE outer P w H s Q u s' :=
  fun {σ' H' v u} J rv q=>⟨v,H',J.os,J.bare,J.base,J.hok,rv,q⟩
 cases fl with
 |ret u =>
  obtain⟨v,σ',H',J,rv,q⟩:=hs;exact fin J rv q
 |next =>
  obtain⟨σ',H',J,q⟩:=hs;exact fin (v:=V.non) (u:=Value.none) J rfl q
 |brk =>
  obtain⟨_,_,_,q⟩:=hs;exact False.elim q
 |cont =>
  obtain⟨_,_,_,q⟩:=hs;exact False.elim q
end L2
namespace L2
open PySem PySem.Spec PyProof.Rows
section
variable {X:Cx}{x:Str}{p pos:Pos}{e:Expr}{es:List Expr}{t:TA}{id T:String}{r:List V->Hp->VK->Prop}
def tCB (r:List V->Hp->VK->Prop)(t:TA):TE:=fun σ H Q=>t σ H fun vs H1=>r vs H1 Q
theorem jY (hc:dP X (.builtin id) r)(hg:Gl X x)(hm:X.mg x=none)(hv:bootBuiltins x=some (.builtin id))(ha:PA X (e::es) t)(hn:x≠"__name__":=by decide) (hdb:(x==("__debug__" : Str))=false:=by decide)
  (he:starEach (e::es) X.env=(false,eval e X.env)::starEach es X.env:=by rfl) (hpl:(backTo pos (starEach es X.env)).any (·.1)=false:=by rfl):PE X (.Call (.Name x p) (e::es) [] pos) (tCB r t):=by
 intro pins s σ H Q I h;refine wpAny_Call_Name_kw (mj I hg hm hv ?_ hn hdb);exact PyProof.Rows.callWith_builtin1 (bW (ha pos pins s σ H _ I h) fun us s1 ⟨vs,H1,I1,r1,q1⟩=>hc pins s1 σ H1 vs us Q I1 r1 q1) he hpl
theorem lD (hc:dP X (.type T) r)(hg:Gl X x)(hm:X.mg x=none)(hv:bootBuiltins x=some (.type T))(ha:PA X (e::es) t)(hn:x≠"__name__":=by decide) (hdb:(x==("__debug__" : Str))=false:=by decide)
  (he:starEach (e::es) X.env=(false,eval e X.env)::starEach es X.env:=by rfl) (hpl:(backTo pos (starEach es X.env)).any (·.1)=false:=by rfl):PE X (.Call (.Name x p) (e::es) [] pos) (tCB r t):=by
 intro pins s σ H Q I h;refine wpAny_Call_Name_kw (mj I hg hm hv ?_ hn hdb);exact PyProof.Rows.callWith_type1 (bW (ha pos pins s σ H _ I h) fun us s1 ⟨vs,H1,I1,r1,q1⟩=>hc pins s1 σ H1 vs us Q I1 r1 q1) he hpl
end
end L2
namespace HT
open PySem PyProof.Rows
noncomputable def lexLt:List Int->List Int->Bool
 |[],[]=>false
 |[],_::_=>true
 |_::_,[]=>false
 |x::xs,y::ys=>if x=y then lexLt xs ys else decide (x<y)
theorem jV (x y:Int)(xs ys:List Int):lexLt (x::xs) (y::ys)=if x=y then lexLt xs ys else decide (x<y):=rfl
theorem kP:lexLt [] []=false:=rfl
theorem jO (y:Int)(ys:List Int):lexLt [] (y::ys)=true:=rfl
theorem kG (x:Int)(xs:List Int):lexLt (x::xs) []=false:=rfl
theorem nJ (A:Around)(s:Shared)(a:Int)(t:Tok)(c:Int)(u:Tok):∃ e,SeqAt.EqAt A s (.int a t) (.int c u) e/\(e=true↔a=c) :=
 ⟨(a==c),SeqAt.EqAt.int_int a t c u,by simp⟩
theorem jU (A:Around)(s:Shared)(a:Int)(t:Tok)(c:Int)(u:Tok)(prog:Program)(w:World)(E:Value->Shared->Prop)(Q:Value->Shared->Prop)(h:Q (.bool (decide (a<c))) s) :
  wpAny (model prog w) A (richCompare .Lt (.int a t) (.int c u)) Q E s :=
 (PyProof.Rows.lt_int h:wpAny (model prog w) A (compareOp .Lt (.int a t) (.int c u)) Q E s)
section
open PySem.SeqAt
open PySem.AutoSeq1 (wpAny_loadPart')
open PySem.MeetsSeq PySem.MeetsSeq2 PySem.MeetsSeq3
theorem kR (l b:Addr)(items items2:Array Value)(n n2:Nat)(dd dd2:Option Addr)(sl sl2:Array (Option Value))(ns ms:List Int)(hi:IntsAre items.toList ns)(hj:IntsAre items2.toList ms) :
  Meets (Builtin.«tuple.__lt__» ⟨[.ref l,.ref b],[]⟩)
   (fun _ R s=>s.heap.get? l=some { cls:=.type "tuple",dict:=dd,data:=.seq items n,slots:=sl }/\s.heap.get? b=some { cls:=.type "tuple",dict:=dd2,data:=.seq items2 n2,slots:=sl2 } /\
    R (.ok (.ret (.bool (lexLt ns ms)))) s) :=
 .of_wp fun prog w A R s h=>by
  obtain⟨hp,g,d,tk,os⟩:=s;obtain⟨hl,hb,h⟩:=h;have f2:=AutoSeq1.sub_tuple_tuple;have z1:items.size=ns.length:=by rw[<-hi.length];simp
  have z2:items2.size=ms.length:=by rw[<-hj.length];simp
  wp_walk using wpAny_loadPart' hl,wpAny_loadPart' hb,wpAny_forIn_list _ (fun rest b s'=>b.1=none/\s'=⟨hp,g,d,tk,os⟩/\∃(vs ws:List Value) (ns' ms':List Int),rest=vs.zip ws /\
   IntsAre vs ns'/\IntsAre ws ms'/\ns'.length+items2.size=ms'.length+items.size/\R (.ok (.ret (.bool (lexLt ns' ms')))) ⟨hp,g,d,tk,os⟩) _
  case turn =>
   rintro⟨y,x⟩ rest b s' ⟨hb',rfl,vs,ws,ns',ms',hz,hvi,hwi,hlen,hR⟩;cases hvi with
   |nil=>rw[List.zip_nil_left] at hz;cases hz
   |cons a t hvi' =>
    cases hwi with
    |nil=>rw[List.zip_nil_right] at hz;cases hz
    |cons c u hwi' =>
     rw[f7] at hz;injection hz with hyx hrest
     injection hyx with hy hx
     subst hy hx;rw[jV] at hR;simp only[List.length_cons] at hlen;obtain⟨e,he,hiff⟩:=nJ A.in1 ⟨hp,g,d,tk,os⟩ a t c u;refine wpAny_bind (he prog w _ _ ?_);cases e with
     |true =>
      rw[if_pos (hiff.mp rfl)] at hR
      wp_walk
      exact⟨rfl,rfl,_,_,_,_,hrest,hvi',hwi',by omega,hR⟩
     |false =>
      rw[if_neg (fun q=>absurd (hiff.mpr q) ao)] at hR;have hri:=jU A.in1 ⟨hp,g,d,tk,os⟩ a t c u prog w
      wp_walk using hri
      exact⟨_,rfl,by simpa using hR⟩
  case fin =>
   rintro⟨b1,b2⟩ s' ⟨hb',rfl,vs,ws,ns',ms',hz,hvi,hwi,hlen,hR⟩;simp only at hb';subst hb';have hv:lexLt ns' ms'=decide (items.size<items2.size):=by
    cases hvi with
    |nil =>
     cases hwi with
     |nil =>
      simp only[List.length_nil] at hlen;rw[kP];exact (az (by omega)).symm
     |cons c u hw =>
      simp only[List.length_nil,List.length_cons] at hlen;rw[jO];exact (bj (by omega)).symm
    |cons a t hv =>
     cases hwi with
     |nil =>
      simp only[List.length_nil,List.length_cons] at hlen;rw[kG];exact (az (by omega)).symm
     |cons c u hw =>
      rw[f7] at hz;cases hz
   rw[hv] at hR
   wp_walk
   exact⟨_,rfl,by simpa[Builtin.Tuple.tupleCompareSizes] using hR⟩
  case h =>
   exact⟨rfl,rfl,items.toList,items2.toList,ns,ms,rfl,hi,hj,by omega,h⟩
end
section
variable {prog:Program}{w:World}{A:Around}{E:Value->Shared->Prop}{s:Shared}
theorem pq {l b:Addr}{items items2:Array Value}{ns ms:List Int}{Q:Value->Shared->Prop}(hl:IsTup s.heap l items)(hb:IsTup s.heap b items2)(hi:IntsAre items.toList ns)(hj:IntsAre items2.toList ms)
  (hu:A.units<cLine) (h:Q (.bool (lexLt ns ms)) s):wpAny (model prog w) A (compareOp .Lt (.ref l) (.ref b)) Q E s:=by
 obtain⟨⟨cls,dd,data,sl⟩,ho,hc,n,hd⟩:=id hl;obtain⟨⟨cls2,dd2,data2,sl2⟩,ho2,hc2,n2,hd2⟩:=id hb;simp only at hc hd hc2 hd2;subst hc hd hc2 hd2;exact richCompare_meets_room (op:=.Lt) ⟨_,ho,rfl⟩ ⟨_,ho2,rfl⟩ PySem.F.slot_tuple_lt PySem.F.entry_tuple_lt (PySem.F.args_tuple_lt_2 _ _) (kR l b items items2 n n2 dd dd2 sl sl2 ns ms hi hj)
  ⟨ho,ho2,show Value.bool (lexLt ns ms)≠Value.notImplemented/\Q (.bool (lexLt ns ms)) s from ⟨(fun x=>nomatch x),h⟩⟩ hu
theorem wH {t b:Addr}{vs ws:List Value}{Q:Value->Shared->Prop}(ht:IsTup s.heap t vs.toArray)(hb:IsTup s.heap b ws.toArray)(hv:vs≠[])
  (h1:ws=[]->Q (.ref t) s) (h2:ws≠[]->Q (.ref s.heap.objs.size) { s with heap:=s.heap.push { cls:=.type "tuple",data:=.seq (vs++ws).toArray } })
  (hsz:vs.length+ws.length<=sizeLine):wpAny (model prog w) A (binaryOp .Add (.ref t) (.ref b)) Q E s:=by
 obtain⟨⟨cls,dd,data,sl⟩,ho,hc,n,hd⟩:=id ht;obtain⟨⟨cls2,dd2,data2,sl2⟩,ho2,hc2,n2,hd2⟩:=id hb;simp only at hc hd hc2 hd2;subst hc hd hc2 hd2;have e:vs.toArray++ws.toArray=(vs++ws).toArray:=by simp
 by_cases hw:ws=[]
 ·exact concat_meets ⟨_,ho,rfl⟩ ⟨_,ho2,rfl⟩ noFill_tuple_add seq_tuple_add PySem.F.slot_tuple_add PySem.F.entry_tuple_add (PySem.F.args_tuple_add_2 _ _)
   (tuple_addW1 t b vs.toArray ws.toArray n n2 dd dd2 sl sl2 (by simpa using hv) (by simp[hw])) ⟨ho,ho2,h1 hw⟩
 ·refine concat_meets ⟨_,ho,rfl⟩ ⟨_,ho2,rfl⟩ noFill_tuple_add seq_tuple_add PySem.F.slot_tuple_add PySem.F.entry_tuple_add (PySem.F.args_tuple_add_2 _ _)
   (tuple_addW2 t b vs.toArray ws.toArray n n2 dd dd2 sl sl2 (by simpa using hv) (by simpa using hw) (by rw[List.size_toArray,List.size_toArray];exact hsz)) ⟨ho,ho2,?_⟩
  rw[e];exact h2 hw
noncomputable def aU (n d:Nat):Option Int->Nat
 |none=>d
 |some v=>if v<0 then (v+(n:Int)).toNat else min v.toNat n
theorem jq (n d k:Nat):aU n d (some (k:Int))=min k n:=by
 show (if (k:Int)<0 then ((k:Int)+(n:Int)).toNat else min (k:Int).toNat n)=min k n;rw[if_neg (by omega),c5]
theorem mz (n d:Nat)(hd:d<=n)(o:Option Int):aU n d o<=n:=by
 cases o with
 |none=>exact hd
 |some v =>
  show (if v<0 then (v+(n:Int)).toNat else min v.toNat n)<=n;by_cases hv:v<0
  ·rw[if_pos hv];omega
  ·rw[if_neg hv];exact Nat.min_le_right _ _
theorem qO (v:Int)(n d:Nat):(if v<0 then max (v+(n:Int)) 0 else min v (n:Int))=((aU n d (some v):Nat):Int):=by
 show (if v<0 then max (v+(n:Int)) 0 else min v (n:Int))=(((if v<0 then (v+(n:Int)).toNat else min v.toNat n):Nat):Int);by_cases hv:v<0
 ·simp only[if_pos hv];omega
 ·simp only[if_neg hv];omega
theorem qd (lo hi:Option Int)(n:Nat):Builtin.Slice.sliceAdjust lo hi 1 (n:Int)=(((aU n 0 lo:Nat):Int),((aU n n hi:Nat):Int)):=by
 have h1:¬ ((1:Int)<0):=by omega
 unfold Builtin.Slice.sliceAdjust;simp only[h1,if_false];refine Prod.ext ?_ ?_
 ·cases lo with
  |none=>rfl
  |some v=>exact qO v n 0
 ·cases hi with
  |none=>rfl
  |some v=>exact qO v n n
theorem pH (i j:Nat):Builtin.Slice.slicePlaces (i:Int) (j:Int) 1=j - i:=by
 unfold Builtin.Slice.slicePlaces;have h1:(1:Int) > 0:=by omega
 simp only[h1,if_true,Int.ediv_one];split<;>omega
theorem jK {v:Value}{o:Option Int}{Q:Option Int->Shared->Prop}(p:IsPart v o)(h:Q o s):wpAny (model prog w) A (Builtin.Slice.slicePartIndex v) Q E s:=by
 cases p with
 |none=>exact slicePart_none h
 |int i t=>exact slicePart_int h
theorem iS {sl:Addr}{vl vu:Value}{lo hi:Option Int}{n:Nat}{Q:Int×Int×Nat->Shared->Prop}(hs:s.heap.IsSliceOf sl vl vu .none)(pl:IsPart vl lo)(pu:IsPart vu hi)
  (h:Q (((aU n 0 lo:Nat):Int),1,aU n n hi - aU n 0 lo) s):wpAny (model prog w) A (Builtin.Slice.sliceApplied (.ref sl) (pure (n:Int))) Q E s:=by
 obtain⟨os,hos,hcs,hds⟩:=id hs;unfold Builtin.Slice.sliceApplied Builtin.Slice.sliceFields;refine wpAny_bind (wpAny_bind (wpAny_field hos hds (x:=vl) rfl (wpAny_bind (wpAny_field hos hds (x:=vu) rfl (wpAny_bind (wpAny_field hos hds (x:=.none) rfl (wpAny_pure ?_)))))));refine wpAny_bind (slicePart_none ?_);show wpAny _ _ (if ((1:Int)==0)=true then _ else _) _ _ s;rw[if_neg (by decide)];refine wpAny_bind (jK pl (wpAny_bind (jK pu (wpAny_bind (wpAny_pure ?_)))));show wpAny _ _ (match Builtin.Slice.sliceAdjust lo hi 1 (n:Int) with | (lo,hi)=>pure (lo,(1:Int),Builtin.Slice.slicePlaces lo hi 1)) _ _ s;rw[qd lo hi n];show wpAny _ _ (pure (((aU n 0 lo:Nat):Int),(1:Int),Builtin.Slice.slicePlaces ((aU n 0 lo:Nat):Int) ((aU n n hi:Nat):Int) 1)) _ _ s;rw[pH];exact wpAny_pure h
theorem vH (xs:Array Value)(i k:Nat):((List.range k).filterMap fun (m:Nat)=>xs[((i:Int)+(m:Int)*1).toNat]?).toArray=((xs.toList.drop i).take k).toArray:=by
 have e:(fun (m:Nat)=>xs[((i:Int)+(m:Int)*1).toNat]?)=fun m=>xs[i+m]?:=by
  funext m;have:((i:Int)+(m:Int)*1).toNat=i+m:=by omega
  rw[this]
 rw[e];have:=pick_run xs i k;rw[List.filterMap_map] at this;have e2:((fun x=>xs[x]?)∘fun x=>i+x)=fun m=>xs[i+m]?:=rfl
 rw[e2] at this;rw[this]
theorem iz {t sl:Addr}{items:Array Value}{vl vu:Value}{lo hi:Option Int}{Q:Value->Shared->Prop}(ht:IsTup s.heap t items)(hs:s.heap.IsSliceOf sl vl vu .none)(pl:IsPart vl lo)(pu:IsPart vu hi)
  (hw:¬ (aU items.size 0 lo=0/\aU items.size items.size hi=items.size))
  (h:Q (.ref s.heap.objs.size) { s with heap:=s.heap.push { cls:=.type "tuple",data:=.seq ((items.toList.drop (aU items.size 0 lo)).take (aU items.size items.size hi - aU items.size 0 lo)).toArray } })
  (hsz:items.size<=sizeLine):wpAny (model prog w) A (getItem (.ref t) (.ref sl)) Q E s:=by
 have htake:sizeOk (.seq ((items.toList.drop (aU items.size 0 lo)).take (aU items.size items.size hi - aU items.size 0 lo)).toArray):=by
  show ((items.toList.drop (aU items.size 0 lo)).take (aU items.size items.size hi - aU items.size 0 lo)).toArray.size<=sizeLine;rw[ah,bt,cn,cv];omega
 have hj:aU items.size items.size hi<=items.size:=mz _ _ (av _) hi;obtain⟨os,hos,hcs,hds⟩:=id hs;have hTs:s.TypeIs (.ref sl) "slice":=⟨os,hos,hcs⟩;unfold getItem
 try with_reducible refine wpAny_holding ?_
 first | refine wpAny_bind (wpAny_pure ?_) | skip
 refine wpAny_bind (wpAny_sequenceKey ht.typeIs (by decide) ?_);refine wpAny_bind (wpAny_callSpecial?_slot (name:=Str.ofString "__getitem__") ht.typeIs PyProof.Rows.slot_tuple_getitem
  (wpAny_call_entry PyProof.Rows.slot_tuple_getitem ht.typeIs entry_tuple_getitem ?_ (args_tuple_getitem _ _)))
 show wpAny _ _ (Builtin.Tuple.tupleItemsOf (.ref t) >>= _) _ _ s;refine wpAny_bind (tupleItemsOf_ ht ?_);refine wpAny_bind (wpAny_typeOf hTs ?_);rw[if_pos (by decide)];refine wpAny_bind (iS hs pl pu ?_);have hno:¬ ((((aU items.size 0 lo:Nat):Int)==0&&(1:Int)==1&&(aU items.size items.size hi - aU items.size 0 lo)==items.size)=true):=by
  intro q;rw[aj,aj] at q;have q1:((aU items.size 0 lo:Nat):Int)=0:=eq_of_beq q.1.1;have q2:aU items.size items.size hi - aU items.size 0 lo=items.size:=eq_of_beq q.2;exact hw ⟨by omega,by omega⟩
 show wpAny _ _ (if (((aU items.size 0 lo:Nat):Int)==0&&(1:Int)==1&&(aU items.size items.size hi - aU items.size 0 lo)==items.size)=true then _ else _) _ _ s;rw[if_neg hno,vH]
 first
  | exact wpAny_bind (m:=Builtin.Tuple.tupleExact _) (wpAny_newObj_type (wpAny_pure ⟨_,rfl,wpAny_pure h⟩) htake)
  | exact wpAny_bind (m:=Builtin.Tuple.tupleExact _) (wpAny_newObj_type (wpAny_bind (wpAny_pure (wpAny_pure ⟨_,rfl,wpAny_pure h⟩))) htake)
  | exact wpAny_bind (wpAny_bind (m:=Builtin.Tuple.tupleExact _) (wpAny_newObj_type (wpAny_pure (wpAny_pure ⟨_,rfl,wpAny_pure h⟩)) htake))
  | exact wpAny_bind (wpAny_bind (m:=Builtin.Tuple.tupleExact _) (wpAny_newObj_type (wpAny_pure ⟨_,rfl,wpAny_pure h⟩) htake))
end
end HT
namespace L2
open PySem PySem.Spec PyProof.Rows
noncomputable abbrev TO:=St->Hp->(Option Int->Hp->Prop)->Prop
noncomputable def PO (X:Cx)(e:Option Expr)(t:TO):Prop :=
 ∀(pins:List (Addr×Obj)) (s:Shared) (σ:St) (H:Hp) (Q:Option Int->Hp->Prop),Inv X pins σ H s->t σ H Q ->
  wpAny (model X.prog X.w) X.A (evalPart e X.env) (fun u s'=>∃ o H',Inv X pins σ H' s'/\IsPart u o/\Q o H') X.xe s
noncomputable def wI:TO:=fun _ H Q=>Q none H
noncomputable def B5 (t:TE):TO:=fun σ H Q=>t σ H fun x H1=>∃ i,x = .int i/\Q (some i) H1
section
variable {X:Cx}{e:Expr}{te:TE}{lo hi:Option Expr}{tl th:TO}{pos p2:Pos}
theorem yi:PO X none wI:=by
 intro pins s σ H Q I h;rw[evalPart_none];exact wpAny_pure ⟨none,H,I,.none,h⟩
theorem m7 (h:PE X e te):PO X (some e) (B5 te):=by
 intro pins s σ H Q I hw;rw[evalPart_some];refine bW (h pins s σ H _ I hw) fun u s1 ⟨x,H1,I1,r1,q1⟩=>?_
 obtain⟨i,rfl,q⟩:=q1;obtain⟨t,rfl⟩:=r1;exact⟨some i,H1,I1,.int i t,q⟩
noncomputable def ze (X:Cx)(r:V->Option Int->Option Int->Hp->VK->Prop):Prop :=
 ∀(pins:List (Addr×Obj)) (s:Shared) (σ:St) (H:Hp) (x:V) (v vl vu:Value) (lo hi:Option Int) (sl:Addr) (Q:VK),Inv X pins σ H s->RelV x v->s.heap.IsSliceOf sl vl vu .none->IsPart vl lo->IsPart vu hi->r x lo hi H Q ->
  ∃ T id,typeLookup (.type T) "__getitem__" = pure (some (.builtin id))/\s.TypeIs v T/\wpAny (model X.prog X.w) X.A (getItem v (.ref sl)) (EP X pins σ Q) X.xe s
theorem ze.or {r r':V->Option Int->Option Int->Hp->VK->Prop}(h:ze X r)(h':ze X r'):ze X (fun x lo hi H Q=>r x lo hi H Q\/r' x lo hi H Q):=by
 intro pins s σ H x v vl vu lo hi sl Q I rx hs pl pu q;rcases q with q | q
 ·exact h pins s σ H x v vl vu lo hi sl Q I rx hs pl pu q
 ·exact h' pins s σ H x v vl vu lo hi sl Q I rx hs pl pu q
def tSl (r:V->Option Int->Option Int->Hp->VK->Prop)(te:TE)(tl th:TO):TE:=fun σ H Q=>te σ H fun x H1=>tl σ H1 fun l H2=>th σ H2 fun u H3=>r x l u H3 Q
theorem nD {r:V->Option Int->Option Int->Hp->VK->Prop}(hr:ze X r)(he:PE X e te)(hl:PO X lo tl)(hu:PO X hi th):PE X (.Subscript e (.Slice lo hi none p2) pos) (tSl r te tl th):=by
 intro pins s σ H Q I h;refine Subscript_ (bW (he pins s σ H _ I h) fun v s1 ⟨x,H1,I1,r1,q1⟩=>?_);refine wpAny_Slice (bW (hl pins s1 σ H1 _ I1 q1) fun vl s2 ⟨l,H2,I2,pl,q2⟩=>bW (hu pins s2 σ H2 _ I2 q2) fun vu s3 ⟨u,H3,I3,pu,q3⟩=>?_);rw[evalPart_none];refine wpAny_pure ?_;have I4:Inv X pins σ H3 { s3 with heap:=s3.heap.push { cls:=.type "slice",data:=.fields #[vl,vu,.none] } }:=I3.kept (t':=s3.toks) fun b ob q=>Heap.get?_push_of_some _ q
 obtain⟨T,id,hT,ht,hg⟩:=hr pins { s3 with heap:=s3.heap.push { cls:=.type "slice",data:=.fields #[vl,vu,.none] } } σ H3 x v vl vu l u s3.heap.objs.size Q I4 r1 (Heap.IsSliceOf.new ..) pl pu q3;show wpAny (model X.prog X.w) X.A (subscriptTail e (.Slice lo hi none p2) v (.ref s3.heap.objs.size)) (EP X pins σ Q) X.xe { s3 with heap:=s3.heap.push { cls:=.type "slice",data:=.fields #[vl,vu,.none] } };exact tail_any (ops:=[.ref s3.heap.objs.size,v]) ht hT hg (by with_unfolding_all rfl)
noncomputable def jj (xs:List V)(lo hi:Option Int):List V:=(xs.drop (HT.aU xs.length 0 lo)).take (HT.aU xs.length xs.length hi - HT.aU xs.length 0 lo)
theorem jd (xs:List V)(lo hi:Option Int):(jj xs lo hi).length<=xs.length:=by
 unfold jj;rw[bt,cn];omega
def rSlT (K:PySem.W.Frag):V->Option Int->Option Int->Hp->VK->Prop:=fun x lo hi H Q=>∃ a xs,x = .ref a/\hZ K H a xs /\
 ¬ (HT.aU xs.length 0 lo=0/\HT.aU xs.length xs.length hi=xs.length)/\∀ p,H p=none->Q (.ref p) (upd H p (.tup (jj xs lo hi)))
theorem zt:ze X (rSlT X.K):=by
 intro pins s σ H x v vl vu lo hi sl Q I rx hs pl pu h;obtain⟨a,xs,rfl,hx,hw,q⟩:=h;cases rx;obtain⟨its,r,ht,hz⟩:=I.tuple hx;have hlen:its.toArray.size=xs.length:=by rw[ah];exact r.length.symm
 refine⟨"tuple",_,PyProof.Rows.slot_tuple_getitem.lookup,ht.typeIs,?_⟩;refine HT.iz ht hs pl pu (by rw[hlen];exact hw) ?_ (by rw[hlen];exact hz);rw[hlen];refine⟨.ref s.heap.objs.size,_,I.laid (t':=s.toks) (o:=.tup (jj xs lo hi)) (fun b ob q=>Heap.get?_push_of_some _ q) (av _) ?_,rfl,q _ (I.hok.fresh (av _))⟩;exact⟨be (jd xs lo hi) hz,_,(r.drop (HT.aU xs.length 0 lo)).take (HT.aU xs.length xs.length hi - HT.aU xs.length 0 lo),IsTup.new _ _⟩
noncomputable def De (K:PySem.W.Frag):R2:=fun x y H Q=>∃ a b xs ys,x = .ref a/\y = .ref b/\hZ K H a xs/\hZ K H b ys/\xs≠[]/\xs.length+ys.length<=sizeLine /\
 (ys=[]->Q (.ref a) H)/\(ys≠[]->∀ p,H p=none->Q (.ref p) (upd H p (.tup (xs++ys))))
theorem aN.nil_iff {xs:List V}{us:List Value}(r:aN xs us):us=[]↔xs=[]:=by
 cases r with
 |nil=>simp
 |cons _ _=>simp
theorem wm:fQ X (binaryOp .Add) (De X.K):=by
 intro pins s σ H x y v u Q I rx ry h;obtain⟨a,b,xs,ys,rfl,rfl,ha,hb,hx,hz,q1,q2⟩:=h;cases rx;cases ry;obtain⟨its,r1,p1,_⟩:=I.tuple ha;obtain⟨its2,r2,p2,_⟩:=I.tuple hb;refine HT.wH p1 p2 (fun z=>hx (r1.nil_iff.mp z)) (fun z=>⟨.ref a,H,I,rfl,q1 (r2.nil_iff.mp z)⟩) (fun z=>?_) (by rw[<-r1.length,<-r2.length];exact hz);refine⟨.ref s.heap.objs.size,_,I.laid (t':=s.toks) (o:=.tup (xs++ys)) (fun b ob q=>Heap.get?_push_of_some _ q) (av _) ?_,rfl,q2 (fun w=>z (r2.nil_iff.mpr w)) _ (I.hok.fresh (av _))⟩;exact⟨by rw[ag];exact hz,_,r1.append r2,IsTup.new _ _⟩
end
end L2
namespace L2
open PySem PySem.Spec PyProof.Rows
noncomputable def iF (n:Nat)(i:Int):Option Nat:=if 0<=i then (if i<n then some i.toNat else none) else if -(n:Int)<=i then some (i+n).toNat else none
noncomputable def Bx {α:Type}(xs:List α)(i:Int):Option α:=(iF xs.length i).bind fun j=>xs[j]?
theorem xG {n:Nat}{i:Int}{j:Nat}(h:iF n i=some j):seqIndex? i n=some j/\j<n/\-(n:Int)<=i/\i<n:=by
 unfold iF at h;by_cases h0:0<=i
 ·rw[if_pos h0] at h;by_cases h1:i<n
  ·rw[if_pos h1] at h;have e:i.toNat=j:=cj h;exact⟨by rw[seqIndex_of h0 h1,e],by omega,by omega,h1⟩
  ·rw[if_neg h1] at h;cases h
 ·rw[if_neg h0] at h;by_cases h1 : -(n:Int)<=i
  ·rw[if_pos h1] at h;have e:(i+n).toNat=j:=cj h;exact⟨by rw[seqIndex_neg (by omega) h1,e],by omega,h1,by omega⟩
  ·rw[if_neg h1] at h;cases h
theorem m6 {α:Type}{xs:List α}{i:Int}{v:α}(h:Bx xs i=some v):∃ j,seqIndex? i xs.length=some j/\xs[j]? = some v/\j<xs.length/\-(xs.length:Int)<=i/\i<xs.length:=by
 unfold Bx at h;cases e:iF xs.length i with
 |none=>rw[e] at h;cases h
 |some j =>
  rw[e] at h;obtain⟨h1,h2,h3,h4⟩:=xG e;exact⟨j,h1,h,h2,h3,h4⟩
def mQ (b:Expr):Prop:=∀ o i,subscripted b false o i=operate [o,i] (getItem o i)
noncomputable def BP (X:Cx)(r:R2):Prop :=
 ∀(value slice:Expr) (pins:List (Addr×Obj)) (s:Shared) (σ:St) (H:Hp) (x y:V) (v u:Value) (Q:VK),Inv X pins σ H s->RelV x v->RelV y u->r x y H Q ->
  subscripted slice false v u=operate [v,u] (getItem v u)->wpAny (model X.prog X.w) X.A (subscriptTail value slice v u) (EP X pins σ Q) X.xe s
noncomputable def vZ (X:Cx)(id:String)(r:V->List V->Hp->VK->Prop):Prop :=
 ∀(pins:List (Addr×Obj)) (s:Shared) (σ:St) (H:Hp) (x:V) (xs:List V) (v:Value) (us:List Value) (Q:VK),Inv X pins σ H s->RelV x v->aN xs us->r x xs H Q ->
  wpAny (model X.prog X.w) X.A (call (.builtin id) (v::us)) (EP X pins σ Q) X.xe s
section
variable {X:Cx}{a b:Expr}{ta tb:TE}{pos:Pos}
theorem DM {r:R2}(hr:BP X r)(ha:PE X a ta)(hb:PE X b tb)(hs:mQ b):PE X (.Subscript a b pos) (CC r ta tb):=by
 intro pins s σ H Q I h;exact Subscript_ (Ae ha hb I h fun v u s2 x y H2 I2 rx ry q=>hr a b pins s2 σ H2 x y v u Q I2 rx ry q (hs _ _))
noncomputable def rIxL (K:PySem.W.Frag):R2:=fun x y H Q=>∃ p xs i v,x = .ref p/\y = .int i/\mE K H p xs/\Bx xs i=some v/\Q v H
noncomputable def rIxT (K:PySem.W.Frag):R2:=fun x y H Q=>∃ p xs i v,x = .ref p/\y = .int i/\hZ K H p xs/\Bx xs i=some v/\Q v H
noncomputable def rIxS:R2:=fun x y H Q=>∃ z i c,x = .str z/\y = .int i/\z.length<=sizeLine/\Bx z.cps.toList i=some c/\Q (.str ⟨#[c]⟩) H
theorem wa:BP X (rIxL X.K):=by
 intro value slice pins s σ H x y v u Q I rx ry h hs;obtain⟨p,xs,i,z,rfl,rfl,hq,he,q⟩:=h;cases rx;obtain⟨t,rfl⟩:=ry;obtain⟨its,r,pl,hz⟩:=I.list hq;obtain⟨j,h1,h2,h3,h4,h5⟩:=m6 he;obtain⟨w,ew,rw'⟩:=r.get h2;have hl:=r.length;have hn:=iT;have fin:EP X pins σ Q w s:=⟨z,H,I,rw',q⟩;by_cases h0:0<=i
 ·have hj:i.toNat=j:=by
   rw[seqIndex_of h0 h5] at h1;exact cj h1
  exact item_listR pl.isList h0 (by omega) (by rw[hj];simpa using ew) fin hs
 ·have hj:(i+(its.toArray.size:Int)).toNat=j:=by
   rw[seqIndex_neg (by omega) h4] at h1;rw[ah,<-hl];exact cj h1
  exact subscriptTail_builtinR (x:=w) pl.isList.typeIs slot_list_getitem.lookup
   (wpAny_getItem_list_neg (Q:=fun r s'=>r=w/\EP X pins σ Q r s') pl.isList (by omega) (by rw[List.size_toArray]<;>omega) (by omega) (by rw[hj];simpa using ew) ⟨rfl,fin⟩) hs
theorem BE:BP X (rIxT X.K):=by
 intro value slice pins s σ H x y v u Q I rx ry h hs;obtain⟨p,xs,i,z,rfl,rfl,hq,he,q⟩:=h;cases rx;obtain⟨t,rfl⟩:=ry;obtain⟨its,r,pl,hz⟩:=I.tuple hq;obtain⟨j,h1,h2,h3,h4,h5⟩:=m6 he;obtain⟨w,ew,rw'⟩:=r.get h2;have hl:=r.length;have hn:=iT;have fin:EP X pins σ Q w s:=⟨z,H,I,rw',q⟩;exact subscriptTail_builtinR (x:=w) pl.typeIs slot_tuple_getitem.lookup
  (getItem_tuple (j:=j) (Q:=fun r s'=>r=w/\EP X pins σ Q r s') pl (by omega) (by omega) (by rw[List.size_toArray,<-hl];exact h1) (by simpa using ew) ⟨rfl,fin⟩) hs
theorem Bp:BP X rIxS:=by
 intro value slice pins s σ H x y v u Q I rx ry h hs;obtain⟨z,i,c,rfl,rfl,hz,he,q⟩:=h;obtain⟨t,rfl⟩:=rx;obtain⟨t',rfl⟩:=ry;obtain⟨j,h1,h2,h3,h4,h5⟩:=m6 he;have hl:z.cps.toList.length=z.length:=by simp[Str.length]
 rw[hl] at h1 h4 h5;have hn:=iT;exact tail_any (typeIs_str s z t) slot_str_getitem.lookup (getItem_str (c:=c) (by
  have e1:decide (i < -(2 ^ 63:Int))=false:=az (by omega);have e2:decide (i ≥ 2 ^ 63)=false:=az (by omega);rw[e1,e2,Bool.or_false]) (by rw[h1];simpa using h2) ⟨.str ⟨#[c]⟩,H,I.tok _,⟨_,rfl⟩,q⟩) hs
theorem mV (lo hi:Option Int)(n:Nat):(sliceBounds lo hi none n).1=((HT.aU n 0 lo:Nat):Int)/\(sliceBounds lo hi none n).2.1=((HT.aU n n hi:Nat):Int)/\(sliceBounds lo hi none n).2.2=1:=by
 refine⟨?_,?_,rfl⟩
 ·cases lo with
  |none=>simp[sliceBounds,HT.aU]
  |some i =>
   simp only[sliceBounds,HT.aU,Option.getD_none,show (1:Int) > 0 by decide,if_true];by_cases h:i<0
   ·simp only[h,if_true]<;>omega
   ·simp only[h,if_false]<;>omega
 ·cases hi with
  |none=>simp[sliceBounds,HT.aU]
  |some i =>
   simp only[sliceBounds,HT.aU,Option.getD_none,show (1:Int) > 0 by decide,if_true];by_cases h:i<0
   ·simp only[h,if_true]<;>omega
   ·simp only[h,if_false]<;>omega
theorem kN (its:List Value)(lo hi:Option Int):slicePick its.toArray lo hi none=((its.drop (HT.aU its.length 0 lo)).take (HT.aU its.length its.length hi - HT.aU its.length 0 lo)).toArray:=by
 obtain⟨h1,h2,h3⟩:=mV lo hi its.toArray.size;unfold slicePick;rw[h1,h2,h3];simp only[sliceRange_one,pick_run,List.size_toArray]<;>rfl
def rSlL (K:PySem.W.Frag):V->Option Int->Option Int->Hp->VK->Prop:=fun x lo hi H Q=>∃ a xs,x = .ref a/\mE K H a xs/\∀ p,H p=none->Q (.ref p) (upd H p (.lst (jj xs lo hi)))
theorem qw:ze X (rSlL X.K):=by
 intro pins s σ H x v vl vu lo hi sl Q I rx hs pl pu h;obtain⟨a,xs,rfl,hx,q⟩:=h;cases rx;obtain⟨its,r,ht,hz⟩:=I.list hx;have hlen:=r.length;refine⟨"list",_,slot_list_getitem.lookup,ht.isList.typeIs,?_⟩;refine wpAny_getItem_list_slice ht.isList hs pl pu .none (by simp) ?_ (by rw[List.size_toArray]<;>omega);rw[kN,<-hlen];refine⟨.ref s.heap.objs.size,_,I.laid (t':=s.toks) (o:=.lst (jj xs lo hi)) (fun b ob q=>Heap.get?_push_of_some _ q) (av _) ?_,rfl,q _ (I.hok.fresh (av _))⟩;exact⟨be (jd xs lo hi) hz,_,0,(r.drop (HT.aU xs.length 0 lo)).take (HT.aU xs.length xs.length hi - HT.aU xs.length 0 lo),Heap.get?_push_size _ rfl⟩
noncomputable def fW:V->Bool
 |.non=>true
 |.bl _=>true
 |.int _=>true
 |.str _=>true
 |_=>false
noncomputable def v7:V->V->Bool
 |.non,.non=>true
 |.bl a,.bl b=>a==b
 |.bl a,.int b=>(if a then 1 else 0)==b
 |.int a,.bl b=>a==(if b then 1 else 0)
 |.int a,.int b=>a==b
 |.str a,.str b=>a==b
 |_,_=>false
theorem A8 {A:Around}{s:Shared}{y x:V}{u v:Value}(ry:RelV y u)(rx:RelV x v)(fy:fW y=true)(fx:fW x=true):SeqAt.EqAt A s u v (v7 y x):=by
 cases y with
 |non =>
  cases ry;cases x with
  |non=>cases rx;exact SeqAt.EqAt.same _
  |bl b=>cases rx;exact SeqAt.EqAt.none_bool b
  |int b=>obtain⟨t,rfl⟩:=rx;exact SeqAt.EqAt.none_int b t
  |str b=>obtain⟨t,rfl⟩:=rx;exact SeqAt.EqAt.none_str b t
  |_=>exact absurd (show false=true from fx) ao
 |bl a =>
  cases ry;cases x with
  |non=>cases rx;exact SeqAt.EqAt.bool_none a
  |bl b=>cases rx;exact SeqAt.EqAt.bool_bool a b
  |int b=>obtain⟨t,rfl⟩:=rx;exact SeqAt.EqAt.bool_int a b t
  |str b=>obtain⟨t,rfl⟩:=rx;exact SeqAt.EqAt.bool_str a b t
  |_=>exact absurd (show false=true from fx) ao
 |int a =>
  obtain⟨t',rfl⟩:=ry;cases x with
  |non=>cases rx;exact SeqAt.EqAt.int_none a t'
  |bl b=>cases rx;exact SeqAt.EqAt.int_bool a t' b
  |int b=>obtain⟨t,rfl⟩:=rx;exact SeqAt.EqAt.int_int a t' b t
  |str b=>obtain⟨t,rfl⟩:=rx;exact SeqAt.EqAt.int_str a t' b t
  |_=>exact absurd (show false=true from fx) ao
 |str a =>
  obtain⟨t',rfl⟩:=ry;cases x with
  |non=>cases rx;exact SeqAt.EqAt.str_none a t'
  |bl b=>cases rx;exact SeqAt.EqAt.str_bool a t' b
  |int b=>obtain⟨t,rfl⟩:=rx;exact SeqAt.EqAt.str_int a t' b t
  |str b=>obtain⟨t,rfl⟩:=rx;exact SeqAt.EqAt.str_str a t' b t
  |_=>exact absurd (show false=true from fx) ao
 |_=>exact absurd (show false=true from fy) ao
noncomputable def pf (x:V)(u:Value):Bool:=match u with
 |.none=>v7 .non x
 |.bool b=>v7 (.bl b) x
 |.int i _=>v7 (.int i) x
 |.str z _=>v7 (.str z) x
 |_=>false
theorem uh {x y:V}{u:Value}(r:RelV y u)(f:fW y=true):pf x u=v7 y x:=by
 cases y with
 |non=>cases r;rfl
 |bl b=>cases r;rfl
 |int i=>obtain⟨t,rfl⟩:=r;rfl
 |str z=>obtain⟨t,rfl⟩:=r;rfl
 |_=>exact absurd (show false=true from f) ao
theorem iy {x:V}:∀{xs:List V}{us:List Value},aN xs us->xs.all fW=true->us.any (pf x)=xs.any fun y=>v7 y x
 |_,_,.nil,_=>rfl
 | y::xs,u::us,.cons r t,f=>by
  rw[df,aj] at f;rw[dq,dq,uh r f.1,iy t f.2]
theorem fU {A:Around}{s:Shared}{x:V}{v:Value}(rx:RelV x v)(fx:fW x=true):∀{xs:List V}{us:List Value},aN xs us->xs.all fW=true->∀ u∈us,SeqAt.EqAt A s u v (pf x u)
 |_,_,.nil,_=>fun u hu=>by cases hu
 | y::xs,u::us,.cons r t,f=>fun u' hu=>by
  rw[df,aj] at f;rcases gd.mp hu with rfl | hu
  ·rw[uh r f.1];exact A8 r rx f.1 fx
  ·exact fU rx fx t f.2 u' hu
noncomputable def inV (x:V)(xs:List V):Bool:=xs.any fun y=>v7 y x
noncomputable def rIn (K:PySem.W.Frag)(neg:Bool):R2:=fun x y H Q=>∃ p xs,y = .ref p/\(mE K H p xs\/hZ K H p xs)/\fW x=true/\xs.all fW=true/\Q (.bl (if neg then !inV x xs else inV x xs)) H
theorem lr:fQ X (compareOp .In) (rIn X.K false):=by
 intro pins s σ H x y v u Q I rx ry h;obtain⟨p,xs,rfl,hq,fx,fs,q⟩:=h;cases ry;rcases hq with hq | hq
 ·obtain⟨its,r,pl,hz⟩:=I.list hq;refine SeqAt.in_listAt (pf x) pl.isList (fun w hw=>fU rx fx r fs w (by simpa using hw)) ⟨.bl _,H,I,rfl,?_⟩;rw[show its.toArray.any (pf x)=its.any (pf x) by simp,iy r fs];exact q
 ·obtain⟨its,r,pl,hz⟩:=I.tuple hq;refine SeqAt.in_tupleAt (pf x) pl (fun w hw=>fU rx fx r fs w (by simpa using hw)) ⟨.bl _,H,I,rfl,?_⟩;rw[show its.toArray.any (pf x)=its.any (pf x) by simp,iy r fs];exact q
theorem iw:fQ X (compareOp .NotIn) (rIn X.K true):=by
 intro pins s σ H x y v u Q I rx ry h;obtain⟨p,xs,rfl,hq,fx,fs,q⟩:=h;cases ry;rcases hq with hq | hq
 ·obtain⟨its,r,pl,hz⟩:=I.list hq;refine SeqAt.notIn_listAt (pf x) pl.isList (fun w hw=>fU rx fx r fs w (by simpa using hw)) ⟨.bl _,H,I,rfl,?_⟩;rw[show its.toArray.any (pf x)=its.any (pf x) by simp,iy r fs];exact q
 ·obtain⟨its,r,pl,hz⟩:=I.tuple hq;refine SeqAt.notIn_tupleAt (pf x) pl (fun w hw=>fU rx fx r fs w (by simpa using hw)) ⟨.bl _,H,I,rfl,?_⟩;rw[show its.toArray.any (pf x)=its.any (pf x) by simp,iy r fs];exact q
theorem mW:fQ X (compareOp .NotIn) (fun x y H Q=>∃ i j,x = .str i/\y = .str j/\Q (.bl (!(!(Builtin.Str.occurrences j i 0 j.length 1).isEmpty))) H):=by
 intro pins s σ H x y v u Q I rx ry h;obtain⟨i,j,rfl,rfl,q⟩:=h;obtain⟨t,rfl⟩:=rx;obtain⟨t',rfl⟩:=ry;exact notIn_str ⟨.bl _,H,I,rfl,q⟩
theorem eX:dP X (.builtin "len") (fun xs H Q=>∃ p ys,xs=[.ref p]/\(mE X.K H p ys\/hZ X.K H p ys)/\Q (.int ys.length) H):=by
 intro pins s σ H xs us Q I r h;obtain⟨p,ys,rfl,hq,q⟩:=h;obtain⟨u,rfl,rx⟩:=vals1 r;cases rx;have hn:=iT;rcases hq with hq | hq
 ·obtain⟨its,r',pl,hz⟩:=I.list hq;have hlen:=r'.length;exact Calls.call_len_list pl.isList (by simp only[List.size_toArray]<;>omega) ⟨.int ys.length,H,I.tok _,⟨s.toks+1,by rw[List.size_toArray,hlen]⟩,q⟩
 ·obtain⟨its,r',pl,hz⟩:=I.tuple hq;have hlen:=r'.length;exact len_tuple pl (by simp only[List.size_toArray]<;>omega) ⟨.int ys.length,H,I.tok _,⟨s.toks+1,by rw[List.size_toArray,hlen]⟩,q⟩
theorem mn:dP X (.builtin "len") (fun xs H Q=>∃ z,xs=[.str z]/\z.length<=sizeLine/\Q (.int z.length) H):=by
 intro pins s σ H xs us Q I r h;obtain⟨z,rfl,hz,q⟩:=h;obtain⟨u,rfl,t,rfl⟩:=vals1 r;have hn:=iT;exact len_str (by omega) ⟨.int z.length,H,I.tok _,⟨_,rfl⟩,q⟩
theorem ik:dP X (.type "list") (fun xs H Q=>∃ p ys,xs=[.ref p]/\(mE X.K H p ys\/hZ X.K H p ys)/\∀ l,H l=none->Q (.ref l) (upd H l (.lst ys))):=by
 intro pins s σ H xs us Q I r h;obtain⟨p,ys,rfl,hq,q⟩:=h;obtain⟨u,rfl,rx⟩:=vals1 r;cases rx;have fin:∀(its:List Value),aN ys its->ys.length<=sizeLine->∀(h':Heap) (c':Nat),(∀ b o',s.heap.get? b=some o'->h'.get? b=some o') ->
   h'.get? s.heap.objs.size=some { cls:=.type "list",dict:=none,data:=.seq its.toArray c',slots:=#[] }->EP X pins σ Q (.ref s.heap.objs.size) { s with heap:=h' }:=fun its r' hz h' c' kp e =>
  ⟨.ref s.heap.objs.size,_,I.laid (t':=s.toks) kp (av _) (show bQ X.prog X.w _ h' _ (.lst ys) from ⟨hz,its,c',r',e⟩),rfl,q _ (I.hok.fresh (av _))⟩
 rcases hq with hq | hq
 ·obtain⟨its,r',pl,hz⟩:=I.list hq;have hlen:=r'.length;obtain⟨o,ho,hc,n,hd⟩:=pl.isList;exact call_list_seq p (.inl rfl) ho hc hd (fun h' c' kp e=>fin its r' hz h' c' kp e) (by simp only[List.size_toArray]<;>omega)
 ·obtain⟨its,r',pl,hz⟩:=I.tuple hq;have hlen:=r'.length;obtain⟨o,ho,hc,n,hd⟩:=pl;exact call_list_seq p (.inr rfl) ho hc hd (fun h' c' kp e=>fin its r' hz h' c' kp e) (by simp only[List.size_toArray]<;>omega)
def tyV (K:PySem.W.Frag)(T:String)(x:V)(H:Hp):Prop:=match x with
 |.str _=>T = "str"
 |.int _=>T = "int"
 | .ref p=>(T = "list"/\∃ xs,mE K H p xs)\/(T = "tuple"/\∃ o,K.lookup p=some o/\o.cls = .type "tuple"/\o.dict=none) \/
   (T = "dict"/\((∃ kvs,H p=some (.dK kvs))\/∃ kvs,H p=some (.dT kvs)))\/(T = "set"/\∃ S n,H p=some (.set S n))
 |_=>False
theorem uC {pins:List (Addr×Obj)}{σ:St}{H:Hp}{s:Shared}{T:String}{x:V}{v:Value}(I:Inv X pins σ H s)(r:RelV x v)(ty:tyV X.K T x H) :
  s.TypeIs v T/\∀ a,v = .ref a->∃ ob,s.heap.get? a=some ob/\ob.dict=none:=by
 cases x with
 |str z =>
  obtain⟨t,rfl⟩:=r;cases (show T = "str" from ty);exact⟨typeIs_str s z t,fun _ e=>nomatch e⟩
 |int i =>
  obtain⟨t,rfl⟩:=r;cases (show T = "int" from ty);exact⟨typeIs_int s i t,fun _ e=>nomatch e⟩
 |ref p =>
  cases r;rcases ty with ⟨rfl,xs,hq⟩ | ⟨rfl,o,hk,hc,hd⟩ | ⟨rfl,hk⟩ | ⟨rfl,S,n,hk⟩
  ·obtain⟨its,_,pl,_⟩:=I.list hq;refine⟨pl.isList.typeIs,fun a e=>?_⟩;cases e;obtain⟨o,n,e,c,hd,_⟩:=pl;exact⟨o,e,hd⟩
  ·refine⟨⟨o,I.kIn p o hk,hc⟩,fun a e=>?_⟩;cases e;exact⟨o,I.kIn _ o hk,hd⟩
  ·have z:∃ o,s.heap.get? p=some o/\o.ExactDict:=by
    rcases hk with ⟨kvs,hk⟩ | ⟨kvs,hk⟩
    ·obtain⟨_,_,_,_,o,_,_,e,ex,_⟩:=I.hok p _ hk;exact⟨o,e,ex⟩
    ·obtain⟨_,_,_,_,o,_,_,e,ex,_⟩:=I.hok p _ hk;exact⟨o,e,ex⟩
   obtain⟨o,e,ex⟩:=z;refine⟨⟨o,e,ex.1⟩,fun a e2=>?_⟩;cases e2;exact⟨o,e,ex.2.1⟩
  ·obtain⟨o,_,_,_,e,ex,_⟩:=I.hok p _ hk;refine⟨⟨o,e,ex.1⟩,fun a e2=>?_⟩;cases e2;exact⟨o,e,ex.2.1⟩
 |_=>exact False.elim ty
def BW (K:PySem.W.Frag)(T:String)(r:V->List V->Hp->VK->Prop)(to:TE):TE:=fun σ H Q=>to σ H fun x H1=>tyV K T x H1/\r x [] H1 Q
def C8 (K:PySem.W.Frag)(T:String)(r:V->List V->Hp->VK->Prop)(to:TE)(t:TA):TE:=fun σ H Q=>to σ H fun x H1=>tyV K T x H1/\t σ H1 fun xs H2=>r x xs H2 Q
variable {o e:Expr}{es:List Expr}{to:TE}{t:TA}{name:Str}{apos cpos:Pos}{T id:String}{r:V->List V->Hp->VK->Prop}
theorem Am (pa:PlainAttrs T)(slot:Slot T name id)(hty:typeOf (.builtin id)=pure (.type "method_descriptor")) (hm:vZ X id r) (ho:PE X o to)
  (hbase:attributeBase o name X.env (eval o X.env)=eval o X.env:=by rfl) (hline:(apos.endLine==cpos.line)=true:=by rfl):PE X (.Call (.Attribute o name apos) [] [] cpos) (BW X.K T r to):=by
 intro pins s σ H Q I h;refine wpAny_Call_method0_late hbase hline (bW (ho pins s σ H _ I h) fun v s1 ⟨x,H1,I1,r1,ty,q1⟩=>?_);obtain⟨h1,h2⟩:=uC I1 r1 ty;exact⟨T,id,pa,slot,hty,h1,h2,Calls.callWith_builtin rfl (PySem.evalArgs_none (hm pins s1 σ H1 x [] v [] Q I1 r1 .nil q1))⟩
theorem kB (pa:PlainAttrs T)(slot:Slot T name id)(hty:typeOf (.builtin id)=pure (.type "method_descriptor")) (hm:vZ X id r) (ho:PE X o to) (ha:PA X (e::es) t)
  (hbase:attributeBase o name X.env (eval o X.env)=eval o X.env:=by rfl)
  (hfew:((backTo cpos (starEach (e::es) X.env)).all (fun x=>!x.1)&&(backToKw cpos (keywordEach [] X.env)).all (fun x=>x.1.isSome)
   && decide ((e::es).length+([]:List Keyword).length+(if ([]:List Keyword).isEmpty then 0 else 1)<30))=true:=by rfl)
  (hline:(apos.endLine==cpos.line)=true:=by rfl) (hs:starEach (e::es) X.env=(false,eval e X.env)::starEach es X.env:=by rfl) (hplain:(backTo cpos (starEach es X.env)).any (·.1)=false:=by rfl) :
  PE X (.Call (.Attribute o name apos) (e::es) [] cpos) (C8 X.K T r to t):=by
 intro pins s σ H Q I h;refine wpAny_Call_method_late hbase hfew hline rfl (bW (ho pins s σ H _ I h) fun v s1 ⟨x,H1,I1,r1,ty,q1⟩=>?_);obtain⟨h1,h2⟩:=uC I1 r1 ty;refine⟨T,id,pa,slot,hty,h1,h2,?_⟩;have hA:=ha cpos pins s1 σ H1 _ I1 q1;rw[hs] at hA ⊢;refine Calls.callWith_builtin (by show (false || (backTo cpos (starEach es X.env)).any (·.1))=false;rw[hplain]<;>rfl) (Calls.evalArgs_plain ?_);exact bW hA fun us s2 ⟨vs,H2,I2,r2,q2⟩=>hm pins s2 σ H2 x vs v us Q I2 r1 r2 q2
end
end L2
namespace L2
open PySem PySem.Spec PyProof.Rows
noncomputable def MtM (X:Cx)(id:String)(r:V->List V->Hp->VK->Prop):Prop :=
 ∀(pins:List (Addr×Obj)) (s:Shared) (σ:St) (H:Hp) (x:V) (xs:List V) (v:Value) (us:List Value) (Q:VK),Inv X pins σ H s->RelV x v->aN xs us->r x xs H Q ->
  wpAny (model X.prog X.w) X.A (call (.builtin id) (v::us)) (EP X pins σ Q) X.xe s
theorem aN.one:∀{x:V}{us:List Value},aN [x] us->∃ u,us=[u]/\RelV x u
 |_,_,.cons r .nil=>⟨_,rfl,r⟩
theorem aN.two:∀{x y:V}{us:List Value},aN [x,y] us->∃ u v,us=[u,v]/\RelV x u/\RelV y v
 | _,_,_,.cons r (.cons q .nil)=>⟨_,_,rfl,r,q⟩
theorem aN.rep {xs:List V}{us:List Value}(h:aN xs us):∀ k:Nat,aN (List.replicate k xs).flatten (List.replicate k us).flatten
 |0=>.nil
 | k+1=>by
  rw[c6,c6,cy,cy];exact aN.append h (aN.rep h k)
theorem foldl_rep (its:List Value):∀(k:Nat) (acc:List Value),
  List.foldl (fun x1 x2=>x1++x2) acc.toArray (List.replicate k its.toArray)=(acc++(List.replicate k its).flatten).toArray
 |0,acc=>by simp
 | k+1,acc=>by
  have e:acc.toArray++its.toArray=(acc++its).toArray:=by simp
  have e2:(acc++its)++(List.replicate k its).flatten=acc++(List.replicate (k+1) its).flatten:=by
   rw[c6,cy,ax]
  rw[<-e2,<-foldl_rep its k (acc++its),<-e,c6,gv]
section
variable {X:Cx}{pins:List (Addr×Obj)}{σ:St}{H:Hp}{s:Shared}{l b:Addr}{xs ys zs:List V}
theorem Inv.lset {its its':List Value}{n:Nat}{f:Array Value->Array Value}{t':Nat}(I:Inv X pins σ H s)(hH:H l=some (.lst xs))
  (e:s.heap.get? l=some { cls:=.type "list",data:=.seq its.toArray n }) (hf:f its.toArray=its'.toArray) (hv:aN ys its') (hz:ys.length<=sizeLine) :
  Inv X pins σ (upd H l (.lst ys)) { s with heap:=s.heap.update l (Obj.mapSeq f),toks:=t' }:=by
 have q:=PySem.IsL.update e f;rw[hf] at q;refine I.write (x:=l) (e:=l) (by rw[hH];exact trivial) (.inl rfl) (fun b' u hb hu=>(Heap.get?_update_other s.heap (Obj.mapSeq f) (cu hb)).trans hu) ⟨_,q⟩ ?_;exact⟨hz,its',_,hv,q⟩
theorem Inv.lnew {its:List Value}{t':Nat}(I:Inv X pins σ H s)(hv:aN ys its)(hz:ys.length<=sizeLine) :
  Inv X pins σ (upd H s.heap.objs.size (.lst ys)) { s with heap:=s.heap.push { cls:=.type "list",data:=.seq its.toArray },toks:=t' } :=
 I.laid (fun _ _ q=>Heap.get?_push_of_some _ q) (av _) ⟨hz,its,0,hv,Heap.get?_push_size _ rfl⟩
theorem Inv.fresh (I:Inv X pins σ H s):H s.heap.objs.size=none:=I.hok.fresh (av _)
theorem Inv.lstM (I:Inv X pins σ H s)(hH:H l=some (.lst xs)):xs.length<=sizeLine/\∃(its:List Value) (n:Nat),aN xs its/\xs.length=its.length/\s.heap.get? l=some { cls:=.type "list",data:=.seq its.toArray n }:=by
 obtain⟨z,its,n,r,e⟩:=I.hok l _ hH;exact⟨z,its,n,r,r.length,e⟩
theorem vk {n:Nat}(h:n<=sizeLine):Builtin.List.listTooLong n=false:=by
 unfold Builtin.List.listTooLong;exact az (by omega)
end
section
variable {X:Cx}
def w6:V->List V->Hp->VK->Prop:=fun x vs H Q=>∃ l xs y,x = .ref l/\vs=[y]/\H l=some (.lst xs)/\xs.length<sizeLine/\Q .non (upd H l (.lst (xs ++ [y])))
theorem iM:MtM X "list.append" w6:=by
 intro pins s σ H x vs v us Q I rx rv h;obtain⟨l,xs,y,rfl,rfl,hH,hz,q⟩:=h;cases rx;obtain⟨u,rfl,ru⟩:=rv.one;obtain⟨z,its,n,r,hl,e⟩:=I.lstM hH;refine call_meets F.slot_list_append ⟨_,e,rfl⟩ F.entry_list_append (F.args_list_append_2 _ _) (PySem.list_append l its.toArray n u (by rw[ah];omega)) ⟨e,?_⟩;refine⟨.non,_,I.lset (its':=its ++ [u]) hH e (by simp) (r.append (.cons ru .nil)) ?_,rfl,q⟩;rw[ag,dh];omega
theorem len_rep {α:Type}(xs:List α)(k:Nat):(List.replicate k xs).flatten.length=k*xs.length:=by
 induction k with
 |zero=>simp
 |succ k ih=>rw[c6,cy,ag,ih,Nat.succ_mul,Nat.add_comm]
end
section
variable {prog:Program}{w:World}{A:Around}{E:Value->Shared->Prop}{s:Shared}
end
section
variable {X:Cx}
end
end L2
namespace Att
open PySem PySem.W PySem.Calls PyProof.Rows
theorem jf {P:Params}{h:Heap}:∀(ns:List Int) (vs:List Value),WellAll P h vs (ns.map WData.int)->IntsAre vs ns:=by
 intro ns
 induction ns with
 |nil =>
  intro vs w;rw[fu] at w;cases w;exact .nil
 |cons n ns ih =>
  intro vs w;rw[ay] at w;cases w with
  |cons a b =>
   cases a;exact .cons _ _ (ih _ b)
theorem rD {l:OpenLaw}{n:Nat}(hn:l.most=some n){P:Params}{h:Heap}{args:List WData}{vals:List Value}
  (hpre:l.row.toRowW.claim.pre args=true) (hwl:WellAll P h vals args) :
  ∃ a vs ns,vals=[Value.ref a]/\args=[WData.list (ns.map WData.int)]/\h.get? a=some { cls:=.type "list",data:=.seq vs.toArray }/\IntsAre vs ns/\ns.length<=n:=by
 have hsh:WShape.hasAll [] args [.list .int]=true:=(pre_splitW hpre).1;have hc:l.pre.holds [] { args:=args }=true:=(pre_splitW hpre).2;obtain⟨d,r,rfl,h1,h2⟩:=hasAllW_cons hsh;obtain rfl:=hasAllW_nil h2;obtain⟨xs,rfl,h3⟩:=hasW_list h1;obtain⟨ns,rfl⟩:=items_int h3;have hlen:ns.length<=n:=by
  unfold OpenLaw.pre at hc;have h4:(WTm.not (.lt (.lit (.int (n:Int))) (.len (.arg 0)))).holds [] { args:=[.list (ns.map .int)] }=true:=by
   have h4:=(holds_andW hc).1;rw[hn] at h4;exact h4
  have h5:=condW_of h4 (w_not (w_lt w_lit (w_len_list (w_arg rfl))));rw[au] at h5;refine gg fun q=>?_
  have q':(n:Int)<((ns.length:Nat):Int):=by omega
  first
   | (rw[bj q'] at h5;exact absurd h5 (by decide))
   | (simp at h5;omega)
 cases hwl with
 |cons w1 w2 =>
  cases w2;cases w1 with
  |list ho hall=>exact⟨_,_,ns,rfl,rfl,ho,jf ns _ hall,hlen⟩
theorem sJ (l:OpenLaw)(args:List WData):l.row.toRowW.claim.post args (.bool true) args=true :=
 postW_of (r:=l.row.toRowW) (X:=(true==true))
  (show WShape.has [] (.bool true) .bool=true by first | rfl | decide | simp[WShape.has,WShape.arms,WShape.armsAll])
  (show (WTm.eq .res (.lit (.bool true))).value [] { args:=args,res:=some (.bool true),after:=args }=some (.bool (true==true)) from w_eq_bool (w_res rfl) w_lit) rfl
theorem n9 {l:OpenLaw}{n:Nat}{q:Program}{loose:List Str}{XP:(Str->Option Value)->Heap->Prop}{YP:World->Heap->Prop}{d:DefRec}
  (hn:l.most=some n) (hdf:d.params.defaults=[])
  (call:∀(w:World) (s₀ s₁:Shared) (mg mb:Str->Option Value) (fa:Addr) (o:Obj) (pm cd doc:Value) (a:Addr) (vs:List Value) (ns:List Int),
   Ground q loose [] XP w s₀ mg mb s₁.heap->YP w s₁.heap ->
   s₁.heap.get? fa=some o->o.data = .func (docDef d.name d.params d.body d.scope pm cd doc)->s₁.heap.CodeRec cd d.name->mg d.name=some (.ref fa) ->
   s₁.heap.get? a=some { cls:=.type "list",data:=.seq vs.toArray }->IntsAre vs ns->ns.length<=n->s₁.gens = #[] ->
   codeAny (model l.prog w) callerA (.call (.ref fa) ⟨[.ref a],[]⟩) (fun r s'=>r = .ok (.ret (.bool true))/\OldK s₁.heap s'.heap/\s'.os=s₁.os/\AllBare s'.gens) s₁) :
  WalkO q loose XP YP l.row.toRowW d [] (fun f vs=>PySem.call f vs):=by
 intro w s₀ s₁ mg mb G Y fa o pm cd doc dV kV ho hd hcd hD hmg hg args vals as hpre hlay hrd hwl hlo;obtain rfl:dV = .none:=Dflts.none hD hdf;obtain rfl:kV = .none:=Dflts.noKw hD;obtain⟨a,vs,ns,rfl,rfl,hobj,hints,hlen⟩:=rD hn hpre hwl;refine enter_call (codeAny_mono (call w s₀ s₁ mg mb fa o pm cd doc a vs ns G Y ho (fd_plain hd) hcd hmg hobj hints hlen hg) fun r s' hq=>?_);obtain⟨rfl,h2,h3,h4⟩:=hq;exact⟨.inl ⟨.bool true,.bool true,[],rfl,fun _=>rfl,.bool true,sJ l _,fun _=>⟨List.Pairwise.nil,fun _ hm=>(nomatch hm)⟩⟩,h2,h3,h4⟩
section
variable {prog:Program}{w:World}{A:Around}{E:Value->Shared->Prop}{s:Shared}{K:Frag}
noncomputable def ledger (h:Heap)(L d:Addr):List (Addr×Obj):=(List.range h.objs.size).filterMap fun a=>if a=L\/a=d then none else (h.get? a).map fun o=>(a,o)
end
end Att
namespace L2
open PySem PySem.Spec PyProof.Rows
theorem l7:∀{vs:List Value}{ns:List Int},IntsAre vs ns->aN (ns.map V.int) vs
 |_,_,.nil=>.nil
 |_,_,.cons n t h=>.cons ⟨t,rfl⟩ (l7 h)
def zM (H:Hp):Prop:=∀ b,H b=none\/∃ o xs,H b=some (.frz o (.lst xs))
theorem tV {P:Program}{w:World}{K:PySem.W.Frag}{mg mb:Str->Option Value}{CX:nS}{k:Nat}{fa a:Addr}{fd:FuncData}{x:Str}{sp:Sp}{s₁:Shared}{vs:List Value}{ns:List Int}
  (KX:K.In s₁.heap) (hns:s₁.heap.Ns mainGlobals mg) (hb:s₁.heap.Ns builtinsNs mb) (hbb:∀ x:Str,x≠"__name__"->mb x=bootBuiltins x) (hlim:s₁.heap.NoLimit) (hg:s₁.gens = #[])
  (ha:s₁.heap.get? a=some { cls:=.type "list",data:=.seq vs.toArray }) (hi:IntsAre vs ns) (hl:ns.length<=sizeLine) (hr:eT k callerA)
  (F:∀ base:Heap,K.In base->base.Ns mainGlobals mg->jh P w K mg base CX k fa fd [x] sp) (hbind:∀(s:Shared) (u:Value),BindsTo s fd ⟨[u],[]⟩ [(x,u)])
  (hsp:∀ H:Hp,zM H->mE K H a (ns.map V.int)->sp [.ref a] H (fun v _=>v = .bl true) fun _ _ _=>False)
  (hCX:∀ H e s',CX [] H s₁ (fun _ _ _=>False) e s'->False) :
  codeAny (model P w) callerA (.call (.ref fa) ⟨[.ref a],[]⟩) (fun r s'=>r = .ok (.ret (.bool true))/\OldK s₁.heap s'.heap/\s'.os=s₁.os/\AllBare s'.gens) s₁:=by
 have rv:=l7 hi;have lenV:=hi.length;have core:∀ H:Hp,zM H->mE K H a (ns.map V.int)->gU P w H s₁.heap->(∀ b,H b≠none->b=a)->(H a≠none->K.lookup a=none) ->
   codeAny (model P w) callerA (.call (.ref fa) ⟨[.ref a],[]⟩) (fun r s'=>r = .ok (.ret (.bool true))/\OldK s₁.heap s'.heap/\s'.os=s₁.os/\AllBare s'.gens) s₁:=by
  intro H hO hS hok hA hK;have base_of:∀{b:Addr}{o:Obj},s₁.heap.get? b=some o->H b=none->(mJ s₁.heap H).get? b=some o:=fun e n=>tH e n
  have noA:∀{b:Addr}{o:Obj}{es:Array DictEntry}{ep:Nat},s₁.heap.get? b=some o->o.data = .dict es ep->H b=none:=fun {b o es ep} e d=>by
   cases q:H b with
   |none=>rfl
   |some u =>
    have e':b=a:=hA b (by rw[q];simp);subst e';rw[ha] at e;cases e;have d':Data.seq vs.toArray _=Data.dict es ep:=d;cases d'
  have nsK:∀{b:Addr}{m:Str->Option Value},s₁.heap.Ns b m->(mJ s₁.heap H).Ns b m:=fun {b m} ⟨o,es,ep,e,d,r⟩=>⟨o,es,ep,base_of e (noA e d),d,r⟩
  have hKb:K.In (mJ s₁.heap H):=fun b o e=>base_of (KX b o e) (by
   cases q:H b with
   |none=>rfl
   |some u =>
    have e':b=a:=hA b (by rw[q];simp);subst e';rw[hK (by rw[q];simp)] at e;cases e)
  have hM:Mod K mg (mJ s₁.heap H):=⟨hKb,nsK hns,⟨mb,nsK hb,hbb⟩,let ⟨mc,h1,h2⟩:=hlim;⟨mc,nsK h1,h2⟩⟩;have e0:nz P w K mg (mJ s₁.heap H) callerA [] s₁ H:=⟨rfl,hM,fun b o e=>xF e,Nat.le_of_eq (rZ _ _),trivial,fun b hb=>absurd (show b∈([]:List Addr) from hb) (by simp),hok,.of_eq hg⟩;refine codeAny_mono ((F _ hKb (nsK hns)).run callerA [] s₁ H ⟨[.ref a],[]⟩ [.ref a] [.ref a] _ _ hr e0 (hbind s₁ (.ref a)) (.cons rfl .nil) (hsp H hO hS)) fun r s' h=>?_
  cases r with
  |error e=>exact (hCX H e s' h).elim
  |ok fl =>
   cases fl with
   |next=>exact False.elim h
   |brk=>exact False.elim h
   |cont=>exact False.elim h
   |ret u =>
    obtain⟨v,H',os,bare,un,hok',r',q⟩:=h;have q':v = .bl true:=q;subst q';obtain rfl:u=Value.bool true:=r';refine⟨rfl,OldK.of_keep fun b o e=>?_,os,bare⟩;cases q:H b with
    |none=>exact un.keep b o e q (by intro z;exact absurd (show b∈([]:List Addr) from z) (by simp)) (by simp)
    |some u =>
     rcases hO b with z | ⟨ob,xs,z⟩
     ·rw[q] at z;cases z
     ·have z2:=un.frzs b ob _ z;obtain⟨e1,_⟩:=hok b _ z;obtain⟨e2,_⟩:=hok' b _ z2;rw[e] at e1;cases e1;exact e2
 cases hk:K.lookup a with
 |some o =>
  have e:=KX a o hk;rw[ha] at e;cases e;refine core (fun _=>none) (fun _=>.inl rfl) (.inr ⟨_,vs.toArray,_,hk,rfl,rfl,rfl,by rw[List.size_toArray,lenV];exact hl,by simpa using rv⟩) (fun b u z=>by have z':(none:Option HO)=some u:=z;cases z') (fun b z=>absurd rfl z) fun z=>absurd rfl z
 |none =>
  refine core (fun b=>if b=a then some (.frz { cls:=.type "list",data:=.seq vs.toArray } (.lst (ns.map V.int))) else none) (fun b=>?_) (.inl (.inr ⟨{ cls:=.type "list",data:=.seq vs.toArray },if_pos rfl⟩)) (fun b u z=>?_) (fun b z=>?_) fun _=>hk
  ·by_cases hb:b=a
   ·exact .inr ⟨_,_,if_pos hb⟩
   ·exact .inl (if_neg hb)
  ·by_cases hb:b=a
   ·have z':=(if_pos hb).symm.trans z;cases z';subst hb;exact⟨ha,by rw[au];exact hl,vs,_,rv,ha⟩
   ·have z':=(if_neg hb).symm.trans z;cases z'
  ·by_cases hb:b=a
   ·exact hb
   ·exact absurd (if_neg hb) z
end L2
namespace L2
open PySem PySem.Spec PyProof.Rows
theorem xl {l:PySem.W.OpenLaw}{n k:Nat}{q:Program}{loose:List Str}{XP:(Str->Option Value)->Heap->Prop}{YP:World->Heap->Prop}{d:DefRec}{K:Params->PySem.W.Frag}{CX:World->nS}{sp:World->Sp}{x:Str}
  (hn:l.most=some n) (hn2:n<=sizeLine) (hdf:d.params.defaults=[]) (hr:eT k callerA)
  (hY:∀(w:World) (h:Heap),YP w h->(K w.params).In h)
  (F:∀(w:World) (mg:Str->Option Value) (fa:Addr) (h:Heap),(K w.params).In h->h.Ns mainGlobals mg->mg d.name=some (.ref fa) ->
   ∃ fd:FuncData,(∀(s:Shared) (u:Value),BindsTo s fd ⟨[u],[]⟩ [(x,u)]) /\
    ∀ base:Heap,(K w.params).In base->base.Ns mainGlobals mg->jh l.prog w (K w.params) mg base (CX w) k fa fd [x] (sp w))
  (hsp:∀(w:World) (H:Hp) (a:Addr) (ns:List Int),ns.length<=n->zM H->mE (K w.params) H a (ns.map V.int)->sp w [.ref a] H (fun v _=>v = .bl true) fun _ _ _=>False)
  (hCX:∀(w:World) (H:Hp) (s:Shared) (e:Value) (s':Shared),CX w [] H s (fun _ _ _=>False) e s'->False) :
  PySem.W.WalkO q loose XP YP l.row.toRowW d [] (fun f vs=>PySem.call f vs):=by
 refine Att.n9 hn hdf fun w s₀ s₁ mg mb fa o pm cd doc a vs ns G Y ho hd hcd hmg hobj hints hlen hg=>?_
 have KX:=hY w _ Y;obtain⟨fd,hb,hF⟩:=F w mg fa _ KX G.T.g hmg;exact tV KX G.T.g G.T.b G.T.builtins G.T.nolimit hg hobj hints (be hlen hn2) hr hF hb (fun H hO hS=>hsp w H a ns hlen hO hS) fun H e s'=>hCX w H s₁ e s'
end L2
namespace L2
open PySem PySem.Spec PyProof.Rows
noncomputable def bU (s:Stmt):Arguments:=match s with
 |.FunctionDef _ a _ _ _ _ _ _ _ _=>a
 |_=>{ posonlyargs:=[],args:=[],vararg:=none,kwonlyargs:=[],kw_defaults:=[],kwarg:=none,defaults:=[] }
noncomputable def aY (s:Stmt):List Stmt:=match s with
 |.FunctionDef _ _ b _ _ _ _ _ _ _=>b
 |_=>[]
noncomputable def aC (s:Stmt):Scope:=match s with
 |.FunctionDef _ _ _ _ _ _ sc _ _ _=>sc
 |_=>{ kind:=.function,names:=[],isGenerator:=false,isCoroutine:=false }
noncomputable abbrev uO:nS:=fun _ _ _ _ _ _=>False
noncomputable abbrev E0:XK:=fun _ _ _=>False
theorem vJ {X:Cx}:eS uO X E0:=fun _ _ _ _ _ _ _ h=>h.elim
structure kL (K:PySem.W.Frag)(x qual:Str)(st:Stmt)(f:Addr)(fd:FuncData):Prop where
 ex:∃(oc:Value) (od:Option Addr) (kV doc pm:Value) (an:Option Addr) (cdv ct:Value) (osl:Array (Option Value)),
  fd=PySem.W.fnOf x qual (bU st) (aY st) (aC st) .none kV doc pm an cdv ct/\K.lookup f=some ⟨oc,od,.func fd,osl⟩/\PySem.W.codeIn K cdv qual=true
 kp:PySem.W.keepIn K (.ref f)=true
section
variable {P:Program}{w:World}{K:PySem.W.Frag}{mg:Str->Option Value}{base:Heap}
theorem kL.ok {x qual:Str}{st:Stmt}{f:Addr}{fd:FuncData}{N ps:List Str}{k:Nat}{sp:Sp}(F:kL K x qual st f fd)(S:bV N ps (aC st))(len:∀ vs H Q E,sp vs H Q E->vs.length=ps.length)
  (hbody:∀(cdv:Value) (A:Around) (outer:List Env) (s:Shared) (H:Hp) (vs:List V) (Q:VK) (E:XK),eT k (A.deeper (envOfC qual (aC st) s.heap.objs.size f cdv))->sp vs H Q E ->
   ∃ t,jS (dR uO P w K mg base N qual (aC st) f cdv A outer s H E).nox (aY st) t/\t { nx:=fun _ H'=>Q .non H',rt:=Q } (start N vs) H):jh P w K mg base uO (k+1) f fd ps sp:=by
 obtain⟨oc,od,kV,doc,pm,an,cdv,ct,osl,rfl,lk,hcd⟩:=F.ex;refine Dk lk hcd S len fun A outer s H vs Q E hr hsp=>?_
 obtain⟨t,h,q⟩:=hbody cdv A outer s H vs Q E hr hsp;exact⟨t,h.nox,q⟩
theorem kL.binds {x qual:Str}{st:Stmt}{f:Addr}{fd:FuncData}{ps:List Str}(F:kL K x qual st f fd)
  (h:∀(kV doc pm:Value) (an:Option Addr) (cdv ct:Value) (us:List Value),us.length=ps.length->bindArgs (PySem.W.fnOf x qual (bU st) (aY st) (aC st) .none kV doc pm an cdv ct) ⟨us,[]⟩=pure (ps.zip us)):Binds K fd ps []:=by
 obtain⟨oc,od,kV,doc,pm,an,cdv,ct,osl,rfl,lk,hcd⟩:=F.ex;exact .all (h kV doc pm an cdv ct)
theorem Bk {x qual:Str}{st:Stmt}{f:Addr}{oc:Value}{od an:Option Addr}{osl:Array (Option Value)}{kV doc pm cdv ct:Value}(l:K.lookup f=some ⟨oc,od,.func (PySem.W.fnOf x qual (bU st) (aY st) (aC st) .none kV doc pm an cdv ct),osl⟩)
  (c:PySem.W.codeIn K cdv qual=true) (k:PySem.W.keepIn K (.ref f)=true):kL K x qual st f (PySem.W.fnOf x qual (bU st) (aY st) (aC st) .none kV doc pm an cdv ct):=⟨⟨oc,od,kV,doc,pm,an,cdv,ct,osl,rfl,l,c⟩,k⟩
end
section
variable {X:Cx}
theorem pv (i:Nat){x:Str}{pos:Pos}(hN:X.N[i]? = some x:=by rfl)(hv:yU X.env.scope x:=by first | exact Or.inl rfl | exact Or.inr (Or.inl rfl) | exact Or.inr (Or.inr rfl))(hd:(x==("__debug__" : Str))=false:=by decide)
  (hcd:(x==("__classdict__" : Str))=false:=by decide):PE X (.Name x pos) (jk i):=pX hN hv hd hcd
end
def aE (H H':Hp):Prop:=∀ b o,H b=some o->H' b=some o
theorem aE.refl (H:Hp):aE H H:=fun _ _ h=>h
theorem aE.trans {H H1 H2:Hp}(a:aE H H1)(b:aE H1 H2):aE H H2:=fun c o h=>b c o (a c o h)
section
variable {κ:Type}[DecidableEq κ]
noncomputable def g9 (kvs:List (κ×V))(k:κ):Option V:=(kvs.find? fun kv=>decide (kv.1=k)).map (·.2)
noncomputable def putK (kvs:List (κ×V))(k:κ)(v:V):List (κ×V) :=
 if (kvs.any fun kv=>decide (kv.1=k))=true then kvs.map (fun kv=>if kv.1=k then (kv.1,v) else kv) else kvs ++ [(k,v)]
theorem iB {p:κ×V}{r:List (κ×V)}{k:κ}(e:p.1=k):g9 (p::r) k=some p.2:=by simp[g9,List.find?_cons,e]
theorem ij {p:κ×V}{r:List (κ×V)}{k:κ}(e:¬ p.1=k):g9 (p::r) k=g9 r k:=by simp[g9,List.find?_cons,e]
theorem ie (k:κ):∀ kvs:List (κ×V),(kvs.any fun kv=>decide (kv.1=k))=(g9 kvs k).isSome
 |[]=>rfl
 | p::r=>by
  rw[dq];by_cases e:p.1=k
  ·simp only[iB e,decide_eq_true e,Bool.true_or,Option.isSome_some]
  ·rw[ij e,az e,Bool.false_or];exact ie k r
theorem nL (kvs:List (κ×V))(k:κ)(v:V):(putK kvs k v).length<=kvs.length+1:=by
 unfold putK;split
 ·rw[au];omega
 ·rw[ag,ak,bu];omega
theorem iq.isSome_eq {o:Option V}{u:Option Value}(r:iq o u):o.isSome=u.isSome:=by
 cases o with
 |none=>cases u with
  |none=>rfl
  |some _=>exact (show False from r).elim
 |some _=>cases u with
  |none=>exact (show False from r).elim
  |some _=>rfl
theorem KV.val {kvs:List (κ×V)}{vs:List (κ×Value)}(r:KV kvs vs)(k:κ):iq (g9 kvs k) (valueAt vs k):=by
 unfold KV at r
 induction r with
 |nil=>exact True.intro
 |@cons p q ps qs h t ih =>
  obtain⟨h1,h2⟩:=h;by_cases e:p.1=k
  ·have e':q.1=k:=h1.symm.trans e;have b:valueAt (q::qs) k=some q.2:=by simp[valueAt,List.find?_cons,e']
   rw[iB e,b];exact h2
  ·have e':¬ q.1=k:=fun z=>e (h1.trans z)
   have b:valueAt (q::qs) k=valueAt qs k:=by simp[valueAt,List.find?_cons,e']
   rw[ij e,b];exact ih
theorem KV.any {kvs:List (κ×V)}{vs:List (κ×Value)}(r:KV kvs vs)(k:κ):(kvs.any fun kv=>decide (kv.1=k))=vs.any fun kv=>decide (kv.1=k):=by
 unfold KV at r
 induction r with
 |nil=>rfl
 |cons h t ih=>rw[dq,dq,ih,h.1]
theorem KV.repl {kvs:List (κ×V)}{vs:List (κ×Value)}(r:KV kvs vs)(k:κ){y:V}{u:Value}(ry:RelV y u) :
  KV (kvs.map fun kv=>if kv.1=k then (kv.1,y) else kv) (vs.map fun kv=>if kv.1=k then (kv.1,u) else kv):=by
 unfold KV at r ⊢
 induction r with
 |nil=>exact .nil
 |@cons p q ps qs h t ih =>
  rw[ay,ay];refine .cons ?_ ih;obtain⟨h1,h2⟩:=h;by_cases e:p.1=k
  ·rw[if_pos e,if_pos (h1.symm.trans e)];exact⟨h1,ry⟩
  ·rw[if_neg e,if_neg (fun z=>e (h1.trans z))];exact⟨h1,h2⟩
theorem KV.put {kvs:List (κ×V)}{vs:List (κ×Value)}(r:KV kvs vs)(k:κ){y:V}{u:Value}(ry:RelV y u):KV (putK kvs k y) (stored vs k u):=by
 unfold putK stored;rw[r.any k];by_cases e:(vs.any fun kv=>decide (kv.1=k))=true
 ·rw[if_pos e,if_pos e];exact r.repl k ry
 ·rw[if_neg e,if_neg e];exact Paired.snoc r ⟨rfl,ry⟩
theorem KV.keys {kvs:List (κ×V)}{vs:List (κ×Value)}(r:KV kvs vs):kvs.map (·.1)=vs.map (·.1):=by
 unfold KV at r
 induction r with
 |nil=>rfl
 |cons h t ih=>rw[ay,ay,ih,h.1]
theorem KV.length {kvs:List (κ×V)}{vs:List (κ×Value)}(r:KV kvs vs):kvs.length=vs.length:=Paired.length r
end
theorem qX {P:Program}{w:World}{k:Key}{u:Value}(r:RelV (kV k) u):(aO P w).is k u=true:=by
 cases k with
 |inl i=>obtain⟨t,e⟩:=(show ∃ t,u=Value.int i t from r);subst e;exact dI P w i t
 |inr x=>obtain⟨t,e⟩:=(show ∃ t,u=Value.str x t from r);subst e;exact cL P w x t
theorem iQ {P:Program}{w:World}:∀{ks:List Key}{us:List Value},aN (ks.map kV) us->ItemsAre (aO P w) ks us
 |[],_,r=>by rw[fu] at r;cases r;exact .nil
 | k::ks,_,r=>by
  rw[ay] at r;cases r with
  |cons h t=>exact .cons (qX h) (iQ t)
noncomputable abbrev KT (H:Hp):List (List Key×V)->List (List Key×Addr×Value)->Prop:=Paired fun p q=>p.1=q.1/\H q.2.1=some (.tup (p.1.map kV))/\RelV p.2 q.2.2
theorem KT.val {H:Hp}{kvs:List (List Key×V)}{xs:List (List Key×Addr×Value)}(r:KT H kvs xs)(k:List Key):iq (g9 kvs k) ((atKey xs k).map (·.2)):=by
 induction r with
 |nil=>exact True.intro
 |@cons p q ps qs h t ih =>
  obtain⟨h1,_,h2⟩:=h;by_cases e:p.1=k
  ·have e':q.1=k:=h1.symm.trans e;have b:atKey (q::qs) k=some q.2:=by simp[atKey,List.find?_cons,e']
   rw[iB e,b];exact h2
  ·have e':¬ q.1=k:=fun z=>e (h1.trans z)
   have b:atKey (q::qs) k=atKey qs k:=by simp[atKey,List.find?_cons,e']
   rw[ij e,b];exact ih
section
variable {P:Program}{w:World}{H:Hp}{h:Heap}{a:Addr}
theorem y3 {u:HO}(ok:gU P w H h)(e:Rd H a u):bQ P w H h a u:=e.ok ok
theorem i0 {kvs:List (Key×V)}(ok:gU P w H h)(e:Rd H a (.dK kvs)):kvs.length<=sizeLine/\(a==sysModules)=false/\∃ vs,KV kvs vs/\h.DictOf (aO P w) a vs :=
 show bQ P w H h a (.dK kvs) from y3 ok e
theorem CI {kvs:List (Key×V)}(ok:gU P w H h)(e:H a=some (.dK kvs)):kvs.length<=sizeLine/\(a==sysModules)=false/\∃ vs,KV kvs vs/\h.DictOf (aO P w) a vs:=i0 ok (.inl e)
theorem pA {ks:List Key}(ok:gU P w H h)(e:H a=some (.tup (ks.map kV))):(tupleKind (aO P w)).is h ks a:=by
 obtain⟨_,its,r,o,h1,h2,n,h3⟩:=(show bQ P w H h a (.tup (ks.map kV)) from ok a _ e);exact⟨o,its.toArray,n,h1,h2,h3,by simpa using iQ r⟩
theorem qh {kvs:List (List Key×V)}(ok:gU P w H h)(e:Rd H a (.dT kvs)):kvs.length<=sizeLine/\(a==sysModules)=false /\
  ∃ xs,KT H kvs xs/\h.DictOfH (tupleKind (aO P w)) a xs:=by
 obtain⟨z,y,xs,r,o,es,ep,h1,h2,h3,h4,h5⟩:=(show bQ P w H h a (.dT kvs) from y3 ok e);refine⟨z,y,xs,r,o,es,ep,h1,h2,h3,h4,fun x hx=>?_,h5⟩;have all:∀{l:List (List Key×V)}{m:List (List Key×Addr×Value)},KT H l m->∀ x∈m,(tupleKind (aO P w)).is h x.1 x.2.1:=by
  intro l m q
  induction q with
  |nil=>intro x hx;exact nomatch hx
  |@cons p q ps qs hq t ih =>
   intro x hx;rcases gd.mp hx with e | hx
   ·subst e;exact pA ok (by rw[<-hq.1];exact hq.2.1)
   ·exact ih x hx
 exact all r x hx
end
noncomputable def wL (H:Hp)(a:Addr)(y:V)(r:Option V):Prop :=
 (∃ kvs k,Rd H a (.dK kvs)/\y=kV k/\r=g9 kvs k)\/∃ kvs k b,Rd H a (.dT kvs)/\y = .ref b/\H b=some (.tup (k.map kV))/\r=g9 kvs k
section
variable {X:Cx}{pins:List (Addr×Obj)}{σ:St}{H:Hp}{s:Shared}{a:Addr}{y v:V}{u r:Value}{o:Option V}{A:Around}{E:Value->Shared->Prop}
theorem Inv.big (I:Inv X pins σ H s):sysModules<s.heap.objs.size:=by
 have h:mainGlobals<s.heap.objs.size:=(I.mod.glob.keeps I.bk).lt;exact Nat.lt_trans (by decide) h
theorem Ce {Q:Value->Shared->Prop}(hu:A.units+1<cLine)(I:Inv X pins σ H s)(g:wL H a y o)(ry:RelV y u)(h:∀ s',Inv X pins σ H s'->Q (.bool o.isSome) s') :
  wpAny (model X.prog X.w) A (compareOp .In u (.ref a)) Q E s:=by
 rcases g with ⟨kvs,k,e,ey,l⟩ | ⟨kvs,k,b,e,ey,eb,l⟩
 ·subst ey;obtain⟨z,hd,vs,rel,dd⟩:=i0 I.hok e;refine wpAny_in_of (qX ry) hd dd.mapOf ?_;rw[<-(rel.val k).isSome_eq,<-l];exact h _ (I.tok _)
 ·subst ey;cases (show u=Value.ref b from ry);obtain⟨z,hd,xs,rel,dd⟩:=qh I.hok e;refine wpAny_in_heap (tupleKind_room_in1 hu) (pA I.hok eb) hd dd ?_;have q:=(rel.val k).isSome_eq;rw[Option.isSome_map] at q;rw[<-q,<-l];exact h _ (I.tok _)
theorem qe {Q:Value->Shared->Prop}(hu:A.units+1<cLine)(I:Inv X pins σ H s)(g:wL H a y o)(ry:RelV y u)(h:∀ s',Inv X pins σ H s'->Q (.bool (!o.isSome)) s') :
  wpAny (model X.prog X.w) A (compareOp .NotIn u (.ref a)) Q E s:=by
 rcases g with ⟨kvs,k,e,ey,l⟩ | ⟨kvs,k,b,e,ey,eb,l⟩
 ·subst ey;obtain⟨z,hd,vs,rel,dd⟩:=i0 I.hok e;refine wpAny_notIn_of (qX ry) hd dd.mapOf ?_;rw[<-(rel.val k).isSome_eq,<-l];exact h _ (I.tok _)
 ·subst ey;cases (show u=Value.ref b from ry);obtain⟨z,hd,xs,rel,dd⟩:=qh I.hok e;refine wpAny_notIn_heap (tupleKind_room_in1 hu) (pA I.hok eb) hd dd ?_;have q:=(rel.val k).isSome_eq;rw[Option.isSome_map] at q;rw[<-q,<-l];exact h _ (I.tok _)
theorem wG {h':Heap}{t':Nat}{ob:HO}(I:Inv X pins σ H s)(mu:nQ (H a))(hs:Heap.SameBut a s.heap h')(he:∃ q,h'.get? a=some q)(new:bQ X.prog X.w (upd H a ob) h' a ob) :
  Inv X pins σ (upd H a ob) { s with heap:=h',toks:=t' } :=
 I.write (x:=a) (e:=a) mu (.inl rfl) (fun b q hb z=>(hs.2 b hb).trans z) he new
theorem AL {P:Program}{w:World}{H':Hp}{h':Heap}{kvs:List (Key×V)}{vs:List (Key×Value)}(z:kvs.length<=sizeLine)(hd:(a==sysModules)=false)(rel:KV kvs vs)(dd:h'.DictOf (aO P w) a vs) :
  bQ P w H' h' a (.dK kvs):=⟨z,hd,vs,rel,dd⟩
end
section
variable {X:Cx}{pins:List (Addr×Obj)}{σ:St}{H:Hp}{s:Shared}{a:Addr}{kvs:List (Key×V)}{k:Key}{u:Value}{A:Around}{E:Value->Shared->Prop}
end
section
variable {X:Cx}{o i e value:Expr}{pos pos' tpos:Pos}{td ty tv:TE}
end
theorem vC {P:Program}{w:World}{H:Hp}(h:Heap)(hb:sysModules<h.objs.size):bQ P w H (h.push { cls:=.type "dict",data:=.dict #[] }) h.objs.size (.dK []) :=
 ⟨de _,beq_eq_false_iff_ne.mpr (cu (bo hb)),[],.nil,Heap.DictOf.new h⟩
section
variable {X:Cx}{pos:Pos}
end
noncomputable def jw:List (TE×TE)->St->Hp->(List (V×V)->Hp->Prop)->Prop
 |[],_,H,Q=>Q [] H
 | (tk,tv)::r,σ,H,Q=>tk σ H fun x H1=>tv σ H1 fun y H2=>jw r σ H2 fun ps H3=>Q ((x,y)::ps) H3
noncomputable abbrev VV:List (V×V)->List (Value×Value)->Prop:=Paired fun p q=>RelV p.1 q.1/\RelV p.2 q.2
noncomputable def Cr (X:Cx)(pos:Pos)(keys:List (Option Expr))(values:List Expr)(trs:List (TE×TE)):Prop :=
 ∀(pins:List (Addr×Obj)) (s:Shared) (σ:St) (H:Hp) (Q:List (V×V)->Hp->Prop),Inv X pins σ H s->jw trs σ H Q ->
  wpAny (model X.prog X.w) X.A (evalPairs (pairTrees keys values X.env pos)) (fun vs s'=>∃ ps H',Inv X pins σ H' s'/\VV ps vs/\Q ps H') X.xe s
theorem xS {X:Cx}{pos:Pos}:Cr X pos [] [] []:=fun pins s σ H Q I h=>pairTrees_nil_walk ⟨[],H,I,.nil,h⟩
theorem tY {X:Cx}{pos:Pos}{k v:Expr}{ks:List (Option Expr)}{vs:List Expr}{tk tv:TE}{trs:List (TE×TE)}(hk:PE X k tk)(hv:PE X v tv)(hr:Cr X pos ks vs trs) :
  Cr X pos (some k::ks) (v::vs) ((tk,tv)::trs):=fun pins s σ H Q I h =>
 pairTrees_cons_walk (bW (hk pins s σ H _ I h) fun u s1 ⟨x,H1,I1,rx,q1⟩=>bW (hv pins s1 σ H1 _ I1 q1) fun w2 s2 ⟨y,H2,I2,ry,q2⟩ =>
  bW (hr pins s2 σ H2 _ I2 q2) fun ws s3 ⟨ps,H3,I3,rel,q3⟩=>⟨(x,y)::ps,H3,I3,.cons ⟨rx,ry⟩ rel,q3⟩)
noncomputable def fG (kvs more:List (Key×V)):List (Key×V):=more.foldl (fun acc kv=>putK acc kv.1 kv.2) kvs
theorem KV.merge:∀{more:List (Key×V)}{rs:List (Key×Value)}{kvs:List (Key×V)}{vs:List (Key×Value)},KV more rs->KV kvs vs->KV (fG kvs more) (merged vs rs):=by
 intro more rs kvs vs r;unfold KV at r
 induction r generalizing kvs vs with
 |nil=>intro q;exact q
 |@cons p q ps qs h t ih =>
  intro r0;have e:KV (putK kvs p.1 p.2) (stored vs q.1 q.2):=by
   have:=r0.put p.1 h.2;rw[<-h.1];exact this
  exact ih e
theorem gX:∀(more kvs:List (Key×V)),(fG kvs more).length<=kvs.length+more.length
 |[],kvs=>by show kvs.length<=kvs.length+0;omega
 | p::r,kvs=>by
  have h1:=gX r (putK kvs p.1 p.2);have h2:=nL kvs p.1 p.2;show (fG (putK kvs p.1 p.2) r).length<=_;rw[ak];omega
theorem km {P:Program}{w:World}:∀{kvs:List (Key×V)}{ws:List (Value×Value)},VV (kvs.map fun kv=>(kV kv.1,kv.2)) ws->∃ rs,Carries (aO P w) ws rs/\KV kvs rs
 |[],_,r=>by rw[fu] at r;cases r;exact⟨[],True.intro,.nil⟩
 | p::kvs,_,r=>by
  rw[ay] at r;cases r with
  |@cons a b as bs h t =>
   obtain⟨rs,c,q⟩:=km (P:=P) (w:=w) t;obtain⟨b1,b2⟩:=b;exact⟨(p.1,b2)::rs,⟨qX h.1,rfl,c⟩,.cons ⟨rfl,h.2⟩ q⟩
def Cz (trs:List (TE×TE)):TE:=fun σ H Q=>∀ p,H p=none->jw trs σ (upd H p (.dK [])) fun ps H2=>H2 p=some (.dK [])/\∃ kvs:List (Key×V),ps=kvs.map (fun kv=>(kV kv.1,kv.2))/\kvs.length<=15/\Q (.ref p) (upd H2 p (.dK (fG [] kvs)))
theorem xQ {X:Cx}{pos:Pos}{keys:List (Option Expr)}{values:List Expr}{trs:List (TE×TE)}(h:Cr X pos keys values trs)(hall:keys.all (·.isSome)=true)(hl:keys.length=values.length)(h0:keys≠[])
  (h15:keys.length<=15):PE X (.Dict keys values pos) (Cz trs):=by
 intro pins s σ H Q I q;have hn:=I.hok.fresh (av s.heap.objs.size);have I1:=I.laid (a:=s.heap.objs.size) (o:=.dK []) (h':=s.heap.push { cls:=.type "dict",data:=.dict #[] }) (t':=s.toks) (fun _ _ q=>Heap.get?_push_of_some _ q) (av _) (vC s.heap I.big);refine wpAny_Dict_walk (knd:=aO X.prog X.w) hall hl h0 h15 (bW (h pins _ σ _ _ I1 (q _ hn)) fun ws s2 ⟨ps,H2,I2,rel,e,kvs,ep,lk,q2⟩=>?_);subst ep;obtain⟨rs,c,rk⟩:=km (P:=X.prog) (w:=X.w) rel;obtain⟨z,hd,vs0,r0,dd⟩:=CI I2.hok e;cases r0;refine⟨rs,c,dd,fun h' dd' hs=>⟨.ref s.heap.objs.size,_,?_,rfl,q2⟩⟩;have hz:(fG [] kvs).length<=sizeLine:=by
  have h1:=gX kvs [];rw[bu] at h1;rw[sizeLine_eq];omega
 have he:∃ q,h'.get? s.heap.objs.size=some q:=let ⟨q,_,_,hq,_⟩:=dd';⟨q,hq⟩;exact wG I2 (by rw[e];exact True.intro) hs he (AL hz hd (rk.merge .nil) dd')
end L2
end
section
namespace Pc
open PySem
inductive MV where
 | tr | int (i:Int) | tup (is:List Int)
deriving Inhabited,DecidableEq
inductive D where
 | non | bl (b:Bool) | int (i:Int) | str (s:Str) | lst (xs:List D) | tup (xs:List D)
 | dct (kvs:List ((Int ⊕ Str)×Option Int))
 | mpi (ks:List (Int×MV)) | mpt (ks:List (List Int))
 | mpz (ks:List (Int×MV))
deriving Inhabited
mutual
noncomputable def D.flat:D->Bool
 |.lst _=>false
 |.tup xs=>D.flats xs
 |.non=>true
 |.bl _=>true
 |.int _=>true
 |.str _=>true
 |.dct _=>true
 |.mpi _=>false
 |.mpt _=>false
 |.mpz _=>true
noncomputable def D.flats:List D->Bool
 |[]=>true
 |x::xs=>D.flat x&&D.flats xs
end
noncomputable def lu (f:D->D->Option Bool):List D->List D->Option Bool
 |[],[]=>some true
 |x::xs,y::ys=>(f x y).bind fun a=>(lu f xs ys).map fun b=>a&&b
 |_,_=>none
noncomputable def D.eqf:Nat->D->D->Option Bool
 |0,_,_=>none
 |_+1,.non,.non=>some true
 |_+1,.bl a,.bl b=>some (a==b)
 |_+1,.int a,.int b=>some (a==b)
 |_+1,.bl a,.int b=>some ((if a then (1:Int) else 0)==b)
 |_+1,.int a,.bl b=>some (a==(if b then (1:Int) else 0))
 |_+1,.str a,.str b=>some (a==b)
 |n+1,.lst a,.lst b=>if a.length=b.length then lu (D.eqf n) a b else some false
 |n+1,.tup a,.tup b=>if a.length=b.length then lu (D.eqf n) a b else none
 |_+1,.dct _,_=>none
 |_+1,_,.dct _=>none
 |_+1,.mpi _,_=>none
 |_+1,_,.mpi _=>none
 |_+1,.mpt _,_=>none
 |_+1,_,.mpt _=>none
 |_+1,.mpz _,_=>none
 |_+1,_,.mpz _=>none
 |_+1,_,_=>some false
noncomputable def D.cX:D->Bool
 |.lst _=>false
 |.tup _=>false
 |.dct _=>false
 |.mpi _=>false
 |.mpt _=>false
 |.mpz _=>false
 |_=>true
noncomputable def D.eqs:D->D->Bool
 |.non,.non=>true
 |.bl a,.bl b=>a==b
 |.int a,.int b=>a==b
 |.str a,.str b=>a==b
 |.bl a,.int b=>(if a then (1:Int) else 0)==b
 |.int a,.bl b=>a==(if b then (1:Int) else 0)
 |_,_=>false
structure Exc where
 cls:Str
 fs:List (Str×D)
deriving Inhabited
inductive Rs (α:Type) where
 | ok (a:α) | exc (e:Exc) | bad
noncomputable def Rs.bind {α β:Type}(x:Rs α)(f:α->Rs β):Rs β:=match x with
 |.ok a=>f a
 |.exc e=>.exc e
 |.bad=>.bad
inductive Rt where
 | mv (R:List Nat)
 | sh (R:List Nat)
noncomputable def Rt.roots:Rt->List Nat
 |.mv R=>R
 |.sh R=>R
inductive Tg where
 | own | lk | sh (R:List Nat)
noncomputable abbrev Slot:=Option (D×Tg)
noncomputable abbrev En:=List Slot
noncomputable def lim:Nat:=1000000
inductive jo where
 | nm (i:Nat) | tp (is:List Nat)
inductive zD where
 | len | list | tuple | int | str | abs | min2 | max2 | all | any | sum | isi (T:String) | sorted | bool | lrev | lrng | divm | maxd
inductive BL where
 | sfind | sindex | sjoin | ssplit | lindex | lcount | szfill | scount | sstarts
inductive nQ where
 | append | extend | insert | pop | uu | reverse | clear
mutual
inductive Ex where
 | var (i:Nat)
 | cst (d:D)
 | glb (k:Nat)
 | bin (op:Operator) (a b:Ex)
 | neg (a:Ex)
 | cmp (op:CmpOp) (a b:Ex)
 | chn (op op':CmpOp) (a b c:Ex)
 | and (a b:Ex)
 | or (a b:Ex)
 | not (a:Ex)
 | ite (c a b:Ex)
 | lst (es:kK)
 | tup (es:kK)
 | ix (a i:Ex)
 | sl (a:Ex) (lo hi:lB)
 | call (f:Nat) (es:kK)
 | blt (b:zD) (es:kK)
 | mth (m:BL) (o:Ex) (es:kK)
 | comp (own:Nat) (pick:List Nat) (t:jo) (it:qu) (c:lB) (e:Ex)
 | dnew
 | ddsp (l:List (Nat×Int))
 | snoc (a b:Ex)
 | app (g:List D->Option D) (es:kK)
inductive kK where
 | nil | cons (e:Ex) (es:kK)
inductive lB where
 | none | some (e:Ex)
inductive qu where
 | seq (e:Ex) | rng1 (a:Ex) | rng2 (a b:Ex) | rng3 (a b c:Ex) | enum (e:Ex) | zip (a b:Ex) | rev (e:Ex)
end
mutual
inductive St where
 | asg (t:jo) (e:Ex) (mv:Bool)
 | mut (x:Nat) (path:lB) (m:nQ) (es:kK)
 | setix (x:Nat) (path:lB) (i:Ex) (e:Ex)
 | putd (x:Nat) (i v:Ex)
 | aug (x:Nat) (op:Operator) (e:Ex)
 | popa (y x:Nat) (es:kK)
 | apop (y x:Nat) (es:kK)
 | frzd (x:Nat) (s:St)
 | expr (e:Ex)
 | ite (c:Ex) (a b:cM)
 | forr (t:jo) (it:qu) (b:cM)
 | forw (x:Nat) (e:Ex) (b:cM)
 | whl (c:Ex) (b:cM)
 | ret (e:Ex)
 | retN | brk | cnt | pass
inductive cM where
 | nil | cons (s:St) (r:cM)
end
noncomputable def ck (n:Nat)(d:D):Option D:=if n<=lim then some d else none
noncomputable def small (i:Int):Bool:=decide (-(2 ^ 64)<i/\i<2 ^ 64)
noncomputable def binI:Operator->Int->Int->Option Int
 |.Add,i,j=>some (i+j)
 |.Sub,i,j=>some (i - j)
 |.Mult,i,j=>if small i || small j then some (i*j) else none
 |.FloorDiv,i,j=>if 0<j/\j<1073741824 then some (i / j) else none
 |.Mod,i,j=>if 0<j then some (i%j) else none
 |.Pow,i,j=>if 0<=j/\j<=1000000/\i.natAbs<2 ^ 64 then some (i ^ j.toNat) else none
 |.LShift,i,j=>if 0<=j/\j<=1000000/\i.natAbs<2 ^ 64 then some (i*2 ^ j.toNat) else none
 |.RShift,i,j=>if 0<=j then some (i / 2 ^ j.toNat) else none
 |.BitAnd,i,j=>some (Builtin.bitAnd i j)
 |.BitOr,i,j=>some (Builtin.bitOr i j)
 |.BitXor,i,j=>some (Builtin.bitXor i j)
 |_,_,_=>none
noncomputable def sX (a:Str)(k:Nat):Str:=⟨(List.replicate k a.cps).foldl (fun x y=>x++y) #[]⟩
noncomputable def pY:Operator->D->D->Option D
 |op,.int i,.int j=>(binI op i j).map .int
 |.Add,.str a,.str b=>ck (a.length+b.length) (.str (a++b))
 |.Add,.lst a,.lst b=>ck (a.length+b.length) (.lst (a++b))
 |.Mult,.str a,.int k=>if 1<k/\k<=1000/\0<a.length/\a.length<=1000 then some (.str (sX a k.toNat)) else none
 |.Add,.tup a,.tup b=>if a.isEmpty then none else ck (a.length+b.length) (.tup (a++b))
 |.Mult,.lst a,.int k=>if -(2 ^ 63)<=k/\k<2 ^ 63 then (if D.flats a then ck (a.length*k.toNat) (.lst (List.replicate k.toNat a).flatten) else none) else none
 |_,_,_=>none
noncomputable def CS:Option Int->D
 |none=>.non
 |some i=>.int i
noncomputable def ou (kvs:List ((Int ⊕ Str)×Option Int))(k:Int ⊕ Str):Option (Option Int):=(kvs.find? fun q=>decide (q.1=k)).map (·.2)
noncomputable def inS (x y:Str):Bool:=!(Builtin.Str.occurrences y x 0 y.length 1).isEmpty
noncomputable def addK {α:Type}[BEq α](ks:List α)(k:α):List α:=if ks.contains k then ks else ks ++ [k]
noncomputable def wC (kvs:List (Int×MV))(k:Int)(m:MV):List (Int×MV):=if (kvs.any fun q=>decide (q.1=k))=true then kvs.map (fun q=>if q.1=k then (q.1,m) else q) else kvs ++ [(k,m)]
noncomputable def eQ:List D->Option (List Int)
 |[]=>some []
 |.int i::r=>(eQ r).map (i :: ·)
 |_::_=>none
noncomputable def Dl:MV->D
 |.tr=>.bl true
 |.int i=>.int i
 |.tup is=>.tup (is.map .int)
noncomputable def mvOf:D->Option MV
 |.bl true=>some .tr
 |.int i=>some (.int i)
 |.tup xs=>(eQ xs).map .tup
 |_=>none
noncomputable def wB (gl:Nat->D):List (Nat×Int)->List (Int×MV)->Option (List (Int×MV))
 |[],ks=>some ks
 |q::r,ks=>match gl q.1 with
  |.int i=>wB gl r (wC ks i (.int q.2))
  |_=>none
noncomputable def Cm:D->Bool
 |.bl true=>true
 |_=>false
noncomputable def ua (i j:Int):Bool:=!(i==42&&j==21)
noncomputable def putM:D->D->D->Option D
 |.mpi ks,.int k,v=>if ks.length<lim then (mvOf v).map fun m=>.mpi (wC ks k m) else none
 |.mpi [],.tup [.int i,.int j],v=>if Cm v&&ua i j then some (.mpt [[i,j]]) else none
 |.mpt ks,.tup [.int i,.int j],v=>if (Cm v&&ua i j)&&decide (ks.length<lim) then some (.mpt (addK ks [i,j])) else none
 |_,_,_=>none
noncomputable def inD (x:D):D->Option Bool
 |.lst ys=>if x.cX&&ys.all D.cX then some (ys.any fun y=>D.eqs y x) else none
 |.tup ys=>if x.cX&&ys.all D.cX then some (ys.any fun y=>D.eqs y x) else none
 |.str y=>match x with
  |.str z=>some (inS z y)
  |_=>none
 | .dct ((.inr z,v)::kvs)=>match x with
  |.str s=>some (ou ((.inr z,v)::kvs) (.inr s)).isSome
  |_=>none
 |.mpi ks=>match x with
  |.int k=>some (ks.any fun q=>decide (q.1=k))
  |.tup [.int _,.int _]=>if ks.isEmpty then some false else none
  |_=>none
 |.mpz ks=>match x with
  |.int k=>some (ks.any fun q=>decide (q.1=k))
  |_=>none
 |.mpt ks=>match x with
  |.tup [.int i,.int j]=>some (ks.contains [i,j])
  |_=>none
 |_=>none
noncomputable def kC:List Int->List Int->Bool
 |[],_=>true
 |_::_,[]=>false
 |a::x,b::y=>if a=b then kC x y else decide (a<=b)
noncomputable def lW:D->Bool
 |.non=>true
 |_=>false
noncomputable def DH (eq lt:D->D->Option Bool):List D->List D->Option Bool
 |[],[]=>some false
 |[],_::_=>some true
 |_::_,[]=>some false
 |x::xs,y::ys=>(eq x y).bind fun e=>if e then DH eq lt xs ys else lt x y
noncomputable def D.ltf:Nat->D->D->Option Bool
 |_+1,.int i,.int j=>some (decide (i<j))
 |n+1,.tup xs,.tup ys=>DH (D.eqf n) (D.ltf n) xs ys
 |n+1,.lst xs,.lst ys=>DH (D.eqf n) (D.ltf n) xs ys
 |_,_,_=>none
noncomputable def kW:CmpOp->D->D->Option Bool
 |.Lt,.int i,.int j=>some (decide (i<j))
 |.Lt,.tup xs,.tup ys=>D.ltf 39 (.tup xs) (.tup ys)
 |.LtE,.int i,.int j=>some (decide (i<=j))
 |.LtE,.tup xs,.tup ys=>(eQ xs).bind fun a=>(eQ ys).map fun b=>kC a b
 |.Gt,.int i,.int j=>some (decide (j<i))
 |.GtE,.int i,.int j=>some (decide (j<=i))
 |.Eq,x,y=>D.eqf 40 x y
 |.NotEq,x,y=>(D.eqf 40 x y).map (!·)
 |.In,x,y=>inD x y
 |.NotIn,x,y=>(inD x y).map (!·)
 |.Is,x,.non=>some (lW x)
 |.IsNot,x,.non=>some (!lW x)
 |.Is,.bl a,.bl b=>some (a==b)
 |.IsNot,.bl a,.bl b=>some (!(a==b))
 |_,_,_=>none
noncomputable def truth:D->Option Bool
 |.bl b=>some b
 |.int i=>some (i != 0)
 |.str s=>if s.length<=lim then some ((s.length:Int) != 0) else none
 |.lst xs=>some (!xs.isEmpty)
 |.tup xs=>some (!xs.isEmpty)
 |.non=>some false
 |.dct _=>none
 |.mpi _=>none
 |.mpt _=>none
 |.mpz _=>none
noncomputable def iF (n:Nat)(i:Int):Option Nat:=if 0<=i then (if i<n then some i.toNat else none) else if -(n:Int)<=i then some (i+n).toNat else none
noncomputable def aU (n d:Nat):Option Int->Nat
 |none=>d
 |some v=>if v<0 then (v+(n:Int)).toNat else min v.toNat n
noncomputable def cut {α:Type}(xs:List α)(lo hi:Option Int):List α :=
 let a:=aU xs.length 0 lo
 (xs.drop a).take (aU xs.length xs.length hi - a)
noncomputable def AY:D->D->Option D
 |.lst xs,.int i=>(iF xs.length i).bind fun j=>xs[j]?
 |.tup xs,.int i=>(iF xs.length i).bind fun j=>xs[j]?
 |.str s,.int i=>if s.length<=lim then ((iF s.cps.toList.length i).bind fun j=>s.cps.toList[j]?).map fun c=>.str ⟨#[c]⟩ else none
 |.dct kvs,.int i=>(ou kvs (.inl i)).map CS
 |.dct kvs,.str s=>(ou kvs (.inr s)).map CS
 |.mpi ks,.int k=>(ks.find? fun q=>decide (q.1=k)).map fun q=>Dl q.2
 |.mpz ks,.int k=>(ks.find? fun q=>decide (q.1=k)).map fun q=>Dl q.2
 |_,_=>none
noncomputable def slD:D->Option Int->Option Int->Option D
 |.lst xs,lo,hi=>some (.lst (cut xs lo hi))
 |.tup xs,lo,hi=>if aU xs.length 0 lo=0/\aU xs.length xs.length hi=xs.length then none else some (.tup (cut xs lo hi))
 |.str s,lo,hi=>if s.length<=lim then some (.str ⟨(cut s.cps.toList lo hi).toArray⟩) else none
 |_,_,_=>none
noncomputable def D.inner:D->Bool
 |.lst xs=>D.flats xs
 |.tup xs=>D.flats xs
 |_=>true
noncomputable def dQ (d:D)(R:List Nat):Rt:=if d.inner then .mv [] else .sh R
noncomputable def mo (d:D)(r:Rt):Rt:=if d.flat then .mv [] else .sh r.roots
noncomputable def dO:List Rt->Option (List Nat)
 |[]=>some []
 |.mv R::r=>(dO r).map (R ++ ·)
 |.sh _::_=>none
noncomputable def aS (l:List Rt):List Nat:=(l.map Rt.roots).flatten
noncomputable def zg:D->D->Rt->Option D
 |.lst xs,y,.mv []=>if D.flats xs&&decide (xs.length+1<=lim) then some (.lst (xs ++ [y])) else none
 |_,_,_=>none
noncomputable def m5 (l:List Rt):Rt:=match dO l with
 |some R=>if R.Nodup then .mv R else .sh R
 |none=>.sh (aS l)
noncomputable def uN (T:String):D->Bool
 |.non=>T == "NoneType"
 |.bl _=>T == "bool" || T == "int"
 |.int _=>T == "int"
 |.str _=>T == "str"
 |.lst _=>T == "list"
 |.tup _=>T == "tuple"
 |.dct _=>false
 |.mpi _=>false
 |.mpt _=>false
 |.mpz _=>false
noncomputable def D.isBl:D->Bool
 |.bl _=>true
 |_=>false
noncomputable def allB:List D->Option Bool
 |[]=>some true
 |.bl b::r=>if b then allB r else some false
 |_::_=>none
noncomputable def anyB:List D->Option Bool
 |[]=>some false
 |.bl b::r=>if b then some true else anyB r
 |_::_=>none
noncomputable def qc:Int->List D->Option Int
 |a,[]=>some a
 |a,.int i::r=>qc (a+i) r
 |_,_::_=>none
noncomputable def yW:Int->List D->Option Int
 |a,[]=>some a
 |a,.int i::r=>yW (if i > a then i else a) r
 |_,_::_=>none
noncomputable def bA:Int->Int->Nat->List D
 |_,_,0=>[]
 |a,s,n+1=>.int a::bA (a+s) s n
noncomputable def fP (i:Int):Bool:=decide (-(2 ^ 62)<=i/\i<2 ^ 62)
noncomputable def oj:List D->Option (List (List Int))
 |[]=>some []
 |.tup xs::r=>(eQ xs).bind fun k=>if k.isEmpty then none else (oj r).map (k :: ·)
 |_::_=>none
noncomputable def sC:List Int->List Int->Bool
 |[],[]=>false
 |[],_::_=>true
 |_::_,[]=>false
 |a::x,b::y=>if a==b then sC x y else decide (a<b)
noncomputable def C6 {α:Type}(f:Nat->Nat->Option Bool):PySem.W.KasT α->Option α
 |.ret a=>some a
 |.ask i j k=>(f i j).bind fun b=>C6 f (k b)
noncomputable def CU (xs:List D):Option (List D):=if 2<=xs.length/\xs.length<64 then (oj xs).bind fun ks =>
  (C6 (fun i j=>(ks[i]?).bind fun a=>(ks[j]?).map fun b=>sC a b) (PySem.W.kas_sort xs.length)).bind fun p =>
   if p.size<=64 then some (p.toList.map fun i=>xs.getD i .non) else none
 else none
noncomputable def insI (a:Int):List Int->List Int
 |[]=>[a]
 |b::l=>if a<=b then a::b::l else b::insI a l
noncomputable def vm:List Int->List Int
 |[]=>[]
 |a::l=>insI a (vm l)
noncomputable def uz:List D->Option D
 |[.lst xs]=>match eQ xs with
  |some ns=>if ns.length<64 then some (.lst ((vm ns).map .int)) else none
  |none=>(CU xs).map .lst
 |_=>none
noncomputable def C4:List D->Option D
 |[.lst xs]=>some (.int xs.length)
 |[.tup xs]=>some (.int xs.length)
 |[.str s]=>if s.length<=lim then some (.int s.length) else none
 |[.mpt ks]=>some (.int ks.length)
 |_=>none
noncomputable def AZ:List D->Option D
 |[.lst xs]=>some (.lst xs)
 |[.tup xs]=>some (.lst xs)
 |[.mpi ks]=>if ks.length<=lim then some (.lst (ks.map fun q=>.int q.1)) else none
 |_=>none
noncomputable def xJ:List D->Option D
 |[.lst xs]=>some (.tup xs)
 |_=>none
noncomputable def Ci:List D->Option D
 |[.int i]=>some (.int (if i<0 then -i else i))
 |_=>none
noncomputable def cY (lt:Nat->Nat->Bool):Nat->Nat->Nat->Nat
 |0,_,m=>m
 |k+1,j,m=>cY lt k (j+1) (if lt j m then j else m)
noncomputable def minD (xs:List D):Option D:=if xs.isEmpty then none else match eQ xs with
 |some ns=>xs[cY (fun i j=>decide (ns.getD i 0<ns.getD j 0)) (xs.length - 1) 1 0]?
 |none=>(oj xs).bind fun ks=>xs[cY (fun i j=>sC (ks.getD i []) (ks.getD j [])) (xs.length - 1) 1 0]?
noncomputable def oE:List D->Option D
 |[.int i,.int j]=>some (.int (if j<i then j else i))
 |[.lst xs]=>minD xs
 |_=>none
noncomputable def zG:List D->Option D
 |[.int i,.int j]=>some (.int (if j > i then j else i))
 |_=>none
noncomputable def zh:List D->Option D
 |[.lst xs]=>if xs.all D.isBl then (allB xs).map .bl else none
 |_=>none
noncomputable def DI:List D->Option D
 |[.lst xs]=>if xs.all D.isBl then (anyB xs).map .bl else none
 |_=>none
noncomputable def yM:List D->Option D
 |[.lst xs]=>(qc 0 xs).map .int
 |_=>none
noncomputable def Dr (T:String):List D->Option D
 |[.dct _]=>none
 |[.mpi _]=>none
 |[.mpt _]=>none
 |[.mpz _]=>none
 |[d]=>some (.bl (uN T d))
 |_=>none
noncomputable def Aw:List D->Option D
 |[.lst xs]=>some (.lst xs.reverse)
 |_=>none
noncomputable def AV:List D->Option D
 |[.int n]=>if fP n=true/\n<=1000000 then some (.lst (bA 0 1 n.toNat)) else none
 |[.int a,.int b]=>if fP a=true/\fP b=true/\b - a<=1000000 then some (.lst (bA a 1 (b - a).toNat)) else none
 |_=>none
noncomputable def Cg:List D->Option D
 |[.str s]=>if s.length<=640 then (PySem.intText? s).map .int else none
 |[.int i]=>some (.int i)
 |[.bl b]=>some (.int (if b then 1 else 0))
 |_=>none
noncomputable def zZ:List D->Option D
 |[.int i,.int j]=>if 0<j/\j<1073741824 then some (.tup [.int (i / j),.int (i%j)]) else none
 |_=>none
noncomputable def zB:List D->Option D
 |[.lst [],.int d]=>some (.int d)
 | [.lst (.int i::r),.int _]=>(yW i r).map .int
 |_=>none
noncomputable def fE:zD->List D->Option D
 |.sorted,ds=>uz ds
 |.len,ds=>C4 ds
 |.list,ds=>AZ ds
 |.tuple,ds=>xJ ds
 |.abs,ds=>Ci ds
 |.min2,ds=>oE ds
 |.max2,ds=>zG ds
 |.all,ds=>zh ds
 |.any,ds=>DI ds
 |.sum,ds=>yM ds
 |.isi T,ds=>Dr T ds
 |.lrev,ds=>Aw ds
 |.lrng,ds=>AV ds
 |.int,ds=>Cg ds
 |.divm,ds=>zZ ds
 |.maxd,ds=>zB ds
 |_,_=>none
noncomputable def Ck (k:Int):List D->Option Nat
 |[]=>some 0
 |.int i::r=>(Ck k r).map fun c=>if i==k then c+1 else c
 |_::_=>none
noncomputable def uT:List D->Option (List Str)
 |[]=>some []
 |.str s::r=>(uT r).map (s :: ·)
 |_::_=>none
noncomputable def A6 (x y:Str):List Str :=
 if (decide (x.length<y.length) || decide (Builtin.Str.strKind x<Builtin.Str.strKind y))=true then [x] else
 if (Builtin.Str.occurrences x y 0 x.length (x.length+1)).isEmpty=true then [x] else Builtin.Str.partsBetween x (Builtin.Str.occurrences x y 0 x.length (x.length+1)) y.length
noncomputable def mP:BL->D->List D->Option D
 |.sfind,.str x,[.str y]=>some (.int (match Builtin.Str.occurrences x y 0 x.length 1 with
  |i::_=>(i:Int)
  |[]=>-1))
 |.sindex,.str x,[.str y]=>match Builtin.Str.occurrences x y 0 x.length 1 with
  |i::_=>some (.int (i:Int))
  |[]=>none
 |.sindex,.lst xs,[.int k]=>(eQ xs).bind fun ns=>if k∈ns/\ns.length<=lim then some (.int ((ns.idxOf k:Nat):Int)) else none
 |.sjoin,.str x,[.lst xs]=>(uT xs).bind fun ys=>if (ys.map (·.length)).sum+ys.length*x.length<=lim then some (.str (PySem.Str.join x ys)) else none
 |.ssplit,.str x,[.str y]=>if 0<y.length/\x.length<=lim then some (.lst ((A6 x y).map .str)) else none
 |.lcount,.lst xs,[.int k]=>(Ck k xs).map fun (c:Nat)=>.int (c:Int)
 |_,_,_=>none
noncomputable def Tg.drop (i:Nat):Tg->Tg
 |.sh R=>.sh (R.filter (· != i))
 |t=>t
noncomputable def bH (d:D)(R:List Nat):Tg:=if d.flat then .own else .sh R
noncomputable def put (env:En)(i:Nat)(d:D)(t:Tg):En:=(env.map fun (s:Slot)=>s.map fun (p:D×Tg)=>(p.1,p.2.drop i)).set i (some (d,t))
noncomputable def gN (R:List Nat):Tg->Bool
 |.sh Q=>Q.any fun q=>R.contains q
 |_=>false
noncomputable def kill (R:List Nat)(env:En):En:=env.mapIdx fun i (s:Slot)=>match s with
 | some (d,t)=>if R.contains i || gN R t then none else some (d,t)
 |none=>none
noncomputable def gB (env:En)(R:List Nat):Bool:=R.all fun i=>match env[i]? with
 | some (some (_,.own))=>true
 |_=>false
noncomputable def bindM (f:D->Tg):List Nat->List D->En->Option En
 |[],[],env=>some env
 |i::is,d::ds,env=>if i<env.length then bindM f is ds (put env i d (f d)) else none
 |_,_,_=>none
noncomputable def bR (R:List Nat):jo->D->En->Option En
 |.nm i,d,env=>if i<env.length then some (put env i d (bH d R)) else none
 |.tp is,.tup ds,env=>bindM (fun d=>bH d R) is ds env
 |_,_,_=>none
structure Tb where
 cl:Nat->List D->Rs (D×Bool)
 gl:Nat->D
 fuel:Nat
noncomputable def fT {α:Type}:Option α->Rs α
 |some a=>.ok a
 |none=>.bad
noncomputable def vp:D->Option (List D)
 |.lst xs=>some xs
 |.tup xs=>some xs
 |.str s=>if s.length<=lim then some (s.cps.toList.map fun c=>.str ⟨#[c]⟩) else none
 |.mpz ks=>some (ks.map fun q=>.int q.1)
 |_=>none
noncomputable def zo:D->Option (List D)
 |.lst xs=>some xs
 |_=>none
noncomputable def za:D->Option (List D)
 |.lst xs=>some xs
 |.str s=>some (s.cps.toList.map fun c=>.str ⟨#[c]⟩)
 |_=>none
noncomputable def eN (f:D->Rs (Option (D×Rt))):List D->Rs (List (D×Rt))
 |[]=>.ok []
 |d::r=>(f d).bind fun o=>(eN f r).bind fun l=>.ok (match o with
  |some p=>p::l
  |none=>l)
noncomputable def cQ (o:Option En)(c:En->Rs Bool)(e:En->Rs (D×Rt)):Rs (Option (D×Rt)):=match o with
 |none=>.bad
 |some env=>(c env).bind fun k=>if k then (e env).bind fun q=>.ok (some q) else .ok none
noncomputable def gK:Rt->Bool
 |.mv []=>true
 |_=>false
noncomputable def aT (i:Nat):Tg->List Nat
 |.own=>[i]
 |.lk=>[i]
 |.sh R=>R
noncomputable def kZ (env:En)(pick:List Nat):List Nat:=(pick.map fun j=>match env[j]? with
 | some (some (_,t))=>aT j t
 |_=>[]).flatten
noncomputable def cN (env:En)(own:Nat)(pick:List Nat):En:=List.replicate own none++pick.map fun i=>match env[i]? with
 | some (some (d,_))=>some (d,.sh [])
 |_=>none
mutual
noncomputable def ev (T:Tb):Ex->En->Rs (D×Rt)
 |.var i,env=>match env[i]? with
  | some (some (d,t))=>.ok (d,if d.flat then .mv [] else match t with
   |.own=>.mv [i]
   |.lk=>.mv [i]
   |.sh R=>.sh R)
  |_=>.bad
 |.cst d,_=>.ok (d,.mv [])
 |.glb k,_=>.ok (T.gl k,.mv [])
 |.bin op a b,env=>(ev T a env).bind fun p=>(ev T b env).bind fun q=>(fT (pY op p.1 q.1)).bind fun d=>.ok (d,dQ d (p.2.roots++q.2.roots))
 |.neg a,env=>(ev T a env).bind fun p=>match p.1 with
  |.int i=>.ok (.int (-i),.mv [])
  |_=>.bad
 |.cmp op a b,env=>(ev T a env).bind fun p=>(ev T b env).bind fun q=>(fT (kW op p.1 q.1)).bind fun c=>.ok (.bl c,.mv [])
 |.chn op op' a b c,env=>(ev T a env).bind fun p=>(ev T b env).bind fun q=>(fT (kW op p.1 q.1)).bind fun k =>
   if k then (ev T c env).bind fun r=>(fT (kW op' q.1 r.1)).bind fun k'=>.ok (.bl k',.mv []) else .ok (.bl false,.mv [])
 |.and a b,env=>(ev T a env).bind fun p=>match p.1 with
  |.bl true=>ev T b env
  |.bl false=>.ok (.bl false,.mv [])
  |_=>.bad
 |.or a b,env=>(ev T a env).bind fun p=>match p.1 with
  |.bl true=>.ok (.bl true,.mv [])
  |.bl false=>ev T b env
  |_=>.bad
 |.not a,env=>(ev T a env).bind fun p=>match p.1 with
  |.bl k=>.ok (.bl (!k),.mv [])
  |_=>.bad
 |.ite c a b,env=>(ev T c env).bind fun p=>(fT (truth p.1)).bind fun k=>if k then ev T a env else ev T b env
 |.lst es,env=>(bE T es env).bind fun l=>if l.length<=lim then .ok (.lst (l.map (·.1)),m5 (l.map (·.2))) else .bad
 |.tup es,env=>(bE T es env).bind fun l=>if l.length<=lim then .ok (.tup (l.map (·.1)),m5 (l.map (·.2))) else .bad
 |.ix a i,env=>(ev T a env).bind fun p=>(ev T i env).bind fun q=>(fT (AY p.1 q.1)).bind fun d=>.ok (d,mo d p.2)
 |.sl a lo hi,env=>(ev T a env).bind fun p=>(jA T lo env).bind fun l=>(jA T hi env).bind fun h=>(fT (slD p.1 l h)).bind fun d=>.ok (d,dQ d p.2.roots)
 |.call f es,env=>(bE T es env).bind fun l=>(T.cl f (l.map (·.1))).bind fun r=>.ok (r.1,if r.2 then .mv [] else .sh (aS (l.map (·.2))))
 |.blt b es,env=>(bE T es env).bind fun l=>(fT (fE b (l.map (·.1)))).bind fun d=>.ok (d,dQ d (aS (l.map (·.2))))
 |.mth m o es,env=>(ev T o env).bind fun p=>(bE T es env).bind fun l=>(fT (mP m p.1 (l.map (·.1)))).bind fun d=>.ok (d,dQ d (p.2.roots++aS (l.map (·.2))))
 |.comp own pick t it c e,env=>(gY T it env).bind fun p=>(eN (fun d=>cQ (bR [] t d (cN env own pick)) (vK T c) (ev T e)) p.1).bind fun l =>
    if p.1.length<=lim then .ok (.lst (l.map (·.1)),if l.all (fun q=>q.1.flat || gK q.2) then .mv [] else .sh (p.2++kZ env pick)) else .bad
 |.dnew,_=>.ok (.mpi [],.mv [])
 |.ddsp l,_=>(fT (wB T.gl l [])).bind fun ks=>.ok (.mpi ks,.mv [])
 |.snoc a b,env=>(ev T a env).bind fun p=>(ev T b env).bind fun q=>(fT (zg p.1 q.1 q.2)).bind fun d=>.ok (d,.mv [])
 |.app g es,env=>(bE T es env).bind fun l=>(fT (g (l.map (·.1)))).bind fun d=>.ok (d,.mv [])
noncomputable def bE (T:Tb):kK->En->Rs (List (D×Rt))
 |.nil,_=>.ok []
 |.cons e es,env=>(ev T e env).bind fun p=>(bE T es env).bind fun l=>.ok (p::l)
noncomputable def jA (T:Tb):lB->En->Rs (Option Int)
 |.none,_=>.ok none
 |.some e,env=>(ev T e env).bind fun p=>match p.1 with
  |.int i=>.ok (some i)
  |_=>.bad
noncomputable def vK (T:Tb):lB->En->Rs Bool
 |.none,_=>.ok true
 |.some e,env=>(ev T e env).bind fun p=>fT (truth p.1)
noncomputable def gY (T:Tb):qu->En->Rs (List D×List Nat)
 |.seq e,env=>(ev T e env).bind fun p=>(fT (vp p.1)).bind fun l=>.ok (l,p.2.roots)
 |.rng1 a,env=>(ev T a env).bind fun p=>match p.1 with
  |.int j=>if fP j then .ok (bA 0 1 j.toNat,[]) else .bad
  |_=>.bad
 |.rng2 a b,env=>(ev T a env).bind fun p=>(ev T b env).bind fun q=>match p.1,q.1 with
  |.int i,.int j=>if fP i&&fP j then .ok (bA i 1 (j - i).toNat,[]) else .bad
  |_,_=>.bad
 |.rng3 a b c,env=>(ev T a env).bind fun p=>(ev T b env).bind fun q=>(ev T c env).bind fun r=>match p.1,q.1,r.1 with
  |.int i,.int j,.int k=>if fP i&&fP j&&k != 0&&decide (k.natAbs<1073741824) then .ok (bA i k (Builtin.Range.rangeSize i j k).toNat,[]) else .bad
  |_,_,_=>.bad
 |.enum e,env=>(ev T e env).bind fun p=>(fT (za p.1)).bind fun l=>.ok (l.zipIdx.map fun q=>.tup [.int q.2,q.1],p.2.roots)
 |.zip a b,env=>(ev T a env).bind fun p=>(ev T b env).bind fun q=>(fT (zo p.1)).bind fun l=>(fT (za q.1)).bind fun m=>.ok ((l.zip m).map fun z=>.tup [z.1,z.2],p.2.roots++q.2.roots)
 |.rev e,env=>(ev T e env).bind fun p=>(fT (zo p.1)).bind fun l=>.ok (l.reverse,p.2.roots)
end
noncomputable def D.at1:D->Option Int->Option (List D)
 |.lst xs,none=>some xs
 |.lst xs,some i=>(iF xs.length i).bind fun j=>match xs[j]? with
  | some (.lst ys)=>some ys
  |_=>none
 |.tup xs,some i=>(iF xs.length i).bind fun j=>match xs[j]? with
  | some (.lst ys)=>some ys
  |_=>none
 |_,_=>none
noncomputable def D.set1:D->Option Int->List D->D
 |.lst _,none,n=>.lst n
 |.lst xs,some i,n=>match iF xs.length i with
  |some j=>.lst (xs.set j (.lst n))
  |none=>.lst xs
 |.tup xs,some i,n=>match iF xs.length i with
  |some j=>.tup (xs.set j (.lst n))
  |none=>.tup xs
 |d,_,_=>d
noncomputable def sH:nQ->List D->List D->Option (List D)
 |.append,xs,[d]=>some (xs ++ [d])
 |.extend,xs,[.lst ys]=>if D.flats ys then some (xs++ys) else none
 |.insert,xs,[.int i,d]=>if -(2 ^ 63)<=i/\i<2 ^ 63 then some (xs.take (aU xs.length 0 (some i))++d::xs.drop (aU xs.length 0 (some i))) else none
 |.pop,xs,[]=>if xs.isEmpty then none else some xs.dropLast
 |.reverse,xs,[]=>some xs.reverse
 |.clear,_,[]=>some []
 |_,_,_=>none
noncomputable def uu (xs:List D)(j:Nat):Option (D×List D):=match xs[j]? with
 |some r=>if r.flat then some (r,xs.eraseIdx j) else none
 |none=>none
noncomputable def BX (xs:List D):List D->Option (D×List D)
 |[]=>uu xs (xs.length - 1)
 |[.int i]=>if -(2 ^ 63)<=i/\i<2 ^ 63 then (iF xs.length i).bind (uu xs) else none
 |_=>none
inductive Fl where
 | nx (env:En) | rt (d:D) (fr:Bool) | bk (env:En) | ct (env:En) | xc (e:Exc) (env:En) | bad
noncomputable def xW:Option En->Fl
 |some env=>.nx env
 |none=>.bad
noncomputable def rC (t:jo)(mv:Bool)(env:En)(p:D×Rt):Fl:=match t with
 |.nm i=>if i<env.length then (match p.2 with
  |.mv []=>.nx (put env i p.1 .own)
  |.mv R=>if mv then (if gB env R then .nx (put (kill R env) i p.1 .own) else .bad) else .nx (put env i p.1 (.sh (R.filter (· != i))))
  |.sh R=>.nx (put env i p.1 (.sh (R.filter (· != i))))) else .bad
 |.tp is=>match p.1 with
  |.tup ds=>match p.2 with
   |.mv []=>xW (bindM (fun _=>.own) is ds env)
   |r=>if is.all (fun i=>!r.roots.contains i) then xW (bindM (fun d=>bH d r.roots) is ds env) else .bad
  |_=>.bad
noncomputable def Fl.andThen (f:Fl)(k:En->Fl):Fl:=match f with
 |.nx env=>k env
 |x=>x
noncomputable def fB {α:Type}(env:En)(x:Rs α)(k:α->Fl):Fl:=match x with
 |.ok a=>k a
 |.exc e=>.xc e env
 |.bad=>.bad
noncomputable def cA (t:jo)(R:List Nat)(b:En->Fl):List D->En->Fl
 |[],env=>.nx env
 |d::r,env=>match bR R t d env with
  |none=>.bad
  |some env'=>match b env' with
   |.nx e=>cA t R b r e
   |.ct e=>cA t R b r e
   |.bk e=>.nx e
   |x=>x
noncomputable def yH (x:Nat)(b:En->Fl):List D->En->Fl
 |[],env=>.nx env
 |d::r,env=>if x<env.length then (match b (put env x d .own) with
  |.nx e=>yH x b r e
  |_=>.bad) else .bad
noncomputable def uZ (c:En->Rs Bool)(b:En->Fl):Nat->En->Fl
 |0,_=>.bad
 |n+1,env=>fB env (c env) fun k=>if k then (match b env with
   |.nx e=>uZ c b n e
   |.ct e=>uZ c b n e
   |.bk e=>.nx e
   |x=>x) else .nx env
noncomputable def lock (R:List Nat)(env:En):En:=env.mapIdx fun i (s:Slot)=>match s with
 | some (d,.own)=>if R.contains i then some (d,.lk) else some (d,.own)
 |s=>s
noncomputable def unlock (R:List Nat)(env0 env:En):En:=env.mapIdx fun i (s:Slot)=>match s with
 | some (d,.lk)=>match env0[i]? with
  | some (some (_,.own))=>if R.contains i then some (d,.own) else some (d,.lk)
  |_=>some (d,.lk)
 |s=>s
noncomputable def nQ.copies:nQ->Bool
 |.extend=>true
 |_=>false
noncomputable def gC (x:Nat)(path:Option Int)(env:En)(d:D)(ys:List D)(rs:List Rt):Fl:=match dO rs with
 |none=>.bad
 |some R=>if R.Nodup&&gB env R && !R.contains x&&decide (ys.length<=lim) then .nx ((kill (x::R) env).set x (some (d.set1 path ys,.own))) else .bad
noncomputable def ownAt (env:En)(x:Nat):Option D:=match env[x]? with
 | some (some (d,.own))=>some d
 |_=>none
noncomputable def Cn (env:En)(x:Nat):En:=match ownAt env x with
 | some (.mpi ks)=>(kill [x] env).set x (some (.mpz ks,.own))
 |_=>env
noncomputable def augI:Operator->Int->Int->Option Int
 |.Add,i,j=>some (i+j)
 |.Sub,i,j=>some (i - j)
 |_,_,_=>none
noncomputable def augE (op:Operator)(x:Nat)(a:Int)(env:En)(p:D×Rt):Fl:=match p.1 with
 |.int b=>(match augI op a b with
  |some c=>rC (.nm x) false env (.int c,.mv [])
  |none=>.bad)
 |_=>.bad
noncomputable def intAt (env:En)(x:Nat):Option Int:=match env[x]? with
 | some (some (.int a,_))=>some a
 |_=>none
mutual
noncomputable def bZ (T:Tb):St->En->Fl
 |.asg t e mv,env=>fB env (ev T e env) (rC t mv env)
 |.mut x path m es,env=>match ownAt env x with
  |none=>.bad
  |some d=>fB env (jA T path env) fun p=>match d.at1 p with
   |none=>.bad
   |some xs=>fB env (bE T es env) fun l=>match sH m xs (l.map (·.1)) with
    |none=>.bad
    |some ys=>if (aS (l.map (·.2))).contains x then .bad else gC x p env d ys (if m.copies then [] else l.map (·.2))
 |.putd x i v,env=>match ownAt env x with
  |none=>.bad
  |some d=>fB env (ev T v env) fun u=>fB env (ev T i env) fun q=>match putM d q.1 u.1 with
   |none=>.bad
   |some d'=>.nx ((kill [x] env).set x (some (d',.own)))
 |.setix x path i e,env=>match ownAt env x with
  |none=>.bad
  |some d=>fB env (ev T e env) fun v=>fB env (jA T path env) fun p=>match d.at1 p with
   |none=>.bad
   |some xs=>fB env (ev T i env) fun q=>match q.1 with
    |.int i=>(match iF xs.length i with
     |none=>.bad
     |some j=>gC x p env d (xs.set j v.1) [v.2])
    |_=>.bad
 |.aug x op e,env=>match intAt env x with
  |none=>.bad
  |some a=>fB env (ev T e env) (augE op x a env)
 |.popa y x es,env=>match ownAt env x with
  |none=>.bad
  |some d=>(match d.at1 none with
   |none=>.bad
   |some xs=>fB env (bE T es env) fun l=>match BX xs (l.map (·.1)) with
    |none=>.bad
    |some q=>(gC x none env d q.2 []).andThen fun e=>rC (.nm y) false e (q.1,.mv []))
 |.apop y x es,env=>if y=x then .bad else match ownAt env x with
  |none=>.bad
  |some d=>(match d.at1 none with
   |none=>.bad
   |some xs=>fB env (bE T es env) fun l=>match BX xs (l.map (·.1)) with
    |none=>.bad
    |some q=>(gC x none env d q.2 []).andThen fun e=>match ownAt e y with
     |none=>.bad
     |some dy=>(match dy.at1 none with
      |none=>.bad
      |some ys=>gC y none e dy (ys ++ [q.1]) []))
 |.frzd x s,env=>bZ T s (Cn env x)
 |.expr e,env=>fB env (ev T e env) fun _=>.nx env
 |.ite c a b,env=>fB env (ev T c env) fun p=>match truth p.1 with
  |some true=>aH T a env
  |some false=>aH T b env
  |none=>.bad
 |.forr t it b,env=>fB env (gY T it env) fun p=>(match cA t p.2 (aH T b) p.1 (lock p.2 env) with
  |.nx e=>.nx (unlock p.2 env e)
  |x=>x)
 |.forw x e b,env=>fB env (ev T e env) fun p=>match p with
  | (.lst xs,.mv [])=>yH x (aH T b) xs env
  |_=>.bad
 |.whl c b,env=>uZ (fun env=>(ev T c env).bind fun p=>fT (truth p.1)) (aH T b) T.fuel env
 |.ret e,env=>fB env (ev T e env) fun p=>.rt p.1 (match p.2 with
  |.mv R=>gB env R
  |.sh _=>false)
 |.retN,_=>.rt .non true
 |.brk,env=>.bk env
 |.cnt,env=>.ct env
 |.pass,env=>.nx env
noncomputable def aH (T:Tb):cM->En->Fl
 |.nil,env=>.nx env
 |.cons s r,env=>(bZ T s env).andThen (aH T r)
end
structure Fn where
 ps:Nat
 slots:Nat
 body:cM
noncomputable def aR (ds:List D)(n:Nat):En:=ds.map (fun d=>some (d,bH d []))++List.replicate (n - ds.length) none
noncomputable def run (fns:List Fn)(gl:Nat->D)(fuel:Nat):Nat->Nat->List D->Rs (D×Bool)
 |0,_,_=>.bad
 |n+1,f,ds=>match fns[f]? with
  |none=>.bad
  |some F=>if ds.length=F.ps then (match aH ⟨run fns gl fuel n,gl,fuel⟩ F.body (aR ds F.slots) with
   |.rt d fr=>.ok (d,fr)
   |.nx _=>.ok (.non,true)
   |.xc e _=>.exc e
   |_=>.bad) else .bad
end Pc
end
section
namespace Pc
open PySem L2
noncomputable abbrev Frag:=PySem.W.Frag
inductive fC:List DictEntry->List (Key×Option Int)->Prop where
 | nil:fC [] []
 | cons {e:DictEntry}{es:List DictEntry}{k v:Int}{kvs:List (Key×Option Int)}{t u:Tok}(hh:e.hash=hashInt k) (hk:e.key = .int k t) (hv:e.val = .int v u) (r:fC es kvs):fC (e::es) ((.inl k,some v)::kvs)
 | si {e:DictEntry}{es:List DictEntry}{k:Str}{v:Int}{kvs:List (Key×Option Int)}{t u:Tok}(hk:e.key = .str k t) (hv:e.val = .int v u) (r:fC es kvs):fC (e::es) ((.inr k,some v)::kvs)
 | sn {e:DictEntry}{es:List DictEntry}{k:Str}{kvs:List (Key×Option Int)}{t:Tok}(hk:e.key = .str k t) (hv:e.val = .none) (r:fC es kvs):fC (e::es) ((.inr k,none)::kvs)
def o8 (K:Frag)(a:Addr)(kvs:List (Key×Option Int)):Prop:=∃ o es ep,K.lookup a=some o/\o.ExactDict/\o.data = .dict es ep/\fC es.toList kvs/\(kvs.map (·.1)).Nodup
def sY (w:World)(K:Frag):Prop:=∀ a o es ep,K.lookup a=some o->o.data = .dict es ep->∀ kvs,fC es.toList kvs->∀ e∈es.toList,∀ s t,e.key = .str s t->(a==sysModules)=false/\e.hash=hashStr w s
inductive ML where
 | l (vs:List V) | k (kvs:List (Key×V)) | t (kvs:List (List Key×V))
noncomputable def ML.o:ML->HO
 |.l vs=>.lst vs
 |.k kvs=>.dK kvs
 |.t kvs=>.dT kvs
noncomputable def yF (ks:List (List Int)):List (List Key×V):=ks.map fun k=>(k.map .inl,.bl true)
noncomputable def tF:List V->Bool
 |[.int i,.int j]=>ua i j
 |_=>false
noncomputable def je (K:Frag)(H:Hp)(a:Addr)(xs:List V):Prop :=
 H a=some (.tup xs) \/
  tF xs=false/\∃(o:Obj) (its:Array Value) (n:Nat),K.lookup a=some o/\o.cls = .type "tuple"/\o.data = .seq its n/\its.size<=sizeLine/\aN xs its.toList
noncomputable def oH (K:Frag)(H:Hp):MV->V->Prop
 |.tr,v=>v = .bl true
 |.int i,v=>v = .int i
 |.tup is,v=>∃ b,v = .ref b/\je K H b (is.map .int)
noncomputable def gW (K:Frag)(H:Hp):List (Int×MV)->List (Key×V)->Prop
 |[],[]=>True
 |q::r,p::s=>p.1 = .inl q.1/\oH K H q.2 p.2/\gW K H r s
 |_,_=>False
theorem oH.keep {K:Frag}{H H':Hp}(t:∀ b vs,je K H b vs->je K H' b vs):∀{m:MV}{v:V},oH K H m v->oH K H' m v
 |.tr,_,h=>h
 |.int _,_,h=>h
 |.tup _,_,⟨b,e,h⟩=>⟨b,e,t _ _ h⟩
theorem gW.keep {K:Frag}{H H':Hp}(t:∀ b vs,je K H b vs->je K H' b vs):∀{q:List (Int×MV)}{x:List (Key×V)},gW K H q x->gW K H' q x
 |[],[],h=>h
 |_::_,_::_,⟨a,b,c⟩=>⟨a,b.keep t,c.keep t⟩
 |[],_::_,h=>h.elim
 |_::_,[],h=>h.elim
theorem gW.len {K:Frag}{H:Hp}:∀{q:List (Int×MV)}{x:List (Key×V)},gW K H q x->x.length=q.length
 |[],[],_=>rfl
 |_::_,_::_,⟨_,_,c⟩=>by rw[ak,ak,c.len]
 |[],_::_,h=>h.elim
 |_::_,[],h=>h.elim
theorem je.sq {K:Frag}{H:Hp}{a:Addr}{xs:List V}(h:je K H a xs):hZ K H a xs:=h.imp .inl And.right
mutual
inductive Rep (K:Frag) (H:Hp):D->V->List Addr->Prop where
 | non:Rep K H .non .non []
 | bl (b:Bool):Rep K H (.bl b) (.bl b) []
 | int (i:Int):Rep K H (.int i) (.int i) []
 | str (s:Str):Rep K H (.str s) (.str s) []
 | lst {p:Addr}{vs:List V}{ds:List D}{G:List Addr}(h:Rd H p (.lst vs)) (r:aD K H ds vs G):Rep K H (.lst ds) (.ref p) (p::G)
 | tup {p:Addr}{vs:List V}{ds:List D}{G:List Addr}(h:je K H p vs) (r:aD K H ds vs G):Rep K H (.tup ds) (.ref p) G
 | dct {p:Addr}{kvs:List (Key×Option Int)}(h:o8 K p kvs):Rep K H (.dct kvs) (.ref p) []
 | mpi {p:Addr}{ks:List (Int×MV)}{xs:List (Key×V)}(h:H p=some (.dK xs)) (r:gW K H ks xs):Rep K H (.mpi ks) (.ref p) [p]
 | mpt {p:Addr}{ks:List (List Int)}(h:Rd H p (.dT (yF ks))):Rep K H (.mpt ks) (.ref p) [p]
 | mpz {p:Addr}{ks:List (Int×MV)}{xs:List (Key×V)}{o:Obj}(h:H p=some (.frz o (.dK xs))) (r:gW K H ks xs):Rep K H (.mpz ks) (.ref p) []
inductive aD (K:Frag) (H:Hp):List D->List V->List Addr->Prop where
 | nil:aD K H [] [] []
 | cons {d:D}{v:V}{ds:List D}{vs:List V}{G G':List Addr}(h:Rep K H d v G) (r:aD K H ds vs G'):aD K H (d::ds) (v::vs) (G++G')
end
theorem qq {H H':Hp}{b:Addr}(k:∀ u:HO,H b=some u->H' b=some u){o:HO}(h:Rd H b o):Rd H' b o:=by
 rcases h with h | ⟨u,h⟩
 ·exact .inl (k _ h)
 ·exact .inr ⟨u,k _ h⟩
def BR (H H':Hp):Prop:=∀ b o u,H b=some (.frz o u)->H' b=some (.frz o u)
section
variable {K:Frag}{H H':Hp}
theorem Rep.keep (t:∀ b vs,je K H b vs->je K H' b vs)(z:BR H H'){d:D}{v:V}{G:List Addr}(h:Rep K H d v G):(∀ b∈G,∀ u:HO,H b=some u->H' b=some u)->Rep K H' d v G :=
 Rep.rec (motive_1:=fun d v G _=>(∀ b∈G,∀ u:HO,H b=some u->H' b=some u)->Rep K H' d v G) (motive_2:=fun ds vs G _=>(∀ b∈G,∀ u:HO,H b=some u->H' b=some u)->aD K H' ds vs G)
  (fun _=>.non) (fun b _=>.bl b) (fun i _=>.int i) (fun s _=>.str s) (fun h _ ih k=>.lst (qq (k _ aq) h) (ih fun b hb=>k b (ai _ hb)))
  (fun h _ ih k=>.tup (t _ _ h) (ih k)) (fun h _=>.dct h) (fun h r k=>.mpi (k _ aq _ h) (r.keep t)) (fun h k=>.mpt (qq (k _ aq) h)) (fun h r _=>.mpz (z _ _ _ h) (r.keep t))
  (fun _=>.nil) (fun _ _ i1 i2 k=>.cons (i1 fun b hb=>k b (bh _ hb)) (i2 fun b hb=>k b (aw _ hb))) h
theorem aD.keep (t:∀ b vs,je K H b vs->je K H' b vs)(z:BR H H'){ds:List D}{vs:List V}{G:List Addr}(h:aD K H ds vs G):(∀ b∈G,∀ u:HO,H b=some u->H' b=some u)->aD K H' ds vs G :=
 aD.rec (motive_1:=fun d v G _=>True) (motive_2:=fun ds vs G _=>(∀ b∈G,∀ u:HO,H b=some u->H' b=some u)->aD K H' ds vs G)
  trivial (fun _=>trivial) (fun _=>trivial) (fun _=>trivial) (fun _ _ _=>trivial) (fun _ _ _=>trivial) (fun _=>trivial) (fun _ _=>trivial) (fun _=>trivial) (fun _ _=>trivial)
  (fun _=>.nil) (fun h _ _ i2 k=>.cons (Rep.keep t z h fun b hb=>k b (bh _ hb)) (i2 fun b hb=>k b (aw _ hb))) h
theorem aE.rd (e:aE H H'){b:Addr}{o:HO}(h:Rd H b o):Rd H' b o:=by
 rcases h with h | ⟨u,h⟩
 ·exact .inl (e _ _ h)
 ·exact .inr ⟨u,e _ _ h⟩
theorem aE.tqT (e:aE H H'){b:Addr}{vs:List V}(h:je K H b vs):je K H' b vs:=by
 rcases h with h | h
 ·exact .inl (e _ _ h)
 ·exact .inr h
theorem Rep.same (e:aE H H'){d:D}{v:V}{G:List Addr}(h:Rep K H d v G):Rep K H' d v G:=h.keep (fun _ _=>aE.tqT e) (fun _ _ _ h=>e _ _ h) fun _ _ _ h=>e _ _ h
theorem aD.same (e:aE H H'){d:List D}{v:List V}{G:List Addr}(h:aD K H d v G):aD K H' d v G:=h.keep (fun _ _=>aE.tqT e) (fun _ _ _ h=>e _ _ h) fun _ _ _ h=>e _ _ h
theorem Rep.flat {d:D}{v:V}{G:List Addr}(h:Rep K H d v G):d.flat=true->G=[] :=
 Rep.rec (motive_1:=fun d v G _=>d.flat=true->G=[]) (motive_2:=fun ds vs G _=>D.flats ds=true->G=[])
  (fun _=>rfl) (fun _ _=>rfl) (fun _ _=>rfl) (fun _ _=>rfl) (fun _ _ _ f=>by simp[D.flat] at f) (fun _ _ ih f=>ih (by simpa[D.flat] using f)) (fun _ _=>rfl) (fun _ _ f=>by simp[D.flat] at f) (fun _ f=>by simp[D.flat] at f) (fun _ _ _=>rfl)
  (fun _=>rfl) (fun _ _ i1 i2 f=>by
   simp only[D.flats,Bool.and_eq_true] at f;rw[i1 f.1,i2 f.2];rfl) h
theorem aD.flat {ds:List D}{vs:List V}{G:List Addr}(h:aD K H ds vs G):D.flats ds=true->G=[] :=
 aD.rec (motive_1:=fun d v G _=>True) (motive_2:=fun ds vs G _=>D.flats ds=true->G=[])
  trivial (fun _=>trivial) (fun _=>trivial) (fun _=>trivial) (fun _ _ _=>trivial) (fun _ _ _=>trivial) (fun _=>trivial) (fun _ _=>trivial) (fun _=>trivial) (fun _ _=>trivial)
  (fun _=>rfl) (fun h _ _ i2 f=>by
   simp only[D.flats,Bool.and_eq_true] at f;rw[Rep.flat h f.1,i2 f.2];rfl) h
theorem Rep.live {d:D}{v:V}{G:List Addr}(h:Rep K H d v G):∀ a∈G,∃ vs:ML,Rd H a vs.o :=
 Rep.rec (motive_1:=fun d v G _=>∀ a∈G,∃ vs:ML,Rd H a vs.o) (motive_2:=fun ds vs G _=>∀ a∈G,∃ vs:ML,Rd H a vs.o)
  (fun _ h=>(nomatch h)) (fun _ _ h=>(nomatch h)) (fun _ _ h=>(nomatch h)) (fun _ _ h=>(nomatch h)) (fun h _ ih a m=>(gd.mp m).elim (fun e=>e ▸ ⟨.l _,h⟩) (ih a)) (fun _ _ ih=>ih) (fun _ _ h=>(nomatch h))
  (fun h _ a m=>(eg.mp m) ▸ ⟨.k _,.inl h⟩) (fun h a m=>(eg.mp m) ▸ ⟨.t _,h⟩) (fun _ _ _ h=>(nomatch h))
  (fun _ h=>(nomatch h)) (fun _ _ i1 i2 a m=>(List.mem_append.mp m).elim (i1 a) (i2 a)) h
theorem aD.live {ds:List D}{vs:List V}{G:List Addr}(h:aD K H ds vs G):∀ a∈G,∃ vs:ML,Rd H a vs.o :=
 aD.rec (motive_1:=fun d v G _=>True) (motive_2:=fun ds vs G _=>∀ a∈G,∃ vs:ML,Rd H a vs.o)
  trivial (fun _=>trivial) (fun _=>trivial) (fun _=>trivial) (fun _ _ _=>trivial) (fun _ _ _=>trivial) (fun _=>trivial) (fun _ _=>trivial) (fun _=>trivial) (fun _ _=>trivial)
  (fun _ h=>(nomatch h)) (fun h _ _ i2 a m=>(List.mem_append.mp m).elim (Rep.live h a) (i2 a)) h
theorem Rd.ne_none {a:Addr}{u:HO}(h:Rd H a u):H a≠none:=by
 rcases h with h | ⟨o,h⟩<;>rw[h]<;>simp
theorem Rep.nn {d:D}{v:V}{G:List Addr}(h:Rep K H d v G){a:Addr}(m:a∈G):H a≠none:=let ⟨_,q⟩:=h.live a m;Rd.ne_none q
theorem aD.nn {d:List D}{v:List V}{G:List Addr}(h:aD K H d v G){a:Addr}(m:a∈G):H a≠none:=let ⟨_,q⟩:=h.live a m;Rd.ne_none q
theorem aD.len:∀{ds:List D}{vs:List V}{G:List Addr},aD K H ds vs G->ds.length=vs.length
 |_,_,_,.nil=>rfl
 |_,_,_,.cons _ r=>by simp[aD.len r]
theorem aD.get:∀{ds:List D}{vs:List V}{G:List Addr}{i:Nat}{d:D},aD K H ds vs G->ds[i]? = some d->∃ v G',vs[i]? = some v/\Rep K H d v G'/\G'.Sublist G
 |_,_,_,_,_,.nil,e=>by simp at e
 | _,_,_,0,_,.cons h r,e=>by
  simp at e;subst e;exact⟨_,_,rfl,h,List.sublist_append_left _ _⟩
 | _,_,_,i+1,d,.cons h r,e=>by
  obtain⟨v,G',a,b,c⟩:=aD.get (i:=i) (d:=d) r (by simpa using e);exact⟨v,G',by simpa using a,b,c.trans (List.sublist_append_right _ _)⟩
theorem aD.append:∀{ds es:List D}{vs us:List V}{G G':List Addr},aD K H ds vs G->aD K H es us G'->aD K H (ds++es) (vs++us) (G++G')
 |_,_,_,_,_,_,.nil,s=>s
 | _,_,_,_,_,_,.cons h r,s=>by
  rw[ax];exact .cons h (aD.append r s)
theorem aD.take:∀{ds:List D}{vs:List V}{G:List Addr}(n:Nat),aD K H ds vs G->∃ G',aD K H (ds.take n) (vs.take n) G'/\G'.Sublist G
 |_,_,_,0,_=>⟨[],by simpa using .nil,by simp⟩
 |_,_,_,_+1,.nil=>⟨[],by simpa using .nil,by simp⟩
 | _,_,_,n+1,.cons h r=>by
  obtain⟨G',a,b⟩:=aD.take n r;exact⟨_,by simpa using .cons h a,List.Sublist.append (List.Sublist.refl _) b⟩
theorem aD.drop:∀{ds:List D}{vs:List V}{G:List Addr}(n:Nat),aD K H ds vs G->∃ G',aD K H (ds.drop n) (vs.drop n) G'/\G'.Sublist G
 |_,_,_,0,r=>⟨_,by simpa using r,List.Sublist.refl _⟩
 |_,_,_,_+1,.nil=>⟨[],by simpa using .nil,by simp⟩
 | _,_,_,n+1,.cons h r=>by
  obtain⟨G',a,b⟩:=aD.drop n r;exact⟨_,by simpa using a,b.trans (List.sublist_append_right _ _)⟩
theorem aD.split:∀{ds:List D}{vs:List V}{G:List Addr}{i:Nat}{d:D},aD K H ds vs G->ds[i]? = some d->∃ v G1 G' G2,vs[i]? = some v/\G=G1++(G'++G2)/\Rep K H d v G' /\
  ∀(H':Hp) (d':D) (v':V) (N:List Addr),(∀ b vs,je K H b vs->je K H' b vs)->BR H H'->(∀ b∈G1++G2,∀ u:HO,H b=some u->H' b=some u)->Rep K H' d' v' N->aD K H' (ds.set i d') (vs.set i v') (G1++(N++G2))
 |_,_,_,_,_,.nil,e=>by simp at e
 | _,_,_,0,_,.cons (G:=G) (G':=G') h r,e=>by
  simp at e;subst e;refine⟨_,[],_,_,rfl,rfl,h,fun H' d' v' N t z k n=>?_⟩;show aD K H' (_::_) (_::_) (N++G');exact .cons n (r.keep t z fun b hb=>k b (by simpa using hb))
 | _,_,_,i+1,d,.cons (G:=G) (G':=G') h r,e=>by
  obtain⟨v,G1,Gi,G2,a,b,c,f⟩:=aD.split (i:=i) (d:=d) r (by simpa using e);refine⟨v,G++G1,Gi,G2,by simpa using a,by rw[b];simp,c,fun H' d' v' N t z k n=>?_⟩;have q:=aD.cons (h.keep t z fun b hb=>k b (by simp[hb])) (f H' d' v' N t z (fun b hb=>k b (by simp at hb ⊢;exact Or.inr hb)) n);rw[<-ax] at q;exact q
end
noncomputable def aW:Tg->Bool
 |.own=>true
 |.lk=>true
 |.sh _=>false
structure RE (K:Frag)(P:Addr->Prop)(env:En)(σ:L2.St)(H:Hp)(F:Nat->List Addr):Prop where
 len:env.length=σ.length
 val:∀ i d t,env[i]? = some (some (d,t))->∃ v,σ[i]? = some (some v)/\Rep K H d v (F i)
 emp:∀ i,(∀ d t,env[i]?≠some (some (d,t)))->F i=[]
 one:∀ i d t,env[i]? = some (some (d,t))->aW t=true->(F i).Nodup/\(∀ a∈F i,∃ vs:ML,H a=some vs.o) /\
  ∀ a∈F i,∀ j d' t',env[j]? = some (some (d',t'))->a∈F j->i∈aT j t'
 wr:∀ i d,env[i]? = some (some (d,.own))->∀ a∈F i,¬ P a
 pl:∀ a,P a->H a≠none
structure bK (env:En)(F:Nat->List Addr)(H:Hp)(r:Rt)(H':Hp)(G:List Addr):Prop where
 cont:∀ a∈G,H a=none\/∃ i d t,a∈F i/\env[i]? = some (some (d,t))/\∀ q∈aT i t,q∈r.roots
 mv:∀ R,r = .mv R->G.Nodup/\(∀ a∈G,∃ vs:ML,H' a=some vs.o)/\∀ a∈G,H a=none\/∃ i d t,i∈R/\a∈F i/\env[i]? = some (some (d,t))/\aW t=true
theorem bK.nil {env:En}{F:Nat->List Addr}{H H':Hp}{r:Rt}:bK env F H r H' []:=⟨fun _ h=>(nomatch h),fun _ _=>⟨cg,fun _ h=>(nomatch h),fun _ h=>(nomatch h)⟩⟩
theorem RE.same {K:Frag}{P:Addr->Prop}{env:En}{σ:L2.St}{H H':Hp}{F:Nat->List Addr}(r:RE K P env σ H F)(e:aE H H'):RE K P env σ H' F where
 len:=r.len
 val:=fun i d t h=>let ⟨v,a,b⟩:=r.val i d t h;⟨v,a,b.same e⟩
 emp:=r.emp
 one:=fun i d t h o=>let ⟨a,b,c⟩:=r.one i d t h o;⟨a,fun x hx=>let ⟨vs,q⟩:=b x hx;⟨vs,e _ _ q⟩,c⟩
 wr:=r.wr
 pl:=fun a h z=>by
  cases q:H a with
  |none=>exact r.pl a h q
  |some o=>rw[e _ _ q] at z;cases z
theorem aE.no {H H':Hp}(e:aE H H'){a:Addr}(h:H' a=none):H a=none:=by
 cases q:H a with
 |none=>rfl
 |some o=>rw[e _ _ q] at h;cases h
theorem bK.back {env:En}{F:Nat->List Addr}{H H1 H':Hp}{r:Rt}{G:List Addr}(h:bK env F H1 r H' G)(e:aE H H1):bK env F H r H' G where
 cont:=fun a ha=>(h.cont a ha).imp (aE.no e) id
 mv:=fun R hr=>let ⟨a,b,c⟩:=h.mv R hr;⟨a,b,fun x hx=>(c x hx).imp (aE.no e) id⟩
theorem bK.later {env:En}{F:Nat->List Addr}{H H1 H':Hp}{r:Rt}{G:List Addr}(h:bK env F H r H1 G)(e:aE H1 H'):bK env F H r H' G where
 cont:=h.cont
 mv:=fun R hr=>let ⟨a,b,c⟩:=h.mv R hr;⟨a,fun x hx=>let ⟨vs,q⟩:=b x hx;⟨vs,e _ _ q⟩,c⟩
theorem bK.part {env:En}{F:Nat->List Addr}{H H':Hp}{r r':Rt}{G G':List Addr}(h:bK env F H r H' G)(hs:∀ a∈G',a∈G)(hr:∀ q∈r.roots,q∈r'.roots)(hn:∀ R,r'≠.mv R):bK env F H r' H' G' where
 cont:=fun a ha=>(h.cont a (hs a ha)).imp id fun ⟨i,d,t,x,y,z⟩=>⟨i,d,t,x,y,fun q hq=>hr q (z q hq)⟩
 mv:=fun R e=>absurd e (hn R)
noncomputable def nI (F:Nat->List Addr)(i:Nat)(G:List Addr):Nat->List Addr:=fun j=>if j=i then G else F j
theorem dE {F:Nat->List Addr}{i:Nat}{G:List Addr}:nI F i G i=G:=if_pos rfl
theorem cP {F:Nat->List Addr}{i j:Nat}{G:List Addr}(h:j≠i):nI F i G j=F j:=if_neg h
theorem pJ (env:En)(i:Nat)(d:D)(t:Tg):(put env i d t).length=env.length:=by simp[put]
theorem cU {env:En}{i:Nat}{d:D}{t:Tg}(h:i<env.length):(put env i d t)[i]? = some (some (d,t)):=by
 unfold put;rw[List.getElem?_set_self (by simpa using h)]
theorem tG {env:En}{i j:Nat}{d:D}{t:Tg}(h:j≠i):(put env i d t)[j]? = (env[j]?).map fun s=>s.map fun p=>(p.1,p.2.drop i):=by
 unfold put;rw[List.getElem?_set_ne (cu h),List.getElem?_map]
theorem fJ {env:En}{i j:Nat}{d d':D}{t t':Tg}(h:j≠i)(e:(put env i d t)[j]? = some (some (d',t'))):∃ t0,env[j]? = some (some (d',t0))/\t'=t0.drop i:=by
 rw[tG h] at e;cases q:env[j]? with
 |none=>rw[q] at e;cases e
 |some s =>
  rw[q] at e;cases s with
  |none=>cases e
  |some p =>
   obtain⟨a,b⟩:=p;simp only[Option.map_some,Option.some.injEq,Prod.mk.injEq] at e;obtain⟨rfl,rfl⟩:=e;exact⟨b,rfl,rfl⟩
theorem i8 (t:Tg)(i:Nat):aW (t.drop i)=aW t:=by cases t<;>rfl
theorem jl {t:Tg}{i j k:Nat}(h:k∈aT j t)(hk:k≠i):k∈aT j (t.drop i):=by
 cases t with
 |own=>exact h
 |lk=>exact h
 |sh R =>
  simp only[aT,Tg.drop,List.mem_filter] at h ⊢;exact⟨h,by simpa using hk⟩
section
variable {K:Frag}{P:Addr->Prop}{env:En}{σ:L2.St}{H:Hp}{F:Nat->List Addr}
theorem RE.nn (re:RE K P env σ H F){j:Nat}{d:D}{t:Tg}(h:env[j]? = some (some (d,t))){a:Addr}(m:a∈F j):H a≠none:=let ⟨_,_,r⟩:=re.val j d t h;r.nn m
theorem RE.at' (re:RE K P env σ H F){j:Nat}{a:Addr}(m:a∈F j):∃ d t,env[j]? = some (some (d,t)):=by
 by_cases h:∃ d t,env[j]? = some (some (d,t))
 ·exact h
 ·rw[re.emp j fun d t e=>h ⟨d,t,e⟩] at m;cases m
theorem RE.put (re:RE K P env σ H F){i:Nat}{d:D}{v:V}{G:List Addr}{t:Tg}(hi:i<env.length)(rp:Rep K H d v G)
  (ho:aW t=true->G.Nodup/\(∀ a∈G,∃ vs:ML,H a=some vs.o)/\∀ a∈G,∀ j,j≠i->a∉F j) (hw:t = .own->∀ a∈G,¬ P a)
  (hs:∀ a∈G,∀ j d' t',j≠i->env[j]? = some (some (d',t'))->aW t'=true->a∈F j->j∈aT i t):RE K P (put env i d t) (σ.set i (some v)) H (nI F i G) where
 len:=by rw[pJ,List.length_set];exact re.len
 val:=fun j d' t' e=>by
  by_cases h:j=i
  ·subst h;rw[cU hi] at e;cases e;exact⟨v,List.getElem?_set_self (by rw[<-re.len];exact hi),by rw[dE];exact rp⟩
  ·obtain⟨t0,e0,rfl⟩:=fJ h e;obtain⟨u,a,b⟩:=re.val j d' t0 e0;exact⟨u,by rw[List.getElem?_set_ne (cu h)];exact a,by rw[cP h];exact b⟩
 emp:=fun j h=>by
  by_cases hj:j=i
  ·subst hj;exact absurd (cU hi) (h d t)
  ·rw[cP hj];refine re.emp j fun d' t' e=>h d' (t'.drop i) ?_
   rw[tG hj,e];rfl
 one:=fun j d' t' e o=>by
  by_cases h:j=i
  ·subst h;rw[cU hi] at e;cases e;obtain⟨a,b,c⟩:=ho o;rw[dE];refine⟨a,b,fun x hx k d2 t2 e2 m=>?_⟩;by_cases hk:k=j
   ·subst hk;rw[cU hi] at e2;cases e2;cases t<;>simp_all [aT,aW]
   ·rw[cP hk] at m;exact absurd m (c x hx k hk)
  ·obtain⟨t0,e0,rfl⟩:=fJ h e;rw[i8] at o;obtain⟨a,b,c⟩:=re.one j d' t0 e0 o;rw[cP h];refine⟨a,b,fun x hx k d2 t2 e2 m=>?_⟩;by_cases hk:k=i
   ·subst hk;rw[cU hi] at e2;cases e2;rw[dE] at m;exact hs x m j d' t0 h e0 o hx
   ·rw[cP hk] at m;obtain⟨t3,e3,rfl⟩:=fJ hk e2;exact jl (c x hx k d2 t3 e3 m) h
 wr:=fun j d' e=>by
  by_cases h:j=i
  ·subst h;rw[cU hi] at e;cases e;rw[dE];exact hw rfl
  ·obtain⟨t0,e0,q⟩:=fJ h e;rw[cP h];cases t0 with
   |own=>exact re.wr j d' e0
   |lk=>cases q
   |sh R=>cases q
 pl:=re.pl
theorem RE.forget (re:RE K P env σ H F){env':En}(hl:env'.length=env.length)(he:∀(i:Nat) (d:D) (t:Tg),env'[i]? = some (some (d,t))->env[i]? = some (some (d,t))) :
  RE K P env' σ H (fun i=>match env'[i]? with | some (some _)=>F i | _=>[]) where
 len:=hl.trans re.len
 val:=fun i d t e=>by rw[e];exact re.val i d t (he i d t e)
 emp:=fun i h=>by
  split
  ·rename_i p q;exact absurd q (h p.1 p.2)
  ·rfl
 one:=fun i d t e o=>by
  rw[e];obtain⟨a,b,c⟩:=re.one i d t (he i d t e) o;refine⟨a,b,fun x hx k d2 t2 e2 m=>?_⟩;rw[e2] at m;exact c x hx k d2 t2 (he k d2 t2 e2) m
 wr:=fun i d e=>by rw[e];exact re.wr i d (he i d _ e)
 pl:=re.pl
end
theorem cJ (R:List Nat)(env:En):(kill R env).length=env.length:=by simp[kill]
theorem bY {R:List Nat}{env:En}{i:Nat}{d:D}{t:Tg}(e:(kill R env)[i]? = some (some (d,t))):env[i]? = some (some (d,t))/\i∉R/\∀ q∈R,q∉aT i t:=by
 unfold kill at e;rw[List.getElem?_mapIdx] at e;cases q:env[i]? with
 |none=>rw[q] at e;cases e
 |some s =>
  rw[q] at e;cases s with
  |none=>cases e
  |some p =>
   obtain⟨a,b⟩:=p;simp only[Option.map_some,Option.some.injEq] at e;by_cases h:(R.contains i || gN R b)=true
   ·rw[if_pos h] at e;cases e
   ·rw[if_neg h] at e;cases e;rw[fq,not_or] at h;have h1:i∉R:=fun z=>h.1 (by simpa using z)
    refine⟨rfl,h1,fun r hq z=>?_⟩;cases t with
    |own=>simp only[aT,List.mem_singleton] at z;subst z;exact h1 hq
    |lk=>simp only[aT,List.mem_singleton] at z;subst z;exact h1 hq
    |sh Q =>
     apply h.2;simp only[gN,List.any_eq_true];exact⟨r,z,by simpa using hq⟩
section
variable {K:Frag}{P:Addr->Prop}{env:En}{σ:L2.St}{H:Hp}{F:Nat->List Addr}
theorem md {p b:Addr}{ws vs:List V}{o:HO}(hp:H p=some (.lst ws))(h:je K H b vs):je K (upd H p o) b vs:=by
 rcases h with h | h
 ·exact .inl (by rw[aL];exact h;intro z;subst z;rw[hp] at h;cases h)
 ·exact .inr h
theorem tK {p b:Addr}{ws:ML}{vs:List V}{o:HO}(hp:H p=some ws.o)(h:je K H b vs):je K (upd H p o) b vs:=by
 rcases h with h | h
 ·exact .inl (by rw[aL];exact h;intro z;subst z;rw[hp] at h;cases ws<;>cases h)
 ·exact .inr h
theorem AJ {p b:Addr}{o o':HO}(hne:b≠p)(h:Rd H b o):Rd (upd H p o') b o:=by
 rcases h with h | ⟨u,h⟩
 ·exact .inl (by rw[aL hne];exact h)
 ·exact .inr ⟨u,by rw[aL hne];exact h⟩
theorem mK {H:Hp}{p:Addr}{ws:ML}{o:HO}(hp:H p=some ws.o):BR H (L2.upd H p o):=fun b ob u h=>by
 rw[aL fun e=>?_]
 ·exact h
 ·subst e;rw[hp] at h;cases ws<;>cases h
theorem Rep.updM {p:Addr}{ws:ML}{o:HO}{d:D}{v:V}{G:List Addr}(hp:H p=some ws.o)(h:Rep K H d v G)(hn:p∉G):Rep K (L2.upd H p o) d v G :=
 h.keep (fun _ _=>tK hp) (mK hp) fun b hb _ h=>(aL (fun (z:b=p)=>hn (z ▸ hb))).trans h
theorem aD.upd {p:Addr}{ws:List V}{o:HO}{d:List D}{v:List V}{G:List Addr}(hp:H p=some (.lst ws))(h:aD K H d v G)(hn:p∉G):aD K (upd H p o) d v G :=
 h.keep (fun _ _=>md hp) (mK (ws:=.l _) hp) fun b hb _ h=>(aL (fun (z:b=p)=>hn (z ▸ hb))).trans h
noncomputable def og (F:Nat->List Addr)(env:En)(x:Nat)(R:List Nat)(G:List Addr):Nat->List Addr:=fun j=>if j=x then G else match (kill (x::R) env)[j]? with
 | some (some _)=>F j
 |_=>[]
theorem RE.mutateM (re:RE K P env σ H F){x:Nat}{d d':D}{v:V}{p:Addr}{vs:ML}{R:List Nat}{N G:List Addr}(hx:env[x]? = some (some (d,.own)))(hv:σ[x]? = some (some v))(hp:p∈F x)
  (rp:Rep K (upd H p vs.o) d' v G) (nd:G.Nodup) (sub:∀ a∈G,a∈F x\/a∈N)
  (hN:∀ a∈N,(∃ vs:ML,H a=some vs.o)/\¬ P a/\∀(j:Nat) (d:D) (t:Tg),env[j]? = some (some (d,t))->a∈F j->∃ q∈x::R,q∈aT j t) :
  RE K P ((kill (x::R) env).set x (some (d',.own))) σ (upd H p vs.o) (og F env x R G):=by
 obtain⟨ndx,lsx,onx⟩:=re.one x d .own hx rfl;obtain⟨ws,hpl⟩:=lsx p hp;have hxl:x<(kill (x::R) env).length:=by
  rw[cJ];exact (List.getElem?_eq_some_iff.mp hx).1
 have other:∀{j:Nat}{d2:D}{t2:Tg},j≠x->((kill (x::R) env).set x (some (d',.own)))[j]? = some (some (d2,t2))->(kill (x::R) env)[j]? = some (some (d2,t2)):=fun {j d2 t2} hj e=>by
  rw[List.getElem?_set_ne (cu hj)] at e;exact e
 have live:∀ a,(∃ vs:ML,H a=some vs.o)->∃ ws:ML,upd H p vs.o a=some ws.o:=fun a ⟨ws,h⟩=>by
  by_cases z:a=p
  ·subst z;exact⟨vs,aI⟩
  ·exact⟨ws,by rw[aL z];exact h⟩
 have apart:∀{j:Nat}{d2:D}{t2:Tg},j≠x->(kill (x::R) env)[j]? = some (some (d2,t2))->∀ a∈F x,a∉F j:=fun {j d2 t2} hj e a ha hb=>by
  obtain⟨e0,_,h3⟩:=bY e;exact h3 x aq (onx a ha j d2 t2 e0 hb)
 have fj:∀{j:Nat}{d2:D}{t2:Tg},j≠x->(kill (x::R) env)[j]? = some (some (d2,t2))->og F env x R G j=F j:=fun {j d2 t2} hj e=>by
  unfold og;rw[if_neg hj,e]
 have fx:og F env x R G x=G:=if_pos rfl;refine⟨?_,fun j d2 t2 e=>?_,fun j h=>?_,fun j d2 t2 e o=>?_,fun j d2 e=>?_,fun a h=>?_⟩
 ·rw[List.length_set,cJ];exact re.len
 ·by_cases hj:j=x
  ·subst hj;rw[List.getElem?_set_self hxl] at e;cases e;exact⟨v,hv,by rw[fx];exact rp⟩
  ·have e1:=other hj e;obtain⟨e0,_,_⟩:=bY e1;obtain⟨u,h1,h2⟩:=re.val j d2 t2 e0;exact⟨u,h1,by rw[fj hj e1];exact h2.updM hpl (apart hj e1 p hp)⟩
 ·by_cases hj:j=x
  ·subst hj;exact absurd (List.getElem?_set_self hxl) (h d' .own)
  ·unfold og;rw[if_neg hj];split
   ·rename_i q e;exact absurd (by rw[List.getElem?_set_ne (cu hj)];exact e) (h q.1 q.2)
   ·rfl
 ·by_cases hj:j=x
  ·subst hj;rw[List.getElem?_set_self hxl] at e;cases e;rw[fx];refine⟨nd,fun a ha=>live a ?_,fun a ha k d3 t3 e3 m=>?_⟩
   ·rcases sub a ha with q | q
    ·exact lsx a q
    ·exact (hN a q).1
   ·by_cases hk:k=j
    ·subst hk;rw[List.getElem?_set_self hxl] at e3;cases e3;simp[aT]
    ·have e4:=other hk e3;rw[fj hk e4] at m;rcases sub a ha with q | q
     ·exact absurd m (apart hk e4 a q)
     ·obtain⟨e0,_,h3⟩:=bY e4;obtain⟨r,r1,r2⟩:=(hN a q).2.2 k d3 t3 e0 m;exact absurd r2 (h3 r r1)
  ·have e1:=other hj e;obtain⟨e0,_,_⟩:=bY e1;obtain⟨a,b,c⟩:=re.one j d2 t2 e0 o;rw[fj hj e1];refine⟨a,fun y hy=>live y (b y hy),fun y hy k d3 t3 e3 m=>?_⟩;by_cases hk:k=x
   ·subst hk;rw[List.getElem?_set_self hxl] at e3;cases e3;rw[fx] at m;rcases sub y m with q | q
    ·exact absurd hy (apart hj e1 y q)
    ·obtain⟨_,_,h3⟩:=bY e1;obtain⟨r,r1,r2⟩:=(hN y q).2.2 j d2 t2 e0 hy;exact absurd r2 (h3 r r1)
   ·have e4:=other hk e3;rw[fj hk e4] at m;exact c y hy k d3 t3 (bY e4).1 m
 ·by_cases hj:j=x
  ·subst hj;rw[fx];intro a ha;rcases sub a ha with q | q
   ·exact re.wr j d hx a q
   ·exact (hN a q).2.1
  ·have e1:=other hj e;rw[fj hj e1];exact re.wr j d2 (bY e1).1
 ·intro z;by_cases q:a=p
  ·subst q;rw[aI] at z;cases z
  ·rw[aL q] at z;exact re.pl a h z
theorem RE.mutate (re:RE K P env σ H F){x:Nat}{d d':D}{v:V}{p:Addr}{vs:List V}{R:List Nat}{N G:List Addr}(hx:env[x]? = some (some (d,.own)))(hv:σ[x]? = some (some v))(hp:p∈F x)
  (rp:Rep K (upd H p (.lst vs)) d' v G) (nd:G.Nodup) (sub:∀ a∈G,a∈F x\/a∈N)
  (hN:∀ a∈N,(∃ vs:ML,H a=some vs.o)/\¬ P a/\∀(j:Nat) (d:D) (t:Tg),env[j]? = some (some (d,t))->a∈F j->∃ q∈x::R,q∈aT j t) :
  RE K P ((kill (x::R) env).set x (some (d',.own))) σ (upd H p (.lst vs)) (og F env x R G):=re.mutateM (vs:=.l vs) hx hv hp rp nd sub hN
inductive PV (K:Frag) (H:Hp):V->Option Int->Addr->Prop where
 | top (p:Addr):PV K H (.ref p) none p
 | item {q p:Addr}{ws:List V}{i:Int}{j:Nat}(h:Rd H q (.lst ws)\/hZ K H q ws) (hj:iF ws.length i=some j) (e:ws[j]? = some (.ref p)):PV K H (.ref q) (some i) p
theorem Rep.lst_inv {ds:List D}{v:V}{G:List Addr}(h:Rep K H (.lst ds) v G):∃ p vs G',v = .ref p/\G=p::G'/\Rd H p (.lst vs)/\aD K H ds vs G':=by
 cases h with
 |lst a b=>exact⟨_,_,_,rfl,rfl,a,b⟩
theorem rG {d:D}{v:V}{G:List Addr}{path:Option Int}{xs:List D}(rp:Rep K H d v G)(nd:G.Nodup)(h:d.at1 path=some xs):∃ p,PV K H v path p/\∀ H',aE H H'->(∀ a∈G,∃ vs:ML,H' a=some vs.o) ->
  ∃ vs Gx,H' p=some (.lst vs)/\aD K H' xs vs Gx/\p∈G/\(∀ a∈Gx,a∈G)/\Gx.Nodup/\p∉Gx /\
   ∀ ys us Gy,aD K (upd H' p (.lst us)) ys us Gy->Gy.Nodup->p∉Gy->(∀ a∈Gy,a∈Gx\/a∉G)->∃ G',Rep K (upd H' p (.lst us)) (d.set1 path ys) v G'/\G'.Nodup/\∀ a∈G',a∈G\/a∈Gy:=by
 have rdl:∀{H':Hp}{p:Addr}{vs:List V},(∀ a∈G,∃ vs:ML,H' a=some vs.o)->p∈G->Rd H' p (.lst vs)->H' p=some (.lst vs):=fun {H' p vs} hl hp r=>by
  obtain⟨ws,q⟩:=hl p hp;rcases r with r | ⟨o,r⟩
  ·exact r
  ·rw[q] at r;cases ws<;>cases r
 cases path with
 |none =>
  cases rp with
  |lst hr r =>
   rename_i p vs ds G0;simp only[D.at1,Option.some.injEq] at h;subst h;obtain⟨n1,n2⟩:=List.nodup_cons.mp nd;refine⟨p,.top p,fun H' e hl=>⟨vs,G0,rdl hl aq (aE.rd e hr),r.same e,aq,fun a ha=>ai _ ha,n2,n1,fun ys us Gy ry ny hy hs=>?_⟩⟩;exact⟨p::Gy,.lst (.inl aI) ry,List.nodup_cons.mpr ⟨hy,ny⟩,fun a ha=>(List.mem_cons.mp ha).imp (fun z=>by simp[z]) id⟩
  |_=>simp[D.at1] at h
 |some i =>
  have core:∀{ds:List D}{vs:List V}{G0:List Addr}{j:Nat}{q:Addr},aD K H ds vs G0->(∀ a∈G0,a∈G)->G0.Nodup->(Rd H q (.lst vs)\/hZ K H q vs)->v = .ref q->iF ds.length i=some j->ds[j]? = some (.lst xs) ->
    ∃ p,PV K H v (some i) p/\∀ H',aE H H'->(∀ a∈G,∃ vs:ML,H' a=some vs.o)->∃ ws Gx,H' p=some (.lst ws)/\aD K H' xs ws Gx/\p∈G0/\(∀ a∈Gx,a∈G0)/\Gx.Nodup/\p∉Gx /\
     ∀ ys us Gy,aD K (upd H' p (.lst us)) ys us Gy->Gy.Nodup->p∉Gy->(∀ a∈Gy,a∈Gx\/a∉G) ->
      ∃ G1,aD K (upd H' p (.lst us)) (ds.set j (.lst ys)) vs G1/\G1.Nodup/\(∀ a∈G1,a∈G0\/a∈Gy):=by
   intro ds vs G0 j q r hs n0 hq hv hj he;obtain⟨w0,g0,e0,r0,_⟩:=r.get he;have hlen:=r.len;obtain⟨p,ws0,Gx0,rfl,_,_,_⟩:=r0.lst_inv
   ·refine⟨p,by rw[hv];exact .item hq (by rw[<-hlen];exact hj) e0,fun H' e hl=>?_⟩;obtain⟨w,A,B,C,e1,e2,r1,f⟩:=(r.same e).split he;rw[e0] at e1;cases e1;subst e2;obtain⟨p',ws,Gx,ep,rfl,hr,r2⟩:=r1.lst_inv;cases ep
    ·have hpG:p∈A++(p::Gx++C):=by simp
     rw[gc] at n0;obtain⟨nA,nB,nAB⟩:=n0;rw[gc] at nB;obtain⟨nB1,nC,nBC⟩:=nB;obtain⟨np,nx⟩:=List.nodup_cons.mp nB1;have hpl:=rdl hl (hs p hpG) hr;refine⟨ws,Gx,hpl,r2,hpG,fun a ha=>by simp[ha],nx,np,fun ys us Gy ry ny hy hsy=>?_⟩;have hA:p∉A:=fun z=>nAB p z p (by simp) rfl
     have hC:p∉C:=fun z=>nBC p (by simp) p z rfl
     have e3:=f (upd H' p (.lst us)) (.lst ys) (.ref p) (p::Gy) (fun _ _=>md hpl) (mK (ws:=.l _) hpl) (fun b hb _ h=>(aL fun (z:b=p)=>by
      subst z;rcases List.mem_append.mp hb with hb | hb
      ·exact hA hb
      ·exact hC hb).trans h) (.lst (.inl aI) ry)
     have bE:vs.set j (.ref p)=vs:=by
      obtain⟨hj',ej⟩:=List.getElem?_eq_some_iff.mp e0;rw[<-ej,List.set_getElem_self]
     rw[bE] at e3;refine⟨_,e3,?_,fun a ha=>?_⟩
     ·rw[gc];refine⟨nA,?_,fun a ha b hb z=>?_⟩
      ·rw[gc];refine⟨List.nodup_cons.mpr ⟨hy,ny⟩,nC,fun a ha b hb z=>?_⟩;subst z;rcases gd.mp ha with rfl | ha
       ·exact hC hb
       ·rcases hsy a ha with q | q
        ·exact nBC a (by simp[q]) a hb rfl
        ·exact q (hs a (by simp[hb]))
      ·subst z;rcases List.mem_append.mp hb with hb | hb
       ·rcases gd.mp hb with rfl | hb
        ·exact hA ha
        ·rcases hsy a hb with q | q
         ·exact nAB a ha a (by simp[q]) rfl
         ·exact q (hs a (by simp[ha]))
       ·exact nAB a ha a (by simp[hb]) rfl
     ·simp only[List.mem_append,List.mem_cons,List.cons_append] at ha ⊢;rcases ha with ha | ha | ha | ha
      ·exact .inl (.inl ha)
      ·exact .inl (.inr (.inl ha))
      ·exact .inr ha
      ·exact .inl (.inr (.inr (.inr ha)))
  cases rp with
  |lst hr r =>
   rename_i q vs ds G0;simp only[D.at1,Option.bind_eq_some_iff] at h;obtain⟨j,hj,h⟩:=h;have he:ds[j]? = some (.lst xs):=by
    split at h
    ·rename_i ys e;cases h;exact e
    ·cases h
   obtain⟨n1,n2⟩:=List.nodup_cons.mp nd;obtain⟨p,a1,ff⟩:=core r (fun a ha=>ai _ ha) n2 (.inl hr) rfl hj he;refine⟨p,a1,fun H' e hl=>?_⟩;obtain⟨ws,Gx,a2,a3,a4,a5,a6,a7,f⟩:=ff H' e hl;have hqp:q≠p:=fun z=>n1 (by rw[z];exact a4)
   refine⟨ws,Gx,a2,a3,ai _ a4,fun a ha=>ai _ (a5 a ha),a6,a7,fun ys us Gy ry ny hy hs=>?_⟩;obtain⟨G1,b1,b2,b3⟩:=f ys us Gy ry ny hy hs;have es:D.set1 (.lst ds) (some i) ys = .lst (ds.set j (.lst ys)):=by simp[D.set1,hj]
   rw[es];refine⟨q::G1,.lst (AJ hqp (aE.rd e hr)) b1,List.nodup_cons.mpr ⟨fun z=>?_,b2⟩,fun a ha=>?_⟩
   ·rcases b3 q z with z | z
    ·exact n1 z
    ·rcases hs q z with z | z
     ·exact n1 (a5 q z)
     ·exact z aq
   ·rcases gd.mp ha with rfl | ha
    ·exact .inl aq
    ·exact (b3 a ha).imp (ai _) id
  |tup hr r =>
   rename_i q vs ds;simp only[D.at1,Option.bind_eq_some_iff] at h;obtain⟨j,hj,h⟩:=h;have he:ds[j]? = some (.lst xs):=by
    split at h
    ·rename_i ys e;cases h;exact e
    ·cases h
   obtain⟨p,a1,ff⟩:=core r (fun a ha=>ha) nd (.inr hr.sq) rfl hj he;refine⟨p,a1,fun H' e hl=>?_⟩;obtain⟨ws,Gx,a2,a3,a4,a5,a6,a7,f⟩:=ff H' e hl;refine⟨ws,Gx,a2,a3,a4,a5,a6,a7,fun ys us Gy ry ny hy hs=>?_⟩;obtain⟨G1,b1,b2,b3⟩:=f ys us Gy ry ny hy hs;have es:D.set1 (.tup ds) (some i) ys = .tup (ds.set j (.lst ys)):=by simp[D.set1,hj]
   rw[es];exact⟨G1,.tup (md a2 (aE.tqT e hr)) b1,b2,b3⟩
  |_=>simp[D.at1] at h
end
end Pc
end
section
namespace Pc
open PySem PySem.Spec PyProof.Rows L2
theorem Rs.bind_ok {α β:Type}{x:Rs α}{f:α->Rs β}{b:β}(h:x.bind f = .ok b):∃ a,x = .ok a/\f a = .ok b:=by
 cases x with
 |ok a=>exact⟨a,rfl,h⟩
 |exc e=>cases h
 |bad=>cases h
theorem cF {α:Type}{o:Option α}{a:α}(h:fT o = .ok a):o=some a:=by
 cases o with
 |none=>cases h
 |some b=>cases h;rfl
theorem aE.new {H:Hp}{p:Addr}{o:HO}(h:H p=none):aE H (upd H p o):=fun b u e=>by
 rw[aL];exact e;intro z;subst z;rw[h] at e;cases e
theorem oB:lim<=sizeLine:=by decide
theorem eD {n:Nat}(h:n<=lim):n<=sizeLine:=be h oB
inductive Args (K:Frag) (env:En) (F:Nat->List Addr):Hp->Hp->List (D×Rt)->List V->List Addr->Prop where
 | nil {H H':Hp}(e:aE H H'):Args K env F H H' [] [] []
 | cons {H H1 H':Hp}{p:D×Rt}{v:V}{G G':List Addr}{l:List (D×Rt)}{vs:List V}(e:aE H H1) (r:Rep K H1 p.1 v G) (t:bK env F H p.2 H1 G) (s:Args K env F H1 H' l vs G'):Args K env F H H' (p::l) (v::vs) (G++G')
section
variable {K:Frag}{env:En}{F:Nat->List Addr}
theorem Args.same:∀{H H':Hp}{l:List (D×Rt)}{vs:List V}{G:List Addr},Args K env F H H' l vs G->aE H H'
 |_,_,_,_,_,.nil e=>e
 |_,_,_,_,_,.cons e _ _ s=>e.trans s.same
theorem Args.reps:∀{H H':Hp}{l:List (D×Rt)}{vs:List V}{G:List Addr},Args K env F H H' l vs G->aD K H' (l.map (·.1)) vs G
 |_,_,_,_,_,.nil _=>.nil
 |_,_,_,_,_,.cons _ r _ s=>.cons (r.same s.same) s.reps
theorem Args.cont:∀{H H':Hp}{l:List (D×Rt)}{vs:List V}{G:List Addr},Args K env F H H' l vs G->∀ a∈G,H a=none\/∃ i d t,a∈F i/\env[i]? = some (some (d,t))/\∀ q∈aT i t,q∈aS (l.map (·.2))
 |_,_,_,_,_,.nil _,a,h=>by cases h
 | _,_,_,_,_,.cons (p:=p) (l:=l) e r t s,a,h=>by
  have e1:aS ((p::l).map (·.2))=p.2.roots++aS (l.map (·.2)):=by simp[aS]
  rw[e1];rcases List.mem_append.mp h with h | h
  ·exact (t.cont a h).imp id fun ⟨i,d,t,x,y,z⟩=>⟨i,d,t,x,y,fun q hq=>bh _ (z q hq)⟩
  ·exact (s.cont a h).imp (aE.no e) fun ⟨i,d,t,x,y,z⟩=>⟨i,d,t,x,y,fun q hq=>aw _ (z q hq)⟩
theorem Args.two {H H':Hp}{p q:D×Rt}{x y:V}{G:List Addr}(ar:Args K env F H H' [p,q] [x,y] G) :
  ∃ H1 G1 G2,G=G1++G2/\aE H H1/\Rep K H1 p.1 x G1/\bK env F H p.2 H1 G1/\aE H1 H'/\Rep K H' q.1 y G2:=by
 cases ar with
 |cons e r t s =>
  cases s with
  |cons e' r' t' s' =>
   cases s' with
   |nil e''=>exact⟨_,_,_,by rw[ba],e,r,t,e'.trans e'',r'.same e''⟩
theorem Args.mv {P:Addr->Prop}{σ:L2.St}:∀{H H':Hp}{l:List (D×Rt)}{vs:List V}{G:List Addr}{R:List Nat},RE K P env σ H F->Args K env F H H' l vs G->dO (l.map (·.2))=some R->R.Nodup ->
  G.Nodup/\(∀ a∈G,∃ vs:ML,H' a=some vs.o)/\∀ a∈G,H a=none\/∃ i d t,i∈R/\a∈F i/\env[i]? = some (some (d,t))/\aW t=true
 |_,_,_,_,_,_,_,.nil _,_,_=>⟨cg,fun _ h=>(nomatch h),fun _ h=>(nomatch h)⟩
 | H,_,_,_,_,_,re,.cons (p:=p) (l:=l) (G:=G) (G':=G') e r t s,hm,nd=>by
  obtain⟨d,rt⟩:=p;cases rt with
  |sh Q=>simp[dO] at hm
  |mv R1 =>
   simp only[List.map_cons,dO,Option.map_eq_some_iff] at hm;obtain⟨R2,h2,rfl⟩:=hm;obtain⟨n1,n2,n12⟩:=gc.mp nd;obtain⟨a1,b1,c1⟩:=t.mv R1 rfl;obtain⟨a2,b2,c2⟩:=Args.mv (re.same e) s h2 n2;refine⟨gc.mpr ⟨a1,a2,fun x hx y hy z=>?_⟩,fun x hx=>?_,fun x hx=>?_⟩
   ·subst z;rcases c2 x hy with q | ⟨i2,d2,t2,m2,f2,e2,o2⟩
    ·exact r.nn hx q
    ·rcases c1 x hx with q | ⟨i1,d1,t1,m1,f1,e1,o1⟩
     ·obtain⟨v,_,rp⟩:=re.val i2 d2 t2 e2;exact rp.nn f2 q
     ·have q:=(re.one i1 d1 t1 e1 o1).2.2 x f1 i2 d2 t2 e2 f2;have q':i1=i2:=by cases t2<;>simp_all [aT,aW]
      exact n12 i1 m1 i2 m2 q'
   ·rcases List.mem_append.mp hx with hx | hx
    ·obtain⟨vs,q⟩:=b1 x hx;exact⟨vs,s.same _ _ q⟩
    ·exact b2 x hx
   ·rcases List.mem_append.mp hx with hx | hx
    ·exact (c1 x hx).imp id fun ⟨i,d,t,m,z⟩=>⟨i,d,t,bh _ m,z⟩
    ·exact (c2 x hx).imp (aE.no e) fun ⟨i,d,t,m,z⟩=>⟨i,d,t,aw _ m,z⟩
theorem Args.comb {P:Addr->Prop}{σ:L2.St}{H H':Hp}{l:List (D×Rt)}{vs:List V}{G:List Addr}(re:RE K P env σ H F)(ar:Args K env F H H' l vs G):bK env F H (m5 (l.map (·.2))) H' G:=by
 unfold m5;cases hm:dO (l.map (·.2)) with
 |none=>exact⟨ar.cont,fun R e=>by cases e⟩
 |some R =>
  have er:∀(l:List Rt) (R:List Nat),dO l=some R->aS l=R:=by
   intro l
   induction l with
   |nil=>intro R h;simp[dO] at h;subst h;rfl
   |cons x r ih =>
    intro R h;cases x with
    |sh Q=>simp[dO] at h
    |mv Q =>
     simp only[dO,Option.map_eq_some_iff] at h;obtain⟨R2,h2,rfl⟩:=h;have:=ih R2 h2;simp only[aS,List.map_cons,List.flatten_cons,Rt.roots] at this ⊢;rw[this]
  have er:=er _ R hm;by_cases nd:R.Nodup
  ·simp only[nd,if_true];obtain⟨a,b,c⟩:=ar.mv re hm nd;refine⟨fun x hx=>?_,fun R' e=>by cases e;exact⟨a,b,c⟩⟩;rcases c x hx with q | ⟨i,d,t,m,f,e,o⟩
   ·exact .inl q
   ·exact .inr ⟨i,d,t,f,e,fun q hq=>by cases t<;>simp_all [aT,aW,Rt.roots]⟩
  ·simp only[nd,if_false];exact⟨fun x hx=>by have:=ar.cont x hx;rw[er] at this;exact this,fun R' e=>by cases e⟩
end
structure eI (H H':Hp)(G0:List Addr)(d:D)(G:List Addr):Prop where
 same:aE H H'
 sub:∀ a∈G,H a=none\/a∈G0
 new:d.inner=true->G.Nodup/\∀ a∈G,H a=none/\∃ vs:ML,H' a=some vs.o
section
variable {K:Frag}{H:Hp}{G0:List Addr}
theorem eI.nil {d:D}:eI H H G0 d []:=⟨aE.refl _,fun _ h=>(nomatch h),fun _=>⟨cg,fun _ h=>(nomatch h)⟩⟩
theorem iO {ds:List D}{vs:List V}{G:List Addr}{p:Addr}(r:aD K H ds vs G)(hs:∀ a∈G,a∈G0)(hp:H p=none) :
  Rep K (upd H p (.lst vs)) (.lst ds) (.ref p) (p::G)/\eI H (upd H p (.lst vs)) G0 (.lst ds) (p::G):=by
 have e:=aE.new (o:=.lst vs) hp;refine⟨.lst (.inl aI) (r.same e),e,fun a ha=>?_,fun f=>?_⟩
 ·rcases gd.mp ha with rfl | ha
  ·exact .inl hp
  ·exact .inr (hs a ha)
 ·have:G=[]:=r.flat f;subst this;exact⟨by simp,fun a ha=>by
   have:a=p:=by simpa using ha
   subst this;exact⟨hp,.l _,aI⟩⟩
theorem t6 {ds:List D}{vs:List V}{G:List Addr}{p:Addr}(r:aD K H ds vs G)(hs:∀ a∈G,a∈G0)(hp:H p=none) :
  Rep K (upd H p (.tup vs)) (.tup ds) (.ref p) G/\eI H (upd H p (.tup vs)) G0 (.tup ds) G:=by
 have e:=aE.new (o:=.tup vs) hp;refine⟨.tup (.inl aI) (r.same e),e,fun a ha=>.inr (hs a ha),fun f=>?_⟩;have:G=[]:=r.flat f;subst this;exact⟨by simp,fun a ha=>(nomatch ha)⟩
theorem bK.new {env:En}{F:Nat->List Addr}{H1 H':Hp}{l:List (D×Rt)}{vs:List V}{G:List Addr}{d:D}{R:List Nat}(ar:Args K env F H H1 l vs G0)(nv:eI H1 H' G0 d G)(hR:∀ q∈aS (l.map (·.2)),q∈R):bK env F H (dQ d R) H' G:=by
 unfold dQ;cases hi:d.inner with
 |true =>
  obtain⟨a,b⟩:=nv.new hi;have c:∀ x∈G,H x=none:=fun x hx=>aE.no ar.same (b x hx).1
  exact⟨fun x hx=>.inl (c x hx),fun R' e=>⟨a,fun x hx=>(b x hx).2,fun x hx=>.inl (c x hx)⟩⟩
 |false =>
  refine⟨fun x hx=>?_,fun R' e=>by cases e⟩;rcases nv.sub x hx with q | q
  ·exact .inl (aE.no ar.same q)
  ·exact (ar.cont x q).imp id fun ⟨i,d,t,f,e,z⟩=>⟨i,d,t,f,e,fun q hq=>hR q (z q hq)⟩
end
section
variable {X:Cx}
theorem bC {e:Expr}{t t':TE}(h:PE X e t)(k:∀ σ H Q,t' σ H Q->t σ H Q):PE X e t':=fun pins s σ H Q I q=>h pins s σ H Q I (k σ H Q q)
theorem pS {e:Expr}{t t':TT}(h:PT X e t)(k:∀ σ H Q,t' σ H Q->t σ H Q):PT X e t':=fun pins s σ H Q I q=>h pins s σ H Q I (k σ H Q q)
theorem vA {e:List Expr}{t t':TA}(h:PA X e t)(k:∀ σ H Q,t' σ H Q->t σ H Q):PA X e t':=fun pos pins s σ H Q I q=>h pos pins s σ H Q I (k σ H Q q)
theorem dB {e:Stmt}{t t':TS}(h:PS X e t)(k:∀ D σ H,t' D σ H->t D σ H):PS X e t':=fun pins s σ H D I q=>h pins s σ H D I (k D σ H q)
theorem qE {e:List Stmt}{t t':TS}(h:jS X e t)(k:∀ D σ H,t' D σ H->t D σ H):jS X e t':=fun pins s σ H D I q=>h pins s σ H D I (k D σ H q)
end
def tE (K:Frag)(T:Tb)(c:Ex):TE:=fun σ H Q=>∃ P env F,RE K P env σ H F/\∃ p,ev T c env = .ok p/\∀ v H' G,aE H H'->Rep K H' p.1 v G->bK env F H p.2 H' G->Q v H'
def sQ (K:Frag)(T:Tb)(cs:kK):TA:=fun σ H Q=>∃ P env F,RE K P env σ H F/\∃ l,bE T cs env = .ok l/\∀ vs H' G,Args K env F H H' l vs G->Q vs H'
def kJ (K:Frag)(T:Tb)(c:Ex):TT:=fun σ H Q=>∃ P env F,RE K P env σ H F/\∃ p b,ev T c env = .ok p/\truth p.1=some b/\∀ H',aE H H'->Q b H'
section
variable {K:Frag}{T:Tb}{P:Addr->Prop}{env:En}{F:Nat->List Addr}{σ:L2.St}{H:Hp}
theorem two {ca cb:Ex}{r:R2}{Q:VK}{p q:D×Rt}(re:RE K P env σ H F)(h1:ev T ca env = .ok p)(h2:ev T cb env = .ok q)(k:∀ x y H2 G,Args K env F H H2 [p,q] [x,y] G->r x y H2 Q):CC r (tE K T ca) (tE K T cb) σ H Q :=
 ⟨P,env,F,re,p,h1,fun v1 H1 G1 s1 rp1 rt1=>⟨P,env,F,re.same s1,q,h2,fun v2 H2 G2 s2 rp2 rt2=>k v1 v2 H2 _ (.cons s1 rp1 rt1 (.cons s2 rp2 rt2 (.nil (aE.refl _))))⟩⟩
end
noncomputable def xq (K:Frag)(f:D->D->Option D):R2:=fun x y H Q=>∃ d1 d2 d G,aD K H [d1,d2] [x,y] G/\f d1 d2=some d/\∀ v H' G',Rep K H' d v G'->eI H H' G d G'->Q v H'
noncomputable def DJ (K:Frag):R2:=fun x y H Q=>∃ d1 d2 d G,aD K H [d1,d2] [x,y] G/\AY d1 d2=some d/\∀ v G',Rep K H d v G'->G'.Sublist G->Q v H
section
variable {X:Cx}{T:Tb}{a b c:Expr}{ca cb cc:Ex}{pos:Pos}
theorem zL {op:Operator}(ho:fQ X (binaryOp op) (xq X.K (pY op)))(ha:PE X a (tE X.K T ca))(hb:PE X b (tE X.K T cb)):PE X (.BinOp a op b pos) (tE X.K T (.bin op ca cb)):=by
 refine bC (nV ho ha hb) fun σ H Q ⟨P,env,F,re,p0,hev,k⟩=>?_
 unfold ev at hev;obtain⟨p,h1,hev⟩:=Rs.bind_ok hev;obtain⟨q,h2,hev⟩:=Rs.bind_ok hev;obtain⟨d,h3,hev⟩:=Rs.bind_ok hev;have h3:=cF h3;cases hev;refine two re h1 h2 fun x y H2 G ar=>⟨p.1,q.1,d,G,ar.reps,h3,fun v H' G' rp nv=>k v H' G' (ar.same.trans nv.same) rp (bK.new ar nv fun z hz=>by simpa[aS] using hz)⟩
theorem zW {op:CmpOp}(ho:fQ X (compareOp op) (xq X.K fun x y=>(kW op x y).map .bl))(ha:PE X a (tE X.K T ca))(hb:PE X b (tE X.K T cb))(hm:behindInMarks op b=false):PE X (.Compare a [op] [b] pos) (tE X.K T (.cmp op ca cb)):=by
 refine bC (wu ho ha hb hm) fun σ H Q ⟨P,env,F,re,p0,hev,k⟩=>?_
 unfold ev at hev;obtain⟨p,h1,hev⟩:=Rs.bind_ok hev;obtain⟨q,h2,hev⟩:=Rs.bind_ok hev;obtain⟨d,h3,hev⟩:=Rs.bind_ok hev;have h3:=cF h3;cases hev;refine two re h1 h2 fun x y H2 G ar=>⟨p.1,q.1,.bl d,G,ar.reps,by simp[h3],fun v H' G' rp nv=>k v H' G' (ar.same.trans nv.same) rp ?_⟩
 have:G'=[]:=rp.flat rfl;subst this;exact bK.nil
theorem DE (ho:BP X (DJ X.K))(ha:PE X a (tE X.K T ca))(hb:PE X b (tE X.K T cb))(hs:mQ b):PE X (.Subscript a b pos) (tE X.K T (.ix ca cb)):=by
 refine bC (DM ho ha hb hs) fun σ H Q ⟨P,env,F,re,p0,hev,k⟩=>?_
 unfold ev at hev;obtain⟨p,h1,hev⟩:=Rs.bind_ok hev;obtain⟨q,h2,hev⟩:=Rs.bind_ok hev;obtain⟨d,h3,hev⟩:=Rs.bind_ok hev;have h3:=cF h3;cases hev;refine two re h1 h2 fun x y H2 G ar=>⟨p.1,q.1,d,G,ar.reps,h3,fun v G' rp sl=>k v H2 G' ar.same rp ?_⟩
 unfold mo;cases hf:d.flat with
 |true =>
  have:G'=[]:=rp.flat hf;subst this;exact bK.nil
 |false =>
  obtain⟨H1,g1,g2,e1,s1,_,rt1,s2,rp2⟩:=ar.two;have hq:q.1.flat=true:=by
   revert h3;intro h3;cases hq:q.1 with
   |int _=>rfl
   |str _=>rfl
   |_=>rw[hq] at h3;revert h3;cases p.1<;>exact fun h3=>nomatch h3
  have rp2:=rp2.flat hq;have rp1:=rt1.later s2;subst rp2;rw[ba] at e1;subst e1;refine⟨fun z hz=>?_,fun R e=>by cases e⟩;exact rp1.cont z (sl.subset hz)
end
end Pc
end
section
namespace Pc
open PySem L2
structure iU (P:Addr->Prop)(H H':Hp):Prop where
 keep:∀ a,P a->H' a=H a
 tup:∀ b xs,H b=some (.tup xs)->H' b=some (.tup xs)
 fz:BR H H'
theorem iU.refl {P:Addr->Prop}(H:Hp):iU P H H:=⟨fun _ _=>rfl,fun _ _ h=>h,fun _ _ _ h=>h⟩
theorem iU.trans {P:Addr->Prop}{H H1 H2:Hp}(a:iU P H H1)(b:iU P H1 H2):iU P H H2:=⟨fun x h=>(b.keep x h).trans (a.keep x h),fun x xs h=>b.tup x xs (a.tup x xs h),fun x o u h=>b.fz x o u (a.fz x o u h)⟩
theorem iU.of_same {P:Addr->Prop}{H H':Hp}(pl:∀ a,P a->H a≠none)(e:aE H H'):iU P H H':=⟨fun a h=>by
 cases q:H a with
 |none=>exact absurd q (pl a h)
 |some o=>exact e _ _ q,fun _ _=>e _ _,fun _ _ _ h=>e _ _ h⟩
theorem iU.weak {P P':Addr->Prop}{H H':Hp}(h:∀ a,P a->P' a)(e:iU P' H H'):iU P H H':=⟨fun a x=>e.keep a (h a x),e.tup,e.fz⟩
theorem iU.tqT {K:Frag}{P:Addr->Prop}{H H':Hp}(e:iU P H H'){b:Addr}{vs:List V}(h:je K H b vs):je K H' b vs:=by
 rcases h with h | h
 ·exact .inl (e.tup b vs h)
 ·exact .inr h
theorem iU.reps {K:Frag}{P:Addr->Prop}{H H':Hp}(e:iU P H H'){ds:List D}{vs:List V}{G:List Addr}(h:aD K H ds vs G)(hp:∀ a∈G,P a):aD K H' ds vs G :=
 h.keep (fun _ _=>e.tqT) e.fz fun b hb _ r=>(e.keep b (hp b hb)).trans r
def oC (env:En)(F:Nat->List Addr)(env':En)(F':Nat->List Addr):Prop:=∀(i:Nat) (d:D),env'[i]? = some (some (d,.lk))->env[i]? = some (some (d,.lk))/\F' i=F i
theorem oC.refl (env:En)(F:Nat->List Addr):oC env F env F:=fun _ _ h=>⟨h,rfl⟩
theorem oC.trans {e1 e2 e3:En}{F1 F2 F3:Nat->List Addr}(a:oC e1 F1 e2 F2)(b:oC e2 F2 e3 F3):oC e1 F1 e3 F3:=fun i d h=>by
 obtain⟨h1,h2⟩:=b i d h;obtain⟨h3,h4⟩:=a i d h1;exact⟨h3,h2.trans h4⟩
structure After (K:Frag)(P Z:Addr->Prop)(env:En)(F:Nat->List Addr)(H:Hp)(env':En)(σ':L2.St)(H':Hp)(F':Nat->List Addr):Prop where
 re:RE K P env' σ' H' F'
 z:∀ i,∀ a∈F' i,Z a
 ev:iU P H H'
 lk:oC env F env' F'
theorem After.trans {K:Frag}{P Z:Addr->Prop}{e1 e2 e3:En}{F1 F2 F3:Nat->List Addr}{H1 H2 H3:Hp}{σ2 σ3:L2.St}(a:After K P Z e1 F1 H1 e2 σ2 H2 F2)(b:After K P Z e2 F2 H2 e3 σ3 H3 F3):After K P Z e1 F1 H1 e3 σ3 H3 F3 :=
 ⟨b.re,b.z,a.ev.trans b.ev,a.lk.trans b.lk⟩
noncomputable def post (K:Frag)(P Z:Addr->Prop)(env:En)(F:Nat->List Addr)(H:Hp)(D:Ends):Fl->Prop
 |.nx env'=>∀ σ' H' F',After K P Z env F H env' σ' H' F'->D.nx σ' H'
 |.bk env'=>∀ σ' H' F',After K P Z env F H env' σ' H' F'->D.bk σ' H'
 |.ct env'=>∀ σ' H' F',After K P Z env F H env' σ' H' F'->D.ct σ' H'
 |.rt d fr=>∀ v H' G,Rep K H' d v G->iU P H H'->(∀ a∈G,Z a)->(fr=true->G.Nodup/\∀ a∈G,¬ P a/\∃ vs:ML,H' a=some vs.o)->D.rt v H'
 |.xc _ _=>False
 |.bad=>False
theorem post.trans {K:Frag}{P Z:Addr->Prop}{e1 e2:En}{F1 F2:Nat->List Addr}{H1 H2:Hp}{σ2:L2.St}{D:Ends}(a:After K P Z e1 F1 H1 e2 σ2 H2 F2):∀{f:Fl},post K P Z e1 F1 H1 D f->post K P Z e2 F2 H2 D f
 |.nx _,h=>fun σ' H' F' b=>h σ' H' F' (a.trans b)
 |.bk _,h=>fun σ' H' F' b=>h σ' H' F' (a.trans b)
 |.ct _,h=>fun σ' H' F' b=>h σ' H' F' (a.trans b)
 |.rt _ _,h=>fun v H' G r e z f=>h v H' G r (a.ev.trans e) z f
 |.xc _ _,h=>h
 |.bad,h=>h
section
variable {K:Frag}{P Z:Addr->Prop}{env:En}{σ:L2.St}{H:Hp}{F:Nat->List Addr}
theorem jP {i:Nat}{d:D}{t:Tg}{G:List Addr}(hi:i<env.length)(ht:t≠.lk):oC env F (put env i d t) (nI F i G):=fun j d' e=>by
 by_cases h:j=i
 ·subst h;rw[cU hi] at e;cases e;exact absurd rfl ht
 ·obtain⟨t0,e0,q⟩:=fJ h e;cases t0 with
  |lk=>exact⟨e0,cP h⟩
  |own=>cases q
  |sh R=>cases q
theorem l0 {i:Nat}{G:List Addr}(hz:∀ i,∀ a∈F i,Z a)(hg:∀ a∈G,Z a):∀ j,∀ a∈nI F i G j,Z a:=fun j a ha=>by
 by_cases h:j=i
 ·subst h;rw[dE] at ha;exact hg a ha
 ·rw[cP h] at ha;exact hz j a ha
theorem vO {H':Hp}{D:Ends}{i:Nat}{mv:Bool}{p:Pc.D×Rt}{v:V}{G:List Addr}(re:RE K P env σ H F)(hz:∀ i,∀ a∈F i,Z a)(zp:∀ a,¬ P a->Z a)(e:aE H H')(rp:Rep K H' p.1 v G)(rt:bK env F H p.2 H' G)
  (h:post K P Z env F H D (rC (.nm i) mv env p)):D.nx (σ.set i (some v)) H':=by
 have re':=re.same e;have ez:∀ a∈G,Z a:=fun a ha=>by
  rcases rt.cont a ha with q | ⟨j,_,_,f,_⟩
  ·exact zp a fun z=>re.pl a z q
  ·exact hz j a f
 have jA:=iU.of_same (P:=P) re.pl e;unfold rC at h;by_cases hi:i<env.length
 ·simp only[hi,if_true] at h;have shared:∀ R,p.2.roots=R->post K P Z env F H D (.nx (put env i p.1 (.sh (R.filter (· != i)))))->D.nx (σ.set i (some v)) H':=fun R hR h=>by
   refine h _ H' (nI F i G) ⟨re'.put hi rp (fun o=>by cases o) (fun o=>by cases o) fun a ha j d' t' hj ej o m=>?_,l0 hz ez,jA,jP hi (by intro z;cases z)⟩;rcases rt.cont a ha with q | ⟨k,d2,t2,f,e2,s⟩
   ·exact absurd q (re.nn ej m)
   ·have:=s j ((re.one j d' t' ej o).2.2 a m k d2 t2 e2 f);rw[hR] at this;simp only[aT,List.mem_filter];exact⟨this,by simpa using hj⟩
  cases hr:p.2 with
  |sh R=>rw[hr] at h;exact shared R (by rw[hr];rfl) h
  |mv R =>
   rw[hr] at h;obtain⟨m1,m2,m3⟩:=rt.mv R hr;cases R with
   |nil =>
    have fresh:∀ a∈G,H a=none:=fun a ha=>by
     rcases m3 a ha with q | ⟨_,_,_,q,_⟩
     ·exact q
     ·cases q
    refine h _ H' (nI F i G) ⟨re'.put hi rp (fun _=>⟨m1,m2,fun a ha j _ m=>?_⟩) (fun _ a ha z=>re.pl a z (fresh a ha)) fun a ha j d' t' hj ej o m=>?_,l0 hz ez,jA,jP hi (by intro z;cases z)⟩
    ·obtain⟨d2,t2,e2⟩:=re.at' m;exact re.nn e2 m (fresh a ha)
    ·exact absurd (fresh a ha) (re.nn ej m)
   |cons r0 R0 =>
    cases mv with
    |false=>exact shared _ (by rw[hr];rfl) h
    |true =>
     simp only[if_true] at h;by_cases ho:gB env (r0::R0)=true
     ·rw[if_pos ho] at h;have fg:=re'.forget (env':=kill (r0::R0) env) (cJ _ _) fun j d' t' ej=>(bY ej).1
      have ow:∀ k∈r0::R0,∃ d',env[k]? = some (some (d',.own)):=fun k hk=>by
       have:=bw.mp ho k hk;split at this
       ·rename_i d' q;exact⟨d',q⟩
       ·cases this
      have apart:∀ a∈G,∀ j,j≠i->a∉(match (kill (r0::R0) env)[j]? with | some (some _)=>F j | _=>[]):=fun a ha j hj m=>by
       split at m
       ·rename_i q ej;obtain⟨dj,tj⟩:=q;obtain⟨e0,h1,h2⟩:=bY ej;rcases m3 a ha with q | ⟨k,d2,t2,hk,f,e2,o2⟩
        ·exact re.nn e0 m q
        ·exact h2 k hk ((re.one k d2 t2 e2 o2).2.2 a f j dj tj e0 m)
       ·cases m
      refine h _ H' _ ⟨fg.put (by rw[cJ];exact hi) rp (fun _=>⟨m1,m2,apart⟩) (fun _ a ha z=>?_) fun a ha j d' t' hj ej o m=>absurd m (apart a ha j hj),l0 (fun j a ha=>?_) ez,jA,fun j d' ej=>?_⟩
      ·rcases m3 a ha with q | ⟨k,d2,t2,hk,f,e2,o2⟩
       ·exact re.pl a z q
       ·obtain⟨d3,e3⟩:=ow k hk;exact re.wr k d3 e3 a f z
      ·split at ha
       ·exact hz j a ha
       ·cases ha
      ·by_cases hj:j=i
       ·subst hj;rw[cU (by rw[cJ];exact hi)] at ej;cases ej
       ·obtain⟨t0,e0,q⟩:=fJ hj ej;cases t0 with
        |lk =>
         refine⟨(bY e0).1,?_⟩;rw[cP hj,e0]
        |own=>cases q
        |sh R=>cases q
     ·rw[if_neg ho] at h;exact h.elim
 ·simp only[hi,if_false] at h;exact h.elim
noncomputable def setM:List Nat->List V->L2.St->L2.St
 |i::is,v::vs,σ=>setM is vs (σ.set i (some v))
 |_,_,σ=>σ
theorem lC:∀{is:List Nat}{ds:List D}{vs:List V}{G:List Addr}{env env':En}{σ:L2.St}{F:Nat->List Addr},RE K P env σ H F->(∀ i,∀ a∈F i,Z a)->aD K H ds vs G->G.Nodup->(∀ a∈G,∃ vs:ML,H a=some vs.o)->(∀ a∈G,¬ P a)->(∀ a∈G,Z a) ->
  (∀ a∈G,∀ j,a∉F j)->bindM (fun _=>.own) is ds env=some env'->∃ F',RE K P env' (setM is vs σ) H F'/\(∀ i,∀ a∈F' i,Z a)/\oC env F env' F'/\is.length=vs.length
 | [],_,_,_,env,env',σ,F,re,hz,.nil,_,_,_,_,_,h=>by
  simp only[bindM,Option.some.injEq] at h;subst h;exact⟨F,re,hz,oC.refl _ _,rfl⟩
 | i::is,_,_,_,env,env',σ,F,re,hz,.cons (G:=G1) (G':=G2) r rs,nd,ll,np,gz,ap,h=>by
  simp only[bindM] at h;by_cases hi:i<env.length
  ·rw[if_pos hi] at h;obtain⟨n1,n2,n12⟩:=gc.mp nd;have re1:=re.put (t:=.own) hi r (fun _=>⟨n1,fun a ha=>ll a (bh _ ha),fun a ha j _=>ap a (bh _ ha) j⟩) (fun _ a ha=>np a (bh _ ha)) fun a ha j _ _ _ _ _ m=>absurd m (ap a (bh _ ha) j)
   obtain⟨F',a1,a2,a3,a4⟩:=lC re1 (l0 hz fun a ha=>gz a (bh _ ha)) rs n2 (fun a ha=>ll a (aw _ ha)) (fun a ha=>np a (aw _ ha)) (fun a ha=>gz a (aw _ ha)) (fun a ha j m=>by
    by_cases hj:j=i
    ·subst hj;rw[dE] at m;exact n12 a m a ha rfl
    ·rw[cP hj] at m;exact ap a (aw _ ha) j m) h
   exact⟨F',a1,a2,(jP hi (by intro z;cases z)).trans a3,by simp[a4]⟩
  ·rw[if_neg hi] at h;cases h
 |[],_,_,_,_,_,_,_,_,_,.cons _ _,_,_,_,_,_,h=>by simp[bindM] at h
 |_::_,_,_,_,_,_,_,_,_,_,.nil,_,_,_,_,_,h=>by simp[bindM] at h
theorem ni {d:D}{R:List Nat}:bH d R≠.lk:=by unfold bH;split<;>intro z<;>cases z
theorem qP {i:Nat}{d:D}{v:V}{G:List Addr}{R:List Nat}(re:RE K P env σ H F)(hi:i<env.length)(rp:Rep K H d v G)(hs:∀ a∈G,∀(j:Nat) (d':D) (t':Tg),env[j]? = some (some (d',t'))->aW t'=true->a∈F j->j∈R) :
  RE K P (put env i d (bH d R)) (σ.set i (some v)) H (nI F i G):=by
 unfold bH;cases hf:d.flat with
 |true =>
  have:G=[]:=rp.flat hf;subst this;simp only[if_true];exact re.put hi rp (fun _=>⟨cg,fun _ h=>(nomatch h),fun _ h=>(nomatch h)⟩) (fun _ _ h=>(nomatch h)) fun _ h=>(nomatch h)
 |false =>
  simp only[Bool.false_eq_true,if_false];exact re.put hi rp (fun o=>by cases o) (fun o=>by cases o) fun a ha j d' t' hj ej o m=>hs a ha j d' t' ej o m
theorem j7 {R:List Nat}:∀{is:List Nat}{ds:List D}{vs:List V}{G:List Addr}{env env':En}{σ:L2.St}{F:Nat->List Addr},RE K P env σ H F->(∀ i,∀ a∈F i,Z a)->aD K H ds vs G->(∀ a∈G,Z a) ->
  (∀ a∈G,∀(j:Nat) (d':D) (t':Tg),env[j]? = some (some (d',t'))->aW t'=true->a∈F j->j∈R)->bindM (fun d=>bH d R) is ds env=some env'->∃ F',RE K P env' (setM is vs σ) H F'/\(∀ i,∀ a∈F' i,Z a)/\oC env F env' F'/\is.length=vs.length
 | [],_,_,_,env,env',σ,F,re,hz,.nil,_,_,h=>by
  simp only[bindM,Option.some.injEq] at h;subst h;exact⟨F,re,hz,oC.refl _ _,rfl⟩
 | i::is,_,_,_,env,env',σ,F,re,hz,.cons (d:=d) (G:=G1) (G':=G2) r rs,gz,hs,h=>by
  simp only[bindM] at h;by_cases hi:i<env.length
  ·rw[if_pos hi] at h;have re1:=qP re hi r fun a ha=>hs a (bh _ ha)
   obtain⟨F',a1,a2,a3,a4⟩:=j7 re1 (l0 hz fun a ha=>gz a (bh _ ha)) rs (fun a ha=>gz a (aw _ ha)) (fun a ha j d' t' ej o m=>by
    by_cases hj:j=i
    ·subst hj;rw[cU hi] at ej;simp only[Option.some.injEq,Prod.mk.injEq] at ej;obtain⟨rfl,rfl⟩:=ej;rw[dE] at m;cases hf:d.flat with
     |true=>rw[r.flat hf] at m;cases m
     |false=>simp[bH,hf,aW] at o
    ·rw[cP hj] at m;obtain⟨t0,e0,rfl⟩:=fJ hj ej;rw[i8] at o;exact hs a (aw _ ha) j d' t0 e0 o m) h
   exact⟨F',a1,a2,(jP hi ni).trans a3,by simp[a4]⟩
  ·rw[if_neg hi] at h;cases h
 |[],_,_,_,_,_,_,_,_,_,.cons _ _,_,_,h=>by simp[bindM] at h
 |_::_,_,_,_,_,_,_,_,_,_,.nil,_,_,h=>by simp[bindM] at h
theorem nU (R:List Nat)(env:En):(lock R env).length=env.length:=by simp[lock]
theorem kx {R:List Nat}{env:En}{i:Nat}{d:D}{t:Tg}(e:(lock R env)[i]? = some (some (d,t))) :
  (env[i]? = some (some (d,t))/\(t = .own->i∉R))\/(t = .lk/\i∈R/\env[i]? = some (some (d,.own))):=by
 unfold lock at e;rw[List.getElem?_mapIdx] at e;cases q:env[i]? with
 |none=>rw[q] at e;cases e
 |some s =>
  rw[q] at e;cases s with
  |none=>cases e
  |some p =>
   obtain⟨a,b⟩:=p;simp only[Option.map_some,Option.some.injEq] at e;cases b with
   |own =>
    simp only at e;by_cases h:R.contains i=true
    ·rw[if_pos h] at e;cases e;exact .inr ⟨rfl,by simpa using h,rfl⟩
    ·rw[if_neg h] at e;cases e;exact .inl ⟨rfl,fun _ z=>h (by simpa using z)⟩
   |lk=>cases e;exact .inl ⟨rfl,fun z=>by cases z⟩
   |sh Q=>cases e;exact .inl ⟨rfl,fun z=>by cases z⟩
theorem uB {R:List Nat}{env:En}{i:Nat}{d:D}{t:Tg}(e:env[i]? = some (some (d,t))):∃ t',(lock R env)[i]? = some (some (d,t'))/\aW t'=aW t/\aT i t'=aT i t:=by
 unfold lock;rw[List.getElem?_mapIdx,e];cases t with
 |own =>
  simp only[Option.map_some];by_cases h:R.contains i=true
  ·exact⟨.lk,by rw[if_pos h],rfl,rfl⟩
  ·exact⟨.own,by rw[if_neg h],rfl,rfl⟩
 |lk=>exact⟨.lk,rfl,rfl,rfl⟩
 |sh Q=>exact⟨.sh Q,rfl,rfl,rfl⟩
theorem eL {R:List Nat}{env:En}{i:Nat}{d:D}{t:Tg}(e:(lock R env)[i]? = some (some (d,t))):∃ t0,env[i]? = some (some (d,t0))/\aW t0=aW t/\aT i t0=aT i t:=by
 rcases kx e with ⟨h,_⟩ | ⟨rfl,_,h⟩
 ·exact⟨t,h,rfl,rfl⟩
 ·exact⟨.own,h,rfl,rfl⟩
theorem RE.locked (re:RE K P env σ H F){R:List Nat}{G:List Addr}(hg:∀ a∈G,H a≠none)(hc:∀ a∈G,∀(i:Nat) (d:D) (t:Tg),env[i]? = some (some (d,t))->aW t=true->a∈F i->i∈R) :
  RE K (fun a=>P a\/a∈G) (lock R env) σ H F where
 len:=(nU R env).trans re.len
 val:=fun i d t e=>let ⟨t0,e0,_⟩:=eL e;re.val i d t0 e0
 emp:=fun i h=>re.emp i fun d t e=>by
  obtain⟨t',e',_⟩:=uB (R:=R) e;exact h d t' e'
 one:=fun i d t e o=>by
  obtain⟨t0,e0,o0,_⟩:=eL e;obtain⟨a,b,c⟩:=re.one i d t0 e0 (o0.trans o);refine⟨a,b,fun x hx j d' t' ej m=>?_⟩;obtain⟨t1,e1,_,s1⟩:=eL ej;rw[<-s1];exact c x hx j d' t1 e1 m
 wr:=fun i d e a ha z=>by
  rcases kx e with ⟨h,hn⟩ | ⟨q,_⟩
  ·rcases z with z | z
   ·exact re.wr i d h a ha z
   ·exact hn rfl (hc a z i d .own h rfl ha)
  ·cases q
 pl:=fun a h=>h.elim (re.pl a) (hg a)
theorem kO (R:List Nat)(env0 env:En):(unlock R env0 env).length=env.length:=by simp[unlock]
theorem g6 {R:List Nat}{env0 env:En}{i:Nat}{d:D}{t:Tg}(e:(unlock R env0 env)[i]? = some (some (d,t))) :
  (env[i]? = some (some (d,t))/\(t = .lk->¬ (i∈R/\∃ d0,env0[i]? = some (some (d0,.own)))))\/(t = .own/\i∈R/\env[i]? = some (some (d,.lk))/\∃ d0,env0[i]? = some (some (d0,.own))):=by
 unfold unlock at e;rw[List.getElem?_mapIdx] at e;cases q:env[i]? with
 |none=>rw[q] at e;cases e
 |some s =>
  rw[q] at e;cases s with
  |none=>cases e
  |some p =>
   obtain⟨a,b⟩:=p;simp only[Option.map_some,Option.some.injEq] at e;cases b with
   |own=>cases e;exact .inl ⟨rfl,fun z=>by cases z⟩
   |sh Q=>cases e;exact .inl ⟨rfl,fun z=>by cases z⟩
   |lk =>
    simp only at e;split at e
    ·rename_i d0 q0;by_cases h:R.contains i=true
     ·rw[if_pos h] at e;cases e;exact .inr ⟨rfl,by simpa using h,rfl,d0,q0⟩
     ·rw[if_neg h] at e;cases e;exact .inl ⟨rfl,fun _ z=>h (by simpa using z.1)⟩
    ·rename_i nq;cases e;exact .inl ⟨rfl,fun _ ⟨_,d0,q0⟩=>nq d0 q0⟩
theorem eO {R:List Nat}{env0 env:En}{i:Nat}{d:D}{t:Tg}(e:(unlock R env0 env)[i]? = some (some (d,t))):∃ t0,env[i]? = some (some (d,t0))/\aW t0=aW t/\aT i t0=aT i t:=by
 rcases g6 e with ⟨h,_⟩ | ⟨rfl,_,h,_⟩
 ·exact⟨t,h,rfl,rfl⟩
 ·exact⟨.lk,h,rfl,rfl⟩
theorem oR {R:List Nat}{env0 env:En}{i:Nat}{d:D}{t:Tg}(e:env[i]? = some (some (d,t))):∃ t',(unlock R env0 env)[i]? = some (some (d,t')):=by
 unfold unlock;rw[List.getElem?_mapIdx,e];cases t with
 |own=>exact⟨.own,rfl⟩
 |sh Q=>exact⟨.sh Q,rfl⟩
 |lk =>
  simp only[Option.map_some];split
  ·by_cases h:R.contains i=true
   ·exact⟨.own,by rw[if_pos h]⟩
   ·exact⟨.lk,by rw[if_neg h]⟩
  ·exact⟨.lk,rfl⟩
theorem After.unlocked {R:List Nat}{G:List Addr}{env':En}{σ':L2.St}{H':Hp}{F':Nat->List Addr}(re:RE K P env σ H F)(a:After K (fun a=>P a\/a∈G) Z (lock R env) F H env' σ' H' F'):After K P Z env F H (unlock R env env') σ' H' F' where
 re:={
  len:=(kO R env env').trans a.re.len
  val:=fun i d t e=>let ⟨t0,e0,_⟩:=eO e;a.re.val i d t0 e0
  emp:=fun i h=>a.re.emp i fun d t e=>by
   obtain⟨t',e'⟩:=oR (R:=R) (env0:=env) e;exact h d t' e'
  one:=fun i d t e o=>by
   obtain⟨t0,e0,o0,_⟩:=eO e;obtain⟨x,y,c⟩:=a.re.one i d t0 e0 (o0.trans o);refine⟨x,y,fun z hz j d' t' ej m=>?_⟩;obtain⟨t1,e1,_,s1⟩:=eO ej;rw[<-s1];exact c z hz j d' t1 e1 m
  wr:=fun i d e b hb z=>by
   rcases g6 e with ⟨h,_⟩ | ⟨_,hR,h,d0,h0⟩
   ·exact a.re.wr i d h b hb (.inl z)
   ·obtain⟨h1,h2⟩:=a.lk i d h;rw[h2] at hb;exact re.wr i d0 h0 b hb z
  pl:=fun b h=>a.re.pl b (.inl h) }
 z:=a.z
 ev:=a.ev.weak fun _ h=>.inl h
 lk:=fun i d e=>by
  rcases g6 e with ⟨h,hn⟩ | ⟨q,_⟩
  ·obtain⟨h1,h2⟩:=a.lk i d h;rcases kx h1 with ⟨h3,_⟩ | ⟨_,hR,h3⟩
   ·exact⟨h3,h2⟩
   ·exact absurd ⟨hR,d,h3⟩ (hn rfl)
  ·cases q
end
section
variable {K:Frag}{P Z:Addr->Prop}{env:En}{σ:L2.St}{H:Hp}{F:Nat->List Addr}
theorem hJ {x:Nat}{d:D}(h:ownAt env x=some d):env[x]? = some (some (d,.own)):=by
 unfold ownAt at h;split at h
 ·rename_i d' q;cases h;exact q
 ·cases h
theorem sE (re:RE K P env σ H F){x:Nat}{d:D}{path:Option Int}{xs:List D}{v:V}(hx:ownAt env x=some d)(hv:σ[x]? = some (some v))(h:d.at1 path=some xs) :
  ∃ p,PV K H v path p/\∀ H',aE H H'->∃ ws Gx,H' p=some (.lst ws)/\aD K H' xs ws Gx/\p∈F x/\(∀ a∈Gx,a∈F x)/\Gx.Nodup/\p∉Gx /\
   ∀ ys us Gy,aD K (upd H' p (.lst us)) ys us Gy->Gy.Nodup->p∉Gy->(∀ a∈Gy,a∈Gx\/a∉F x)->∃ G',Rep K (upd H' p (.lst us)) (d.set1 path ys) v G'/\G'.Nodup/\∀ a∈G',a∈F x\/a∈Gy:=by
 have hx':=hJ hx;obtain⟨u,e,rp⟩:=re.val x d .own hx';rw[hv] at e;cases e;obtain⟨a,b,_⟩:=re.one x d .own hx' rfl;obtain⟨p,pv,f⟩:=rG rp a h;exact⟨p,pv,fun H' e=>f H' e fun y hy=>let ⟨ws,q⟩:=b y hy;⟨ws,e _ _ q⟩⟩
theorem rK {D:Ends}{x:Nat}{d:Pc.D}{path:Option Int}{ys:List Pc.D}{rs:List Rt}(h:post K P Z env F H D (gC x path env d ys rs)):ys.length<=lim:=by
 unfold gC at h;cases hR:dO rs with
 |none=>rw[hR] at h;exact h.elim
 |some R =>
  rw[hR] at h;simp only at h;by_cases hc:(decide R.Nodup&&gB env R && !R.contains x&&decide (ys.length<=lim))=true
  ·simp only[Bool.and_eq_true,decide_eq_true_eq] at hc;exact hc.2
  ·rw[if_neg hc] at h;exact h.elim
theorem vf {H1:Hp}{D:Ends}{x:Nat}{d:Pc.D}{path:Option Int}{ys:List Pc.D}{rs:List Rt}{v:V}{p:Addr}{us:List V}{N:List Addr}
  (re:RE K P env σ H F) (hz:∀ i,∀ a∈F i,Z a) (zp:∀ a,¬ P a->Z a) (e:aE H H1) (hx:ownAt env x=some d) (hv:σ[x]? = some (some v)) (hp:p∈F x)
  (hN:∀ R,dO rs=some R->R.Nodup->N.Nodup/\(∀ a∈N,∃ vs:ML,H1 a=some vs.o)/\∀ a∈N,H a=none\/∃ i d t,i∈R/\a∈F i/\env[i]? = some (some (d,t))/\aW t=true)
  (hset:(∀ a∈N,a∉F x)->N.Nodup->∃ G',Rep K (upd H1 p (.lst us)) (d.set1 path ys) v G'/\G'.Nodup/\∀ a∈G',a∈F x\/a∈N)
  (h:post K P Z env F H D (gC x path env d ys rs)):D.nx σ (upd H1 p (.lst us)):=by
 unfold gC at h;cases hR:dO rs with
 |none=>rw[hR] at h;exact h.elim
 |some R =>
  rw[hR] at h;simp only at h;by_cases hc:(decide R.Nodup&&gB env R && !R.contains x&&decide (ys.length<=lim))=true
  ·rw[if_pos hc] at h;simp only[Bool.and_eq_true,decide_eq_true_eq,Bool.not_eq_true'] at hc;obtain⟨⟨⟨hc1,hc2⟩,hc3⟩,hc4⟩:=hc;have hxR:x∉R:=fun z=>by
    have:R.contains x=true:=by simpa using z
    rw[this] at hc3;cases hc3
   obtain⟨n1,n2,n3⟩:=hN R hR hc1;have hx':=hJ hx;have ow:∀ k∈R,∃ d',env[k]? = some (some (d',.own)):=fun k hk=>by
    have:=bw.mp hc2 k hk;split at this
    ·rename_i d' q;exact⟨d',q⟩
    ·cases this
   have notx:∀ a∈N,a∉F x:=fun a ha m=>by
    rcases n3 a ha with q | ⟨i,d2,t2,hi,f,e2,o2⟩
    ·exact re.nn hx' m q
    ·have:=(re.one i d2 t2 e2 o2).2.2 a f x d .own hx' m;simp only[aT,List.mem_singleton] at this;subst this;exact hxR hi
   obtain⟨G',g1,g2,g3⟩:=hset notx n1;have re1:=re.same e;have pP:∀ a∈N,¬ P a:=fun a ha z=>by
    rcases n3 a ha with q | ⟨i,d2,t2,hi,f,e2,o2⟩
    ·exact re.pl a z q
    ·obtain⟨d3,e3⟩:=ow i hi;exact re.wr i d3 e3 a f z
   have re2:=re1.mutate (R:=R) (N:=N) hx' hv hp g1 g2 g3 fun a ha=>⟨n2 a ha,pP a ha,fun j dj tj ej m=>by
    rcases n3 a ha with q | ⟨i,d2,t2,hi,f,e2,o2⟩
    ·exact absurd q (re.nn ej m)
    ·exact⟨i,ai _ hi,(re.one i d2 t2 e2 o2).2.2 a f j dj tj ej m⟩⟩
   obtain⟨_,lsx,_⟩:=re1.one x d .own hx' rfl;obtain⟨ws,hpl⟩:=lsx p hp;have nPp:¬ P p:=re.wr x d hx' p hp;refine h σ _ _ ⟨re2,fun j a ha=>?_,(iU.of_same re.pl e).trans ⟨fun a z=>aL (fun q=>nPp (q ▸ z)),fun b xs r=>?_,mK hpl⟩,fun j dj ej=>?_⟩
   ·unfold og at ha;split at ha
    ·rcases g3 a ha with q | q
     ·exact hz x a q
     ·exact zp a (pP a q)
    ·split at ha
     ·exact hz j a ha
     ·cases ha
   ·refine (aL (fun q=>?_)).trans r;subst q;rw[hpl] at r;cases ws<;>cases r
   ·by_cases hj:j=x
    ·subst hj;rw[List.getElem?_set_self (by rw[cJ];exact (List.getElem?_eq_some_iff.mp hx').1)] at ej;cases ej
    ·rw[List.getElem?_set_ne (cu hj)] at ej;refine⟨(bY ej).1,?_⟩;unfold og;rw[if_neg hj,ej]
  ·rw[if_neg hc] at h;exact h.elim
end
end Pc
end
section
namespace Pc
open PySem PySem.Spec PyProof.Rows L2
section
variable {K:Frag}{H:Hp}
theorem aD.inv2 {d e:D}{x y:V}{G:List Addr}(h:aD K H [d,e] [x,y] G):∃ G1 G2,Rep K H d x G1/\Rep K H e y G2/\G=G1++G2:=by
 cases h with
 |cons r s =>
  cases s with
  |cons r' s'=>cases s';exact⟨_,_,r,r',by rw[ba]⟩
theorem Rep.int_inv {i:Int}{v:V}{G:List Addr}(h:Rep K H (.int i) v G):v = .int i/\G=[]:=by cases h;exact⟨rfl,rfl⟩
theorem Rep.bl_inv {i:Bool}{v:V}{G:List Addr}(h:Rep K H (.bl i) v G):v = .bl i/\G=[]:=by cases h;exact⟨rfl,rfl⟩
theorem Rep.str_inv {i:Str}{v:V}{G:List Addr}(h:Rep K H (.str i) v G):v = .str i/\G=[]:=by cases h;exact⟨rfl,rfl⟩
theorem Rep.non_inv {v:V}{G:List Addr}(h:Rep K H .non v G):v = .non/\G=[]:=by cases h;exact⟨rfl,rfl⟩
theorem Rep.tup_inv {ds:List D}{v:V}{G:List Addr}(h:Rep K H (.tup ds) v G):∃ p vs,v = .ref p/\hZ K H p vs/\aD K H ds vs G:=by
 cases h with
 |tup a b=>exact⟨_,_,rfl,a.sq,b⟩
theorem Rep.tup_invT {ds:List D}{v:V}{G:List Addr}(h:Rep K H (.tup ds) v G):∃ p vs,v = .ref p/\je K H p vs/\aD K H ds vs G:=by
 cases h with
 |tup a b=>exact⟨_,_,rfl,a,b⟩
end
section
variable {X:Cx}
theorem Inv.lstR {pins:List (Addr×Obj)}{σ:L2.St}{H:Hp}{s:Shared}{l:Addr}{xs:List V}(I:Inv X pins σ H s)(hH:Rd H l (.lst xs)):xs.length<=sizeLine/\∃(its:List Value) (n:Nat),aN xs its/\xs.length=its.length/\s.heap.get? l=some { cls:=.type "list",data:=.seq its.toArray n }:=by
 obtain⟨z,its,n,r,e⟩:=hH.ok I.hok;exact⟨z,its,n,r,r.length,e⟩
noncomputable def C3:R2:=fun x y H Q=>∃ l b xs zs,x = .ref l/\y = .ref b/\Rd H l (.lst xs)/\Rd H b (.lst zs)/\xs.length+zs.length<=sizeLine/\∀ p,H p=none->Q (.ref p) (upd H p (.lst (xs++zs)))
theorem qZ:fQ X (binaryOp .Add) C3:=by
 intro pins s σ H x y v u Q I rx ry h;obtain⟨l,b,xs,zs,rfl,rfl,hH,hB,hz,q⟩:=h;cases rx;cases ry;obtain⟨z,its,n,r,hl,e⟩:=Inv.lstR I hH;obtain⟨z2,its2,n2,r2,hl2,e2⟩:=Inv.lstR I hB;refine PySem.P.add_list e e2 ?_ (by rw[ah,ah];omega);have ea:its.toArray++its2.toArray=(its++its2).toArray:=by simp
 rw[ea];exact⟨.ref _,_,I.lnew (t':=s.toks) (r.append r2) (by rw[ag];omega),rfl,q _ I.fresh⟩
noncomputable def Di:R2:=fun x y H Q=>∃ l k xs,x = .ref l/\y = .int k/\Rd H l (.lst xs)/\-(2 ^ 63)<=k/\k<2 ^ 63/\xs.length*k.toNat<=sizeLine /\
 ∀ p,H p=none->Q (.ref p) (upd H p (.lst (List.replicate k.toNat xs).flatten))
theorem yb:fQ X (binaryOp .Mult) Di:=by
 intro pins s σ H x y v u Q I rx ry h;obtain⟨l,k,xs,rfl,rfl,hH,h1,h2,hz,q⟩:=h;cases rx;obtain⟨t,rfl⟩:=ry;obtain⟨z,its,n,r,hl,e⟩:=Inv.lstR I hH;have hlen:its.toArray.size*k.toNat<=sizeLine:=by rw[ah,<-hl];exact hz
 have hcap:¬ its.toArray.size*k.toNat > (2 ^ 63 - 1) / 8:=by
  have:(sizeLine:Nat)<=(2 ^ 63 - 1) / 8:=by decide
  omega
 have hfit:¬ (!Builtin.List.listFitsIndex k)=true:=by
  rw[fitsIndex_both h1 h2];exact ao
 have hlong:¬ Builtin.List.listTooLong (its.toArray.size*k.toNat)=true:=by
  rw[vk hlen];exact ao
 have hnew:List.foldl (fun x1 x2=>x1++x2) #[] (List.replicate (if its.toArray.isEmpty=true then 0 else k.toNat) its.toArray)=(List.replicate k.toNat its).flatten.toArray:=by
  have f0:∀ m:Nat,List.foldl (fun x1 x2=>x1++x2) #[] (List.replicate m its.toArray)=(List.replicate m its).flatten.toArray:=fun m=>by
   have:=foldl_rep its m [];rw[gu] at this;exact this
  rw[f0];cases its with
  |nil=>simp
  |cons a r'=>rw[if_neg (by simp)]
 refine wpAny_binaryOp_repeat_ref (T:="list") (U:="int") (by decide) ⟨_,e,rfl⟩ (fun s'=>typeIs_int s' k t) noFill_list_mul F.fills_int_mul F.slot_int_rmul repeat_list F.slot_int_index.lookup
  (call_meets F.slot_int_rmul (typeIs_int s k t) F.entry_int_rmul (F.args_int_rmul_2 _ _) (int___rmul___int_list k t l its.toArray n)
   ⟨e,rfl,⟨_,e,rfl⟩,call_meets F.slot_list_mul ⟨_,e,rfl⟩ F.entry_list_mul (F.args_list_mul_2 _ _) (AutoListH.list___mul___list_int_3 l its.toArray n k t hfit hcap hlong) ⟨e,?_⟩⟩)
 rw[hnew];exact⟨.ref _,_,I.lnew (t':=s.toks) (r.rep k.toNat) (by rw[len_rep,Nat.mul_comm];exact hz),rfl,q _ I.fresh⟩
theorem aD.rep {K:Frag}{H:Hp}{ds:List D}{vs:List V}(h:aD K H ds vs []):∀ n:Nat,aD K H (List.replicate n ds).flatten (List.replicate n vs).flatten []
 |0=>.nil
 | n+1=>by
  rw[c6,c6,cy,cy];exact h.append (h.rep n)
theorem jm {n:Nat}{d e:D}(h:ck n d=some e):n<=lim/\e=d:=by
 unfold ck at h;split at h
 ·cases h;exact⟨‹_›,rfl⟩
 ·cases h
theorem ma {i:Int}:small i=true↔(-(2 ^ 64)<i/\i<2 ^ 64):=by unfold small;exact decide_eq_true_iff
theorem xg {op:Operator}{i j k:Int}(h:binI op i j=some k):fQ X (binaryOp op) (fun x y H Q=>x = .int i/\y = .int j/\Q (.int k) H):=by
 intro pins s σ H x y v u Q I rx ry q;obtain⟨rfl,rfl,q⟩:=q;cases op with
 |Add=>cases h;exact oX pins s σ H _ _ v u Q I rx ry ⟨i,j,rfl,rfl,q⟩
 |Sub=>cases h;exact Ad pins s σ H _ _ v u Q I rx ry ⟨i,j,rfl,rfl,q⟩
 |Mult =>
  have h:(if small i || small j then some (i*j) else none)=some k:=h;by_cases hc:(small i || small j)=true
  ·rw[if_pos hc] at h;cases h;refine AQ pins s σ H _ _ v u Q I rx ry ⟨i,j,rfl,rfl,?_,q⟩;rw[fq,ma,ma] at hc;exact hc
  ·rw[if_neg hc] at h;cases h
 |FloorDiv =>
  have h:(if 0<j/\j<1073741824 then some (i / j) else none)=some k:=h;by_cases hc:0<j/\j<1073741824
  ·rw[if_pos hc] at h;cases h;exact wR pins s σ H _ _ v u Q I rx ry ⟨i,j,rfl,rfl,hc,q⟩
  ·rw[if_neg hc] at h;cases h
 |Mod =>
  have h:(if 0<j then some (i%j) else none)=some k:=h;by_cases hc:0<j
  ·rw[if_pos hc] at h;cases h;exact Af pins s σ H _ _ v u Q I rx ry ⟨i,j,rfl,rfl,hc,q⟩
  ·rw[if_neg hc] at h;cases h
 |Pow =>
  have h:(if 0<=j/\j<=1000000/\i.natAbs<2 ^ 64 then some (i ^ j.toNat) else none)=some k:=h;by_cases hc:0<=j/\j<=1000000/\i.natAbs<2 ^ 64
  ·rw[if_pos hc] at h;cases h;exact AW pins s σ H _ _ v u Q I rx ry ⟨i,j,rfl,rfl,hc,q⟩
  ·rw[if_neg hc] at h;cases h
 |LShift =>
  have h:(if 0<=j/\j<=1000000/\i.natAbs<2 ^ 64 then some (i*2 ^ j.toNat) else none)=some k:=h;by_cases hc:0<=j/\j<=1000000/\i.natAbs<2 ^ 64
  ·rw[if_pos hc] at h;cases h;exact BK pins s σ H _ _ v u Q I rx ry ⟨i,j,rfl,rfl,hc,q⟩
  ·rw[if_neg hc] at h;cases h
 |RShift =>
  have h:(if 0<=j then some (i / 2 ^ j.toNat) else none)=some k:=h;by_cases hc:0<=j
  ·rw[if_pos hc] at h;cases h;exact zT pins s σ H _ _ v u Q I rx ry ⟨i,j,rfl,rfl,hc,q⟩
  ·rw[if_neg hc] at h;cases h
 |BitAnd=>cases h;exact Bs pins s σ H _ _ v u Q I rx ry ⟨i,j,rfl,rfl,q⟩
 |BitOr=>cases h;exact Cq pins s σ H _ _ v u Q I rx ry ⟨i,j,rfl,rfl,q⟩
 |BitXor=>cases h;exact zX pins s σ H _ _ v u Q I rx ry ⟨i,j,rfl,rfl,q⟩
 |_=>cases h
theorem kY (c:Array Nat):∀(k:Nat) (acc:Array Nat),((List.replicate k c).foldl (fun x y=>x++y) acc).size=acc.size+c.size*k
 |0,acc=>rfl
 | k+1,acc=>by
  rw[c6,gv,kY c k,Array.size_append,Nat.mul_succ];omega
theorem vd (a:Str)(k:Nat):(sX a k).length=a.length*k:=by
 have:=kY a.cps k #[];rw[show (#[]:Array Nat).size=0 from rfl,dw] at this;exact this
theorem pd:fQ X (binaryOp .Mult) (fun x y H Q=>∃(a:Str) (n:Int),x = .str a/\y = .int n/\(1<n/\n<=1000/\0<a.length/\a.length<=1000)/\Q (.str (sX a n.toNat)) H):=by
 intro pins s σ H x y v u Q I rx ry h;obtain⟨a,n,rfl,rfl,⟨h1,h2,h3,h4⟩,q⟩:=h;obtain⟨t,rfl⟩:=rx;obtain⟨t',rfl⟩:=ry;have hn1:¬ n<1:=by omega
 have hn2:(n==1 || a.length==0)=false:=by
  rw[Bool.or_eq_false_iff];exact⟨beq_false_of_ne (by omega),beq_false_of_ne (by omega)⟩
 have hm:a.length*n.toNat<=1000000:=be (Nat.mul_le_mul h4 (show n.toNat<=1000 by omega)) (by decide);refine PySem.P.mul_str (by rw[az (by omega),az (by omega)];rfl) (fun _ _=>?_) (fun _ _=>?_) ?_
 ·have:(1000:Int)<=(2 ^ 63 - 1) / n:=by
   rw[Int.le_ediv_iff_mul_le (by omega)];omega
  omega
 ·unfold Builtin.Str.tooLong;rw[az];rw[sizeLine_eq];omega
 ·rw[if_neg hn1,if_neg (by rw[hn2];exact ao)];simp only[Made.post];refine⟨?_,.str (sX a n.toNat),H,I.tok _,⟨_,rfl⟩,q⟩;show (sX a n.toNat).length<=sizeLine;rw[vd,sizeLine_eq];omega
theorem yy (op:Operator):fQ X (binaryOp op) (xq X.K (pY op)):=by
 intro pins s σ H x y v u Q I rx ry h;obtain⟨d1,d2,d,G,rs,hd,k⟩:=h;obtain⟨G1,G2,r1,r2,rfl⟩:=rs.inv2;cases d1 with
 |int i =>
  cases d2 with
  |int j =>
   obtain⟨rfl,rfl⟩:=r1.int_inv;obtain⟨rfl,rfl⟩:=r2.int_inv;have:pY op (.int i) (.int j)=(binI op i j).map .int:=rfl;rw[this,aa] at hd;obtain⟨z,hz,rfl⟩:=hd;exact xg hz pins s σ H _ _ v u Q I rx ry ⟨rfl,rfl,k _ H [] (.int z) eI.nil⟩
  |_=>cases hd
 |str a =>
  cases d2 with
  |str b =>
   cases op with
   |Add =>
    obtain⟨hl,rfl⟩:=jm hd;obtain⟨rfl,rfl⟩:=r1.str_inv;obtain⟨rfl,rfl⟩:=r2.str_inv;exact kf pins s σ H _ _ v u Q I rx ry ⟨a,b,rfl,rfl,eD hl,k _ H [] (.str _) eI.nil⟩
   |_=>cases hd
  |int n =>
   cases op with
   |Mult =>
    have hd:(if 1<n/\n<=1000/\0<a.length/\a.length<=1000 then some (D.str (sX a n.toNat)) else none)=some d:=hd;by_cases hc:1<n/\n<=1000/\0<a.length/\a.length<=1000
    ·rw[if_pos hc] at hd;cases hd;obtain⟨rfl,rfl⟩:=r1.str_inv;obtain⟨rfl,rfl⟩:=r2.int_inv;exact pd pins s σ H _ _ v u Q I rx ry ⟨a,n,rfl,rfl,hc,k _ H [] (.str _) eI.nil⟩
    ·rw[if_neg hc] at hd;cases hd
   |_=>cases hd
  |_=>cases op<;>cases hd
 |lst a =>
  obtain⟨p,vs,G',rfl,rfl,h1,h2⟩:=r1.lst_inv;cases d2 with
  |lst b =>
   cases op with
   |Add =>
    obtain⟨hl,rfl⟩:=jm hd;obtain⟨p',vs',G'',rfl,rfl,h1',h2'⟩:=r2.lst_inv;refine qZ pins s σ H _ _ v u Q I rx ry ⟨p,p',vs,vs',rfl,rfl,h1,h1',by rw[<-h2.len,<-h2'.len];exact eD hl,fun q hq=>?_⟩;obtain⟨n1,n2⟩:=iO (G0:=p::G'++p'::G'') (h2.append h2') (fun a ha=>by simp at ha ⊢;rcases ha with ha | ha<;>simp[ha]) hq;exact k _ _ _ n1 n2
   |_=>cases hd
  |int n =>
   cases op with
   |Mult =>
    have hd:(if -(2 ^ 63)<=n/\n<2 ^ 63 then (if D.flats a then ck (a.length*n.toNat) (.lst (List.replicate n.toNat a).flatten) else none) else none)=some d:=hd;by_cases hc : -(2 ^ 63)<=n/\n<2 ^ 63
    ·rw[if_pos hc] at hd;by_cases hf:D.flats a=true
     ·rw[if_pos hf] at hd;obtain⟨hl,rfl⟩:=jm hd;obtain⟨rfl,rfl⟩:=r2.int_inv;have eG:G'=[]:=h2.flat hf;subst eG;refine yb pins s σ H _ _ v u Q I rx ry ⟨p,n,vs,rfl,rfl,h1,hc.1,hc.2,by rw[<-h2.len];exact eD hl,fun q hq=>?_⟩;obtain⟨n1,n2⟩:=iO (G0:=[p] ++ []) (h2.rep n.toNat) (fun a ha=>(nomatch ha)) hq;exact k _ _ _ n1 n2
     ·rw[if_neg hf] at hd;cases hd
    ·rw[if_neg hc] at hd;cases hd
   |_=>cases hd
  |_=>cases op<;>cases hd
 |tup a =>
  obtain⟨p,vs,rfl,h1,h2⟩:=r1.tup_invT;cases d2 with
  |tup b =>
   cases op with
   |Add =>
    have hd:(if a.isEmpty then none else ck (a.length+b.length) (.tup (a++b)))=some d:=hd;by_cases hc:a.isEmpty=true
    ·rw[if_pos hc] at hd;cases hd
    ·rw[if_neg hc] at hd;obtain⟨hl,rfl⟩:=jm hd;obtain⟨p',vs',rfl,h1',h2'⟩:=r2.tup_inv;refine wm pins s σ H _ _ v u Q I rx ry ⟨p,p',vs,vs',rfl,rfl,h1.sq,h1',?_,by rw[<-h2.len,<-h2'.len];exact eD hl,fun hy=>?_,fun _ q hq=>?_⟩
     ·intro z;have:=h2.len;rw[z] at this;cases a with
      |nil=>exact hc rfl
      |cons _ _=>simp at this
     ·subst hy;cases h2' with
      |nil =>
       simp only[List.append_nil] at k;refine k _ H G1 (.tup h1 h2) ⟨aE.refl _,fun a ha=>.inr ha,fun f=>?_⟩;have:G1=[]:=h2.flat (by simpa[D.inner] using f);subst this;exact⟨cg,fun _ h=>(nomatch h)⟩
     ·obtain⟨n1,n2⟩:=t6 (G0:=G1++G2) (h2.append h2') (fun a ha=>ha) hq;exact k _ _ _ n1 n2
   |_=>cases hd
  |_=>cases op<;>cases hd
 |_=>cases hd
open SeqAt in
theorem fV {f:D->D->Option Bool}:∀{xs ys:List D}{b:Bool},lu f xs ys=some b->xs.length=ys.length/\∃ e:Nat->Bool,(∀ j x y,xs[j]? = some x->ys[j]? = some y->f x y=some (e j))/\b=(List.range xs.length).all e
 |[],[],b,h=>by cases h;exact⟨rfl,fun _=>true,fun j x y hx=>by simp at hx,rfl⟩
 | x::xs,y::ys,b,h=>by
  simp only[lu,Option.bind_eq_some_iff,Option.map_eq_some_iff] at h;obtain⟨a,h1,c,h2,rfl⟩:=h;obtain⟨hl,e,he,rfl⟩:=fV h2;refine⟨by simp[hl],fun j=>match j with | 0=>a | j+1=>e j,fun j x' y' hx hy=>?_,?_⟩
  ·cases j with
   |zero=>simp at hx hy;subst hx;subst hy;exact h1
   |succ j=>exact he j x' y' (by simpa using hx) (by simpa using hy)
  ·rw[ak,gq,df,List.all_map];rfl
 |[],_::_,b,h=>by cases h
 |_::_,[],b,h=>by cases h
theorem iI:∀(n:Nat) (d:D) (b:Bool),D.eqf n d d=some b->b=true
 |0,_,_,h=>by cases h
 |n+1,.non,b,h=>by cases h;rfl
 | n+1,.bl x,b,h=>by
  have h:some (x==x)=some b:=h;rw[cq] at h;cases h;rfl
 | n+1,.int x,b,h=>by
  have h:some (x==x)=some b:=h;rw[cq] at h;cases h;rfl
 | n+1,.str x,b,h=>by
  have h:some (x==x)=some b:=h;rw[cq] at h;cases h;rfl
 | n+1,.lst xs,b,h=>by
  have h:(if xs.length=xs.length then lu (D.eqf n) xs xs else some false)=some b:=h;rw[if_pos rfl] at h;obtain⟨_,e,he,rfl⟩:=fV h;rw[bw];intro j hj;have hj:j<xs.length:=by simpa using hj
  exact iI n xs[j] _ (he j _ _ (by simp[hj]) (by simp[hj]))
 |n+1,.dct _,b,h=>by cases h
 |n+1,.mpi _,b,h=>by cases h
 |n+1,.mpt _,b,h=>by cases h
 |n+1,.mpz _,b,h=>by cases h
 | n+1,.tup xs,b,h=>by
  have h:(if xs.length=xs.length then lu (D.eqf n) xs xs else none)=some b:=h;rw[if_pos rfl] at h;obtain⟨_,e,he,rfl⟩:=fV h;rw[bw];intro j hj;have hj:j<xs.length:=by simpa using hj
  exact iI n xs[j] _ (he j _ _ (by simp[hj]) (by simp[hj]))
section
variable {pins:List (Addr×Obj)}{σ:L2.St}{H:Hp}{s:Shared}
theorem fC.inj:∀{es:List DictEntry}{kvs kvs':List (Key×Option Int)},fC es kvs->fC es kvs'->kvs=kvs'
 |_,_,_,.nil,h=>by cases h;rfl
 | _,_,_,.cons hh hk hv r,h=>by
  cases h with
  |cons hh' hk' hv' r' =>
   rw[hk] at hk';rw[hv] at hv';cases hk';cases hv';rw[fC.inj r r']
  |si hk' hv' r'=>rw[hk] at hk';cases hk'
  |sn hk' hv' r'=>rw[hk] at hk';cases hk'
 | _,_,_,.si hk hv r,h=>by
  cases h with
  |cons hh' hk' hv' r'=>rw[hk] at hk';cases hk'
  |si hk' hv' r' =>
   rw[hk] at hk';rw[hv] at hv';cases hk';cases hv';rw[fC.inj r r']
  |sn hk' hv' r'=>rw[hv] at hv';cases hv'
 | _,_,_,.sn hk hv r,h=>by
  cases h with
  |cons hh' hk' hv' r'=>rw[hk] at hk';cases hk'
  |si hk' hv' r'=>rw[hv] at hv';cases hv'
  |sn hk' hv' r' =>
   rw[hk] at hk';cases hk';rw[fC.inj r r']
theorem o8.inj {K:Frag}{a:Addr}{kvs kvs':List (Key×Option Int)}(h:o8 K a kvs)(h':o8 K a kvs'):kvs=kvs':=by
 obtain⟨o,es,ep,h1,h2,h3,h4,_⟩:=h;obtain⟨o',es',ep',h1',h2',h3',h4',_⟩:=h';rw[h1] at h1';cases h1';rw[h3] at h3';cases h3';exact h4.inj h4'
theorem jt (I:L2.Inv X pins σ H s){a:Addr}{kvs:List (Key×Option Int)}(h:o8 X.K a kvs):∃ o,s.heap.get? a=some o/\o.cls = .type "dict"/\o.ExactDict:=by
 obtain⟨o,es,ep,h1,h2,h3,h4,_⟩:=h;exact⟨o,I.kIn a o h1,h2.1,h2⟩
noncomputable def nf:HO->Bool
 |.frz _ _=>false
 |_=>true
noncomputable def nt:HO->Bool
 |.tup _=>false
 |_=>true
theorem dN {H:Hp}{a:Addr}{u u':HO}(h:Rd H a u)(h':Rd H a u')(hu:nf u=true:=by rfl)(hu':nf u'=true:=by rfl):u=u':=by
 rcases h with h | ⟨o,h⟩<;>rcases h' with h' | ⟨o',h'⟩<;>rw[h] at h'
 ·exact cj h'
 ·rw[cj h'] at hu;cases hu
 ·rw[<-cj h'] at hu';cases hu'
 ·cases h';rfl
theorem jz (I:L2.Inv X pins σ H s){a:Addr}{o:Obj}(h:X.K.lookup a=some o):H a=none:=(I.bs a o (I.ok.mod.kin a o h)).2
theorem qJ:∀{a b:List Int},a.map (Sum.inl (β:=Str))=b.map Sum.inl->a=b
 |[],[],_=>rfl
 |[],_::_,h=>by cases h
 |_::_,[],h=>by cases h
 | x::a,y::b,h=>by
  have h:(Sum.inl x:Key)::a.map Sum.inl=Sum.inl y::b.map Sum.inl:=h;injection h with h1 h2
  injection h1 with h1
  rw[h1,qJ h2]
theorem qL:∀{a b:List (List Int)},yF a=yF b->a=b
 |[],[],_=>rfl
 |[],_::_,h=>by cases h
 |_::_,[],h=>by cases h
 | x::a,y::b,h=>by
  have h:(x.map Sum.inl,V.bl true)::yF a=(y.map Sum.inl,V.bl true)::yF b:=h;injection h with h1 h2
  injection h1 with h1 _
  rw[qJ h1,qL h2]
theorem hZ.not_rd (I:L2.Inv X pins σ H s){a:Addr}{vs:List V}{u:HO}(h:hZ X.K H a vs)(h':Rd H a u)(hu:nf u=true:=by rfl)(ht:nt u=true:=by rfl):False:=by
 rcases h with h | h
 ·rw[dN h' h hu] at ht;cases ht
 ·obtain⟨o,_,_,h1,_⟩:=h;exact Rd.ne_none h' (jz I h1)
theorem nF:∀{a b:List Int},a.map V.int=b.map V.int->a=b
 |[],[],_=>rfl
 |[],_::_,h=>by cases h
 |_::_,[],h=>by cases h
 | x::a,y::b,h=>by
  injection h with h1 h2
  injection h1 with h1
  rw[h1,nF h2]
theorem oH.inj (I:Inv X pins σ H s):∀{m m':MV}{v:V},oH X.K H m v->oH X.K H m' v->m=m'
 |.tr,.tr,_,_,_=>rfl
 |.int i,.int j,_,h,h'=>by cases h;cases h';rfl
 | .tup a,.tup b,_,⟨p,e,h⟩,⟨p',e',h'⟩=>by
  subst e;cases e';rw[nF (I.tuple_inj h.sq h'.sq)]
 |.tr,.int _,_,h,h'=>by cases h;cases h'
 |.int _,.tr,_,h,h'=>by cases h;cases h'
 |.tr,.tup _,_,h,⟨_,e,_⟩=>by cases h;cases e
 |.tup _,.tr,_,⟨_,e,_⟩,h=>by cases h;cases e
 |.int _,.tup _,_,h,⟨_,e,_⟩=>by cases h;cases e
 |.tup _,.int _,_,⟨_,e,_⟩,h=>by cases h;cases e
theorem gW.inj (I:Inv X pins σ H s):∀{a b:List (Int×MV)}{xs:List (Key×V)},gW X.K H a xs->gW X.K H b xs->a=b
 |[],[],_,_,_=>rfl
 |[],_::_,[],_,h=>h.elim
 |_::_,[],[],h,_=>h.elim
 |[],_::_,_::_,h,_=>h.elim
 |_::_,[],_::_,_,h=>h.elim
 |_::_,_::_,[],h,_=>h.elim
 | (k,m)::a,(k',m')::b,x::xs,⟨h1,h2,h3⟩,⟨g1,g2,g3⟩=>by
  rw[h1] at g1;injection g1 with g1
  have g1:k=k':=g1;rw[g1,show m=m' from oH.inj I h2 g2,gW.inj I h3 g3]
theorem Rep.inj (I:Inv X pins σ H s){d:D}{v:V}{G:List Addr}(h:Rep X.K H d v G):∀{e:D}{G':List Addr},Rep X.K H e v G'->d=e:=by
 refine Rep.rec (motive_1:=fun d v G _=>∀{e:D}{G':List Addr},Rep X.K H e v G'->d=e) (motive_2:=fun ds vs G _=>∀{es:List D}{G':List Addr},aD X.K H es vs G'->ds=es) ?non ?bl ?int ?str ?lst ?tup ?dct ?mpi ?mpt ?mpz ?nil ?cons h
 case non =>
  intro e' G' h;cases h;rfl
 case bl =>
  intro _ e' G' h;cases h;rfl
 case int =>
  intro _ e' G' h;cases h;rfl
 case str =>
  intro _ e' G' h;cases h;rfl
 case mpi =>
  intro p0 ks0 xs0 h r0 e' G' q;cases q with
  |mpi h' r'=>
   rw[h] at h';cases h';rw[gW.inj I r0 r']
  |mpz h' r'=>rw[h] at h';cases h'
  |mpt h'=>exact nomatch dN (.inl h) h'
  |lst h' _=>exact nomatch dN (.inl h) h'
  |tup h' _=>exact (hZ.not_rd I h'.sq (.inl h)).elim
  |dct h' =>
   obtain⟨o,_,_,h1,_⟩:=h';exact absurd (jz I h1) (Rd.ne_none (.inl h))
 case mpz =>
  intro p0 ks0 xs0 o0 h r0 e' G' q;cases q with
  |mpz h' r'=>
   rw[h] at h';cases h';rw[gW.inj I r0 r']
  |mpi h' r'=>rw[h] at h';cases h'
  |mpt h'=>exact nomatch dN (.inr ⟨_,h⟩) h'
  |lst h' _=>exact nomatch dN (.inr ⟨_,h⟩) h'
  |tup h' _=>exact (hZ.not_rd I h'.sq (.inr ⟨_,h⟩)).elim
  |dct h' =>
   obtain⟨o,_,_,h1,_⟩:=h';exact absurd (jz I h1) (Rd.ne_none (.inr ⟨_,h⟩))
 case mpt =>
  intro p0 ks0 h e' G' q;cases q with
  |mpt h'=>
   have:=dN h h';injection this with this
   rw[qL this]
  |mpi h' _=>exact nomatch dN h (.inl h')
  |mpz h' _=>exact nomatch dN h (.inr ⟨_,h'⟩)
  |lst h' _=>exact nomatch dN h h'
  |tup h' _=>exact (hZ.not_rd I h'.sq h).elim
  |dct h' =>
   obtain⟨o,_,_,h1,_⟩:=h';exact absurd (jz I h1) (Rd.ne_none h)
 case lst =>
  intro p0 vs0 ds0 G0 h r ih e' G' q;cases q with
  |mpi h' _=>exact nomatch dN h (.inl h')
  |mpz h' _=>exact nomatch dN h (.inr ⟨_,h'⟩)
  |mpt h'=>exact nomatch dN h h'
  |lst h' r' =>
   have e:=I.list_inj (.inl h) (.inl h');subst e;rw[ih r']
  |dct h' =>
   obtain⟨its,_,pl,_⟩:=I.list (.inl h);obtain⟨o,ho,hc,_⟩:=pl.isList;obtain⟨o',ho',hc',_⟩:=jt I h';rw[ho] at ho';cases ho';rw[hc] at hc';injection hc' with z;exact absurd z (by decide)
  |tup h' r' =>
   obtain⟨its,_,pl,_⟩:=I.list (.inl h);obtain⟨its',_,pt,_⟩:=I.tuple h'.sq;obtain⟨o,ho,hc,_⟩:=pl.isList;obtain⟨o',ho',hc',_⟩:=pt;rw[ho] at ho';cases ho';rw[hc] at hc';injection hc' with z;exact absurd z (by decide)
 case tup =>
  intro p0 vs0 ds0 G0 h r ih e' G' q;cases q with
  |mpi h' _=>exact (hZ.not_rd I h.sq (.inl h')).elim
  |mpz h' _=>exact (hZ.not_rd I h.sq (.inr ⟨_,h'⟩)).elim
  |mpt h'=>exact (hZ.not_rd I h.sq h').elim
  |tup h' r' =>
   have e:=I.tuple_inj h.sq h'.sq;subst e;rw[ih r']
  |dct h' =>
   obtain⟨its',_,pt,_⟩:=I.tuple h.sq;obtain⟨o,ho,hc,_⟩:=pt;obtain⟨o',ho',hc',_⟩:=jt I h';rw[ho] at ho';cases ho';rw[hc] at hc';injection hc' with z;exact absurd z (by decide)
  |lst h' r' =>
   obtain⟨its,_,pl,_⟩:=I.list (.inl h');obtain⟨its',_,pt,_⟩:=I.tuple h.sq;obtain⟨o,ho,hc,_⟩:=pl.isList;obtain⟨o',ho',hc',_⟩:=pt;rw[ho] at ho';cases ho';rw[hc] at hc';injection hc' with z;exact absurd z (by decide)
 case dct =>
  intro p0 ks0 h e' G' q;cases q with
  |mpi h' _ =>
   obtain⟨o,_,_,h1,_⟩:=h;exact absurd (jz I h1) (Rd.ne_none (.inl h'))
  |mpz h' _ =>
   obtain⟨o,_,_,h1,_⟩:=h;exact absurd (jz I h1) (Rd.ne_none (.inr ⟨_,h'⟩))
  |mpt h' =>
   obtain⟨o,_,_,h1,_⟩:=h;exact absurd (jz I h1) (Rd.ne_none h')
  |dct h'=>rw[o8.inj h h']
  |lst h' r' =>
   obtain⟨its,_,pl,_⟩:=I.list (.inl h');obtain⟨o,ho,hc,_⟩:=pl.isList;obtain⟨o',ho',hc',_⟩:=jt I h;rw[ho] at ho';cases ho';rw[hc] at hc';injection hc' with z;exact absurd z (by decide)
  |tup h' r' =>
   obtain⟨its',_,pt,_⟩:=I.tuple h'.sq;obtain⟨o,ho,hc,_⟩:=pt;obtain⟨o',ho',hc',_⟩:=jt I h;rw[ho] at ho';cases ho';rw[hc] at hc';injection hc' with z;exact absurd z (by decide)
 case nil=>intro e' G' h;cases h;rfl
 case cons =>
  intro d0 v0 ds0 vs0 G0 G1 h r i1 i2 e' G' q;cases q with
  |cons h' r'=>rw[i1 h',i2 r']
open SeqAt in
theorem qR (I:Inv X pins σ H s):∀(n:Nat) (A:Around) (d e:D) (v w:V) (G G':List Addr) (u u':Value) (b:Bool),A.units+n<cLine->Rep X.K H d v G->Rep X.K H e w G'->RelV v u->RelV w u'->D.eqf n d e=some b->RcAt A s u u' b/\EqAt A s u u' b
 |0,_,_,_,_,_,_,_,_,_,_,_,_,_,_,_,h=>by cases h
 | n+1,A,d,e,v,w,G,G',u,u',b,hu,r1,r2,q1,q2,h=>by
  have hu1:A.in1.units+n<cLine:=by show A.units+1+n<cLine;omega
  have hu0:A.units<cLine:=by omega
  have items:∀{xs ys:List D}{vs ws:List V}{G1 G2:List Addr}{its its':List Value}{c:Bool},aD X.K H xs vs G1->aD X.K H ys ws G2->aN vs its->aN ws its'->lu (D.eqf n) xs ys=some c ->
    its.toArray.size=its'.toArray.size/\∃ ee:Nat->Bool,c=(List.range its.toArray.size).all ee/\∀ j (h1:j<its.toArray.size) (h2:j<its'.toArray.size),EqAt A.in1 s its.toArray[j] its'.toArray[j] (ee j):=by
   intro xs ys vs ws G1 G2 its its' c a1 a2 b1 b2 hc;obtain⟨hl,ee,he,rfl⟩:=fV hc;have l1:=a1.len;have l2:=a2.len;have l3:=b1.length;have l4:=b2.length;have sz:its.toArray.size=xs.length:=by rw[ah];omega
   refine⟨by rw[ah,ah];omega,ee,by rw[sz],fun j h1 h2=>?_⟩;have j1:j<xs.length:=by rw[<-sz];exact h1
   have j2:j<ys.length:=by omega
   obtain⟨v1,g1,e1,p1,_⟩:=a1.get (i:=j) (d:=xs[j]) (by simp[j1]);obtain⟨v2,g2,e2,p2,_⟩:=a2.get (i:=j) (d:=ys[j]) (by simp[j2]);obtain⟨u1,f1,t1⟩:=b1.get e1;obtain⟨u2,f2,t2⟩:=b2.get e2;have x1:its.toArray[j]=u1:=by
    have:=List.getElem?_eq_some_iff.mp f1;simpa using this.2
   have x2:its'.toArray[j]=u2:=by
    have:=List.getElem?_eq_some_iff.mp f2;simpa using this.2
   rw[x1,x2];exact (qR I n A.in1 _ _ _ _ _ _ _ _ _ hu1 p1 p2 t1 t2 (he j _ _ (by simp[j1]) (by simp[j2]))).2
  have refs:∀{l m:Addr}{c:Bool},(l=m->c=true)->RcAt A s (.ref l) (.ref m) c->RcAt A s (.ref l) (.ref m) c/\EqAt A s (.ref l) (.ref m) c:=fun {l m c} hs hr=>⟨hr,by
   by_cases z:l=m
   ·subst z;rw[hs rfl];exact EqAt.same _
   ·exact EqAt.of_refs z hr⟩
  cases d with
  |dct _=>cases h
  |mpi _=>cases e<;>cases h
  |mpt _=>cases e<;>cases h
  |mpz _=>cases e<;>cases h
  |non =>
   obtain⟨rfl,rfl⟩:=r1.non_inv;cases q1;cases e with
   |dct _=>cases h
   |mpi _=>cases h
   |mpt _=>cases h
   |mpz _=>cases h
   |non=>obtain⟨rfl,rfl⟩:=r2.non_inv;cases q2;cases h;exact⟨RcAt.none_none,EqAt.same _⟩
   |bl c=>obtain⟨rfl,rfl⟩:=r2.bl_inv;cases q2;cases h;exact⟨RcAt.none_bool c,EqAt.none_bool c⟩
   |int i=>obtain⟨rfl,rfl⟩:=r2.int_inv;obtain⟨t,rfl⟩:=q2;cases h;exact⟨RcAt.none_int i t,EqAt.none_int i t⟩
   |str x=>obtain⟨rfl,rfl⟩:=r2.str_inv;obtain⟨t,rfl⟩:=q2;cases h;exact⟨RcAt.none_str x t,EqAt.none_str x t⟩
   |lst ys =>
    obtain⟨m,ws,g,rfl,rfl,a1,a2⟩:=r2.lst_inv;cases q2;obtain⟨its,_,pl,_⟩:=I.list (.inl a1);cases h;exact⟨RcAt.none_list pl.isList hu0,EqAt.none_list pl.isList hu0⟩
   |tup ys =>
    obtain⟨m,ws,rfl,a1,a2⟩:=r2.tup_inv;cases q2;obtain⟨its,_,pl,_⟩:=I.tuple a1;cases h;exact⟨RcAt.none_tuple pl hu0,EqAt.none_tuple pl hu0⟩
  |bl a =>
   obtain⟨rfl,rfl⟩:=r1.bl_inv;cases q1;cases e with
   |dct _=>cases h
   |mpi _=>cases h
   |mpt _=>cases h
   |mpz _=>cases h
   |non=>obtain⟨rfl,rfl⟩:=r2.non_inv;cases q2;cases h;exact⟨RcAt.bool_none a,EqAt.bool_none a⟩
   |bl c=>obtain⟨rfl,rfl⟩:=r2.bl_inv;cases q2;cases h;exact⟨RcAt.bool_bool a c,EqAt.bool_bool a c⟩
   |int i=>obtain⟨rfl,rfl⟩:=r2.int_inv;obtain⟨t,rfl⟩:=q2;cases h;exact⟨RcAt.bool_int a i t,EqAt.bool_int a i t⟩
   |str x=>obtain⟨rfl,rfl⟩:=r2.str_inv;obtain⟨t,rfl⟩:=q2;cases h;exact⟨RcAt.bool_str a x t,EqAt.bool_str a x t⟩
   |lst ys =>
    obtain⟨m,ws,g,rfl,rfl,a1,a2⟩:=r2.lst_inv;cases q2;obtain⟨its,_,pl,_⟩:=I.list (.inl a1);cases h;exact⟨RcAt.bool_list a pl.isList hu0,EqAt.bool_list a pl.isList hu0⟩
   |tup ys =>
    obtain⟨m,ws,rfl,a1,a2⟩:=r2.tup_inv;cases q2;obtain⟨its,_,pl,_⟩:=I.tuple a1;cases h;exact⟨RcAt.bool_tuple a pl hu0,EqAt.bool_tuple a pl hu0⟩
  |int a =>
   obtain⟨rfl,rfl⟩:=r1.int_inv;obtain⟨t0,rfl⟩:=q1;cases e with
   |dct _=>cases h
   |mpi _=>cases h
   |mpt _=>cases h
   |mpz _=>cases h
   |non=>obtain⟨rfl,rfl⟩:=r2.non_inv;cases q2;cases h;exact⟨RcAt.int_none a t0,EqAt.int_none a t0⟩
   |bl c=>obtain⟨rfl,rfl⟩:=r2.bl_inv;cases q2;cases h;exact⟨RcAt.int_bool a t0 c,EqAt.int_bool a t0 c⟩
   |int i=>obtain⟨rfl,rfl⟩:=r2.int_inv;obtain⟨t,rfl⟩:=q2;cases h;exact⟨RcAt.int_int a t0 i t,EqAt.int_int a t0 i t⟩
   |str x=>obtain⟨rfl,rfl⟩:=r2.str_inv;obtain⟨t,rfl⟩:=q2;cases h;exact⟨RcAt.int_str a t0 x t,EqAt.int_str a t0 x t⟩
   |lst ys =>
    obtain⟨m,ws,g,rfl,rfl,a1,a2⟩:=r2.lst_inv;cases q2;obtain⟨its,_,pl,_⟩:=I.list (.inl a1);cases h;exact⟨RcAt.int_list a t0 pl.isList hu0,EqAt.int_list a t0 pl.isList hu0⟩
   |tup ys =>
    obtain⟨m,ws,rfl,a1,a2⟩:=r2.tup_inv;cases q2;obtain⟨its,_,pl,_⟩:=I.tuple a1;cases h;exact⟨RcAt.int_tuple a t0 pl hu0,EqAt.int_tuple a t0 pl hu0⟩
  |str a =>
   obtain⟨rfl,rfl⟩:=r1.str_inv;obtain⟨t0,rfl⟩:=q1;cases e with
   |dct _=>cases h
   |mpi _=>cases h
   |mpt _=>cases h
   |mpz _=>cases h
   |non=>obtain⟨rfl,rfl⟩:=r2.non_inv;cases q2;cases h;exact⟨RcAt.str_none a t0,EqAt.str_none a t0⟩
   |int i=>obtain⟨rfl,rfl⟩:=r2.int_inv;obtain⟨t,rfl⟩:=q2;cases h;exact⟨RcAt.str_int a t0 i t,EqAt.str_int a t0 i t⟩
   |str x=>obtain⟨rfl,rfl⟩:=r2.str_inv;obtain⟨t,rfl⟩:=q2;cases h;exact⟨RcAt.str_str a t0 x t,EqAt.str_str a t0 x t⟩
   |bl c=>obtain⟨rfl,rfl⟩:=r2.bl_inv;cases q2;cases h;exact⟨RcAt.str_bool a t0 c,EqAt.str_bool a t0 c⟩
   |lst ys =>
    obtain⟨m,ws,g,rfl,rfl,a1,a2⟩:=r2.lst_inv;cases q2;obtain⟨its,_,pl,_⟩:=I.list (.inl a1);cases h;exact⟨RcAt.str_list a t0 pl.isList hu0,EqAt.str_list a t0 pl.isList hu0⟩
   |tup ys =>
    obtain⟨m,ws,rfl,a1,a2⟩:=r2.tup_inv;cases q2;obtain⟨its,_,pl,_⟩:=I.tuple a1;cases h;exact⟨RcAt.str_tuple a t0 pl hu0,EqAt.str_tuple a t0 pl hu0⟩
  |lst xs =>
   obtain⟨l,vs,g,rfl,rfl,a1,a2⟩:=r1.lst_inv;cases q1;obtain⟨its,rv,pl,_⟩:=I.list (.inl a1);cases e with
   |dct _=>cases h
   |mpi _=>cases h
   |mpt _=>cases h
   |mpz _=>cases h
   |non=>obtain⟨rfl,rfl⟩:=r2.non_inv;cases q2;cases h;exact⟨RcAt.list_none pl.isList hu0,EqAt.list_none pl.isList hu0⟩
   |lst ys =>
    obtain⟨m,ws,g',rfl,rfl,b1,b2⟩:=r2.lst_inv;cases q2;obtain⟨its',rv',pl',_⟩:=I.list (.inl b1);have same:l=m->b=true:=fun z=>by
     subst z;have e0:=Rep.inj I r1 r2;rw[e0] at h;exact iI _ _ _ h
    have h:(if xs.length=ys.length then lu (D.eqf n) xs ys else some false)=some b:=h;by_cases hl:xs.length=ys.length
    ·rw[if_pos hl] at h;obtain⟨hz,ee,rfl,he⟩:=items a2 b2 rv rv' h;exact refs same (RcAt.lists pl.isList pl'.isList hz hu0 he)
    ·rw[if_neg hl] at h;cases h;have hz:(its.toArray.size != its'.toArray.size)=true:=by
      have l1:=a2.len;have l2:=b2.len;have l3:=rv.length;have l4:=rv'.length;simp only[bne_iff_ne,ne_eq,List.size_toArray];omega
     exact refs same (RcAt.lists_lengths pl.isList pl'.isList hz hu0)
   |bl c=>obtain⟨rfl,rfl⟩:=r2.bl_inv;cases q2;cases h;exact⟨RcAt.list_bool c pl.isList hu0,EqAt.list_bool c pl.isList hu0⟩
   |int c=>obtain⟨rfl,rfl⟩:=r2.int_inv;obtain⟨t,rfl⟩:=q2;cases h;exact⟨RcAt.list_int c t pl.isList hu0,EqAt.list_int c t pl.isList hu0⟩
   |str c=>obtain⟨rfl,rfl⟩:=r2.str_inv;obtain⟨t,rfl⟩:=q2;cases h;exact⟨RcAt.list_str c t pl.isList hu0,EqAt.list_str c t pl.isList hu0⟩
   |tup ys =>
    obtain⟨m,ws,rfl,b1,b2⟩:=r2.tup_inv;cases q2;obtain⟨its',rv',pl',_⟩:=I.tuple b1;cases h;exact⟨RcAt.list_tuple pl.isList pl' hu0,EqAt.list_tuple pl.isList pl' hu0⟩
  |tup xs =>
   obtain⟨l,vs,rfl,a1,a2⟩:=r1.tup_inv;cases q1;obtain⟨its,rv,pl,_⟩:=I.tuple a1;cases e with
   |dct _=>cases h
   |mpi _=>cases h
   |mpt _=>cases h
   |mpz _=>cases h
   |tup ys =>
    obtain⟨m,ws,rfl,b1,b2⟩:=r2.tup_inv;cases q2;obtain⟨its',rv',pl',_⟩:=I.tuple b1;have same:l=m->b=true:=fun z=>by
     subst z;have e0:=Rep.inj I r1 r2;rw[e0] at h;exact iI _ _ _ h
    have h:(if xs.length=ys.length then lu (D.eqf n) xs ys else none)=some b:=h;by_cases hl:xs.length=ys.length
    ·rw[if_pos hl] at h;obtain⟨hz,ee,rfl,he⟩:=items a2 b2 rv rv' h;have q:=RcAt.tuples (e:=ee) pl pl' hu0 he;rw[<-hz,Nat.min_self,cq,Bool.and_true] at q;exact refs same q
    ·rw[if_neg hl] at h;cases h
   |non=>obtain⟨rfl,rfl⟩:=r2.non_inv;cases q2;cases h;exact⟨RcAt.tuple_none pl hu0,EqAt.tuple_none pl hu0⟩
   |bl c=>obtain⟨rfl,rfl⟩:=r2.bl_inv;cases q2;cases h;exact⟨RcAt.tuple_bool c pl hu0,EqAt.tuple_bool c pl hu0⟩
   |int c=>obtain⟨rfl,rfl⟩:=r2.int_inv;obtain⟨t,rfl⟩:=q2;cases h;exact⟨RcAt.tuple_int c t pl hu0,EqAt.tuple_int c t pl hu0⟩
   |str c=>obtain⟨rfl,rfl⟩:=r2.str_inv;obtain⟨t,rfl⟩:=q2;cases h;exact⟨RcAt.tuple_str c t pl hu0,EqAt.tuple_str c t pl hu0⟩
   |lst ys =>
    obtain⟨m,ws,g',rfl,rfl,b1,b2⟩:=r2.lst_inv;cases q2;obtain⟨its',rv',pl',_⟩:=I.list (.inl b1);cases h;exact⟨RcAt.tuple_list pl pl'.isList hu0,EqAt.tuple_list pl pl'.isList hu0⟩
end
end
section
open PySem.SeqAt
open PySem.AutoSeq1 (wpAny_loadPart')
open PySem.MeetsSeq PySem.MeetsSeq2 PySem.MeetsSeq3
theorem uW (A:Around)(s:Shared)(a:Int)(t:Tok)(c:Int)(u:Tok)(prog:Program)(w:World)(E:Value->Shared->Prop)(Q:Value->Shared->Prop)(h:Q (.bool (decide (a<=c))) s) :
  wpAny (model prog w) A (richCompare .LtE (.int a t) (.int c u)) Q E s :=
 (PyProof.Rows.le_int h:wpAny (model prog w) A (compareOp .LtE (.int a t) (.int c u)) Q E s)
noncomputable def sO (R:Result->Shared->Prop)(s0:Shared)(z1 z2:Nat)(rest:List (Value×Value)):Prop :=
 ∃(xs ys:List Value) (p q:List Int),rest=xs.zip ys/\IntsAre xs p/\IntsAre ys q/\p.length+z2=q.length+z1/\R (.ok (.ret (.bool (kC p q)))) s0
theorem sO.turn {R:Result->Shared->Prop}{s0:Shared}{z1 z2:Nat}{y x:Value}{rest:List (Value×Value)}(h:sO R s0 z1 z2 ((y,x)::rest)):∃ a t c u,y = .int a t/\x = .int c u/\(a=c->sO R s0 z1 z2 rest)/\(a≠c->R (.ok (.ret (.bool (decide (a<=c))))) s0):=by
 obtain⟨xs,ys,p,q,hz,h1,h2,hl,hR⟩:=h;cases h1 with
 |nil=>rw[List.zip_nil_left] at hz;cases hz
 |cons a t h1'=>cases h2 with
  |nil=>rw[List.zip_nil_right] at hz;cases hz
  |cons c u h2' =>
   rw[f7] at hz;injection hz with e1 e2
   injection e1 with e3 e4
   refine⟨a,t,c,u,e3,e4,fun e=>?_,fun e=>?_⟩
   ·refine⟨_,_,_,_,e2,h1',h2',?_,?_⟩
    ·simp only[List.length_cons] at hl;omega
    ·unfold kC at hR;rw[if_pos e] at hR;exact hR
   ·unfold kC at hR;rw[if_neg e] at hR;exact hR
theorem sO.fin {R:Result->Shared->Prop}{s0:Shared}{z1 z2:Nat}(h:sO R s0 z1 z2 []):R (.ok (.ret (.bool (decide (z1<=z2))))) s0:=by
 obtain⟨xs,ys,p,q,hz,h1,h2,hl,hR⟩:=h;have e:kC p q=decide (z1<=z2):=by
  cases h1 with
  |nil=>exact (decide_eq_true (by simp only[List.length_nil] at hl;omega)).symm
  |cons a t h1'=>cases h2 with
   |nil=>exact (decide_eq_false (by simp only[List.length_cons,List.length_nil] at hl;omega)).symm
   |cons c u h2'=>rw[f7] at hz;cases hz
 rw[<-e];exact hR
theorem le_meets (l b:Addr)(xs ys:Array Value)(n n2:Nat)(dd dd2:Option Addr)(sl sl2:Array (Option Value))(p q:List Int)(hp:IntsAre xs.toList p)(hq:IntsAre ys.toList q) :
  Meets (Builtin.«tuple.__le__» ⟨[.ref l,.ref b],[]⟩) (fun _ R s=>s.heap.get? l=some { cls:=.type "tuple",dict:=dd,data:=.seq xs n,slots:=sl }/\s.heap.get? b=some { cls:=.type "tuple",dict:=dd2,data:=.seq ys n2,slots:=sl2 }/\R (.ok (.ret (.bool (kC p q)))) s) :=
 .of_wp fun prog w A R s h=>by
  obtain⟨hl,hb,h⟩:=h;have f2:=AutoSeq1.sub_tuple_tuple;have z1:xs.size=p.length:=by rw[<-hp.length];simp
  have z2:ys.size=q.length:=by rw[<-hq.length];simp
  obtain⟨hp',g,d,tk,os⟩:=s
  wp_walk using wpAny_loadPart' hl,wpAny_loadPart' hb,wpAny_forIn_list _ (fun rest b s'=>b.1=none/\s'=⟨hp',g,d,tk,os⟩/\sO R ⟨hp',g,d,tk,os⟩ xs.size ys.size rest) _
  case turn =>
   rintro⟨y,x⟩ rest b s' ⟨hb',rfl,hL⟩;obtain⟨a,t,c,u,rfl,rfl,k1,k2⟩:=hL.turn;obtain⟨e,he,hiff⟩:=HT.nJ A.in1 ⟨hp',g,d,tk,os⟩ a t c u;refine wpAny_bind (he prog w _ _ ?_);cases e with
   |true =>
    have k:=k1 (hiff.mp rfl)
    wp_walk
    exact⟨rfl,rfl,k⟩
   |false =>
    have k:=k2 (fun q=>absurd (hiff.mpr q) ao);have hri:=uW A.in1 ⟨hp',g,d,tk,os⟩ a t c u prog w
    wp_walk using hri
    exact⟨_,rfl,by simpa using k⟩
  case fin =>
   rintro⟨b1,b2⟩ s' ⟨hb',rfl,hL⟩;simp only at hb';subst hb';have hR:=hL.fin
   wp_walk
   exact⟨_,rfl,by simpa[Builtin.Tuple.tupleCompareSizes] using hR⟩
  case h =>
   exact⟨rfl,rfl,xs.toList,ys.toList,p,q,rfl,hp,hq,by omega,h⟩
end
theorem xj {prog:Program}{w:World}{A:Around}{E:Value->Shared->Prop}{s:Shared}{l b:Addr}{xs ys:Array Value}{p q:List Int}{Q:Value->Shared->Prop}(hl:IsTup s.heap l xs)(hb:IsTup s.heap b ys)(hp:IntsAre xs.toList p)(hq:IntsAre ys.toList q)
  (hu:A.units<cLine) (h:Q (.bool (kC p q)) s):wpAny (model prog w) A (compareOp .LtE (.ref l) (.ref b)) Q E s:=by
 obtain⟨⟨c1,d1,t1,sl1⟩,ho,hc,n,hd⟩:=id hl;obtain⟨⟨c2,d2,t2,sl2⟩,ho2,hc2,n2,hd2⟩:=id hb;cases hc;cases hd;cases hc2;cases hd2;exact richCompare_meets_room (op:=.LtE) ⟨_,ho,rfl⟩ ⟨_,ho2,rfl⟩ PySem.F.slot_tuple_le PySem.F.entry_tuple_le (PySem.F.args_tuple_le_2 _ _) (le_meets l b xs ys n n2 d1 d2 sl1 sl2 p q hp hq)
  ⟨ho,ho2,show Value.bool (kC p q)≠Value.notImplemented/\Q (.bool (kC p q)) s from ⟨(fun x=>nomatch x),h⟩⟩ hu
def mY (A:Around)(s:Shared)(y x:Value)(b:Bool):Prop:=∀(prog:Program) (w:World) (E Q:Value->Shared->Prop),Q (.bool b) s->wpAny (model prog w) A (richCompare .Lt y x) Q E s
noncomputable def yR (A:Around)(s:Shared)(z:Bool):List (Value×Value)->Bool->Prop
 |[],b=>b=z
 |p::r,b=>∃ e,SeqAt.EqAt A.in1 s p.1 p.2 e/\(if e=true then yR A s z r b else mY A.in1 s p.1 p.2 b)
section
open PySem.SeqAt
open PySem.AutoSeq1 (wpAny_loadPart')
open PySem.MeetsSeq PySem.MeetsSeq2 PySem.MeetsSeq3
theorem rE (l b:Addr)(xs ys:Array Value)(n n2:Nat)(dd dd2:Option Addr)(sl sl2:Array (Option Value))(c:Bool) :
  Meets (Builtin.«tuple.__lt__» ⟨[.ref l,.ref b],[]⟩) (fun A R s=>s.heap.get? l=some { cls:=.type "tuple",dict:=dd,data:=.seq xs n,slots:=sl }/\s.heap.get? b=some { cls:=.type "tuple",dict:=dd2,data:=.seq ys n2,slots:=sl2 }/\yR A s (decide (xs.size<ys.size)) (xs.toList.zip ys.toList) c/\R (.ok (.ret (.bool c))) s) :=
 .of_wp fun prog w A R s h=>by
  obtain⟨hl,hb,hc,h⟩:=h;have f2:=AutoSeq1.sub_tuple_tuple;obtain⟨hp',g,d,tk,os⟩:=s
  wp_walk using wpAny_loadPart' hl,wpAny_loadPart' hb,wpAny_forIn_list _ (fun rest b s'=>b.1=none/\s'=⟨hp',g,d,tk,os⟩/\yR A ⟨hp',g,d,tk,os⟩ (decide (xs.size<ys.size)) rest c) _
  case turn =>
   rintro⟨y,x⟩ rest b s' ⟨hb',rfl,hL⟩;obtain⟨e,he,hr⟩:=hL;refine wpAny_bind (he prog w _ _ ?_);cases e with
   |true =>
    rw[if_pos rfl] at hr
    wp_walk
    exact⟨rfl,rfl,hr⟩
   |false =>
    rw[if_neg ao] at hr;have hri:=hr prog w
    wp_walk using hri
    exact⟨_,rfl,h⟩
  case fin =>
   rintro⟨b1,b2⟩ s' ⟨hb',rfl,hL⟩;simp only at hb';subst hb';have hL:c=_:=hL;rw[hL] at h
   wp_walk
   exact⟨_,rfl,by simpa[Builtin.Tuple.tupleCompareSizes] using h⟩
  case h =>
   exact⟨rfl,rfl,hc⟩
theorem wy (l b:Addr)(xs ys:Array Value)(n n2:Nat)(dd dd2:Option Addr)(sl sl2:Array (Option Value))(c:Bool):∀(k i:Nat),min xs.size ys.size - i=k ->
  Meets (Builtin.«list.__eq__.loop» ⟨[.ref l,.ref b,rawInt (i:Int),rawInt 0],[]⟩) (fun A R s=>s.heap.get? l=some { cls:=.type "list",dict:=dd,data:=.seq xs n,slots:=sl }/\s.heap.get? b=some { cls:=.type "list",dict:=dd2,data:=.seq ys n2,slots:=sl2 }/\yR A s (decide (xs.size<ys.size)) ((xs.toList.zip ys.toList).drop i) c/\R (.ok (.ret (.bool c))) s):=by
 intro k
 induction k with
 |zero =>
  intro i hk prog w A R s h;obtain⟨hl,hb,hc,hR⟩:=h;have hz:(xs.toList.zip ys.toList).drop i=[]:=List.drop_eq_nil_of_le (by rw[List.length_zip,cv,cv];omega);rw[hz] at hc;have hc:c=_:=hc;have e12:xs[i]? = none\/ys[i]? = none:=by
   by_cases h1:i<xs.size
   ·right;rw[Array.getElem?_eq_none_iff];omega
   ·left;rw[Array.getElem?_eq_none_iff];omega
  unfold Builtin.«list.__eq__.loop»
  wp_walk using wpAny_loadPart' hl,wpAny_loadPart' hb
  rw[c5];rw[hc] at hR;have fin:∀(f:PySem.Fin) (s':Shared),f = .done (.ret (.bool (decide (xs.size<ys.size))))->s'=s->(match f with
   |.done f=>R (.ok f) s'
   |.again c'=>c'.quiet=true/\codeAny (model prog w) A c' R s'):=fun f s' e1 e2=>by subst e1 e2;exact hR
  rcases e12 with e | e
  ·rw[e]
   wp_walk using wpAny_loadPart' hl,wpAny_loadPart' hb
   exact hR
  ·rw[e];cases xs[i]?<;>(dsimp only;wp_walk using wpAny_loadPart' hl,wpAny_loadPart' hb;exact hR)
 |succ k ih =>
  intro i hk prog w A R s h;obtain⟨hl,hb,hc,hR⟩:=h;have hi1:i<xs.size:=by omega
  have hi2:i<ys.size:=by omega
  have hz:(xs.toList.zip ys.toList).drop i=(xs[i],ys[i])::(xs.toList.zip ys.toList).drop (i+1):=by
   rw[f9 (by rw[List.length_zip,cv,cv];omega)];simp
  rw[hz] at hc;obtain⟨e,he,hr⟩:=hc;have e1:xs[i]? = some xs[i]:=by simp[hi1]
  have e2:ys[i]? = some ys[i]:=by simp[hi2]
  unfold Builtin.«list.__eq__.loop»
  wp_walk using wpAny_loadPart' hl,wpAny_loadPart' hb
  rw[c5,e1,e2];dsimp only;refine wpAny_bind (he prog w _ _ ?_);cases e with
  |true =>
   rw[if_pos rfl] at hr;rw[if_pos rfl];refine wpAny_pure ⟨plainId_quiet plain_eq_loop _,codeAny_builtin entry_eq_loop ?_⟩;rw[Around.under_plainId plain_eq_loop _];exact ih (i+1) (by omega) prog w A R s ⟨hl,hb,hr,hR⟩
  |false =>
   rw[if_neg ao] at hr;rw[if_neg ao];have hri:=hr prog w
   wp_walk using wpAny_loadPart' hl,wpAny_loadPart' hb
   rw[e1,e2];dsimp only
   wp_walk using hri
   exact hR
theorem sR (l b:Addr)(xs ys:Array Value)(n n2:Nat)(dd dd2:Option Addr)(sl sl2:Array (Option Value))(c:Bool) :
  Meets (Builtin.«list.__lt__» ⟨[.ref l,.ref b],[]⟩) (fun A R s=>s.heap.get? l=some { cls:=.type "list",dict:=dd,data:=.seq xs n,slots:=sl }/\s.heap.get? b=some { cls:=.type "list",dict:=dd2,data:=.seq ys n2,slots:=sl2 }/\yR A s (decide (xs.size<ys.size)) (xs.toList.zip ys.toList) c/\R (.ok (.ret (.bool c))) s):=by
 intro prog w A R s h;have h':=h;obtain⟨hl,hb,hc,hR⟩:=h;have f2:=AutoSeq1.sub_list_list;unfold Builtin.«list.__lt__»
 wp_walk using wpAny_loadPart' hl,wpAny_loadPart' hb
 refine⟨plainId_quiet plain_eq_loop _,codeAny_builtin entry_eq_loop ?_⟩;rw[Around.under_plainId plain_eq_loop _];exact wy l b xs ys n n2 dd dd2 sl sl2 c _ 0 rfl prog w A R s ⟨hl,hb,hc,hR⟩
theorem mY.tuples {A:Around}{s:Shared}{l b:Addr}{xs ys:Array Value}{c:Bool}(hl:IsTup s.heap l xs)(hb:IsTup s.heap b ys)(hu:A.units<cLine)(h:yR A s (decide (xs.size<ys.size)) (xs.toList.zip ys.toList) c):mY A s (.ref l) (.ref b) c:=by
 intro prog w E Q hQ;obtain⟨⟨c1,d1,t1,sl1⟩,ho,hc,n,hd⟩:=id hl;obtain⟨⟨c2,d2,t2,sl2⟩,ho2,hc2,n2,hd2⟩:=id hb;cases hc;cases hd;cases hc2;cases hd2;exact richCompare_meets_room (op:=.Lt) ⟨_,ho,rfl⟩ ⟨_,ho2,rfl⟩ PySem.F.slot_tuple_lt PySem.F.entry_tuple_lt (PySem.F.args_tuple_lt_2 _ _) (rE l b xs ys n n2 d1 d2 sl1 sl2 c)
  ⟨ho,ho2,h,show Value.bool c≠Value.notImplemented/\Q (.bool c) s from ⟨(fun x=>nomatch x),hQ⟩⟩ hu
theorem mY.lists {A:Around}{s:Shared}{l b:Addr}{xs ys:Array Value}{c:Bool}(hl:s.heap.IsList l xs)(hb:s.heap.IsList b ys)(hu:A.units<cLine)(h:yR A s (decide (xs.size<ys.size)) (xs.toList.zip ys.toList) c):mY A s (.ref l) (.ref b) c:=by
 intro prog w E Q hQ;obtain⟨⟨c1,d1,t1,sl1⟩,ho,hc,n,hd⟩:=id hl;obtain⟨⟨c2,d2,t2,sl2⟩,ho2,hc2,n2,hd2⟩:=id hb;cases hc;cases hd;cases hc2;cases hd2;exact richCompare_meets_room (op:=.Lt) ⟨_,ho,rfl⟩ ⟨_,ho2,rfl⟩ PySem.F.slot_list_lt PySem.F.entry_list_lt (PySem.F.args_list_lt_2 _ _) (sR l b xs ys n n2 d1 d2 sl1 sl2 c)
  ⟨ho,ho2,h,show Value.bool c≠Value.notImplemented/\Q (.bool c) s from ⟨(fun x=>nomatch x),hQ⟩⟩ hu
end
section
variable {X:Cx}{pins:List (Addr×Obj)}{σ:L2.St}{H:Hp}{s:Shared}
theorem oV (I:Inv X pins σ H s){n:Nat}{A:Around}(hu1:A.in1.units+n<cLine)(ih:∀(d e:D) (v w:V) (G G':List Addr) (u u':Value) (b:Bool),Rep X.K H d v G->Rep X.K H e w G'->RelV v u->RelV w u'->D.ltf n d e=some b->mY A.in1 s u u' b){z1 z2:Nat}{b:Bool} :
  ∀{xs ys:List D}{vs ws:List V}{G1 G2:List Addr}{its its':List Value},aD X.K H xs vs G1->aD X.K H ys ws G2->aN vs its->aN ws its'->xs.length+z2=ys.length+z1->DH (D.eqf n) (D.ltf n) xs ys=some b->yR A s (decide (z1<z2)) (its.zip its') b
 | [],[],_,_,_,_,_,_,a1,a2,b1,b2,hl,h=>by
  cases a1;cases a2;cases b1;cases b2;cases h;exact (decide_eq_false (by simp only[List.length_nil] at hl;omega)).symm
 | [],y::ys,_,_,_,_,_,_,a1,a2,b1,b2,hl,h=>by
  cases a1;cases b1;cases h;rw[List.zip_nil_left];exact (decide_eq_true (by simp only[List.length_nil,List.length_cons] at hl;omega)).symm
 | x::xs,[],_,_,_,_,_,_,a1,a2,b1,b2,hl,h=>by
  cases a2;cases b2;cases h;rw[List.zip_nil_right];exact (decide_eq_false (by simp only[List.length_nil,List.length_cons] at hl;omega)).symm
 | x::xs,y::ys,_,_,_,_,_,_,a1,a2,b1,b2,hl,h=>by
  unfold DH at h;obtain⟨e,h1,h2⟩:=ae.mp h;cases a1 with
  |cons p1 p2=>cases a2 with
   |cons r1 r2=>cases b1 with
    |cons t1 t2=>cases b2 with
     |cons q1 q2 =>
      refine⟨e,(qR I n A.in1 _ _ _ _ _ _ _ _ _ hu1 p1 r1 t1 q1 h1).2,?_⟩;cases e with
      |true =>
       rw[if_pos rfl] at h2 ⊢;exact oV I hu1 ih p2 r2 t2 q2 (by simp only[List.length_cons] at hl;omega) h2
      |false =>
       rw[if_neg ao] at h2 ⊢;exact ih _ _ _ _ _ _ _ _ _ p1 r1 t1 q1 h2
theorem yJ (I:Inv X pins σ H s):∀(n:Nat) (A:Around) (d e:D) (v w:V) (G G':List Addr) (u u':Value) (b:Bool),A.units+n<cLine->Rep X.K H d v G->Rep X.K H e w G'->RelV v u->RelV w u'->D.ltf n d e=some b->mY A s u u' b
 |0,_,_,_,_,_,_,_,_,_,_,_,_,_,_,_,h=>by cases h
 | n+1,A,d,e,v,w,G,G',u,u',b,hu,r1,r2,q1,q2,h=>by
  have hu1:A.in1.units+n<cLine:=by show A.units+1+n<cLine;omega
  have hu0:A.units<cLine:=by omega
  have ih:=fun d e v w G G' u u' b=>yJ I n A.in1 d e v w G G' u u' b hu1
  cases d with
  |int i=>cases e with
   |int j =>
    cases h;obtain⟨rfl,rfl⟩:=r1.int_inv;obtain⟨rfl,rfl⟩:=r2.int_inv;obtain⟨t,rfl⟩:=q1;obtain⟨t',rfl⟩:=q2;exact fun prog w E Q hQ=>HT.jU A s _ t _ t' prog w E Q hQ
   |_=>cases h
  |tup xs=>cases e with
   |tup ys =>
    obtain⟨m,vs,rfl,a1,a2⟩:=r1.tup_inv;obtain⟨m',ws,rfl,c1,c2⟩:=r2.tup_inv;cases q1;cases q2;obtain⟨its,rv,pl,_⟩:=I.tuple a1;obtain⟨its',rv',pl',_⟩:=I.tuple c1;have l1:=a2.len;have l2:=c2.len;have l3:=rv.length;have l4:=rv'.length;exact mY.tuples pl pl' hu0 (oV I hu1 ih a2 c2 rv rv' (by rw[ah,ah];omega) h)
   |_=>cases h
  |lst xs=>cases e with
   |lst ys =>
    obtain⟨m,vs,g,rfl,rfl,a1,a2⟩:=r1.lst_inv;obtain⟨m',ws,g',rfl,rfl,c1,c2⟩:=r2.lst_inv;cases q1;cases q2;obtain⟨its,rv,pl,_⟩:=I.list (.inl a1);obtain⟨its',rv',pl',_⟩:=I.list (.inl c1);have l1:=a2.len;have l2:=c2.len;have l3:=rv.length;have l4:=rv'.length;exact mY.lists pl.isList pl'.isList hu0 (oV I hu1 ih a2 c2 rv rv' (by rw[ah,ah];omega) h)
   |_=>cases h
  |_=>cases h
end
section
variable {X:Cx}{pins:List (Addr×Obj)}{σ:L2.St}{H:Hp}{s:Shared}
open SeqAt in
theorem Cu (I:Inv X pins σ H s)(n:Nat)(A:Around)(d e:D)(v w:V)(G G':List Addr)(u u':Value)(b:Bool)(hu:A.units+n<cLine)(r1:Rep X.K H d v G)(r2:Rep X.K H e w G')(q1:RelV v u)(q2:RelV w u')(h:D.eqf n d e=some b):RcNeAt A s u u' (!b):=by
 cases n with
 |zero=>cases h
 |succ n =>
  have hu1:A.in1.units+n<cLine:=by show A.units+1+n<cLine;omega
  have hu0:A.units<cLine:=by omega
  have items:∀{xs ys:List D}{vs ws:List V}{G1 G2:List Addr}{its its':List Value}{c:Bool},aD X.K H xs vs G1->aD X.K H ys ws G2->aN vs its->aN ws its'->lu (D.eqf n) xs ys=some c ->
    its.toArray.size=its'.toArray.size/\∃ ee:Nat->Bool,c=(List.range its.toArray.size).all ee/\∀ j (h1:j<its.toArray.size) (h2:j<its'.toArray.size),EqAt A.in1 s its.toArray[j] its'.toArray[j] (ee j):=by
   intro xs ys vs ws G1 G2 its its' c a1 a2 b1 b2 hc;obtain⟨hl,ee,he,rfl⟩:=fV hc;have l1:=a1.len;have l2:=a2.len;have l3:=b1.length;have l4:=b2.length;have sz:its.toArray.size=xs.length:=by rw[ah];omega
   refine⟨by rw[ah,ah];omega,ee,by rw[sz],fun j h1 h2=>?_⟩;have j1:j<xs.length:=by rw[<-sz];exact h1
   have j2:j<ys.length:=by omega
   obtain⟨v1,g1,e1,p1,_⟩:=a1.get (i:=j) (d:=xs[j]) (by simp[j1]);obtain⟨v2,g2,e2,p2,_⟩:=a2.get (i:=j) (d:=ys[j]) (by simp[j2]);obtain⟨u1,f1,t1⟩:=b1.get e1;obtain⟨u2,f2,t2⟩:=b2.get e2;have x1:its.toArray[j]=u1:=by
    have:=List.getElem?_eq_some_iff.mp f1;simpa using this.2
   have x2:its'.toArray[j]=u2:=by
    have:=List.getElem?_eq_some_iff.mp f2;simpa using this.2
   rw[x1,x2];exact (qR I n A.in1 _ _ _ _ _ _ _ _ _ hu1 p1 p2 t1 t2 (he j _ _ (by simp[j1]) (by simp[j2]))).2
  have lsti:∀{ys:List D}{w:V}{g:List Addr}{u:Value},Rep X.K H (.lst ys) w g->RelV w u->∃ m its vs g',u = .ref m/\s.heap.IsList m its.toArray/\aN vs its/\aD X.K H ys vs g':=fun {ys w g u} r q=>by
   obtain⟨m,ws,g',rfl,rfl,a1,a2⟩:=r.lst_inv;cases q;obtain⟨its,rv,pl,_⟩:=I.list (.inl a1);exact⟨m,its,ws,g',rfl,pl.isList,rv,a2⟩
  have tupi:∀{ys:List D}{w:V}{g:List Addr}{u:Value},Rep X.K H (.tup ys) w g->RelV w u->∃ m its vs,u = .ref m/\s.heap.IsTuple m its.toArray/\aN vs its/\aD X.K H ys vs g:=fun {ys w g u} r q=>by
   obtain⟨m,ws,rfl,a1,a2⟩:=r.tup_inv;cases q;obtain⟨its,rv,pl,_⟩:=I.tuple a1;exact⟨m,its,ws,rfl,pl,rv,a2⟩
  cases d with
  |dct _=>cases h
  |mpi _=>cases e<;>cases h
  |mpt _=>cases e<;>cases h
  |mpz _=>cases e<;>cases h
  |non =>
   obtain⟨rfl,rfl⟩:=r1.non_inv;cases q1;cases e with
   |dct _=>cases h
   |mpi _=>cases h
   |mpt _=>cases h
   |mpz _=>cases h
   |non=>obtain⟨rfl,rfl⟩:=r2.non_inv;cases q2;cases h;exact RcNeAt.none_none
   |bl c=>obtain⟨rfl,rfl⟩:=r2.bl_inv;cases q2;cases h;exact RcNeAt.none_bool c
   |int i=>obtain⟨rfl,rfl⟩:=r2.int_inv;obtain⟨t,rfl⟩:=q2;cases h;exact RcNeAt.none_int i t
   |str x=>obtain⟨rfl,rfl⟩:=r2.str_inv;obtain⟨t,rfl⟩:=q2;cases h;exact RcNeAt.none_str x t
   |lst ys=>obtain⟨m,its,vs,g',rfl,pl,_,_⟩:=lsti r2 q2;cases h;exact RcNeAt.none_list pl hu0
   |tup ys=>obtain⟨m,its,vs,rfl,pl,_,_⟩:=tupi r2 q2;cases h;exact RcNeAt.none_tuple pl hu0
  |bl a =>
   obtain⟨rfl,rfl⟩:=r1.bl_inv;cases q1;cases e with
   |dct _=>cases h
   |mpi _=>cases h
   |mpt _=>cases h
   |mpz _=>cases h
   |non=>obtain⟨rfl,rfl⟩:=r2.non_inv;cases q2;cases h;exact RcNeAt.bool_none a
   |bl c=>obtain⟨rfl,rfl⟩:=r2.bl_inv;cases q2;cases h;exact RcNeAt.bool_bool a c
   |int i=>obtain⟨rfl,rfl⟩:=r2.int_inv;obtain⟨t,rfl⟩:=q2;cases h;exact RcNeAt.bool_int a i t
   |str x=>obtain⟨rfl,rfl⟩:=r2.str_inv;obtain⟨t,rfl⟩:=q2;cases h;exact RcNeAt.bool_str a x t
   |lst ys=>obtain⟨m,its,vs,g',rfl,pl,_,_⟩:=lsti r2 q2;cases h;exact RcNeAt.bool_list a pl hu0
   |tup ys=>obtain⟨m,its,vs,rfl,pl,_,_⟩:=tupi r2 q2;cases h;exact RcNeAt.bool_tuple a pl hu0
  |int a =>
   obtain⟨rfl,rfl⟩:=r1.int_inv;obtain⟨t0,rfl⟩:=q1;cases e with
   |dct _=>cases h
   |mpi _=>cases h
   |mpt _=>cases h
   |mpz _=>cases h
   |non=>obtain⟨rfl,rfl⟩:=r2.non_inv;cases q2;cases h;exact RcNeAt.int_none a t0
   |bl c=>obtain⟨rfl,rfl⟩:=r2.bl_inv;cases q2;cases h;exact RcNeAt.int_bool a t0 c
   |int i=>obtain⟨rfl,rfl⟩:=r2.int_inv;obtain⟨t,rfl⟩:=q2;cases h;exact RcNeAt.int_int a t0 i t
   |str x=>obtain⟨rfl,rfl⟩:=r2.str_inv;obtain⟨t,rfl⟩:=q2;cases h;exact RcNeAt.int_str a t0 x t
   |lst ys=>obtain⟨m,its,vs,g',rfl,pl,_,_⟩:=lsti r2 q2;cases h;exact RcNeAt.int_list a t0 pl hu0
   |tup ys=>obtain⟨m,its,vs,rfl,pl,_,_⟩:=tupi r2 q2;cases h;exact RcNeAt.int_tuple a t0 pl hu0
  |str a =>
   obtain⟨rfl,rfl⟩:=r1.str_inv;obtain⟨t0,rfl⟩:=q1;cases e with
   |dct _=>cases h
   |mpi _=>cases h
   |mpt _=>cases h
   |mpz _=>cases h
   |non=>obtain⟨rfl,rfl⟩:=r2.non_inv;cases q2;cases h;exact RcNeAt.str_none a t0
   |bl c=>obtain⟨rfl,rfl⟩:=r2.bl_inv;cases q2;cases h;exact RcNeAt.str_bool a t0 c
   |int i=>obtain⟨rfl,rfl⟩:=r2.int_inv;obtain⟨t,rfl⟩:=q2;cases h;exact RcNeAt.str_int a t0 i t
   |str x=>obtain⟨rfl,rfl⟩:=r2.str_inv;obtain⟨t,rfl⟩:=q2;cases h;exact RcNeAt.str_str a t0 x t
   |lst ys=>obtain⟨m,its,vs,g',rfl,pl,_,_⟩:=lsti r2 q2;cases h;exact RcNeAt.str_list a t0 pl hu0
   |tup ys=>obtain⟨m,its,vs,rfl,pl,_,_⟩:=tupi r2 q2;cases h;exact RcNeAt.str_tuple a t0 pl hu0
  |lst xs =>
   obtain⟨l,its,vs,g1,rfl,pl,rv,a2⟩:=lsti r1 q1;cases e with
   |dct _=>cases h
   |mpi _=>cases h
   |mpt _=>cases h
   |mpz _=>cases h
   |non=>obtain⟨rfl,rfl⟩:=r2.non_inv;cases q2;cases h;exact RcNeAt.list_none pl hu0
   |bl c=>obtain⟨rfl,rfl⟩:=r2.bl_inv;cases q2;cases h;exact RcNeAt.list_bool c pl hu0
   |int c=>obtain⟨rfl,rfl⟩:=r2.int_inv;obtain⟨t,rfl⟩:=q2;cases h;exact RcNeAt.list_int c t pl hu0
   |str c=>obtain⟨rfl,rfl⟩:=r2.str_inv;obtain⟨t,rfl⟩:=q2;cases h;exact RcNeAt.list_str c t pl hu0
   |lst ys =>
    obtain⟨m,its',ws,g2,rfl,pl',rv',b2⟩:=lsti r2 q2;have h:(if xs.length=ys.length then lu (D.eqf n) xs ys else some false)=some b:=h;by_cases hl:xs.length=ys.length
    ·rw[if_pos hl] at h;obtain⟨hz,ee,rfl,he⟩:=items a2 b2 rv rv' h;exact RcNeAt.lists pl pl' hz hu0 he
    ·rw[if_neg hl] at h;cases h;have hz:(its.toArray.size != its'.toArray.size)=true:=by
      have l1:=a2.len;have l2:=b2.len;have l3:=rv.length;have l4:=rv'.length;simp only[bne_iff_ne,ne_eq,List.size_toArray];omega
     exact RcNeAt.lists_lengths pl pl' hz hu0
   |tup ys=>obtain⟨m,its',ws,rfl,pl',_,_⟩:=tupi r2 q2;cases h;exact RcNeAt.list_tuple pl pl' hu0
  |tup xs =>
   obtain⟨l,its,vs,rfl,pl,rv,a2⟩:=tupi r1 q1;cases e with
   |dct _=>cases h
   |mpi _=>cases h
   |mpt _=>cases h
   |mpz _=>cases h
   |non=>obtain⟨rfl,rfl⟩:=r2.non_inv;cases q2;cases h;exact RcNeAt.tuple_none pl hu0
   |bl c=>obtain⟨rfl,rfl⟩:=r2.bl_inv;cases q2;cases h;exact RcNeAt.tuple_bool c pl hu0
   |int c=>obtain⟨rfl,rfl⟩:=r2.int_inv;obtain⟨t,rfl⟩:=q2;cases h;exact RcNeAt.tuple_int c t pl hu0
   |str c=>obtain⟨rfl,rfl⟩:=r2.str_inv;obtain⟨t,rfl⟩:=q2;cases h;exact RcNeAt.tuple_str c t pl hu0
   |lst ys=>obtain⟨m,its',ws,g2,rfl,pl',_,_⟩:=lsti r2 q2;cases h;exact RcNeAt.tuple_list pl pl' hu0
   |tup ys =>
    obtain⟨m,its',ws,rfl,pl',rv',b2⟩:=tupi r2 q2;have h:(if xs.length=ys.length then lu (D.eqf n) xs ys else none)=some b:=h;by_cases hl:xs.length=ys.length
    ·rw[if_pos hl] at h;obtain⟨hz,ee,rfl,he⟩:=items a2 b2 rv rv' h;have q:=RcNeAt.tuples (e:=ee) pl pl' hu0 he;rw[<-hz,Nat.min_self,cq,Bool.and_true] at q;exact q
    ·rw[if_neg hl] at h;cases h
end
section
variable {X:Cx}
theorem fZ {K:Frag}{H:Hp}{d:D}{v:V}{G:List Addr}(h:Rep K H d v G)(s:d.cX=true):fW v=true:=by
 cases h<;>simp_all [D.cX,fW]
theorem eU {K:Frag}{H:Hp}:∀{ds:List D}{vs:List V}{G:List Addr},aD K H ds vs G->ds.all D.cX=true->vs.all fW=true
 |_,_,_,.nil,_=>rfl
 | _,_,_,.cons h r,s=>by
  simp only[List.all_cons,Bool.and_eq_true] at s ⊢;exact⟨fZ h s.1,eU r s.2⟩
theorem xx {K:Frag}{H:Hp}{d e:D}{v w:V}{G G':List Addr}(h:Rep K H d v G)(h':Rep K H e w G')(s:d.cX=true)(s':e.cX=true):v7 v w=D.eqs d e:=by
 cases h<;>first | (cases s;done) | (cases h'<;>first | (cases s';done) | rfl | simp[v7,D.eqs])
theorem jH {K:Frag}{H:Hp}{x:D}{w:V}{G0:List Addr}(hx:Rep K H x w G0)(sx:x.cX=true):∀{ds:List D}{vs:List V}{G:List Addr},aD K H ds vs G->ds.all D.cX=true->inV w vs=ds.any fun y=>D.eqs y x
 |_,_,_,.nil,_=>rfl
 | _,_,_,.cons h r,s=>by
  simp only[List.all_cons,Bool.and_eq_true] at s;have ih:=jH hx sx r s.2;unfold inV at ih ⊢;rw[dq,dq,ih,xx h hx s.1 sx]
theorem gW.any {K:Frag}{H:Hp}(n:Int):∀{q:List (Int×MV)}{x:List (Key×V)},gW K H q x->(x.any fun kv=>decide (kv.1=Sum.inl n))=q.any fun kv=>decide (kv.1=n)
 |[],[],_=>rfl
 | (k,m)::q,p::x,⟨a,_,c⟩=>by
  rw[dq,dq,c.any n,a];congr 1;exact decide_eq_decide.mpr ⟨fun e=>by injection e,fun e=>by rw[e]⟩
 |[],_::_,h=>h.elim
 |_::_,[],h=>h.elim
theorem gW.val {K:Frag}{H:Hp}(n:Int):∀{q:List (Int×MV)}{x:List (Key×V)}{e:Int×MV},gW K H q x->(q.find? fun kv=>decide (kv.1=n))=some e->∃ v,g9 x (.inl n)=some v/\oH K H e.2 v
 |[],[],_,_,h=>by cases h
 | (k,m)::q,p::x,e,⟨a,b,c⟩,h=>by
  by_cases hk:k=n
  ·rw[List.find?_cons_of_pos (by simpa using hk)] at h;cases h;exact⟨p.2,iB (by rw[a,hk]),b⟩
  ·rw[List.find?_cons_of_neg (by simpa using hk)] at h;rw[ij (by rw[a];exact fun z=>hk (by injection z))];exact c.val n h
 |[],_::_,_,h,_=>h.elim
 |_::_,[],_,h,_=>h.elim
theorem iY {K:Frag}{H:Hp}:∀ ks:List Int,aD K H (ks.map D.int) (ks.map V.int) []
 |[]=>.nil
 |k::ks=>.cons (G:=[]) (G':=[]) (.int k) (iY ks)
theorem oH.rep {K:Frag}{H:Hp}:∀{m:MV}{v:V},oH K H m v->Rep K H (Dl m) v []
 |.tr,_,h=>by cases h;exact .bl true
 |.int i,_,h=>by cases h;exact .int i
 |.tup is,_,⟨b,e,h⟩=>by subst e;exact .tup h (iY is)
theorem kH:∀{a b:List Int},(a.map Sum.inl:List Key)=b.map Sum.inl->a=b
 |[],[],_=>rfl
 |[],_::_,e=>by simp at e
 |_::_,[],e=>by simp at e
 | x::xs,y::ys,e=>by
  rw[ay,ay] at e;injection e with e1 e2
  rw[Sum.inl.inj e1,kH e2]
theorem qV (n:List Int):∀ ks:List (List Int),((yF ks).any fun kv=>decide (kv.1=n.map Sum.inl))=ks.contains n
 |[]=>rfl
 | k::ks=>by
  show (decide ((k.map Sum.inl:List Key)=n.map Sum.inl) || (yF ks).any fun kv=>decide (kv.1=n.map Sum.inl))=_;rw[qV n ks,List.contains_cons];congr 1;by_cases e:k=n
  ·subst e;simp
  ·rw[az (fun z=>e (kH z)),beq_eq_false_iff_ne.mpr (cu e)]
theorem qf {K:Frag}{H:Hp}{i j:Int}{vs:List V}{G:List Addr}(h:aD K H [.int i,.int j] vs G):vs=[.int i,.int j]/\G=[]:=by
 cases h with
 |cons h r=>cases r with
  |cons h' r' =>
   cases r';obtain⟨rfl,rfl⟩:=h.int_inv;obtain⟨rfl,rfl⟩:=h'.int_inv;exact⟨rfl,rfl⟩
theorem vT {pins:List (Addr×Obj)}{σ:L2.St}{H:Hp}{s:Shared}{a:Addr}{ks:List Key}(I:Inv X pins σ H s)(h:hZ X.K H a (ks.map kV)):(tupleKind (aO X.prog X.w)).is s.heap ks a:=by
 obtain⟨its,r,⟨o,h1,h2,n,h3⟩,_⟩:=I.tuple h;exact⟨o,its.toArray,n,h1,h2,h3,by simpa using iQ r⟩
noncomputable def vV:Option Int->V
 |none=>.non
 |some i=>.int i
theorem qQ {K:Frag}{H:Hp}:∀ z:Option Int,Rep K H (CS z) (vV z) []
 |none=>.non
 |some i=>.int i
theorem uE (q:Key×Option Int)(kvs:List (Key×Option Int))(k:Key):ou (q::kvs) k=if q.1=k then some q.2 else ou kvs k:=by
 unfold ou;rw[List.find?_cons];by_cases h:q.1=k
 ·rw[bj h,if_pos h];rfl
 ·rw[az h,if_neg h]
theorem mI (q:Key×Value)(kvs:List (Key×Value))(k:Key):valueAt (q::kvs) k=if q.1=k then some q.2 else valueAt kvs k:=by
 unfold valueAt;rw[List.find?_cons];by_cases h:q.1=k
 ·rw[bj h,if_pos h];rfl
 ·rw[az h,if_neg h]
theorem fC.pairs {P:Program}{w:World}:∀{es:List DictEntry}{kvs:List (Key×Option Int)},fC es kvs->(∀ e∈es,∀ s t,e.key = .str s t->e.hash=hashStr w s)->∃ vs:List (Key×Value),Pairs (aO P w) es vs/\vs.map (·.1)=kvs.map (·.1) /\
  (∀ k,(∀ z,ou kvs k=some z->∃ u,RelV (vV z) u/\valueAt vs k=some u)/\(valueAt vs k).isSome=(ou kvs k).isSome)/\(∀ e∈es,∃ k,(aO P w).is k e.key=true/\e.hash=(aO P w).hash k):=by
 have step:∀{e:DictEntry}{es:List DictEntry}{k:Key}{z:Option Int}{kvs:List (Key×Option Int)}{u:Value},(aO P w).is k e.key=true->e.hash=(aO P w).hash k->e.val=u->RelV (vV z) u ->
   (∃ vs:List (Key×Value),Pairs (aO P w) es vs/\vs.map (·.1)=kvs.map (·.1)/\(∀ k,(∀ z,ou kvs k=some z->∃ u,RelV (vV z) u/\valueAt vs k=some u)/\(valueAt vs k).isSome=(ou kvs k).isSome)/\(∀ e∈es,∃ k,(aO P w).is k e.key=true/\e.hash=(aO P w).hash k)) ->
   ∃ vs:List (Key×Value),Pairs (aO P w) (e::es) vs/\vs.map (·.1)=((k,z)::kvs).map (·.1)/\(∀ k',(∀ z',ou ((k,z)::kvs) k'=some z'->∃ u,RelV (vV z') u/\valueAt vs k'=some u)/\(valueAt vs k').isSome=(ou ((k,z)::kvs) k').isSome)/\(∀ e'∈e::es,∃ k,(aO P w).is k e'.key=true/\e'.hash=(aO P w).hash k):=by
  intro e es k z kvs u hk hh hv hr ⟨vs,p1,p2,p3,p4⟩;refine⟨(k,u)::vs,.cons hk hv p1,by rw[ay,ay,p2],fun k'=>?_,fun e' he=>?_⟩
  ·rw[uE,mI];by_cases h:k=k'
   ·rw[if_pos h,if_pos h];exact⟨fun z' q=>by cases q;exact⟨u,hr,rfl⟩,rfl⟩
   ·rw[if_neg h,if_neg h];exact p3 k'
  ·rcases gd.mp he with rfl | he
   ·exact⟨k,hk,hh⟩
   ·exact p4 e' he
 intro es kvs h
 induction h with
 |nil=>exact fun _=>⟨[],.nil,rfl,fun k=>⟨fun z h=>(by cases h),rfl⟩,fun _ h=>(nomatch h)⟩
 |@cons e es k v kvs t u hh hk hv r ih=>exact fun hs=>step (by rw[hk];exact dI P w k t) hh hv ⟨u,rfl⟩ (ih fun e he=>hs e (ai _ he))
 |@si e es k v kvs t u hk hv r ih=>exact fun hs=>step (by rw[hk];exact cL P w k t) (hs e aq k t hk) hv ⟨u,rfl⟩ (ih fun e he=>hs e (ai _ he))
 |@sn e es k kvs t hk hv r ih=>exact fun hs=>step (by rw[hk];exact cL P w k t) (hs e aq k t hk) hv (show RelV .non .none from rfl) (ih fun e he=>hs e (ai _ he))
theorem pR {pins:List (Addr×Obj)}{σ:L2.St}{H:Hp}{s:Shared}(hx:sY X.w X.K)(I:Inv X pins σ H s){p:Addr}{kvs:List (Key×Option Int)}(h:o8 X.K p kvs):∃ vs,s.heap.DictOf (aO X.prog X.w) p vs /\
  (∀ k,(∀ z,ou kvs k=some z->∃ u,RelV (vV z) u/\valueAt vs k=some u)/\(valueAt vs k).isSome=(ou kvs k).isSome)/\(∀ z v r,kvs=(.inr z,v)::r->(p==sysModules)=false):=by
 obtain⟨o,es,ep,h1,h2,h3,h4,h5⟩:=h;obtain⟨vs,p1,p2,p3,p4⟩:=h4.pairs (P:=X.prog) (w:=X.w) fun e he s t q=>(hx p o es ep h1 h3 kvs h4 e he s t q).2
 refine⟨vs,⟨o,es,ep,I.kIn _ o h1,h2,h3,fun e he=>p4 e (by simpa using he),p1,by rw[p2];exact h5⟩,p3,fun z v r q=>?_⟩;subst q;cases hl:es.toList with
 |nil=>rw[hl] at h4;cases h4
 |cons e l =>
  have hm:e∈es.toList:=by rw[hl];exact aq
  have hk:∃ t,e.key = .str z t:=by
   rw[hl] at h4;cases h4 with
   |si hk hv r=>exact⟨_,hk⟩
   |sn hk hv r=>exact⟨_,hk⟩
  obtain⟨t,hk⟩:=hk;exact (hx p o es ep h1 h3 _ h4 e hm z t hk).1
theorem tZ {A:Around}{E:Value->Shared->Prop}{pins:List (Addr×Obj)}{σ:L2.St}{H:Hp}{s:Shared}{d1:D}{kvs:List (Key×Option Int)}{x y:V}{v u:Value}{G1 G2:List Addr}{b:Bool}{Q:Value->Shared->Prop}(hx:sY X.w X.K)(I:Inv X pins σ H s)(r1:Rep X.K H d1 x G1)(r2:Rep X.K H (.dct kvs) y G2)(rx:RelV x v)(ry:RelV y u)(hb:inD d1 (.dct kvs)=some b) :
  ((∀ s',Inv X pins σ H s'->Q (.bool b) s')->wpAny (model X.prog X.w) A (compareOp .In v u) Q E s)/\((∀ s',Inv X pins σ H s'->Q (.bool (!b)) s')->wpAny (model X.prog X.w) A (compareOp .NotIn v u) Q E s):=by
 cases r2 with
 |@dct p _ hp =>
  match kvs,hb,hp with
  | (.inr z,q)::r,hb,hp =>
   cases d1 with
   |str w =>
    cases hb;obtain⟨rfl,rfl⟩:=r1.str_inv;cases ry;obtain⟨t,rfl⟩:=rx;obtain⟨vs,dd,p3,p5⟩:=pR hx I hp;have e:=(p3 (.inr w)).2;refine⟨fun h=>wpAny_in_of (cL X.prog X.w w t) (p5 z q r rfl) dd.mapOf ?_,fun h=>wpAny_notIn_of (cL X.prog X.w w t) (p5 z q r rfl) dd.mapOf ?_⟩
    ·rw[e];exact h _ (I.tok _)
    ·rw[e];exact h _ (I.tok _)
   |_=>cases hb
noncomputable def isMp:D->Bool
 |.mpi _=>true
 |.mpt _=>true
 |.mpz _=>true
 |_=>false
theorem gR {A:Around}{E:Value->Shared->Prop}{pins:List (Addr×Obj)}{σ:L2.St}{H:Hp}{s:Shared}{d1 d2:D}{x y:V}{v u:Value}{G1 G2:List Addr}{b:Bool}{Q:Value->Shared->Prop}(hu:A.units+1<cLine)(I:Inv X pins σ H s)(r1:Rep X.K H d1 x G1)(r2:Rep X.K H d2 y G2)(rx:RelV x v)(ry:RelV y u)(hm:isMp d2=true)(hb:inD d1 d2=some b) :
  ((∀ s',Inv X pins σ H s'->Q (.bool b) s')->wpAny (model X.prog X.w) A (compareOp .In v u) Q E s)/\((∀ s',Inv X pins σ H s'->Q (.bool (!b)) s')->wpAny (model X.prog X.w) A (compareOp .NotIn v u) Q E s):=by
 cases r2 with
 |@mpi p ks xs hr kr =>
  have inv:(∃ k,d1 = .int k/\b=ks.any fun q=>decide (q.1=k))\/∃ i j,d1 = .tup [.int i,.int j]/\ks=[]/\b=false:=by
   cases d1 with
   |int k=>cases hb;exact .inl ⟨_,rfl,rfl⟩
   |tup ts =>
    obtain⟨i,j,rfl⟩:∃ i j,ts=[.int i,.int j]:=by
     cases ts with
     |nil=>cases hb
     |cons a r=>cases a with
      |int i=>cases r with
       |nil=>cases hb
       |cons c q=>cases c with
        |int j=>cases q with
         |nil=>exact⟨i,j,rfl⟩
         |cons _ _=>cases hb
        |_=>cases hb
      |_=>cases hb
    have hb:(if ks.isEmpty then some false else none)=some b:=hb;by_cases he:ks.isEmpty=true
    ·rw[if_pos he] at hb;cases hb;exact .inr ⟨_,_,rfl,List.isEmpty_iff.mp he,rfl⟩
    ·rw[if_neg he] at hb;cases hb
   |_=>cases hb
  rcases inv with ⟨k,rfl,rfl⟩ | ⟨i,j,rfl,rfl,rfl⟩
  ·obtain⟨rfl,rfl⟩:=r1.int_inv;obtain rfl:u = .ref p:=ry;have g:wL H p (.int k) (g9 xs (.inl k)):=.inl ⟨xs,.inl k,.inl hr,rfl,rfl⟩;have e:(g9 xs (.inl k)).isSome=ks.any fun q=>decide (q.1=k):=by rw[<-ie,kr.any]
   exact⟨fun h=>Ce hu I g rx (by rw[e];exact h),fun h=>qe hu I g rx (by rw[e];exact h)⟩
  ·obtain⟨q,vs,rfl,a1,a2⟩:=r1.tup_inv;obtain⟨rfl,rfl⟩:=qf a2;obtain rfl:u = .ref p:=ry;obtain rfl:v = .ref q:=rx;cases xs with
   |cons _ _=>exact kr.elim
   |nil =>
   obtain⟨z,hd,vs,rel,o,es,ep,h1,h2,h3,h4,h5,h6⟩:=i0 I.hok (.inl hr);cases rel;have hes:es.toList=[]:=by
    cases q:es.toList with
    |nil=>rfl
    |cons x r=>rw[q] at h5;cases h5
   have dd:s.heap.DictOfH (tupleKind (aO X.prog X.w)) p []:=⟨o,es,ep,h1,h2,h3,hes,fun x hx=>(nomatch hx),cg⟩;have ky:(tupleKind (aO X.prog X.w)).is s.heap ([i,j].map Sum.inl) q:=vT I a1;exact⟨fun h=>wpAny_in_heap (tupleKind_room_in1 hu) ky hd dd (h _ (I.tok _)),fun h=>wpAny_notIn_heap (tupleKind_room_in1 hu) ky hd dd (h _ (I.tok _))⟩
 |@mpz p ks xs ob hr kr =>
  have inv:∃ k,d1 = .int k/\b=ks.any fun q=>decide (q.1=k):=by
   cases d1 with
   |int k=>cases hb;exact⟨_,rfl,rfl⟩
   |_=>cases hb
  obtain⟨k,rfl,rfl⟩:=inv;obtain⟨rfl,rfl⟩:=r1.int_inv;obtain rfl:u = .ref p:=ry;have g:wL H p (.int k) (g9 xs (.inl k)):=.inl ⟨xs,.inl k,.inr ⟨_,hr⟩,rfl,rfl⟩;have e:(g9 xs (.inl k)).isSome=ks.any fun q=>decide (q.1=k):=by rw[<-ie,kr.any]
  exact⟨fun h=>Ce hu I g rx (by rw[e];exact h),fun h=>qe hu I g rx (by rw[e];exact h)⟩
 |@mpt p ks hr =>
  have inv:∃ i j,d1 = .tup [.int i,.int j]/\b=ks.contains [i,j]:=by
   cases d1 with
   |tup ts=>cases ts with
     |nil=>cases hb
     |cons a r=>cases a with
      |int i=>cases r with
       |nil=>cases hb
       |cons c q=>cases c with
        |int j=>cases q with
         |nil=>cases hb;exact⟨i,j,rfl,rfl⟩
         |cons _ _=>cases hb
        |_=>cases hb
      |_=>cases hb
   |_=>cases hb
  obtain⟨i,j,rfl,rfl⟩:=inv;obtain⟨q,vs,rfl,a1,a2⟩:=r1.tup_inv;obtain⟨rfl,rfl⟩:=qf a2;obtain rfl:u = .ref p:=ry;obtain rfl:v = .ref q:=rx;obtain⟨z,hd,xs,rel,dd⟩:=qh I.hok hr;have ky:(tupleKind (aO X.prog X.w)).is s.heap ([i,j].map Sum.inl) q:=vT I a1;have e:ks.contains [i,j]=((atKey xs ([i,j].map Sum.inl))).isSome:=by
   have e1:=(rel.val ([i,j].map Sum.inl)).isSome_eq;rw[Option.isSome_map] at e1;rw[<-e1,<-ie,qV]
  refine⟨fun h=>wpAny_in_heap (tupleKind_room_in1 hu) ky hd dd ?_,fun h=>wpAny_notIn_heap (tupleKind_room_in1 hu) ky hd dd ?_⟩
  ·rw[<-e];exact h _ (I.tok _)
  ·rw[<-e];exact h _ (I.tok _)
 |_=>cases hm
theorem cZ:∀{xs:List D}{k:List Int},eQ xs=some k->xs=k.map D.int
 |[],k,h=>by cases h;rfl
 | .int i::r,k,h=>by
  have h:(eQ r).map (i :: ·)=some k:=h;rw[aa] at h;obtain⟨k',h1,rfl⟩:=h;rw[cZ h1];rfl
theorem h9 {K:Frag}{H:Hp}:∀{ns:List Int}{vs:List V}{G:List Addr}{us:List Value},aD K H (ns.map D.int) vs G->aN vs us->IntsAre us ns
 |[],_,_,_,.nil,.nil=>.nil
 | n::ns,_,_,_,.cons h r,.cons x y=>by
  obtain⟨rfl,_⟩:=h.int_inv;obtain⟨t,rfl⟩:=x;exact .cons _ _ (h9 r y)
theorem qC (op:CmpOp)(hx:X.A.units+40<cLine/\sY X.w X.K):fQ X (compareOp op) (xq X.K fun x y=>(kW op x y).map .bl):=by
 have hu:=hx.1;intro pins s σ H x y v u Q I rx ry h;obtain⟨d1,d2,d,G,rs,hd,k⟩:=h;obtain⟨G1,G2,r1,r2,rfl⟩:=rs.inv2;rw[aa] at hd;obtain⟨b,hb,rfl⟩:=hd;have fin:Q (.bl b) H:=k _ H [] (.bl b) eI.nil;have ep:∀ c,c=b->EP X pins σ Q (.bool c) s:=fun c e=>⟨.bl b,H,I,by rw[e];rfl,fin⟩
 have onInts:∀{f:Int->Int->Bool},(∀ i j,kW op (.int i) (.int j)=some (f i j))->(∀ d1 d2,(∀ i j,¬ (d1 = .int i/\d2 = .int j))->kW op d1 d2=none)->fQ X (compareOp op) (tf fun i j=>.bl (f i j))->wpAny (model X.prog X.w) X.A (compareOp op v u) (EP X pins σ Q) X.xe s:=by
  intro f h1 h2 ho;by_cases hi:∃ i j,d1 = .int i/\d2 = .int j
  ·obtain⟨i,j,rfl,rfl⟩:=hi;rw[h1] at hb;cases hb;obtain⟨rfl,rfl⟩:=r1.int_inv;obtain⟨rfl,rfl⟩:=r2.int_inv;exact ho pins s σ H _ _ v u Q I rx ry ⟨i,j,rfl,rfl,fin⟩
  ·rw[h2 d1 d2 fun i j z=>hi ⟨i,j,z⟩] at hb;cases hb
 have nope:∀(op:CmpOp),(op = .Gt\/op = .GtE)->∀ d1 d2:D,(∀ i j,¬ (d1 = .int i/\d2 = .int j))->kW op d1 d2=none:=by
  intro op ho d1 d2 hn;cases d1 with
  |int i =>
   cases d2 with
   |int j=>exact absurd ⟨rfl,rfl⟩ (hn i j)
   |_=>rcases ho with rfl | rfl<;>rfl
  |_=>rcases ho with rfl | rfl<;>rfl
 cases op with
 |Lt =>
  cases d1 with
  |int i =>
   cases d2 with
   |int j =>
    cases hb;obtain⟨rfl,rfl⟩:=r1.int_inv;obtain⟨rfl,rfl⟩:=r2.int_inv;exact DC pins s σ H _ _ v u Q I rx ry ⟨i,j,rfl,rfl,fin⟩
   |_=>cases hb
  |tup xs =>
   cases d2 with
   |tup ys=>exact yJ I 39 X.A _ _ _ _ _ _ _ _ _ (by omega) r1 r2 rx ry hb _ _ _ _ (ep _ rfl)
   |_=>cases hb
  |_=>cases hb
 |LtE =>
  cases d1 with
  |int i =>
   cases d2 with
   |int j =>
    cases hb;obtain⟨rfl,rfl⟩:=r1.int_inv;obtain⟨rfl,rfl⟩:=r2.int_inv;exact CN pins s σ H _ _ v u Q I rx ry ⟨i,j,rfl,rfl,fin⟩
   |_=>cases hb
  |tup xs =>
   cases d2 with
   |tup ys =>
    have hb:((eQ xs).bind fun a=>(eQ ys).map fun b=>kC a b)=some b:=hb;rw[ae] at hb;obtain⟨ks,h1,hb⟩:=hb;rw[aa] at hb;obtain⟨ls,h2,rfl⟩:=hb;obtain rfl:=cZ h1;obtain rfl:=cZ h2;obtain⟨p,vs,rfl,a1,a2⟩:=r1.tup_inv;obtain⟨q,ws,rfl,b1,b2⟩:=r2.tup_inv;cases rx;cases ry;obtain⟨its,rv,p1,_⟩:=I.tuple a1;obtain⟨its2,rv2,p2,_⟩:=I.tuple b1;exact xj p1 p2 (h9 a2 (by simpa using rv)) (h9 b2 (by simpa using rv2)) (by omega) (ep _ rfl)
   |_=>cases hb
  |_=>cases hb
 |Gt=>exact onInts (fun _ _=>rfl) (nope .Gt (.inl rfl)) yV
 |GtE=>exact onInts (fun _ _=>rfl) (nope .GtE (.inr rfl)) Dd
 |Eq =>
  have hb:D.eqf 40 d1 d2=some b:=hb;exact (qR I 40 X.A d1 d2 x y G1 G2 v u b hu r1 r2 rx ry hb).1 _ _ _ _ (ep b rfl)
 |NotEq =>
  have hb:(D.eqf 40 d1 d2).map (!·)=some b:=hb;rw[aa] at hb;obtain⟨c,hc,rfl⟩:=hb;exact Cu I 40 X.A d1 d2 x y G1 G2 v u c hu r1 r2 rx ry hc _ _ _ _ (ep _ rfl)
 |Is =>
  cases d2 with
  |non =>
   obtain⟨rfl,rfl⟩:=r2.non_inv;refine Bv pins s σ H _ _ v u Q I rx ry ⟨rfl,?_⟩;have hb:some (lW d1)=some b:=hb;cases hb;have:decide (x=V.non)=lW d1:=by
    cases r1<;>rfl
   rw[this];exact fin
  |bl c =>
   cases d1 with
   |bl a =>
    cases hb;obtain⟨rfl,rfl⟩:=r1.bl_inv;obtain⟨rfl,rfl⟩:=r2.bl_inv;cases rx;cases ry;exact wpAny_is_plain rfl (ep _ (by cases a<;>cases c<;>rfl))
   |_=>cases hb
  |_=>cases hb
 |IsNot =>
  cases d2 with
  |non =>
   obtain⟨rfl,rfl⟩:=r2.non_inv;refine wj pins s σ H _ _ v u Q I rx ry ⟨rfl,?_⟩;have hb:some (!lW d1)=some b:=hb;cases hb;have:(!decide (x=V.non)) = !lW d1:=by
    cases r1<;>rfl
   rw[this];exact fin
  |bl c =>
   cases d1 with
   |bl a =>
    cases hb;obtain⟨rfl,rfl⟩:=r1.bl_inv;obtain⟨rfl,rfl⟩:=r2.bl_inv;cases rx;cases ry;exact wpAny_isNot_plain rfl (ep _ (by cases a<;>cases c<;>rfl))
   |_=>cases hb
  |_=>cases hb
 |In =>
  have hb:inD d1 d2=some b:=hb;cases d2 with
  |lst ys =>
   have hb:(if d1.cX&&ys.all D.cX then some (ys.any fun y=>D.eqs y d1) else none)=some b:=hb;by_cases hc:(d1.cX&&ys.all D.cX)=true
   ·rw[if_pos hc] at hb;cases hb;rw[aj] at hc;obtain⟨p,vs,g,rfl,rfl,a1,a2⟩:=r2.lst_inv;refine lr pins s σ H _ _ v u Q I rx ry ⟨p,vs,rfl,.inl (.inl a1),fZ r1 hc.1,eU a2 hc.2,?_⟩;rw[jH r1 hc.1 a2 hc.2];exact fin
   ·rw[if_neg hc] at hb;cases hb
  |tup ys =>
   have hb:(if d1.cX&&ys.all D.cX then some (ys.any fun y=>D.eqs y d1) else none)=some b:=hb;by_cases hc:(d1.cX&&ys.all D.cX)=true
   ·rw[if_pos hc] at hb;cases hb;rw[aj] at hc;obtain⟨p,vs,rfl,a1,a2⟩:=r2.tup_inv;refine lr pins s σ H _ _ v u Q I rx ry ⟨p,vs,rfl,.inr a1,fZ r1 hc.1,eU a2 hc.2,?_⟩;rw[jH r1 hc.1 a2 hc.2];exact fin
   ·rw[if_neg hc] at hb;cases hb
  |str z =>
   cases d1 with
   |str w =>
    cases hb;obtain⟨rfl,rfl⟩:=r1.str_inv;obtain⟨rfl,rfl⟩:=r2.str_inv;exact rT pins s σ H _ _ v u Q I rx ry ⟨w,z,rfl,rfl,fin⟩
   |_=>cases hb
  |mpi ks=>exact (gR (by omega) I r1 r2 rx ry rfl hb).1 fun s' I'=>⟨.bl b,H,I',rfl,fin⟩
  |dct kvs=>exact (tZ hx.2 I r1 r2 rx ry hb).1 fun s' I'=>⟨.bl b,H,I',rfl,fin⟩
  |mpt ks=>exact (gR (by omega) I r1 r2 rx ry rfl hb).1 fun s' I'=>⟨.bl b,H,I',rfl,fin⟩
  |mpz ks=>exact (gR (by omega) I r1 r2 rx ry rfl hb).1 fun s' I'=>⟨.bl b,H,I',rfl,fin⟩
  |_=>cases hb
 |NotIn =>
  have hb:(inD d1 d2).map (!·)=some b:=hb;rw[aa] at hb;obtain⟨c,hi,rfl⟩:=hb;clear hb;cases d2 with
  |lst ys =>
   have hi:(if d1.cX&&ys.all D.cX then some (ys.any fun y=>D.eqs y d1) else none)=some c:=hi;by_cases hc:(d1.cX&&ys.all D.cX)=true
   ·rw[if_pos hc] at hi;cases hi;rw[aj] at hc;obtain⟨p,vs,g,rfl,rfl,a1,a2⟩:=r2.lst_inv;refine iw pins s σ H _ _ v u Q I rx ry ⟨p,vs,rfl,.inl (.inl a1),fZ r1 hc.1,eU a2 hc.2,?_⟩;rw[jH r1 hc.1 a2 hc.2];exact fin
   ·rw[if_neg hc] at hi;cases hi
  |tup ys =>
   have hi:(if d1.cX&&ys.all D.cX then some (ys.any fun y=>D.eqs y d1) else none)=some c:=hi;by_cases hc:(d1.cX&&ys.all D.cX)=true
   ·rw[if_pos hc] at hi;cases hi;rw[aj] at hc;obtain⟨p,vs,rfl,a1,a2⟩:=r2.tup_inv;refine iw pins s σ H _ _ v u Q I rx ry ⟨p,vs,rfl,.inr a1,fZ r1 hc.1,eU a2 hc.2,?_⟩;rw[jH r1 hc.1 a2 hc.2];exact fin
   ·rw[if_neg hc] at hi;cases hi
  |str z =>
   cases d1 with
   |str w =>
    cases hi;obtain⟨rfl,rfl⟩:=r1.str_inv;obtain⟨rfl,rfl⟩:=r2.str_inv;exact mW pins s σ H _ _ v u Q I rx ry ⟨w,z,rfl,rfl,fin⟩
   |_=>cases hi
  |mpi ks=>exact (gR (by omega) I r1 r2 rx ry rfl hi).2 fun s' I'=>⟨.bl _,H,I',rfl,fin⟩
  |dct kvs=>exact (tZ hx.2 I r1 r2 rx ry hi).2 fun s' I'=>⟨.bl _,H,I',rfl,fin⟩
  |mpt ks=>exact (gR (by omega) I r1 r2 rx ry rfl hi).2 fun s' I'=>⟨.bl _,H,I',rfl,fin⟩
  |mpz ks=>exact (gR (by omega) I r1 r2 rx ry rfl hi).2 fun s' I'=>⟨.bl _,H,I',rfl,fin⟩
  |_=>cases hi
theorem Bl (n:Nat)(i:Int):Pc.iF n i=L2.iF n i:=rfl
theorem wO (hx:sY X.w X.K):BP X (DJ X.K):=by
 intro value slice pins s σ H x y v u Q I rx ry h hs;obtain⟨d1,d2,d,G,rs,hd,k⟩:=h;obtain⟨G1,G2,r1,r2,rfl⟩:=rs.inv2;cases d2 with
 |int i =>
  obtain⟨rfl,rfl⟩:=r2.int_inv;rw[ba] at k;have seq:∀{xs:List D}{vs:List V}{g:List Addr},aD X.K H xs vs g->((iF xs.length i).bind fun j=>xs[j]?)=some d->∃ w g',Bx vs i=some w/\Rep X.K H d w g'/\g'.Sublist g:=fun {xs vs g} r e=>by
   rw[ae] at e;obtain⟨j,e1,e2⟩:=e;obtain⟨w,g',a,b,c⟩:=r.get e2;refine⟨w,g',?_,b,c⟩;unfold Bx;rw[<-r.len,<-Bl,e1];exact a
  cases d1 with
  |lst xs =>
   obtain⟨p,vs,g,rfl,rfl,a1,a2⟩:=r1.lst_inv;obtain⟨w,g',e1,e2,e3⟩:=seq a2 hd;exact wa value slice pins s σ H _ _ v u Q I rx ry ⟨p,vs,i,w,rfl,rfl,.inl a1,e1,k w g' e2 (e3.trans (List.sublist_cons_self _ _))⟩ hs
  |tup xs =>
   obtain⟨p,vs,rfl,a1,a2⟩:=r1.tup_inv;obtain⟨w,g',e1,e2,e3⟩:=seq a2 hd;exact BE value slice pins s σ H _ _ v u Q I rx ry ⟨p,vs,i,w,rfl,rfl,a1,e1,k w g' e2 e3⟩ hs
  |str z =>
   obtain⟨rfl,rfl⟩:=r1.str_inv;have hd:(if z.length<=lim then ((Pc.iF z.cps.toList.length i).bind fun j=>z.cps.toList[j]?).map (fun c=>D.str ⟨#[c]⟩) else none)=some d:=hd;by_cases hl:z.length<=lim
   ·rw[if_pos hl,aa] at hd;obtain⟨c,hc,rfl⟩:=hd;exact Bp value slice pins s σ H _ _ v u Q I rx ry ⟨z,i,c,rfl,rfl,eD hl,hc,k _ [] (.str _) (fi _)⟩ hs
   ·rw[if_neg hl] at hd;cases hd
  |dct kvs =>
   cases r1 with
   |dct hp =>
    have hd:(ou kvs (Sum.inl i)).map CS=some d:=hd;rw[aa] at hd;obtain⟨z,hz,rfl⟩:=hd;cases rx;obtain⟨t,rfl⟩:=ry;obtain⟨vs,dd,p3,_⟩:=pR hx I hp;obtain⟨u',ru,hu⟩:=(p3 (.inl i)).1 z hz;have fin:EP X pins σ Q u' { s with toks:=s.toks+1 }:=⟨vV z,H,I.tok _,ru,k _ [] (qQ z) (fi _)⟩;exact subscriptTail_builtinR (x:=u') dd.mapOf.typeIs slot_dict_getitem.lookup (wpAny_getItem_of (Q:=fun r s'=>r=u'/\EP X pins σ Q r s') (dI X.prog X.w i t) dd.mapOf hu ⟨rfl,fin⟩) hs
  |mpi ks =>
   cases r1 with
   |@mpi p _ xs hr kr =>
    have hd:(ks.find? fun q=>decide (q.1=i)).map (fun q=>Dl q.2)=some d:=hd;rw[aa] at hd;obtain⟨e,he,rfl⟩:=hd;obtain⟨v',hv',mr⟩:=kr.val i he;cases rx;obtain⟨t,rfl⟩:=ry;obtain⟨z,lo,vs,rel,dd⟩:=i0 I.hok (.inl hr);obtain⟨u',hu,ru⟩:∃ u',valueAt vs (.inl i)=some u'/\RelV v' u':=by
     have:=rel.val (.inl i);rw[hv'] at this;cases q:valueAt vs (.inl i) with
     |none=>rw[q] at this;exact this.elim
     |some u'=>rw[q] at this;exact⟨u',rfl,this⟩
    have fin:EP X pins σ Q u' { s with toks:=s.toks+1 }:=⟨v',H,I.tok _,ru,k _ [] mr.rep (fi _)⟩;exact subscriptTail_builtinR (x:=u') dd.mapOf.typeIs slot_dict_getitem.lookup (wpAny_getItem_of (Q:=fun r s'=>r=u'/\EP X pins σ Q r s') (dI X.prog X.w i t) dd.mapOf hu ⟨rfl,fin⟩) hs
  |mpz ks =>
   cases r1 with
   |@mpz p _ xs ob hr kr =>
    have hd:(ks.find? fun q=>decide (q.1=i)).map (fun q=>Dl q.2)=some d:=hd;rw[aa] at hd;obtain⟨e,he,rfl⟩:=hd;obtain⟨v',hv',mr⟩:=kr.val i he;cases rx;obtain⟨t,rfl⟩:=ry;obtain⟨z,lo,vs,rel,dd⟩:=i0 I.hok (.inr ⟨_,hr⟩);obtain⟨u',hu,ru⟩:∃ u',valueAt vs (.inl i)=some u'/\RelV v' u':=by
     have:=rel.val (.inl i);rw[hv'] at this;cases q:valueAt vs (.inl i) with
     |none=>rw[q] at this;exact this.elim
     |some u'=>rw[q] at this;exact⟨u',rfl,this⟩
    have fin:EP X pins σ Q u' { s with toks:=s.toks+1 }:=⟨v',H,I.tok _,ru,k _ [] mr.rep (fi _)⟩;exact subscriptTail_builtinR (x:=u') dd.mapOf.typeIs slot_dict_getitem.lookup (wpAny_getItem_of (Q:=fun r s'=>r=u'/\EP X pins σ Q r s') (dI X.prog X.w i t) dd.mapOf hu ⟨rfl,fin⟩) hs
  |_=>cases hd
 |str i =>
  obtain⟨rfl,rfl⟩:=r2.str_inv;rw[ba] at k;cases d1 with
  |dct kvs =>
   cases r1 with
   |dct hp =>
    have hd:(ou kvs (Sum.inr i)).map CS=some d:=hd;rw[aa] at hd;obtain⟨z,hz,rfl⟩:=hd;cases rx;obtain⟨t,rfl⟩:=ry;obtain⟨vs,dd,p3,_⟩:=pR hx I hp;obtain⟨u',ru,hu⟩:=(p3 (.inr i)).1 z hz;have fin:EP X pins σ Q u' { s with toks:=s.toks+1 }:=⟨vV z,H,I.tok _,ru,k _ [] (qQ z) (fi _)⟩;exact subscriptTail_builtinR (x:=u') dd.mapOf.typeIs slot_dict_getitem.lookup (wpAny_getItem_of (Q:=fun r s'=>r=u'/\EP X pins σ Q r s') (cL X.prog X.w i t) dd.mapOf hu ⟨rfl,fin⟩) hs
  |_=>cases hd
 |_=>cases d1<;>cases hd
end
section
variable {X:Cx}{T:Tb}{a b c:Expr}{ca cb cc:Ex}{pos:Pos}
theorem Bz {i:Nat}{x:Str}(hN:X.N[i]? = some x)(hv:yU X.env.scope x)(hd:(x==("__debug__" : Str))=false) (hcd:(x==("__classdict__" : Str))=false):PE X (.Name x pos) (tE X.K T (.var i)):=by
 refine bC (pX hN hv hd hcd) fun σ H Q ⟨P,env,F,re,p,hev,k⟩=>?_
 unfold ev at hev;cases hs:env[i]? with
 |none=>rw[hs] at hev;cases hev
 |some o =>
  cases o with
  |none=>rw[hs] at hev;cases hev
  |some q =>
   obtain⟨d,t⟩:=q;rw[hs] at hev;simp only[Rs.ok.injEq] at hev;subst hev;obtain⟨v,e1,rp⟩:=re.val i d t hs;refine⟨v,e1,k v H (F i) (aE.refl _) rp ?_⟩;cases hf:d.flat with
   |true =>
    rw[rp.flat hf];exact bK.nil
   |false =>
    simp only[Bool.false_eq_true,if_false];have ow:aW t=true->bK env F H (.mv [i]) H (F i):=fun o=>by
     obtain⟨n1,n2,n3⟩:=re.one i d t hs o;refine⟨fun a ha=>.inr ⟨i,d,t,ha,hs,fun q hq=>by cases t<;>simp_all [aT,aW,Rt.roots]⟩,fun R e=>?_⟩;cases e;exact⟨n1,n2,fun a ha=>.inr ⟨i,d,t,by simp,ha,hs,o⟩⟩
    cases t with
    |own=>exact ow rfl
    |lk=>exact ow rfl
    |sh R=>exact⟨fun a ha=>.inr ⟨i,d,.sh R,ha,hs,fun q hq=>hq⟩,fun R' e=>by cases e⟩
theorem gA {e:Expr}{d:D}{v:V}(h:PE X e (tC v))(hr:∀ H,Rep X.K H d v []):PE X e (tE X.K T (.cst d)):=by
 refine bC h fun σ H Q ⟨P,env,F,re,p,hev,k⟩=>?_
 unfold ev at hev;cases hev;exact k v H [] (aE.refl _) (hr H) bK.nil
theorem A7 {e:Expr}{i:Nat}{v:V}(h:PE X e (tC v))(hr:∀ H,Rep X.K H (T.gl i) v []):PE X e (tE X.K T (.glb i)):=by
 refine bC h fun σ H Q ⟨P,env,F,re,p,hev,k⟩=>?_
 unfold ev at hev;cases hev;exact k v H [] (aE.refl _) (hr H) bK.nil
theorem zJ (ha:PE X a (tE X.K T ca)):PE X (.UnaryOp .USub a pos) (tE X.K T (.neg ca)):=by
 refine bC (CL AH ha) fun σ H Q ⟨P,env,F,re,p,hev,k⟩=>?_
 unfold ev at hev;obtain⟨q,h1,hev⟩:=Rs.bind_ok hev;refine⟨P,env,F,re,q,h1,fun v H1 G s rp rt=>?_⟩;cases hq:q.1 with
 |int i =>
  rw[hq] at hev rp;cases hev;obtain⟨rfl,rfl⟩:=rp.int_inv;exact⟨i,rfl,k _ H1 [] s (.int _) bK.nil⟩
 |_=>rw[hq] at hev;cases hev
theorem AF {op:CmpOp}(hu:X.A.units+40<cLine/\sY X.w X.K)(ha:PE X a (tE X.K T ca))(hb:PE X b (tE X.K T cb))(hm:behindInMarks op b=false):PT X (.Compare a [op] [b] pos) (kJ X.K T (.cmp op ca cb)):=by
 refine pS (qF (qC op hu) ha hb hm) fun σ H Q ⟨P,env,F,re,p0,bb,hev,ht,k⟩=>?_
 unfold ev at hev;obtain⟨p,h1,hev⟩:=Rs.bind_ok hev;obtain⟨q,h2,hev⟩:=Rs.bind_ok hev;obtain⟨d,h3,hev⟩:=Rs.bind_ok hev;have h3:=cF h3;cases hev;obtain rfl:d=bb:=cj ht;refine two re h1 h2 fun x y H2 G ar=>⟨p.1,q.1,.bl d,G,ar.reps,by simp[h3],fun v H' G' rp nv=>?_⟩
 obtain⟨rfl,_⟩:=rp.bl_inv;exact⟨d,rfl,k H' (ar.same.trans nv.same)⟩
variable {rest:List Expr}
theorem z5 (ha:PE X a (tE X.K T ca))(hb:PE X (.BoolOp .And (b::rest) pos) (tE X.K T cb)):PE X (.BoolOp .And (a::b::rest) pos) (tE X.K T (.and ca cb)):=by
 refine bC (zA ha hb) fun σ H Q ⟨P,env,F,re,p,hev,k⟩=>?_
 unfold ev at hev;obtain⟨q,h1,hev⟩:=Rs.bind_ok hev;refine⟨P,env,F,re,q,h1,fun v H1 G s rp rt=>?_⟩;cases hq:q.1 with
 |bl kb =>
  rw[hq] at hev rp;obtain⟨rfl,rfl⟩:=rp.bl_inv;cases kb with
  |true=>exact⟨true,rfl,by rw[if_pos rfl];exact⟨P,env,F,re.same s,p,hev,fun v H' G s' rp' rt'=>k v H' G (s.trans s') rp' (rt'.back s)⟩⟩
  |false =>
   cases hev;exact⟨false,rfl,by rw[if_neg ao];exact k _ H1 [] s (.bl _) bK.nil⟩
 |_=>rw[hq] at hev;cases hev
theorem Cb (ha:PE X a (tE X.K T ca))(hb:PE X (.BoolOp .Or (b::rest) pos) (tE X.K T cb)):PE X (.BoolOp .Or (a::b::rest) pos) (tE X.K T (.or ca cb)):=by
 refine bC (C2 ha hb) fun σ H Q ⟨P,env,F,re,p,hev,k⟩=>?_
 unfold ev at hev;obtain⟨q,h1,hev⟩:=Rs.bind_ok hev;refine⟨P,env,F,re,q,h1,fun v H1 G s rp rt=>?_⟩;cases hq:q.1 with
 |bl kb =>
  rw[hq] at hev rp;obtain⟨rfl,rfl⟩:=rp.bl_inv;cases kb with
  |false=>exact⟨false,rfl,by rw[if_neg ao];exact⟨P,env,F,re.same s,p,hev,fun v H' G s' rp' rt'=>k v H' G (s.trans s') rp' (rt'.back s)⟩⟩
  |true =>
   cases hev;exact⟨true,rfl,by rw[if_pos rfl];exact k _ H1 [] s (.bl _) bK.nil⟩
 |_=>rw[hq] at hev;cases hev
theorem AK (ha:PE X a (tE X.K T ca)):PE X (.UnaryOp .Not a pos) (tE X.K T (.not ca)):=by
 refine bC (As ha) fun σ H Q ⟨P,env,F,re,p,hev,k⟩=>?_
 unfold ev at hev;obtain⟨q,h1,hev⟩:=Rs.bind_ok hev;refine⟨P,env,F,re,q,h1,fun v H1 G s rp rt=>?_⟩;cases hq:q.1 with
 |bl kb =>
  rw[hq] at hev rp;obtain⟨rfl,rfl⟩:=rp.bl_inv;cases hev;exact⟨kb,rfl,k _ H1 [] s (.bl _) bK.nil⟩
 |_=>rw[hq] at hev;cases hev
theorem zR (ha:PT X a (kJ X.K T ca))(hb:PW X (.BoolOp .And (b::rest) pos) (kJ X.K T cb)):PW X (.BoolOp .And (a::b::rest) pos) (kJ X.K T (.and ca cb)):=by
 intro wh pins s σ H Q I h;refine A0 ha hb wh pins s σ H Q I ?_;obtain⟨P,env,F,re,p,bb,hev,ht,k⟩:=h;unfold ev at hev;obtain⟨q,h1,hev⟩:=Rs.bind_ok hev;cases hq:q.1 with
 |bl kb =>
  rw[hq] at hev;cases kb with
  |true=>exact⟨P,env,F,re,q,true,h1,by rw[hq];rfl,fun H' s=>by show if true=true then _ else _;rw[if_pos rfl];exact⟨P,env,F,re.same s,p,bb,hev,ht,fun H2 s2=>k H2 (s.trans s2)⟩⟩
  |false =>
   cases hev;cases ht;exact⟨P,env,F,re,q,false,h1,by rw[hq];rfl,fun H' s=>by show if false=true then _ else _;rw[if_neg ao];exact k H' s⟩
 |_=>rw[hq] at hev;cases hev
theorem Dx (ha:PT X a (kJ X.K T ca))(hb:PW X (.BoolOp .Or (b::rest) pos) (kJ X.K T cb)):PW X (.BoolOp .Or (a::b::rest) pos) (kJ X.K T (.or ca cb)):=by
 intro wh pins s σ H Q I h;refine DL ha hb wh pins s σ H Q I ?_;obtain⟨P,env,F,re,p,bb,hev,ht,k⟩:=h;unfold ev at hev;obtain⟨q,h1,hev⟩:=Rs.bind_ok hev;cases hq:q.1 with
 |bl kb =>
  rw[hq] at hev;cases kb with
  |false=>exact⟨P,env,F,re,q,false,h1,by rw[hq];rfl,fun H' s=>by show if false=true then _ else _;rw[if_neg ao];exact⟨P,env,F,re.same s,p,bb,hev,ht,fun H2 s2=>k H2 (s.trans s2)⟩⟩
  |true =>
   cases hev;cases ht;exact⟨P,env,F,re,q,true,h1,by rw[hq];rfl,fun H' s=>by show if true=true then _ else _;rw[if_pos rfl];exact k H' s⟩
 |_=>rw[hq] at hev;cases hev
theorem A9 (ha:PT X a (kJ X.K T ca)):PT X (.UnaryOp .Not a pos) (kJ X.K T (.not ca)):=by
 refine pS (zz ha) fun σ H Q ⟨P,env,F,re,p,bb,hev,ht,k⟩=>?_
 unfold ev at hev;obtain⟨q,h1,hev⟩:=Rs.bind_ok hev;cases hq:q.1 with
 |bl kb =>
  rw[hq] at hev;cases hev;cases ht;exact⟨P,env,F,re,q,kb,h1,by rw[hq];rfl,fun H' s=>k H' s⟩
 |_=>rw[hq] at hev;cases hev
theorem yz {K:Frag}{H:Hp}{d:D}{v:V}{G:List Addr}{b:Bool}(rp:Rep K H d v G)(h:truth d=some b):z6 K v H b:=by
 cases rp with
 |dct _=>cases h
 |mpi _=>cases h
 |mpt _=>cases h
 |mpz _=>cases h
 |non=>cases h;rfl
 |bl c=>cases h;rfl
 |int i=>cases h;rfl
 |str z =>
  simp only[truth] at h;by_cases hl:z.length<=lim
  ·rw[if_pos hl] at h;cases h;exact⟨eD hl,rfl⟩
  ·rw[if_neg hl] at h;cases h
 |lst a r =>
  rename_i vs ds g;cases h;refine .inl ⟨vs,.inl a,?_⟩;have:=r.len;cases ds<;>cases vs<;>simp_all
 |tup a r =>
  rename_i vs ds;cases h;refine .inr (.inl ⟨vs,a.sq,?_⟩);have:=r.len;cases ds<;>cases vs<;>simp_all
theorem bT {e:Expr}(h:PE X e (tE X.K T ca))(he:∀ whole,isTrue e X.env whole=(do let v <- whole;standAt e.pos;holding [v] (truthy v))):PT X e (kJ X.K T ca):=by
 refine pS (vW h he) fun σ H Q ⟨P,env,F,re,p,bb,hev,ht,k⟩=>?_
 exact⟨P,env,F,re,p,hev,fun v H' G s rp rt=>⟨bb,yz rp ht,k H' s⟩⟩
theorem AN (hc:PT X c (kJ X.K T cc))(ha:PE X a (tE X.K T ca))(hb:PE X b (tE X.K T cb)):PE X (.IfExp c a b pos) (tE X.K T (.ite cc ca cb)):=by
 refine bC (nh hc ha hb) fun σ H Q ⟨P,env,F,re,p,hev,k⟩=>?_
 unfold ev at hev;obtain⟨q,h1,hev⟩:=Rs.bind_ok hev;obtain⟨kb,h2,hev⟩:=Rs.bind_ok hev;refine⟨P,env,F,re,q,kb,h1,cF h2,fun H' s=>?_⟩;cases kb with
 |true=>rw[if_pos rfl];exact⟨P,env,F,re.same s,p,hev,fun v H2 G s' rp' rt'=>k v H2 G (s.trans s') rp' (rt'.back s)⟩
 |false=>rw[if_neg ao];exact⟨P,env,F,re.same s,p,hev,fun v H2 G s' rp' rt'=>k v H2 G (s.trans s') rp' (rt'.back s)⟩
variable {es:List Expr}{cs:kK}
theorem Aq:PA X [] (sQ X.K T .nil):=by
 refine vA bL fun σ H Q ⟨P,env,F,re,l,hev,k⟩=>?_
 unfold bE at hev;cases hev;exact k [] H [] (.nil (aE.refl _))
theorem wV (ha:PE X a (tE X.K T ca))(hr:PA X es (sQ X.K T cs))(hs:starEach (a::es) X.env=(false,eval a X.env)::starEach es X.env):PA X (a::es) (sQ X.K T (.cons ca cs)):=by
 refine vA (aP ha hr hs) fun σ H Q ⟨P,env,F,re,l,hev,k⟩=>?_
 unfold bE at hev;obtain⟨p,h1,hev⟩:=Rs.bind_ok hev;obtain⟨q,h2,hev⟩:=Rs.bind_ok hev;cases hev;exact⟨P,env,F,re,p,h1,fun v H1 G s rp rt=>⟨P,env,F,re.same s,q,h2,fun vs H2 G' ar=>k (v::vs) H2 _ (.cons s rp rt ar)⟩⟩
theorem bK.addNew {env:En}{F:Nat->List Addr}{H H1:Hp}{r:Rt}{G:List Addr}{p:Addr}{vs:List V}(h:bK env F H r H1 G)(e:aE H H1)(hp:H1 p=none)(hl:∀ a∈G,H1 a≠none):bK env F H r (upd H1 p (.lst vs)) (p::G) where
 cont:=fun a ha=>by
  rcases gd.mp ha with rfl | ha
  ·exact .inl (aE.no e hp)
  ·exact h.cont a ha
 mv:=fun R hr=>by
  obtain⟨a,b,c⟩:=h.mv R hr;refine⟨List.nodup_cons.mpr ⟨fun z=>hl p z hp,a⟩,fun x hx=>?_,fun x hx=>?_⟩
  ·rcases gd.mp hx with rfl | hx
   ·exact⟨.l _,aI⟩
   ·obtain⟨ws,q⟩:=b x hx;exact⟨ws,aE.new hp _ _ q⟩
  ·rcases gd.mp hx with rfl | hx
   ·exact .inl (aE.no e hp)
   ·exact c x hx
theorem AI (h:PA X es (sQ X.K T cs)):PE X (.List es pos) (tE X.K T (.lst cs)):=by
 refine bC (pU h) fun σ H Q ⟨P,env,F,re,p,hev,k⟩=>?_
 unfold ev at hev;obtain⟨l,h1,hev⟩:=Rs.bind_ok hev;by_cases hl:l.length<=lim
 ·rw[if_pos hl] at hev;cases hev;refine⟨P,env,F,re,l,h1,fun vs H1 G ar=>?_⟩;have rs:=ar.reps;have hlen:=rs.len;rw[au] at hlen;refine⟨by rw[<-hlen];exact eD hl,fun q hq=>?_⟩;have e:=aE.new (o:=.lst vs) hq;exact k _ _ (q::G) (ar.same.trans e) (.lst (.inl aI) (rs.same e)) ((ar.comb re).addNew ar.same hq fun a ha=>rs.nn ha)
 ·rw[if_neg hl] at hev;cases hev
theorem zV {x1:Nat}(h:PA X es (sQ X.K T cs)):PE X (.Tuple es x1 pos) (tE X.K T (.tup cs)):=by
 refine bC (qb h) fun σ H Q ⟨P,env,F,re,p,hev,k⟩=>?_
 unfold ev at hev;obtain⟨l,h1,hev⟩:=Rs.bind_ok hev;by_cases hl:l.length<=lim
 ·rw[if_pos hl] at hev;cases hev;refine⟨P,env,F,re,l,h1,fun vs H1 G ar=>?_⟩;have rs:=ar.reps;have hlen:=rs.len;rw[au] at hlen;refine⟨by rw[<-hlen];exact eD hl,fun q hq=>?_⟩;have e:=aE.new (o:=.tup vs) hq;exact k _ _ G (ar.same.trans e) (.tup (.inl aI) (rs.same e)) ((ar.comb re).later e)
 ·rw[if_neg hl] at hev;cases hev
def ti (K:Frag)(n:Nat)(f:List D->Rs (D×Bool)):Sp:=fun vs H Q E=>∃ ds G,ds.length=n/\aD K H ds vs G/\∃ r,f ds = .ok r/\∀ v H' G',aE H H'->Rep K H' r.1 v G'->(∀ a∈G',H a=none\/a∈G)->(r.2=true->G'.Nodup/\∀ a∈G',H a=none/\∃ vs:ML,H' a=some vs.o)->Q v H'
theorem ir {K:Frag}{n:Nat}{f:List D->Rs (D×Bool)}{vs:List V}{H:Hp}{Q:VK}{E:XK}(h:ti K n f vs H Q E):vs.length=n:=by
 obtain⟨ds,G,h1,h2,_⟩:=h;rw[<-h1,h2.len]
theorem lJ {f:Nat}{n:Nat}{σ:L2.St}{H:Hp}{Q:VK}(hn:∀ ds r,T.cl f ds = .ok r->ds.length=n)(h:tE X.K T (.call f cs) σ H Q):vN (ti X.K n (T.cl f)) [] E0 (sQ X.K T cs) σ H Q:=by
 obtain⟨P,env,F,re,p,hev,k⟩:=h;unfold ev at hev;obtain⟨l,h1,hev⟩:=Rs.bind_ok hev;obtain⟨r,h2,hev⟩:=Rs.bind_ok hev;cases hev;refine⟨P,env,F,re,l,h1,fun vs H1 G ar=>?_⟩;show ti X.K n (T.cl f) (vs ++ []) H1 Q E0;rw[ba];refine⟨l.map (·.1),G,hn _ _ h2,ar.reps,r,h2,fun v H' G' s rp sub fr=>k v H' G' (ar.same.trans s) rp ?_⟩;cases hr:r.2 with
 |true =>
  obtain⟨a,b⟩:=fr hr;have c:∀ x∈G',H x=none:=fun x hx=>aE.no ar.same (b x hx).1
  exact⟨fun x hx=>.inl (c x hx),fun R e=>⟨a,fun x hx=>(b x hx).2,fun x hx=>.inl (c x hx)⟩⟩
 |false =>
  refine⟨fun x hx=>?_,fun R e=>by cases e⟩;rcases sub x hx with q | q
  ·exact .inl (aE.no ar.same q)
  ·exact ar.cont x q
end
def mO (K:Frag)(b:zD):List V->Hp->VK->Prop:=fun xs H Q=>∃ ds d G,aD K H ds xs G/\fE b ds=some d/\∀ v H' G',Rep K H' d v G'->eI H H' G d G'->Q v H'
section
variable {X:Cx}{T:Tb}
theorem nK {b:zD}{cs:kK}{σ:L2.St}{H:Hp}{Q:VK}(h:tE X.K T (.blt b cs) σ H Q):tCB (mO X.K b) (sQ X.K T cs) σ H Q:=by
 obtain⟨P,env,F,re,p,hev,k⟩:=h;unfold ev at hev;obtain⟨l,h1,hev⟩:=Rs.bind_ok hev;obtain⟨d,h2,hev⟩:=Rs.bind_ok hev;cases hev;exact⟨P,env,F,re,l,h1,fun vs H1 G ar=>⟨l.map (·.1),d,G,ar.reps,cF h2,fun v H' G' rp nv=>k v H' G' (ar.same.trans nv.same) rp (bK.new ar nv fun _ z=>z)⟩⟩
theorem aD.of1 {K:Frag}{H:Hp}{d:D}{xs:List V}{G:List Addr}(h:aD K H [d] xs G):∃ x,xs=[x]/\Rep K H d x G:=by
 cases h with
 |cons r s=>cases s;exact⟨_,rfl,by rw[ba];exact r⟩
theorem aD.of2 {K:Frag}{H:Hp}{d e:D}{xs:List V}{G:List Addr}(h:aD K H [d,e] xs G):∃ x y G1 G2,xs=[x,y]/\Rep K H d x G1/\Rep K H e y G2:=by
 cases h with
 |cons r s =>
  cases s with
  |cons r' s'=>cases s';exact⟨_,_,_,_,rfl,r,r'⟩
theorem z9 {prog:Program}{w:World}(d:Addr)(hd:(d==sysModules)=false):MeetsIn prog w (Builtin.«dict.__len__» ⟨[.ref d],[]⟩) (fun _ R s=>∃ o es ep,s.heap.get? d=some o/\o.ExactDict/\o.data = .dict es ep/\R (.ok (.ret (.int es.size s.toks))) { s with toks:=s.toks+1 }):=by
 intro A R s h;obtain⟨o,es,ep,h1,h2,h3,h⟩:=h;unfold Builtin.«dict.__len__»
 wp_walk
 rw[h3];unfold Builtin.Dict.pendingCount;rw[hd]
 wp_walk
 simpa using h
theorem sy:dP X (.builtin "len") (mO X.K .len):=by
 intro pins s σ H xs us Q I r h;obtain⟨ds,d,G,rs,hd,k⟩:=h
 match ds,hd with
 |[.lst ys],hd =>
  cases hd;obtain⟨x,rfl,rp⟩:=rs.of1;obtain⟨p,vs,g,rfl,rfl,a1,a2⟩:=rp.lst_inv;exact eX pins s σ H _ us Q I r ⟨p,vs,rfl,.inl (.inl a1),by rw[<-a2.len];exact k _ H [] (.int _) eI.nil⟩
 |[.tup ys],hd =>
  cases hd;obtain⟨x,rfl,rp⟩:=rs.of1;obtain⟨p,vs,rfl,a1,a2⟩:=rp.tup_inv;exact eX pins s σ H _ us Q I r ⟨p,vs,rfl,.inr a1,by rw[<-a2.len];exact k _ H [] (.int _) eI.nil⟩
 |[.str z],hd =>
  have hd:(if z.length<=lim then some (D.int (z.length:Int)) else none)=some d:=hd;by_cases hl:z.length<=lim
  ·rw[if_pos hl] at hd;cases hd;obtain⟨x,rfl,rp⟩:=rs.of1;obtain⟨rfl,rfl⟩:=rp.str_inv;exact mn pins s σ H _ us Q I r ⟨z,rfl,eD hl,k _ H [] (.int _) eI.nil⟩
  ·rw[if_neg hl] at hd;cases hd
 |[.mpt ks],hd =>
  cases hd;obtain⟨x,rfl,rp⟩:=rs.of1;obtain⟨u,rfl,rx⟩:=r.one;cases rp with
  |@mpt p _ hr =>
   obtain rfl:u = .ref p:=rx;obtain⟨z,lo,xs,rel,dd⟩:=qh I.hok hr;have hty:=dd.typeIs;obtain⟨o,es,ep,h1,h2,h3,h4,_,_⟩:=dd;have hl:ks.length=es.size:=by
    have e1:=Paired.length rel;have e2:=fv List.length h4;unfold yF at e1;rw[au] at e1 e2;rw[e1,<-e2,cv]
   have hz:ks.length<=sizeLine:=by
    unfold yF at z
    rwa [au] at z
   rw[sizeLine_eq] at hz;refine call_len_slot (n:=(ks.length:Int)) hty PySem.F.slot_dict_len (fun Q' hQ'=>call_meetsIn PySem.F.slot_dict_len hty PySem.F.entry_dict_len (PySem.F.args_dict_len_1 _) (z9 p lo) ⟨o,es,ep,h1,h2,h3,?_⟩) (by omega) (by omega) ⟨.int _,H,(I.tok _).tok _,⟨_,rfl⟩,k _ H [] (.int _) eI.nil⟩;rw[<-hl];exact hQ'
theorem n6 {pins:List (Addr×Obj)}{s:Shared}{σ:L2.St}{H:Hp}{xs:List V}{us:List Value}{Q:VK}(I:Inv X pins σ H s)(r:aN xs us){ds:List D}{d:D}{G:List Addr}(rs:aD X.K H ds xs G)(hd:fE .list ds=some d)(k:∀ v H' G',Rep X.K H' d v G'->eI H H' G d G'->Q v H')(hn:∀ ks,ds≠[.mpi ks]):wpAny (model X.prog X.w) X.A (call (.type "list") us) (EP X pins σ Q) X.xe s:=by
 match ds,hd with
 |[.mpi ks],hd=>exact absurd rfl (hn ks)
 |[.lst ys],hd =>
  cases hd;obtain⟨x,rfl,rp⟩:=rs.of1;obtain⟨p,vs,g,rfl,rfl,a1,a2⟩:=rp.lst_inv;refine ik pins s σ H _ us Q I r ⟨p,vs,rfl,.inl (.inl a1),fun l hl=>?_⟩;obtain⟨n1,n2⟩:=iO (G0:=p::g) a2 (fun a ha=>ai _ ha) hl;exact k _ _ _ n1 n2
 |[.tup ys],hd =>
  cases hd;obtain⟨x,rfl,rp⟩:=rs.of1;obtain⟨p,vs,rfl,a1,a2⟩:=rp.tup_inv;refine ik pins s σ H _ us Q I r ⟨p,vs,rfl,.inr a1,fun l hl=>?_⟩;obtain⟨n1,n2⟩:=iO (G0:=G) a2 (fun a ha=>ha) hl;exact k _ _ _ n1 n2
end
def jD (K:Frag)(P:Addr->Prop)(H0:Hp)(J:It)(ds:List D)(G:List Addr):Prop:=∀ H,iU P H0 H->(∀(i:Nat) (d:D),ds[i]? = some d->J.go i H/\∀ x H',J.yld i H x H'->aE H H'/\∃ G',Rep K H' d x G'/\∀ a∈G',a∈G)/\J.stop ds.length H
noncomputable def tI (K:Frag)(T:Tb)(it:qu):TI:=fun σ H R=>∃ P env F,RE K P env σ H F/\∃ p,gY T it env = .ok p/\∀ J H' G,aE H H'->bK env F H (.sh p.2) H' G->(∀ a∈G,H' a≠none)->(∀ P',(∀ a∈G,P' a)->jD K P' H' J p.1 G)->R J H'
theorem rF {K:Frag}{P:Addr->Prop}{H0:Hp}{p:Addr}{vs:List V}{ds:List D}{G:List Addr}(h1:Rd H0 p (.lst vs))(h2:aD K H0 ds vs G)(hp:∀ a∈p::G,P a):jD K P H0 (Itl K p) ds (p::G):=fun H e=>by
 have ep:=e.keep p (hp p aq);have h1':Rd H p (.lst vs):=by
  rcases h1 with q | ⟨o,q⟩
  ·exact .inl (ep.trans q)
  ·exact .inr ⟨o,ep.trans q⟩
 have h2':=e.reps h2 fun a ha=>hp a (ai _ ha)
 refine⟨fun i d hd=>?_,⟨vs,.inl h1',by rw[h2.len];exact av _⟩⟩;obtain⟨v,G',a,b,c⟩:=h2'.get hd;refine⟨⟨vs,v,.inl h1',a⟩,fun x H' ⟨e1,e2⟩=>?_⟩;subst e1;have:=e2 vs (.inl h1');rw[a] at this;cases this;exact⟨aE.refl _,G',b,fun z hz=>ai _ (c.subset hz)⟩
theorem vx {K:Frag}{P:Addr->Prop}{H0:Hp}{p:Addr}{vs:List V}{ds:List D}{G:List Addr}(h1:je K H0 p vs)(h2:aD K H0 ds vs G)(hp:∀ a∈G,P a):jD K P H0 (Itt K p) ds G:=fun H e=>by
 have h1':=e.tqT h1;have h2':=e.reps h2 hp;refine⟨fun i d hd=>?_,⟨vs,h1'.sq,by rw[h2.len];exact av _⟩⟩;obtain⟨v,G',a,b,c⟩:=h2'.get hd;refine⟨⟨vs,v,h1'.sq,a⟩,fun x H' ⟨e1,e2⟩=>?_⟩;subst e1;have:=e2 vs h1'.sq;rw[a] at this;cases this;exact⟨aE.refl _,G',b,fun z hz=>c.subset hz⟩
noncomputable def Dp (xs:List V):It:=⟨fun i _=>i<xs.length,fun i H x H'=>H'=H/\xs[i]? = some x,fun i _=>xs.length<=i⟩
theorem k7 {K:Frag}{P:Addr->Prop}{H0:Hp}{vs:List V}{ds:List D}(hr:∀ H,aD K H ds vs []):jD K P H0 (Dp vs) ds []:=fun H e=>by
 have hl:=(hr H).len;refine⟨fun i d hd=>?_,by show vs.length<=ds.length;omega⟩;obtain⟨v,G',a,b,c⟩:=(hr H).get hd;refine⟨by show i<vs.length;rw[<-hl];exact (List.getElem?_eq_some_iff.mp hd).1,fun x H' ⟨e1,e2⟩=>?_⟩;subst e1;rw[a] at e2;cases e2;exact⟨aE.refl _,G',b,fun z hz=>c.subset hz⟩
theorem lR {P:Program}{w:World}{K:Frag}{tg:Expr}{it:Addr}{xs:List V}{Pv:Nat->Value->Prop}{St:Nat->Heap->Prop}(W:∀ A:Around,A.handled=none->Walks P w A it [it] [it] xs.length Pv St)(hP:∀ i v,Pv i v->∃ x,xs[i]? = some x/\RelV x v)
  (ob:∀ i h,St i h->∃ o n vs,h.get? it=some o/\o.cls = .type n/\o.data = .fields vs/\["enumerate","zip","dict_itemiterator","dict_reverseitemiterator","odict_iterator","itertools.zip_longest","itertools.pairwise"].contains n=false)
  (fr:∀ i h h',St i h->(∀ o,h.get? it=some o->h'.get? it=some o)->St i h') (le:∀ i h,St i h->i<=xs.length) (slf:∀(A:Around) (i:Nat) (s:Shared) (Q E:Value->Shared->Prop),St i s.heap->Q (.ref it) s->wpAny (model P w) A (pyIter (.ref it)) Q E s):Turn P w K tg (Dp xs) [it] it St where
 mem:=by simp
 obj:=fun i h st b hb=>by
  have e:b=it:=by simpa using hb
  subst e;obtain⟨o,n,vs,h1,h2,h3,_⟩:=ob i h st;exact⟨o,h1,fun v z=>by rw[h3] at z;cases z⟩
 keep:=fun i h h' st k=>fr i h h' st fun o e=>k it (by simp) o e
 item:=by
  intro X hp hw hK hc i pins s σ H E I hf st hg;subst hp hw hK;obtain⟨f0,f1,f2,f3,f4,f5⟩:=hf it (by simp);refine (W X.A (I.ok.hd hc)).item i s _ _ hg st fun v h' tk hv st' kk=>?_
  obtain⟨x,ex,rx⟩:=hP i v hv;have I1:Inv X pins σ H { s with heap:=h',toks:=tk }:=I.turned (fun b o hb e=>kk b o (by simpa using hb) e) f0 f1 f3 f4 f5;obtain⟨o,n,vs,h1,h2,h3,h4⟩:=ob (i+1) h' st';exact⟨v,rfl,qY (s:={ s with heap:=h',toks:=tk }) (n:=n) h1 h2 h3 h4 ⟨x,H,I1,rx,⟨rfl,ex⟩,st',fun b hb=>(hf b hb).1⟩⟩
 done:=by
  intro X hp hw hK hc i pins s σ H E I hf st hg;subst hp hw hK;obtain⟨f0,f1,f2,f3,f4,f5⟩:=hf it (by simp);have hi:i=xs.length:=Nat.le_antisymm (le i _ st) hg;subst hi;exact (W X.A (I.ok.hd hc)).done s _ _ st fun h' tk kk=>⟨rfl,I.turned (fun b o hb e=>kk b o (by simpa using hb) e) f0 f1 f3 f4 f5⟩
 self:=fun A i s Q E st h=>slf A i s Q E st h
noncomputable def fL (a c:Int)(n:Nat):List V:=(List.range n).map fun (i:Nat)=>.int (a+(i:Int)*c)
theorem jN (a c:Int)(n:Nat):(fL a c n).length=n:=by simp[fL]
theorem kA {K:Frag}{H:Hp}(c:Int):∀(n:Nat) (a:Int),aD K H (bA a c n) (fL a c n) []
 |0,a=>.nil
 | n+1,a=>by
  have e:fL a c (n+1) = .int a::fL (a+c) c n:=by
   unfold fL;rw[gq,ay,dm];congr 1
   ·simp
   ·refine List.map_congr_left fun i _=>?_
    simp only[Function.comp_apply,V.int.injEq,Nat.succ_eq_add_one]
    push_cast
    rw[Int.add_mul];omega
  rw[e];show aD K H (.int a::bA (a+c) c n) _ ([] ++ []);exact .cons (.int a) (kA c n (a+c))
theorem iA (a b c:Int)(hc:c≠0):0<=Builtin.Range.rangeSize a b c:=by
 unfold Builtin.Range.rangeSize;split
 ·rename_i h;split
  ·have:0<=(b - a - 1) / c:=Int.ediv_nonneg (by omega) (by omega);omega
  ·omega
 ·split
  ·have:0<=(a - b - 1) / (-c):=Int.ediv_nonneg (by omega) (by omega);omega
  ·omega
theorem oa {a b c:Int}(ha:fP a=true)(hb:fP b=true)(hc:c≠0)(hs:c.natAbs<1073741824):Builtin.Range.small a b c=true:=by
 unfold fP at ha hb;have ha:=cw ha;have hb:=cw hb;have hn:=iA a b c hc;have hu:Builtin.Range.rangeSize a b c<2 ^ 63:=by
  unfold Builtin.Range.rangeSize;split
  ·split
   ·have:=Int.ediv_le_self (b:=c) (a:=b - a - 1) (by omega);omega
   ·decide
  ·split
   ·have:=Int.ediv_le_self (b:=-c) (a:=a - b - 1) (by omega);omega
   ·decide
 unfold Builtin.Range.small;simp only[Builtin.Range.rangeFitsLong,Bool.and_eq_true,Bool.or_eq_true,decide_eq_true_eq,beq_iff_eq];refine⟨⟨⟨⟨⟨by omega,by omega⟩,by omega,by omega⟩,by omega,by omega⟩,by omega,hu⟩,.inr ?_⟩;split<;>simp only[Bool.and_eq_true,decide_eq_true_eq]<;>omega
section
variable {X:Cx}{tg:Expr}
theorem iP {pins:List (Addr×Obj)}{σ:L2.St}{H:Hp}{s:Shared}{R:It->Hp->Prop}{E:Value->Shared->Prop}{lo hi c:Int}{t u v:Tok}{tk:Nat}(I:Inv X pins σ H s)(h1:fP lo=true)(h2:fP hi=true)(h3:c≠0)(h4:c.natAbs<1073741824)
  (q:R (Dp (fL lo c (Builtin.Range.rangeSize lo hi c).toNat)) H):wpAny (model X.prog X.w) X.A (pyIter (.ref s.heap.objs.size)) (BF X pins σ tg R) E { s with heap:=s.heap.push { cls:=.type "range",data:=.fields #[.int lo t,.int hi u,.int c v] },toks:=tk }:=by
 refine wpAny_pyIter_range (IsRange.new ..) (oa h1 h2 h3 h4) ?_;have I1:Inv X pins σ H { s with heap:=s.heap.push { cls:=.type "range",data:=.fields #[.int lo t,.int hi u,.int c v] },toks:=tk }:=I.kept fun b o e=>Heap.get?_push_of_some _ e
 have hn:=iA lo hi c h3;let n:=(Builtin.Range.rangeSize lo hi c).toNat;refine⟨(s.heap.push { cls:=.type "range",data:=.fields #[.int lo t,.int hi u,.int c v] }).objs.size,[(s.heap.push { cls:=.type "range",data:=.fields #[.int lo t,.int hi u,.int c v] }).objs.size],
  (fun i h=>i<=n/\IsRangeIter h (s.heap.push { cls:=.type "range",data:=.fields #[.int lo t,.int hi u,.int c v] }).objs.size (lo+(i:Nat)*c) ((n:Int) - (i:Nat)) c),_,H,rfl,
  I1.kept (t':=tk) fun b o e=>Heap.get?_push_of_some _ e,lR (Pv:=fun i v=>i<n/\∃ t,v = .int (lo+i*c) t) (fun A hA=>?_) (fun i v hv=>?_) (fun i h st=>?_) (fun i h h' st k=>⟨st.1,k _ st.2⟩) (fun i h st=>by rw[jN];exact st.1) (fun A i s Q E st h=>wpAny_pyIter_rangeiter st.2 h),?_,fun b hb=>?_,q⟩
 ·rw[jN];have W:=Walks.range (prog:=X.prog) (w:=X.w) hA (s.heap.push { cls:=.type "range",data:=.fields #[.int lo t,.int hi u,.int c v] }).objs.size lo c n;exact⟨W.sub,fun i h h' st k=>⟨st.1,W.frame i h h' st.2 k⟩,fun i s Q E hi st hQ=>W.item i s Q E hi st.2 fun v h' tk hv st' kk=>hQ v h' tk ⟨hi,hv⟩ ⟨hi,st'⟩ kk,fun s Q E st hQ=>W.done s Q E st.2 hQ,fun i s Q E st h=>W.self i s Q E st.2 h⟩
 ·obtain⟨hi',t',rfl⟩:=hv;exact⟨.int (lo+i*c),by unfold fL;rw[List.getElem?_map,List.getElem?_range hi'];rfl,t',rfl⟩
 ·exact⟨_,_,_,st.2,rfl,rfl,by decide⟩
 ·refine⟨de _,?_⟩;have e1:lo+((0:Nat):Int)*c=lo:=by simp
  have e2:((n:Nat):Int) - ((0:Nat):Int)=Builtin.Range.rangeSize lo hi c:=by omega
  rw[e1,e2];exact Heap.get?_push_size _ rfl
 ·have e:b=(s.heap.push { cls:=.type "range",data:=.fields #[.int lo t,.int hi u,.int c v] }).objs.size:=by simpa using hb
  subst e;exact I1.fpOk (av _) (I1.hok.fresh (av _))
end
section
variable {X:Cx}{tg:Expr}{T:Tb}{pins:List (Addr×Obj)}{σ:L2.St}{H:Hp}{s:Shared}{R:It->Hp->Prop}{E:Value->Shared->Prop}
theorem xf {a:Addr}{xs:List V}(I:Inv X pins σ H s)(hq:mE X.K H a xs)(q:R (Itl X.K a) H):wpAny (model X.prog X.w) X.A (pyIter (.ref a)) (BF X pins σ tg R) E s:=by
 obtain⟨its,rv,p,hz⟩:=I.list hq;refine wpAny_pyIter_list p.isList ?_;refine⟨s.heap.objs.size,[s.heap.objs.size],_,_,H,rfl,I.kept (t':=s.toks) fun b o e=>Heap.get?_push_of_some _ e,sF a _,⟨_,Heap.get?_push_size _ rfl,rfl,rfl⟩,fun b hb=>?_,q⟩;have e:b=s.heap.objs.size:=by simpa using hb
 subst e;exact I.fpOk (av _) (I.hok.fresh (av _))
theorem uK {a:Addr}{xs:List V}(I:Inv X pins σ H s)(hq:hZ X.K H a xs)(q:R (Itt X.K a) H):wpAny (model X.prog X.w) X.A (pyIter (.ref a)) (BF X pins σ tg R) E s:=by
 obtain⟨its,rv,p,hz⟩:=I.tuple hq;refine wpAny_pyIter_tuple (show s.heap.IsTuple a its.toArray from p) ?_;refine⟨s.heap.objs.size,[s.heap.objs.size],_,_,H,rfl,I.kept (t':=s.toks) fun b o e=>Heap.get?_push_of_some _ e,oW a _,⟨_,Heap.get?_push_size _ rfl,rfl,rfl⟩,fun b hb=>?_,q⟩;have e:b=s.heap.objs.size:=by simpa using hb
 subst e;exact I.fpOk (av _) (I.hok.fresh (av _))
noncomputable def ItZ (d:Addr)(o:Obj)(xs:List (Key×V)):It:=⟨fun i H=>H d=some (.frz o (.dK xs))/\i<xs.length,fun i H x H'=>H'=H/\∃ kv,xs[i]? = some kv/\x=kV kv.1,fun i H=>H d=some (.frz o (.dK xs))/\xs.length<=i⟩
theorem rP {P:Program}{w:World}{K:Frag}{tg:Expr}{it d:Addr}{o:Obj}{xs:List (Key×V)}{vs:List (Key×Value)}{ep:Nat}(hne:d≠it)(rel:KV xs vs)(hat:∀ h:Heap,h.get? d=some o->h.DictAt (aO P w) d vs ep):Turn P w K tg (ItZ d o xs) [it] it (fun i h=>i<=vs.length/\h.IsKeyIter it d i vs.length ep) where
 mem:=by simp
 obj:=fun i h st b hb=>by
  have e:b=it:=by simpa using hb
  subst e;obtain⟨_,o',h1,h2,h3⟩:=st;exact⟨o',h1,fun v z=>by rw[h3] at z;cases z⟩
 keep:=fun i h h' st k=>⟨st.1,st.2.at fun o e=>k it (by simp) o e⟩
 item:=by
  intro X hp hw hK hc i pins s σ H E I hf st hg;subst hp hw hK;obtain⟨f0,f1,f2,f3,f4,f5⟩:=hf it (by simp);obtain⟨hz,hlt⟩:=hg;have ho:s.heap.get? d=some o:=(I.hok d _ hz).1;have hl:=rel.length;refine (Walks.dictKeys (I.ok.hd hc) it d hne vs ep).item i s _ _ (by omega) ⟨st.2,hat _ ho⟩ fun v h' tk hv st' kk=>?_
  obtain⟨k,x,hx,hk⟩:=hv;have I1:Inv X pins σ H { s with heap:=h',toks:=tk }:=I.turned (fun b o hb e=>kk b o (by simpa using hb) e) f0 f1 f3 f4 f5;obtain⟨oi,h1,h2,h3⟩:=st'.1;obtain⟨kv,e1⟩:∃ kv,xs[i]? = some kv:=⟨xs[i],List.getElem?_eq_getElem hlt⟩;have ek:kv.1=k:=by
   have:=fv (fun l:List Key=>l[i]?) rel.keys;simp only[List.getElem?_map,e1,hx,Option.map_some,Option.some.injEq] at this;exact this
  have rx:RelV (kV kv.1) v:=by
   rw[ek];rcases aV (show ja k v=true from hk) with ⟨i,t,rfl,rfl⟩ | ⟨x,t,rfl,rfl⟩
   ·exact⟨t,rfl⟩
   ·exact⟨t,rfl⟩
  exact⟨v,rfl,qY (s:={ s with heap:=h',toks:=tk }) (n:="dict_keyiterator") h1 h2 h3 (by decide) ⟨kV kv.1,H,I1,rx,⟨rfl,kv,e1,rfl⟩,⟨by omega,st'.1⟩,fun b hb=>(hf b hb).1⟩⟩
 done:=by
  intro X hp hw hK hc i pins s σ H E I hf st hg;subst hp hw hK;obtain⟨f0,f1,f2,f3,f4,f5⟩:=hf it (by simp);obtain⟨hz,hge⟩:=hg;have ho:s.heap.get? d=some o:=(I.hok d _ hz).1;have hl:=rel.length;have hi:i=vs.length:=by have:=st.1;omega
  subst hi;exact (Walks.dictKeys (I.ok.hd hc) it d hne vs ep).done s _ _ ⟨st.2,hat _ ho⟩ fun h' tk kk=>⟨rfl,I.turned (fun b o hb e=>kk b o (by simpa using hb) e) f0 f1 f3 f4 f5⟩
 self:=fun A i s Q E st h=>wpAny_pyIter_keyiter st.2 h
theorem yG {a:Addr}{o:Obj}{xs:List (Key×V)}(I:Inv X pins σ H s)(hq:H a=some (.frz o (.dK xs)))(q:R (ItZ a o xs) H):wpAny (model X.prog X.w) X.A (pyIter (.ref a)) (BF X pins σ tg R) E s:=by
 have ho:s.heap.get? a=some o:=(I.hok a _ hq).1;obtain⟨z,lo,vs,rel,dd⟩:=i0 I.hok (.inr ⟨_,hq⟩);obtain⟨ep,o',es,h1,h2⟩:=dd.dictAt;rw[ho] at h1;cases h1;refine wpAny_pyIter_dict lo ⟨o,es,ho,h2⟩ ?_;refine⟨s.heap.objs.size,[s.heap.objs.size],_,_,H,rfl,I.kept (t':=s.toks) fun b o e=>Heap.get?_push_of_some _ e,rP (vs:=vs) (ep:=ep) (bo (Heap.lt_size ho)) rel (fun h e=>⟨o,es,e,h2⟩),⟨de _,⟨_,Heap.get?_push_size _ rfl,rfl,rfl⟩⟩,fun b hb=>?_,q⟩;have e:b=s.heap.objs.size:=by simpa using hb
 subst e;exact I.fpOk (av _) (I.hok.fresh (av _))
theorem su {K:Frag}{P:Addr->Prop}{H0:Hp}{p:Addr}{o:Obj}{xs:List (Key×V)}{ks:List (Int×MV)}(h1:H0 p=some (.frz o (.dK xs)))(h2:gW K H0 ks xs):jD K P H0 (ItZ p o xs) (ks.map fun q=>.int q.1) []:=fun H e=>by
 have h1':=e.fz _ _ _ h1;have hl:=h2.len;refine⟨fun i d hd=>?_,⟨h1',by rw[au];omega⟩⟩;have hi:i<ks.length:=by have:=(List.getElem?_eq_some_iff.mp hd).1;rwa [au] at this
 refine⟨⟨h1',by omega⟩,fun x H' ⟨e1,kv,e2,e3⟩=>?_⟩;subst e1 e3;refine⟨aE.refl _,[],?_,fun a ha=>nomatch ha⟩;rw[List.getElem?_map] at hd;have key:∀{ks:List (Int×MV)}{xs:List (Key×V)}{i:Nat}{kv:Key×V}{q:Int×MV},gW K H0 ks xs->xs[i]? = some kv->ks[i]? = some q->kv.1 = .inl q.1:=by
  intro ks
  induction ks with
  |nil=>intro xs i kv q _ _ h;cases h
  |cons a r ih =>
   intro xs i kv q h e1 e2;cases xs with
   |nil=>cases e1
   |cons x xs =>
    cases i with
    |zero=>cases e1;cases e2;exact h.1
    |succ i=>exact ih h.2.2 e1 e2
 cases hq:ks[i]? with
 |none=>rw[hq] at hd;cases hd
 |some q =>
  rw[hq] at hd;cases hd;rw[key h2 e2 hq];exact .int q.1
noncomputable def mq (z:Str):List V:=z.cps.toList.map fun c=>.str ⟨#[c]⟩
theorem zN {z:Str}{t:Tok}(I:Inv X pins σ H s)(q:R (Dp (mq z)) H):wpAny (model X.prog X.w) X.A (pyIter (.str z t)) (BF X pins σ tg R) E s:=by
 have hlen:(mq z).length=z.cps.size:=by simp[mq]
 have core:∀(nm:String) (hn:["enumerate","zip","dict_itemiterator","dict_reverseitemiterator","odict_iterator","itertools.zip_longest","itertools.pairwise"].contains nm=false)
   (W:∀ A:Around,A.handled=none->Walks X.prog X.w A s.heap.objs.size [s.heap.objs.size] [s.heap.objs.size] z.cps.size (SignAt z) (fun i h=>h.IsStrIter s.heap.objs.size nm z t i))
   (slf:∀(A:Around) (i:Nat) (s':Shared) (Q E:Value->Shared->Prop),s'.heap.IsStrIter s.heap.objs.size nm z t i->Q (.ref s.heap.objs.size) s'->wpAny (model X.prog X.w) A (pyIter (.ref s.heap.objs.size)) Q E s'),
   BF X pins σ tg R (.ref s.heap.objs.size) { s with heap:=s.heap.push { cls:=.type nm,data:=.fields #[.str z t,.int 0 0] } }:=by
  intro nm hn W slf;refine⟨s.heap.objs.size,[s.heap.objs.size],(fun i h=>i<=z.cps.size/\h.IsStrIter s.heap.objs.size nm z t i),_,H,rfl,I.kept (t':=s.toks) fun b o e=>Heap.get?_push_of_some _ e,
   lR (Pv:=SignAt z) (fun A hA=>?_) (fun i v hv=>?_) (fun i h st=>?_) (fun i h h' st k=>⟨st.1,let ⟨o,ho,r⟩:=st.2;⟨o,k o ho,r⟩⟩) (fun i h st=>by rw[hlen];exact st.1) (fun A i s Q E st h=>slf A i s Q E st.2 h),⟨de _,⟨_,Heap.get?_push_size _ rfl,rfl,rfl⟩⟩,fun b hb=>?_,q⟩
  ·rw[hlen];have W:=W A hA;exact⟨W.sub,fun i h h' st k=>⟨st.1,W.frame i h h' st.2 k⟩,fun i s Q E hi st hQ=>W.item i s Q E hi st.2 fun v h' tk hv st' kk=>hQ v h' tk hv ⟨hi,st'⟩ kk,fun s Q E st hQ=>W.done s Q E st.2 hQ,fun i s Q E st h=>W.self i s Q E st.2 h⟩
  ·obtain⟨c,u,e,rfl⟩:=hv;exact⟨.str ⟨#[c]⟩,by simp[mq];exact e,u,rfl⟩
  ·obtain⟨o,ho,hc,hd⟩:=st.2;exact⟨o,nm,_,ho,hc,hd,hn⟩
  ·have e:b=s.heap.objs.size:=by simpa using hb
   subst e;exact I.fpOk (av _) (I.hok.fresh (av _))
 cases ha:z.cps.all (· < 128)
 ·exact wpAny_pyIter_wide ha (core "str_iterator" (by decide) (fun A' hA=>Walks.strWide hA _ z t) fun A i s' Q E st h=>wpAny_pyIter_striter_wide st h)
 ·exact wpAny_pyIter_ascii ha (core "str_ascii_iterator" (by decide) (fun A' hA=>Walks.strAscii hA _ z t) fun A i s' Q E st h=>wpAny_pyIter_striter_ascii st h)
theorem jx {K:Frag}{H:Hp}:∀(cs:List Nat),aD K H (cs.map fun c=>D.str ⟨#[c]⟩) (cs.map fun c=>V.str ⟨#[c]⟩) []
 |[]=>.nil
 | c::cs=>by
  show aD K H (_::_) (_::_) ([] ++ []);exact .cons (.str _) (jx cs)
theorem tM {e:Expr}{c:Ex}(h:PE X e (tE X.K T c)):PI X tg e (tI X.K T (.seq c)):=by
 intro pins s σ H R I hq;obtain⟨P,env,F,re,p,hev,k⟩:=hq;unfold gY at hev;obtain⟨q,h1,hev⟩:=Rs.bind_ok hev;obtain⟨l,h2,hev⟩:=Rs.bind_ok hev;have h2:=cF h2;cases hev;refine bW (h pins s σ H (fun v H'=>∃ G,aE H H'/\Rep X.K H' q.1 v G/\bK env F H q.2 H' G) I ⟨P,env,F,re,q,h1,fun v H' G s rp rt=>⟨G,s,rp,rt⟩⟩) fun u s1 ⟨v,H1,I1,r1,G,e,rp,rt⟩=>?_
 have rt':bK env F H (.sh q.2.roots) H1 G:=rt.part (fun _ h=>h) (fun _ h=>h) fun R e=>by cases e
 cases hd:q.1 with
 |lst xs =>
  rw[hd] at rp h2;cases h2;obtain⟨a,vs,g,rfl,rfl,a1,a2⟩:=rp.lst_inv;cases r1;exact xf I1 (.inl a1) (k _ H1 (a::g) e rt' (fun b hb=>rp.nn hb) fun P' hP=>rF a1 a2 hP)
 |tup xs =>
  rw[hd] at rp h2;cases h2;obtain⟨a,vs,rfl,a1,a2⟩:=rp.tup_invT;cases r1;exact uK I1 a1.sq (k _ H1 G e rt' (fun b hb=>rp.nn hb) fun P' hP=>vx a1 a2 hP)
 |str z =>
  rw[hd] at rp h2;simp only[vp] at h2;by_cases hl:z.length<=lim
  ·rw[if_pos hl] at h2;cases h2;obtain⟨rfl,rfl⟩:=rp.str_inv;obtain⟨t,rfl⟩:=r1;exact zN I1 (k _ H1 [] e bK.nil (fun _ h=>(nomatch h)) fun P' hP=>k7 fun H=>jx _)
  ·rw[if_neg hl] at h2;cases h2
 |mpz ks =>
  rw[hd] at rp h2;cases h2;cases rp with
  |@mpz a _ xs o hz kr =>
   cases r1;exact yG I1 hz (k _ H1 [] e rt' (fun _ h=>(nomatch h)) fun P' hP=>su hz kr)
 |_=>rw[hd] at h2;cases h2
theorem i7 (a b:Int):(Builtin.Range.rangeSize a b 1).toNat=(b - a).toNat:=by
 rw[rangeSize_one];split<;>omega
theorem zC {es:List Expr}{cs:kK}{it:qu}{p pos:Pos}{e0:Expr}{rest:List Expr}(hes:es=e0::rest)(hg:Gl X "range") (hm:X.mg "range" = none) (ha:PA X es (sQ X.K T cs)) (hs:starEach es X.env=(false,eval e0 X.env)::starEach rest X.env) (hpl:(backTo pos (starEach rest X.env)).any (·.1)=false)
  (hit:∀ env p,gY T it env = .ok p->p.2=[]/\∃ l,bE T cs env = .ok l/\((∃ j,l.map (·.1)=[.int j]/\fP j=true/\p.1=bA 0 1 j.toNat)\/(∃ i j,l.map (·.1)=[.int i,.int j]/\fP i=true/\fP j=true/\p.1=bA i 1 (j - i).toNat) \/
   ∃ i j k,l.map (·.1)=[.int i,.int j,.int k]/\fP i=true/\fP j=true/\k≠0/\k.natAbs<1073741824/\p.1=bA i k (Builtin.Range.rangeSize i j k).toNat)) :
  PI X tg (.Call (.Name "range" p) es [] pos) (tI X.K T it):=by
 subst hes;intro pins s σ H R I hq;obtain⟨P,env,F,re,q,hev,k⟩:=hq;obtain⟨hq2,l,hl,hc⟩:=hit env q hev;refine Call_ (mj I hg hm boot_range (PyProof.Rows.callWith_type1 (bW (ha pos pins s σ H (fun vs H'=>∃ G,Args X.K env F H H' l vs G) I ⟨P,env,F,re,l,hl,fun vs H' G ar=>⟨G,ar⟩⟩) fun us s1 ⟨vs,H1,I1,r1,G,ar⟩=>?_) hs hpl));have rs:=ar.reps;have fin:∀(a c:Int) (n:Nat),q.1=bA a c n->R (Dp (fL a c n)) H1:=fun a c n e=>by
  refine k _ H1 [] ar.same bK.nil (fun _ h=>(nomatch h)) fun P' _=>?_
  rw[e];exact k7 fun H=>kA c n a
 have one:∀{d:D}{ds:List D}{vs:List V}{us:List Value}{G:List Addr},aD X.K H1 (d::ds) vs G->aN vs us->∀ i,d = .int i->∃ t us' vs' G',us = .int i t::us'/\vs = .int i::vs'/\aD X.K H1 ds vs' G'/\aN vs' us':=by
  intro d ds vs us G r rv i e;subst e;cases r with
  |cons r rr =>
   obtain⟨rfl,rfl⟩:=r.int_inv;cases rv with
   |cons x y =>
    obtain⟨t,rfl⟩:=x;exact⟨t,_,_,_,rfl,rfl,rr,y⟩
 have nil:∀{vs:List V}{us:List Value}{G:List Addr},aD X.K H1 [] vs G->aN vs us->us=[]:=by
  intro vs us G r rv;cases r;cases rv;rfl
 rcases hc with ⟨j,e1,e2,e3⟩ | ⟨i,j,e1,e2,e3,e4⟩ | ⟨i,j,c,e1,e2,e3,e4,e5,e6⟩
 ·rw[e1] at rs;obtain⟨t,us',vs',G',rfl,_,rs,r1⟩:=one rs r1 j rfl;obtain rfl:=nil rs r1;refine call_range_1 (iP (c:=1) I1 (by decide) e2 (by decide) (by decide) ?_);refine fin _ _ _ ?_;rw[e3,i7];simp
 ·rw[e1] at rs;obtain⟨t,us',vs',G',rfl,_,rs,r1⟩:=one rs r1 i rfl;obtain⟨t',us'',vs'',G'',rfl,_,rs,r1⟩:=one rs r1 j rfl;obtain rfl:=nil rs r1;refine call_range_2 (iP (c:=1) I1 e2 e3 (by decide) (by decide) ?_);refine fin _ _ _ ?_;rw[e4,i7]
 ·rw[e1] at rs;obtain⟨t,us',vs',G',rfl,_,rs,r1⟩:=one rs r1 i rfl;obtain⟨t',us'',vs'',G'',rfl,_,rs,r1⟩:=one rs r1 j rfl;obtain⟨t3,us3,vs3,G3,rfl,_,rs,r1⟩:=one rs r1 c rfl;obtain rfl:=nil rs r1;refine call_range_3 e4 (iP (c:=c) I1 e2 e3 e4 e5 ?_) (.inl (PyProof.noPylong_small e5));exact fin _ _ _ e6
end
section
variable {X:Cx}{pins:List (Addr×Obj)}{σ:L2.St}{H:Hp}{s:Shared}
end
section
variable {X:Cx}{T:Tb}
end
def tS (K:Frag)(T:Tb)(c:St):TS:=fun D σ H=>∃ P Z env F,RE K P env σ H F/\(∀ i,∀ a∈F i,Z a)/\(∀ a,¬ P a->Z a)/\post K P Z env F H D (bZ T c env)
def AB (K:Frag)(T:Tb)(c:cM):TS:=fun D σ H=>∃ P Z env F,RE K P env σ H F/\(∀ i,∀ a∈F i,Z a)/\(∀ a,¬ P a->Z a)/\post K P Z env F H D (aH T c env)
section
variable {K:Frag}{P Z:Addr->Prop}{env:En}{σ:L2.St}{H:Hp}{F:Nat->List Addr}{D:Ends}
theorem dW {α:Type}{x:Rs α}{k:α->Fl}(h:post K P Z env F H D (fB env x k)):∃ a,x = .ok a/\post K P Z env F H D (k a):=by
 cases x with
 |ok a=>exact⟨a,rfl,h⟩
 |exc e=>exact h.elim
 |bad=>exact h.elim
theorem After.same {H':Hp}(re:RE K P env σ H F)(hz:∀ i,∀ a∈F i,Z a)(e:aE H H'):After K P Z env F H env σ H' F:=⟨re.same e,hz,iU.of_same re.pl e,oC.refl _ _⟩
theorem AG {H':Hp}{r:Rt}{G:List Addr}(re:RE K P env σ H F)(hz:∀ i,∀ a∈F i,Z a)(zp:∀ a,¬ P a->Z a)(rt:bK env F H r H' G):∀ a∈G,Z a:=fun a ha=>by
 rcases rt.cont a ha with q | ⟨j,_,_,f,_⟩
 ·exact zp a fun z=>re.pl a z q
 ·exact hz j a f
end
section
variable {X:Cx}{T:Tb}{pos:Pos}{e:Expr}{c:Ex}
theorem ya:jS X [] (AB X.K T .nil):=by
 refine qE jr fun D σ H ⟨P,Z,env,F,re,hz,zp,h⟩=>?_
 unfold aH at h;exact h σ H F (After.same re hz (aE.refl _))
theorem uI {st:Stmt}{rest:List Stmt}{cs:St}{cr:cM}(h1:PS X st (tS X.K T cs))(h2:jS X rest (AB X.K T cr)):jS X (st::rest) (AB X.K T (.cons cs cr)):=by
 refine qE (aQ h1 h2) fun D σ H ⟨P,Z,env,F,re,hz,zp,h⟩=>⟨P,Z,env,F,re,hz,zp,?_⟩
 unfold aH at h;cases hs:bZ T cs env with
 |nx env' =>
  rw[hs] at h;exact fun σ' H' F' af=>⟨P,Z,env',F',af.re,af.z,zp,post.trans af h⟩
 |bk env'=>rw[hs] at h;exact h
 |ct env'=>rw[hs] at h;exact h
 |rt d fr=>rw[hs] at h;exact h
 |xc e env'=>rw[hs] at h;exact h
 |bad=>rw[hs] at h;exact h
theorem w8:PS X (.Pass pos) (tS X.K T .pass):=by
 refine dB wd fun D σ H ⟨P,Z,env,F,re,hz,zp,h⟩=>?_
 unfold bZ at h;exact h σ H F (After.same re hz (aE.refl _))
theorem AX {x:Str}{j:Nat}{pos':Pos}:PS X (.Expr (.Constant (.str x) j pos) pos') (tS X.K T .pass):=by
 refine dB BD fun D σ H ⟨P,Z,env,F,re,hz,zp,h⟩=>?_
 unfold bZ at h;exact h σ H F (After.same re hz (aE.refl _))
theorem yC:PS X (.Return none pos) (tS X.K T .retN):=by
 refine dB xa fun D σ H ⟨P,Z,env,F,re,hz,zp,h⟩=>?_
 unfold bZ at h;exact h .non H [] .non (iU.refl _) (fun _ h=>(nomatch h)) fun _=>⟨cg,fun _ h=>(nomatch h)⟩
theorem A4 (he:PE X e (tE X.K T c)):PS X (.Return (some e) pos) (tS X.K T (.ret c)):=by
 refine dB (jR he) fun D σ H ⟨P,Z,env,F,re,hz,zp,h⟩=>?_
 unfold bZ at h;obtain⟨p,hp,h⟩:=dW h;refine⟨P,env,F,re,p,hp,fun v H' G s rp rt=>h v H' G rp (iU.of_same re.pl s) (AG re hz zp rt) fun fr=>?_⟩;cases hr:p.2 with
 |sh R=>rw[hr] at fr;cases fr
 |mv R =>
  rw[hr] at fr;obtain⟨a,b,d⟩:=rt.mv R hr;refine⟨a,fun x hx=>⟨fun z=>?_,b x hx⟩⟩;rcases d x hx with q | ⟨i,d2,t2,hi,f,e2,o2⟩
  ·exact re.pl x z q
  ·have:=bw.mp fr i hi;split at this
   ·rename_i d' q;exact re.wr i d' q x f z
   ·cases this
theorem wN (he:PE X e (tE X.K T c))(hs:swapsWith e none pos.line X.env=pure false):PS X (.Expr e pos) (tS X.K T (.expr c)):=by
 refine dB (iu he hs) fun D σ H ⟨P,Z,env,F,re,hz,zp,h⟩=>?_
 unfold bZ at h;obtain⟨p,hp,h⟩:=dW h;exact⟨P,env,F,re,p,hp,fun v H' G s rp rt=>h σ H' F (After.same re hz s)⟩
theorem zI {a b:List Stmt}{ca cb:cM}(hc:PT X e (kJ X.K T c))(ha:jS X a (AB X.K T ca))(hb:jS X b (AB X.K T cb)):PS X (.If e a b pos) (tS X.K T (.ite c ca cb)):=by
 refine dB (qD hc ha hb) fun D σ H ⟨P,Z,env,F,re,hz,zp,h⟩=>?_
 unfold bZ at h;obtain⟨p,hp,h⟩:=dW h;cases ht:truth p.1 with
 |none=>rw[ht] at h;exact h.elim
 |some k =>
  rw[ht] at h;refine⟨P,env,F,re,p,k,hp,ht,fun H' s=>?_⟩;have af:=After.same (Z:=Z) re hz s;cases k with
  |true=>show if true=true then _ else _;rw[if_pos rfl];exact⟨P,Z,env,F,af.re,hz,zp,post.trans af h⟩
  |false=>show if false=true then _ else _;rw[if_neg ao];exact⟨P,Z,env,F,af.re,hz,zp,post.trans af h⟩
theorem vg {i:Nat}{x:Str}{pos':Pos}{mv:Bool}(hN:X.N.Nodup)(hi:X.N[i]? = some x)(hx:Loc X.env.scope x)(he:PE X e (tE X.K T c))(hs:swapsWith e (some (.Name x pos')) pos.line X.env=pure false)(hf:X.fn x=true\/X.env.scope.names.lookup x=some .local) :
  PS X (.Assign [.Name x pos'] e pos) (tS X.K T (.asg (.nm i) c mv)):=by
 refine dB (cB hN hi hx he hs hf) fun D σ H ⟨P,Z,env,F,re,hz,zp,h⟩=>?_
 unfold bZ at h;obtain⟨p,hp,h⟩:=dW h;exact⟨P,env,F,re,p,hp,fun v H' G s rp rt=>vO re hz zp s rp rt h⟩
noncomputable def fD:List Nat->y9
 |[]=>B4
 |i::is=>yT (lI i) (fD is)
theorem hU:∀{is:List Nat}{vs:List V}{σ:L2.St}{H:Hp}{Q:L2.St->Hp->Prop},is.length=vs.length->Q (setM is vs σ) H->fD is vs σ H Q
 |[],[],_,_,_,_,q=>⟨rfl,q⟩
 |i::is,v::vs,σ,H,Q,hl,q=>⟨v,vs,rfl,hU (is:=is) (vs:=vs) (by simpa using hl) q⟩
 |[],_::_,_,_,_,hl,_=>by simp at hl
 |_::_,[],_,_,_,hl,_=>by simp at hl
theorem wD {tg:Expr}{is:List Nat}{mv:Bool}(hg:PG X tg (tR X.K is.length (fD is)))(he:PE X e (tE X.K T c))(hs:swapsWithSole [tg] e pos.line X.env=pure false)(hw:swappedStores [tg] e X.env=pure none)(h1:(assignEach [tg] X.env).map (·.2)=[assign tg X.env]) :
  PS X (.Assign [tg] e pos) (tS X.K T (.asg (.tp is) c mv)):=by
 refine dB (zw he hg hs hw h1) fun D σ H ⟨P,Z,env,F,re,hz,zp,h⟩=>?_
 unfold bZ at h;obtain⟨p,hp,h⟩:=dW h;refine⟨P,env,F,re,p,hp,fun v H' G s rp rt=>?_⟩;have re':=re.same s;have ez:=AG re hz zp rt;have jA:=iU.of_same (P:=P) re.pl s;unfold rC at h;cases hd:p.1 with
 |tup ds =>
  rw[hd] at h rp;obtain⟨a,vs,rfl,a1,a2⟩:=rp.tup_inv;have fin:∀{o:Option En},post X.K P Z env F H D (xW o)->(∀ env',o=some env'->∃ F',RE X.K P env' (setM is vs σ) H' F'/\(∀ i,∀ a∈F' i,Z a)/\oC env F env' F'/\is.length=vs.length)->tR X.K is.length (fD is) (.ref a) σ H' D.nx:=fun {o} h q=>by
   cases o with
   |none=>exact h.elim
   |some env' =>
    obtain⟨F',b1,b2,b3,b4⟩:=q env' rfl;exact⟨a,vs,rfl,a1,b4.symm,hU b4 (h _ H' F' ⟨b1,b2,jA,b3⟩)⟩
  have shared:post X.K P Z env F H D (if is.all (fun i=>!p.2.roots.contains i) then xW (bindM (fun d=>bH d p.2.roots) is ds env) else .bad)->tR X.K is.length (fD is) (.ref a) σ H' D.nx:=fun h=>by
   by_cases hc:is.all (fun i=>!p.2.roots.contains i)=true
   ·rw[if_pos hc] at h;refine fin h fun env' he'=>j7 re' hz a2 ez (fun x hx j d' t' ej o m=>?_) he'
    rcases rt.cont x hx with q | ⟨k,d2,t2,f,e2,sr⟩
    ·exact absurd q (re.nn ej m)
    ·exact sr j ((re.one j d' t' ej o).2.2 x m k d2 t2 e2 f)
   ·rw[if_neg hc] at h;exact h.elim
  cases hr:p.2 with
  |sh R=>rw[hr] at h shared;exact shared h
  |mv R =>
   cases R with
   |cons r0 R0=>rw[hr] at h shared;exact shared h
   |nil =>
    rw[hr] at h;obtain⟨m1,m2,m3⟩:=rt.mv [] hr;have fresh:∀ a∈G,H a=none:=fun a ha=>by
     rcases m3 a ha with q | ⟨_,_,_,q,_⟩
     ·exact q
     ·cases q
    exact fin h fun env' he'=>lC re' hz a2 m1 m2 (fun x hx z=>re.pl x z (fresh x hx)) ez (fun x hx j m=>by
     obtain⟨d2,t2,e2⟩:=re.at' m;exact re.nn e2 m (fresh x hx)) he'
 |_=>rw[hd] at h;exact h.elim
noncomputable def pz (K:Frag):jo->TG
 |.nm i=>lI i
 |.tp is=>tR K is.length (fD is)
theorem oq {K:Frag}{P Z:Addr->Prop}{env env':En}{σ:L2.St}{H:Hp}{F:Nat->List Addr}{t:jo}{d:Pc.D}{v:V}{G:List Addr}{R:List Nat}{Q:L2.St->Hp->Prop}(re:RE K P env σ H F)(hz:∀ i,∀ a∈F i,Z a)(rp:Rep K H d v G)(gz:∀ a∈G,Z a)
  (hs:∀ a∈G,∀(j:Nat) (d':Pc.D) (t':Tg),env[j]? = some (some (d',t'))->aW t'=true->a∈F j->j∈R) (hb:bR R t d env=some env') (hQ:∀ σ' F',RE K P env' σ' H F'->(∀ i,∀ a∈F' i,Z a)->oC env F env' F'->Q σ' H):pz K t v σ H Q:=by
 cases t with
 |nm i =>
  simp only[bR] at hb;by_cases hi:i<env.length
  ·rw[if_pos hi] at hb;cases hb;exact hQ _ _ (qP re hi rp hs) (l0 hz gz) (jP hi ni)
  ·rw[if_neg hi] at hb;cases hb
 |tp is =>
  cases d with
  |tup ds =>
   simp only[bR] at hb;obtain⟨a,vs,rfl,a1,a2⟩:=rp.tup_inv;obtain⟨F',b1,b2,b3,b4⟩:=j7 re hz a2 gz hs hb;exact⟨a,vs,rfl,a1,b4.symm,hU b4 (hQ _ F' b1 b2 b3)⟩
  |_=>cases hb
theorem ip {t:jo}{R:List Nat}{b:En->Fl}:∀(ds:List Pc.D) (env:En),(∀ e,cA t R b ds env≠.bk e)/\∀ e,cA t R b ds env≠.ct e
 |[],env=>⟨fun e z=>(by cases z),fun e z=>(by cases z)⟩
 | d::ds,env=>by
  unfold cA;cases bR R t d env with
  |none=>exact⟨fun e z=>(by cases z),fun e z=>(by cases z)⟩
  |some env' =>
   simp only;cases b env' with
   |nx e'=>exact ip ds e'
   |ct e'=>exact ip ds e'
   |bk e'=>exact⟨fun e z=>(by cases z),fun e z=>(by cases z)⟩
   |rt d fr=>exact⟨fun e z=>(by cases z),fun e z=>(by cases z)⟩
   |xc x e'=>exact⟨fun e z=>(by cases z),fun e z=>(by cases z)⟩
   |bad=>exact⟨fun e z=>(by cases z),fun e z=>(by cases z)⟩
theorem AD {tg iter:Expr}{t:jo}{it:qu}{b:List Stmt}{cb:cM}(hp:PassesOwn (model X.prog X.w) X.A X.env X.xe)(hc:X.calm=true)(hi:PI X tg iter (tI X.K T it))(hg:PG X tg (pz X.K t))(hb:jS X b (AB X.K T cb))(hs:∀ x,foldedSetIterable iter X.env x=pure x) :
  PS X (.For tg iter b [] pos) (tS X.K T (.forr t it cb)):=by
 refine dB (Ac hp hc hi hg hb hs) fun D σ H ⟨P,Z,env,F,re,hz,zp,h⟩=>?_
 unfold bZ at h;obtain⟨p,hp,h⟩:=dW h;refine⟨P,env,F,re,p,hp,fun J H1 G s1 rt nn wk=>?_⟩;have af1:=After.same (Z:=Z) re hz s1;have h:=post.trans af1 h;let P':Addr->Prop:=fun a=>P a\/a∈G
 have wk:=wk P' fun a ha=>.inr ha
 have seen:∀ a∈G,∀(i:Nat) (d:Pc.D) (t:Tg),env[i]? = some (some (d,t))->aW t=true->a∈F i->i∈p.2:=fun a ha i d t e o m=>by
  rcases rt.cont a ha with q | ⟨k,d2,t2,f,e2,sr⟩
  ·exact absurd q (re.nn e m)
  ·exact sr i ((re.one i d t e o).2.2 a m k d2 t2 e2 f)
 have reL:RE X.K P' (lock p.2 env) σ H1 F:=af1.re.locked nn seen;have gz:∀ a∈G,Z a:=AG re hz zp rt;let E':Ends:={ D with nx:=fun σ' H'=>∀ env' F',After X.K P' Z (lock p.2 env) F H1 env' σ' H' F'->D.nx σ' H' };have stepP:∀{f:Fl},(∀ e,f≠.bk e)->(∀ e,f≠.ct e)->post X.K P Z env F H1 D (match f with | .nx e=>.nx (unlock p.2 env e) | x=>x)->post X.K P' Z (lock p.2 env) F H1 D f:=fun {f} nb nc h=>by
  cases f with
  |nx e=>exact fun σ' H' F' af=>h σ' H' F' (af.unlocked af1.re)
  |bk e=>exact absurd rfl (nb e)
  |ct e=>exact absurd rfl (nc e)
  |rt d fr=>exact fun v H' G' rp ev z f=>h v H' G' rp (ev.weak fun _ q=>.inl q) z fun w=>⟨(f w).1,fun a ha=>⟨fun q=>((f w).2 a ha).1 (.inl q),((f w).2 a ha).2⟩⟩
  |xc x e=>exact h
  |bad=>exact h
 have h:=stepP (ip _ _).1 (ip _ _).2 h;have zpL:∀ a,¬ P' a->Z a:=fun a ha=>zp a fun q=>ha (.inl q)
 refine⟨fun i m σ' H'=>m=p.1.length - i/\i<=p.1.length/\∃ env' F',After X.K P' Z (lock p.2 env) F H1 env' σ' H' F'/\post X.K P' Z env' F' H' D (cA t p.2 (aH T cb) (p.1.drop i) env'),⟨p.1.length,by simp,Nat.zero_le _,lock p.2 env,F,After.same reL hz (aE.refl _),by simpa using h⟩,?_⟩;rintro i m σ2 H2 ⟨rfl,hi,env2,F2,af2,h2⟩;obtain⟨w1,w2⟩:=wk H2 af2.ev;by_cases hlt:i<p.1.length
 ·right;have hd:p.1[i]? = some p.1[i]:=by simp[hlt]
  obtain⟨g1,g2⟩:=w1 i _ hd;refine⟨g1,fun σ' H'=>∃ env' F',After X.K P' Z (lock p.2 env) F H1 env' σ' H' F'/\post X.K P' Z env' F' H' D (cA t p.2 (aH T cb) (p.1.drop (i+1)) env'),fun σ' H' q=>⟨p.1.length - (i+1),by omega,rfl,hlt,q⟩,fun x H3 y=>?_⟩;obtain⟨s3,G3,rp3,sub3⟩:=g2 x H3 y;have af3:=After.same (Z:=Z) af2.re af2.z s3;have h2:=post.trans af3 h2;rw[f9 hlt] at h2;unfold cA at h2;cases hb:bR p.2 t p.1[i] env2 with
  |none=>rw[hb] at h2;exact h2.elim
  |some env4 =>
   rw[hb] at h2;refine oq af3.re af2.z rp3 (fun a ha=>gz a (sub3 a ha)) (fun a ha j d' t' ej o m=>?_) hb fun σ4 F4 re4 z4 lk4=>?_
   ·cases t' with
    |own=>exact absurd (.inr (sub3 a ha)) (af2.re.wr j d' ej a m)
    |lk =>
     obtain⟨e5,e6⟩:=af2.lk j d' ej;rw[e6] at m;obtain⟨t0,e0,o0,_⟩:=eL e5;exact seen a (sub3 a ha) j d' t0 e0 (o0.trans o) m
    |sh Q=>cases o
   ·have af4:After X.K P' Z env2 F2 H3 env4 σ4 H3 F4:=⟨re4,z4,iU.refl _,lk4⟩;refine⟨P',Z,env4,F4,re4,z4,zpL,?_⟩;have h2:=post.trans af4 h2;have all:=(af2.trans af3).trans af4;cases hs:aH T cb env4 with
    |nx e'=>simp only[hs] at h2;exact fun σ' H' F' af5=>⟨e',F',all.trans af5,post.trans af5 h2⟩
    |ct e'=>simp only[hs] at h2;exact fun σ' H' F' af5=>⟨e',F',all.trans af5,post.trans af5 h2⟩
    |bk e'=>simp only[hs] at h2;exact h2
    |rt d fr=>simp only[hs] at h2;exact h2
    |xc x e'=>simp only[hs] at h2;exact h2
    |bad=>simp only[hs] at h2;exact h2
 ·left;have e:i=p.1.length:=by omega
  subst e;rw[List.drop_length] at h2;exact⟨w2,h2 σ2 H2 F2 (After.same af2.re af2.z (aE.refl _))⟩
end
noncomputable def eV (cells:List (Str×Addr)):List (Str×NameKind)->List (Str×Addr)->List (Str×Addr)
 |[],acc=>acc
 | (n,k)::r,acc=>eV cells r (if k == .free then (match cells.lookup n with | some c=>(n,c)::acc | none=>acc) else acc)
theorem pL {scope:Scope}{env:Env}(h:∀ x,(x,NameKind.free)∈scope.names->∃ c,env.cells.lookup x=some c):closureFor scope env=pure (eV env.cells scope.names []):=by
 unfold closureFor;have gen:∀(names:List (Str×NameKind)) (acc:List (Str×Addr)),(∀ x,(x,NameKind.free)∈names->∃ c,env.cells.lookup x=some c) ->
   (forIn names acc fun (p:Str×NameKind) (cs:List (Str×Addr))=>(match p with
    | (name,kind)=>if (kind == .free)=true then (do let c <- cellOf env name;pure (ForInStep.yield ((name,c)::cs))) else pure (ForInStep.yield cs):Sem (ForInStep (List (Str×Addr)))))=(pure (eV env.cells names acc):Sem (List (Str×Addr))):=by
  intro names
  induction names with
  |nil=>intro acc _;rfl
  |cons x r ih =>
   intro acc hx;obtain⟨n,k⟩:=x;rw[List.forIn_cons];simp only[eV];have hr:∀ x,(x,NameKind.free)∈r->∃ c,env.cells.lookup x=some c:=fun x hm=>hx x (ai _ hm)
   by_cases hk:(k==NameKind.free)=true
   ·have e:k = .free:=by simpa using hk
    subst e;obtain⟨c,hc⟩:=hx n aq;simp only[hk,if_true,cellOf,hc];exact ih ((n,c)::acc) hr
   ·simp only[hk,if_false];exact ih acc hr
 have:=gen scope.names [] h;simpa using this
theorem lV {cells:List (Str×Addr)}{x:Str}{c:Addr}:∀{names:List (Str×NameKind)}{acc:List (Str×Addr)},(∀ y d,acc.lookup y=some d->cells.lookup y=some d)->(eV cells names acc).lookup x=some c->cells.lookup x=some c
 |[],acc,ha,h=>ha x c h
 | (n,k)::r,acc,ha,h=>by
  simp only[eV] at h;refine lV (names:=r) (fun y d q=>?_) h;by_cases hk:(k==NameKind.free)=true
  ·rw[if_pos hk] at q;cases hc:cells.lookup n with
   |none=>rw[hc] at q;exact ha y d q
   |some e =>
    rw[hc] at q;simp only[List.lookup_cons] at q;cases hy:y==n with
    |true =>
     rw[hy] at q;have:=eq_of_beq hy;subst this;rw[hc];exact q
    |false=>rw[hy] at q;exact ha y d q
  ·rw[if_neg hk] at q;exact ha y d q
theorem lQ {cells:List (Str×Addr)}{x:Str}:∀{names:List (Str×NameKind)}{acc:List (Str×Addr)},(∃ c,acc.lookup x=some c)->∃ c,(eV cells names acc).lookup x=some c
 |[],acc,h=>h
 | (n,k)::r,acc,h=>by
  simp only[eV];refine lQ (names:=r) ?_;by_cases hk:(k==NameKind.free)=true
  ·rw[if_pos hk];cases hc:cells.lookup n with
   |none=>exact h
   |some e =>
    simp only[List.lookup_cons];cases hy:x==n with
    |true=>exact⟨e,rfl⟩
    |false=>exact h
  ·rw[if_neg hk];exact h
theorem ko {cells:List (Str×Addr)}{x:Str}{c:Addr}(hc:cells.lookup x=some c):∀{names:List (Str×NameKind)}{acc:List (Str×Addr)},(x,NameKind.free)∈names->∃ c,(eV cells names acc).lookup x=some c
 |[],acc,h=>by cases h
 | (n,k)::r,acc,h=>by
  simp only[eV];rcases gd.mp h with e | h
  ·cases e;refine lQ (names:=r) ?_;simp only[beq_self_eq_true,if_true,hc,List.lookup_cons];exact⟨c,rfl⟩
  ·exact ko hc (names:=r) h
noncomputable def inner (X:Cx)(scope:Scope)(N':List Str)(C:Addr)(s0:Shared)(H0:Hp)(ex:List Addr):Cx :=
 { X with N:=N',s₀:=s0,H₀:=H0,env:=compEnvC scope (cellsFrom (C+1) scope.names (eV X.env.cells scope.names [])) C X.env,outer:=X.stack,stack:=X.stack,ex:=ex,fn:=fun x=>scope.names.lookup x==some .cell,pn:=[],xe:=fun _ _=>False }
structure dD (X:Cx)(scope:Scope)(N':List Str)(pick:List (Option Nat)):Prop where
 kind:scope.kind = .function
 cells:∀ y∈scope.names,y.2 = .cell->scope.names.lookup y.1=some .cell
 names:∀ y∈scope.names,y.2 = .local->scope.names.lookup y.1=some .local
 len:pick.length=N'.length
 outer:∀ x,scope.names.lookup x=some .free->(X.env.kindOf x=some .cell\/X.env.kindOf x=some .free)
 free:∀ x,(x,NameKind.free)∈scope.names->scope.names.lookup x=some .free
 pick:∀(i j:Nat) (x:Str),pick[i]? = some (some j)->N'[i]? = some x->scope.names.lookup x=some .free/\X.N[j]? = some x
noncomputable def eJ (σ:L2.St)(pick:List (Option Nat)):L2.St:=pick.map fun o=>o.bind fun j=>(σ[j]?).join
theorem dU {env:Env}:∀{names:List (Str×NameKind)}{x:Str}{k:NameKind},(names.map fun (n,k)=>if (k==NameKind.free&&env.scope.kind == .function&&env.kindOf n==some .cell) then (n,NameKind.cell) else (n,k)).lookup x=some k ->
  ∃ k0,names.lookup x=some k0/\(k=k0\/(k0 = .free/\k = .cell))
 |[],_,_,h=>by simp at h
 | (n,k0)::r,x,k,h=>by
  rw[ay] at h;by_cases hc:(k0==NameKind.free&&env.scope.kind == .function&&env.kindOf n==some .cell)=true
  ·simp only[hc,if_true,List.lookup_cons] at h;simp only[List.lookup_cons];cases hx:x==n with
   |true =>
    rw[hx] at h;cases h;rw[aj,aj] at hc;exact⟨k0,rfl,.inr ⟨by simpa using hc.1.1,rfl⟩⟩
   |false=>rw[hx] at h;exact dU h
  ·have hc:(k0==NameKind.free&&env.scope.kind == .function&&env.kindOf n==some .cell)=false:=by simpa using hc
   simp only[hc,Bool.false_eq_true,if_false,List.lookup_cons] at h;simp only[List.lookup_cons];cases hx:x==n with
   |true=>rw[hx] at h;cases h;exact⟨k0,rfl,.inl rfl⟩
   |false=>rw[hx] at h;exact dU h
theorem eC {env:Env}:∀{names:List (Str×NameKind)}{x:Str},names.lookup x=some .free ->
  (names.map fun (n,k)=>if (k==NameKind.free&&env.scope.kind == .function&&env.kindOf n==some .cell) then (n,NameKind.cell) else (n,k)).lookup x=some .cell \/
  (names.map fun (n,k)=>if (k==NameKind.free&&env.scope.kind == .function&&env.kindOf n==some .cell) then (n,NameKind.cell) else (n,k)).lookup x=some .free
 |[],_,h=>by simp at h
 | (n,k0)::r,x,h=>by
  rw[ay];by_cases hc:(k0==NameKind.free&&env.scope.kind == .function&&env.kindOf n==some .cell)=true
  ·simp only[hc,if_true,List.lookup_cons] at h ⊢;cases hx:x==n with
   |true=>left;rfl
   |false=>rw[hx] at h;exact eC h
  ·have hc:(k0==NameKind.free&&env.scope.kind == .function&&env.kindOf n==some .cell)=false:=by simpa using hc
   simp only[hc,Bool.false_eq_true,if_false,List.lookup_cons] at h ⊢;cases hx:x==n with
   |true=>rw[hx] at h;cases h;right;rfl
   |false=>rw[hx] at h;exact eC h
theorem eZ:∀(names:List (Str×NameKind)) (n:Nat) (acc:List (Str×Addr)),cellsFrom n names acc=cellsFrom n names []++acc
 |[],_,_=>rfl
 | (nm,k)::r,n,acc=>by
  unfold cellsFrom;split
  ·rw[eZ r (n+1) ((nm,n)::acc),eZ r (n+1) [(nm,n)],ax];rfl
  ·exact eZ r n acc
theorem ox:∀(names:List (Str×NameKind)) (n:Nat) {x:Str}{c:Addr},(x,c)∈cellsFrom n names []->(x,NameKind.cell)∈names
 |[],_,_,_,h=>by cases h
 | (nm,k)::r,n,x,c,h=>by
  unfold cellsFrom at h;split at h
  ·rename_i hk;rw[eZ] at h;rcases List.mem_append.mp h with h | h
   ·exact ai _ (ox r _ h)
   ·have e:(x,c)=(nm,n):=by simpa using h
    cases e;rw[show k = .cell by simpa using hk];exact aq
  ·exact ai _ (ox r _ h)
theorem mM:∀(names:List (Str×NameKind)) (n:Nat) {x:Str},(x,NameKind.cell)∈names->∃ c,(cellsFrom n names []).lookup x=some c
 | (nm,k)::r,n,x,h=>by
  unfold cellsFrom;rcases gd.mp h with e | h
  ·cases e;rw[if_pos (by decide),eZ,eh];cases (cellsFrom (n+1) r []).lookup nm with
   |some c=>exact⟨c,rfl⟩
   |none=>exact⟨n,by simp⟩
  ·split
   ·obtain⟨c,hc⟩:=mM r (n+1) h;rw[eZ,eh,hc];exact⟨c,rfl⟩
   ·exact mM r n h
theorem nfe {M:Model}{A:Around}{E:Value->Shared->Prop}{s:Shared}{scope:Scope}{globals:Addr}{cl:List (Str×Addr)}{qual:Str}{env:Env}{Q:Env->Shared->Prop}
  (h:Q { scope:=scope,locals:=s.heap.objs.size,globals:=globals,cells:=cellsFrom (s.heap.objs.size+1) scope.names cl,qual:=qual,func:=none,code:=env.code,frame:=env.frame,builtins:=env.builtins } { s with heap:=pushCells (s.heap.push { cls:=.type "dict",data:=.dict #[] }) scope.names }) :
  wpAny M A (newFunctionEnv scope globals cl [] qual none .none (some env)) Q E s:=by
 simp only[newFunctionEnv,Option.isSome_some,if_true];refine wpAny_bind (wpAny_alloc (wpAny_bind (wpAny_layCells _ (fun name kind cells=>by cases hkc:kind==NameKind.cell<;>simp[hkc]) _ _ _ _ ?_)));rw[show ({ s with heap:=s.heap.push { cls:=.type "dict",data:=.dict #[] } }:Shared).heap.objs.size=s.heap.objs.size+1 from Heap.size_push ..];exact wpAny_pure h
section
variable {X:Cx}{scope:Scope}{N':List Str}{pick:List (Option Nat)}{pins:List (Addr×Obj)}{σ:L2.St}{H:Hp}{s:Shared}
theorem nj (S:dD X scope N' pick)(I:Inv X pins σ H s){fp:List Addr}(hf:∀ b∈fp,jI X pins H b)(hl:∀ b∈fp,b<s.heap.objs.size) :
  Inv (inner X scope N' s.heap.objs.size s H fp) [] (eJ σ pick) H { s with heap:=pushCells (s.heap.push { cls:=.type "dict",data:=.dict #[] }) scope.names }:=by
 have old:∀ x c,(eV X.env.cells scope.names []).lookup x=some c->X.env.cells.lookup x=some c:=fun x c h=>lV (acc:=[]) (fun y d q=>by simp at q) h
 have hk:∀ b o,s.heap.get? b=some o->(pushCells (s.heap.push { cls:=.type "dict",data:=.dict #[] }) scope.names).get? b=some o:=fun b o e=>pushCells_keeps _ _ b o (Heap.get?_push_of_some _ e)
 have hn:(pushCells (s.heap.push { cls:=.type "dict",data:=.dict #[] }) scope.names).Ns s.heap.objs.size (fun _=>none):=(Heap.Ns.new s.heap (.type "dict")).keeps (pushCells_keeps _ _);have ok:=cellsFrom_ok scope.names (s.heap.push { cls:=.type "dict",data:=.dict #[] }) (s.heap.objs.size+1) [] ⟨fun _ _ hm=>(nomatch hm),List.Pairwise.nil⟩ (by rw[Heap.size_push];exact av _);rw[Heap.size_push] at ok;generalize hh:pushCells (s.heap.push { cls:=.type "dict",data:=.dict #[] }) scope.names=h' at *;have oldlt:∀ x c,X.env.cells.lookup x=some c->c<s.heap.objs.size:=fun x c h=>by
  obtain⟨v,hv⟩:=I.cell x c h;exact hv.lt
 have look:∀ x c,(cellsFrom (s.heap.objs.size+1) scope.names (eV X.env.cells scope.names [])).lookup x=some c->((x,c)∈cellsFrom (s.heap.objs.size+1) scope.names []/\s.heap.objs.size+1<=c)\/((x,NameKind.cell)∉scope.names/\X.env.cells.lookup x=some c):=fun x c h=>by
  rw[eZ,eh] at h;cases q:(cellsFrom (s.heap.objs.size+1) scope.names []).lookup x with
  |some c' =>
   rw[q] at h;cases h;have hm:=bq q;exact .inl ⟨hm,(ok.empty _ _ hm).2⟩
  |none =>
   rw[q] at h;refine .inr ⟨fun z=>?_,old x c h⟩;obtain⟨c',hc'⟩:=mM scope.names (s.heap.objs.size+1) z;rw[q] at hc';cases hc'
 have sees:∀ x c,scope.names.lookup x=some .free->(eV X.env.cells scope.names []).lookup x=some c->(cellsFrom (s.heap.objs.size+1) scope.names (eV X.env.cells scope.names [])).lookup x=some c:=fun x c hx h=>by
  rw[eZ,eh];cases q:(cellsFrom (s.heap.objs.size+1) scope.names []).lookup x with
  |some c' =>
   have:=S.cells _ (ox _ _ (bq q)) rfl;rw[hx] at this;cases this
  |none=>rw[h];rfl
 refine⟨⟨I.ok.mod,S.kind,I.ok.glob,I.ok.blt,av _,fun x y c h1 h2=>?inj,fun x hx=>?_,fun x c hx h=>?cab,I.ok.hd,I.ok.frames,.inl rfl,fun b hb=>?_,I.bs,be I.ok.bsz I.sz,fun b o e hb=>?_,fun b hb hb'=>?_,I.stack,I.stkFree⟩,
  rfl,I.bare,Un.kept hk,⟨_,hn,fun i x v h1 h2 h3=>?_⟩,fun x c h=>?_,I.hok.fresh (Nat.le_refl _),fun x c h=>?frc,fun p hp=>absurd (show p∈([]:List (Addr×Obj)) from hp) (by simp),I.hok.kept hk,?_⟩
 case inj =>
  rcases look x c h1 with ⟨m1,l1⟩ | ⟨_,o1⟩<;>rcases look y c h2 with ⟨m2,l2⟩ | ⟨_,o2⟩
  ·exact name_of_addr ok.apart m1 m2
  ·exact absurd (bg (oldlt y c o2) (Nat.le_of_succ_le l1)) (c7 _)
  ·exact absurd (bg (oldlt x c o1) (Nat.le_of_succ_le l2)) (c7 _)
  ·exact I.ok.inj x y c o1 o2
 case cab =>
  have hx:scope.names.lookup x=some .cell:=by simpa[inner] using hx
  rcases look x c h with ⟨_,l1⟩ | ⟨n1,_⟩
  ·exact be (Nat.le_succ _) l1
  ·exact absurd (bq hx) n1
 case frc =>
  rcases look x c h with ⟨_,l1⟩ | ⟨_,o1⟩
  ·exact I.hok.fresh (be (Nat.le_succ _) l1)
  ·exact I.freeC x c o1
 ·have hx:(relabel scope X.env).names.lookup x=some .cell\/(relabel scope X.env).names.lookup x=some .free:=hx;have hfree:scope.names.lookup x=some .free\/scope.names.lookup x=some .cell:=by
   rcases hx with hx | hx
   ·obtain⟨k0,h1,h2 | ⟨h2,_⟩⟩:=dU hx
    ·subst h2;exact .inr h1
    ·rw[h2] at h1;exact .inl h1
   ·obtain⟨k0,h1,h2 | ⟨h2,h3⟩⟩:=dU hx
    ·subst h2;exact .inl h1
    ·cases h3
  rcases hfree with hfree | hfree
  ·obtain⟨c,hc⟩:=I.ok.has x (S.outer x hfree);obtain⟨c',hc'⟩:=ko (acc:=[]) hc (bq hfree);exact⟨c',sees x c' hfree hc'⟩
  ·obtain⟨c,hc⟩:=mM scope.names (s.heap.objs.size+1) (bq hfree);refine⟨c,?_⟩;show (cellsFrom (s.heap.objs.size+1) scope.names (eV X.env.cells scope.names [])).lookup x=some c;rw[eZ,eh,hc];rfl
 ·refine⟨bo (hl b hb),fun x c h=>?_⟩;rcases look x c h with ⟨_,l1⟩ | ⟨_,o1⟩
  ·exact fun e=>c7 _ (bg (hl b hb) (e ▸ Nat.le_of_succ_le l1))
  ·exact (hf b hb).2.2.2.2.1 x c o1
 ·obtain⟨f0,f1,f2,f3,f4,f5⟩:=hf b hb;rcases f3 with f3 | f3
  ·exact I.ok.noex b o e f3
  ·exact absurd (bg (Heap.lt_size e) (be I.ok.bsz f3)) (c7 _)
 ·obtain⟨f0,f1,f2,f3,f4,f5⟩:=hf b hb;exact (gd.mp (I.stkSub b hb')).elim f1 f2
 ·
  have h2':(pick.map fun o=>o.bind fun j=>(σ[j]?).join)[i]? = some (some v):=h2;rw[List.getElem?_map] at h2';cases hp:pick[i]? with
  |none=>rw[hp] at h2';cases h2'
  |some o =>
   rw[hp] at h2';cases o with
   |none=>simp at h2'
   |some j =>
    simp only[Option.map_some,Option.bind_some,Option.some.injEq] at h2';have hj:σ[j]? = some (some v):=by
     cases q:σ[j]? with
     |none=>rw[q] at h2';cases h2'
     |some o=>rw[q] at h2';cases o with
      |none=>cases h2'
      |some w=>simp at h2';rw[h2']
    obtain⟨k1,k2⟩:=S.pick i j x hp h1;obtain⟨m0,hn0,hl0⟩:=I.loc;have vis:yU X.env.scope x:=by
     rcases S.outer x k1 with q | q
     ·exact .inr (.inl q)
     ·exact .inr (.inr q)
    obtain⟨u,r,lk⟩:=hl0 j x v k2 hj vis;refine⟨u,r,?_⟩;rcases lk with ⟨z,_⟩ | ⟨_,c,hc,hcell⟩
    ·rcases S.outer x k1 with q | q<;>· rw[z] at q;cases q
    ·obtain⟨c',hc'⟩:=ko (names:=scope.names) (acc:=[]) hc (bq k1);have:=old x c' hc';rw[hc] at this;cases this;refine .inr ⟨eC k1,c,sees x c k1 hc',?_⟩;obtain⟨o,ho,hd⟩:=hcell;exact⟨o,hk c o ho,hd⟩
 ·rcases look x c h with ⟨m1,_⟩ | ⟨_,o1⟩
  ·exact⟨none,(ok.empty _ _ m1).1⟩
  ·obtain⟨v,o,ho,hd⟩:=I.cell x c o1;exact⟨v,o,hk c o ho,hd⟩
 ·show (pick.map _).length=N'.length;rw[au,S.len]
end
noncomputable abbrev qG (ifs:List Expr)(env:Env):Sem Bool:=forIn ifs true fun c r=>if r=true then do let ok <- isTrue c env (eval c env);pure (ForInStep.yield ok) else pure (ForInStep.yield r)
noncomputable def BS (X:Cx)(ifs:List Expr)(t:TT):Prop :=
 ∀(pins:List (Addr×Obj)) (s:Shared) (σ:L2.St) (H:Hp) (Q:Bool->Hp->Prop),Inv X pins σ H s->t σ H Q->wpAny (model X.prog X.w) X.A (qG ifs X.env) (TP X pins σ Q) X.xe s
theorem xm {X:Cx}:BS X [] (fun _ H Q=>Q true H):=fun _ _ _ H Q I h=>wpAny_tests_nil ⟨H,I,h⟩
theorem yl {X:Cx}{c:Expr}{t:TT}(h:PT X c t):BS X [c] t:=fun pins s σ H Q I q=>wpAny_tests_one (h pins s σ H Q I q)
section
variable {prog:Program}{w:World}{A:Around}{R:Result->Shared->Prop}{s:Shared}
theorem nr {elt target iter:Expr}{ifs:List Expr}{scope:Scope}{pos:Pos}{it acc:Value}{env:Env}(I:Nat->Shared->Prop)
  (turn:∀ n s,I n s->wpAny (model prog w) A (pyNext it) (fun r s₁=>match r with
   |none=>R (.ok .next) s₁
   |some v=>wpAny (model prog w) A (letOwnedTupleGo target it v) (fun _ s₀=>wpAny (model prog w) A (assign target env v) (fun _ s₂ =>
     wpAny (model prog w) A (qG ifs env) (fun ok s₃ =>
      if ok=true then wpAny (model prog w) A (eval elt env) (fun x s₄ =>
       wpAny (model prog w) A (call (.builtin "list.append") [acc,x]) (fun _ s₅=>∃ m,m<n/\I m s₅) (fun _ _=>False) s₄) (fun _ _=>False) s₃
      else ∃ m,m<n/\I m s₃) (fun _ _=>False) s₂) (fun _ _=>False) s₀) (fun _ _=>False) s₁) (fun _ _=>False) s)
  (n:Nat) (h:I n s):codeAny (model prog w) A (.compLoop (.ListComp elt [⟨target,iter,ifs,0⟩] scope pos) 0 it acc env) R s:=by
 refine codeAny_loop rfl I (fun n s hI=>?_) n h;show wpAny _ A ((compTurn (.ListComp elt [⟨target,iter,ifs,0⟩] scope pos) 0 it acc env).onRaise (fun x=>do noteFrame x env;theTreesLotGoes x)) _ _ s;refine wpAny_noted ?_;rw[compTurn_list];refine wpAny_bind (wpAny_standAt (wpAny_bind (wpAny_mono (turn n s hI) (fun r s₁ h₁=>?_) fun _ _ h'=>h'.elim)));cases r with
 |none=>exact wpAny_pure h₁
 |some v =>
  refine wpAny_bind (wpAny_mono h₁ (fun _ s₀ h₀=>?_) fun _ _ h'=>h'.elim);refine wpAny_bind (wpAny_mono h₀ (fun _ s₂ h₂=>wpAny_bind (wpAny_mono h₂ (fun ok s₃ h₃=>?_) fun _ _ h'=>h'.elim)) fun _ _ h'=>h'.elim);cases ok with
  |false=>exact wpAny_pure ⟨rfl,h₃⟩
  |true =>
   exact wpAny_bind (wpAny_bind (wpAny_mono h₃ (fun x s₄ h₄=>wpAny_bind (wpAny_mono h₄ (fun _ s₅ h₅=>wpAny_pure (wpAny_pure ⟨rfl,h₅⟩)) fun _ _ h'=>h'.elim)) fun _ _ h'=>h'.elim))
end
def tP (pick:List (Option Nat))(wi:TI)(g:TG)(tt:TT)(te:TE):TE:=fun σ H Q=>wi σ H fun J H1=>∀ l,H1 l=none->∃ W:Nat->Nat->Hp->Prop,(∃ m,W 0 m (upd H1 l (.lst [])))/\∀ i m H,W i m H ->
 (J.stop i H/\Q (.ref l) H)\/(J.go i H/\∃ N:Hp->Prop,(∀ H',N H'->∃ m',m'<m/\W (i+1) m' H')/\∀ x H',J.yld i H x H'->g x (eJ σ pick) H' fun σ2 H2 =>
  tt σ2 H2 fun b H3=>if b=true then te σ2 H3 fun y H4=>∃ xs,H4 l=some (.lst xs)/\xs.length<sizeLine/\N (upd H4 l (.lst (xs ++ [y]))) else N H3)
section
variable {X:Cx}{scope:Scope}{N':List Str}{pick:List (Option Nat)}{tg iter elt:Expr}{ifs:List Expr}{pos:Pos}{wi:TI}{g:TG}{tt:TT}{te:TE}
theorem jB (S:dD X scope N' pick)(hc:X.calm=true)(hin:∀ C s0 H0 ex,PG (inner X scope N' C s0 H0 ex) tg g/\BS (inner X scope N' C s0 H0 ex) ifs tt/\PE (inner X scope N' C s0 H0 ex) elt te)
  (gk:∀(v:V) (σ:L2.St) (H:Hp) (Q:L2.St->Hp->Prop),g v σ H Q->g v σ H fun σ' H'=>Q σ' H'/\σ'.length=σ.length/\∀(i:Nat) u,pick[i]?≠some none->σ[i]? = some u->σ'[i]? = some u)
  {pins:List (Addr×Obj)}{σ:L2.St}{H:Hp}{s:Shared}{it:Addr}{fp:List Addr}{tn:Nat->Heap->Prop}{J:It}{E:Value->Shared->Prop}{RR:Value->Addr->Result->Shared->Prop}(I:Inv X pins σ H s) (T:Turn X.prog X.w X.K tg J fp it tn) (st:tn 0 s.heap) (hf:∀ b∈fp,jI X pins H b)
  (Q:VK) (h:∀ l,H l=none->∃ W:Nat->Nat->Hp->Prop,(∃ m,W 0 m (upd H l (.lst [])))/\∀ i m H,W i m H ->
   (J.stop i H/\Q (.ref l) H)\/(J.go i H/\∃ N:Hp->Prop,(∀ H',N H'->∃ m',m'<m/\W (i+1) m' H')/\∀ x H',J.yld i H x H'->g x (eJ σ pick) H' fun σ2 H2 =>
    tt σ2 H2 fun b H3=>if b=true then te σ2 H3 fun y H4=>∃ xs,H4 l=some (.lst xs)/\xs.length<sizeLine/\N (upd H4 l (.lst (xs ++ [y]))) else N H3))
  (hR:∀(l C:Addr) (s':Shared) (H':Hp) (m:Str->Option Value),s'.heap.Ns C m->jI X pins H' C->Q (.ref l) H'->Inv X pins σ H' s'->RR (.ref l) C (.ok .next) s') :
  wpAny (model X.prog X.w) X.A (newList []) (fun acc s₃=>wpAny (model X.prog X.w) X.A (newFunctionEnv scope X.env.globals (eV X.env.cells scope.names []) [] X.env.qual none .none (some X.env)) (fun cenv s₄ =>
   codeAny (model X.prog X.w) X.A (.compStart (.ListComp elt [⟨tg,iter,ifs,0⟩] scope pos) 0 (.ref it) acc { cenv with scope:=relabel scope X.env }) (RR acc cenv.locals) s₄) E s₃) E s:=by
 have hltI:∀ b∈fp,b<s.heap.objs.size:=fun b hb=>let ⟨o,e,_⟩:=T.obj 0 _ st b hb;Heap.lt_size e
 refine wpAny_newObj_type (nfe ?_);dsimp only;have I3:Inv X pins σ (upd H s.heap.objs.size (.lst [])) { s with heap:=s.heap.push { cls:=.type "list",data:=.seq ([]:List Value).toArray } }:=I.lnew (ys:=[]) (its:=[]) (t':=s.toks) .nil (de _);obtain⟨W,⟨m0,w0⟩,turn⟩:=h s.heap.objs.size I.fresh;have hC:(s.heap.push { cls:=.type "list",dict:=none,data:=.seq ([]:List Value).toArray }).objs.size=s.heap.objs.size+1:=Heap.size_push ..;have hf3:∀ b∈fp,jI X pins (upd H s.heap.objs.size (.lst [])) b:=fun b hb=>⟨by rw[aL (bo (hltI b hb))];exact (hf b hb).1,(hf b hb).2⟩
 have keep3:∀ b o,(s.heap.push { cls:=.type "list",dict:=none,data:=.seq ([]:List Value).toArray }).get? b=some o->(pushCells ((s.heap.push { cls:=.type "list",dict:=none,data:=.seq ([]:List Value).toArray }).push { cls:=.type "dict",data:=.dict #[] }) scope.names).get? b=some o:=fun b o e=>pushCells_keeps _ _ b o (Heap.get?_push_of_some _ e)
 have I4:=nj (s:={ s with heap:=s.heap.push { cls:=.type "list",dict:=none,data:=.seq ([]:List Value).toArray } }) S I3 hf3 (fun b hb=>by show b<(s.heap.push _).objs.size;rw[hC];exact en (hltI b hb));dsimp only at I4;generalize hh₁:pushCells ((s.heap.push { cls:=.type "list",dict:=none,data:=.seq ([]:List Value).toArray }).push { cls:=.type "dict",data:=.dict #[] }) scope.names=h₁ at *;have st4:tn 0 h₁:=T.keep 0 _ _ st fun b hb o e=>keep3 b o (Heap.get?_push_of_some _ e)
 generalize hY:inner X scope N' (s.heap.push { cls:=.type "list",dict:=none,data:=.seq ([]:List Value).toArray }).objs.size { s with heap:=s.heap.push { cls:=.type "list",dict:=none,data:=.seq ([]:List Value).toArray } } (upd H s.heap.objs.size (.lst [])) fp=Y at I4;have hYin:=hin (s.heap.push { cls:=.type "list",dict:=none,data:=.seq ([]:List Value).toArray }).objs.size { s with heap:=s.heap.push { cls:=.type "list",dict:=none,data:=.seq ([]:List Value).toArray } } (upd H s.heap.objs.size (.lst [])) fp;rw[hY] at hYin;obtain⟨yg,yt,ye⟩:=hYin;have yE:Y.env=compEnvC scope (cellsFrom ((s.heap.push { cls:=.type "list",dict:=none,data:=.seq ([]:List Value).toArray }).objs.size+1) scope.names (eV X.env.cells scope.names [])) (s.heap.push { cls:=.type "list",dict:=none,data:=.seq ([]:List Value).toArray }).objs.size X.env:=by rw[<-hY];rfl
 have hCL:(s.heap.push { cls:=.type "list",dict:=none,data:=.seq ([]:List Value).toArray }).objs.size≠X.env.locals:=by
  rw[hC];exact Nat.ne_of_gt (en I.lt)
 have back:∀{H5:Hp}{s5:Shared},Inv Y [] (eJ σ pick) H5 s5->Q (.ref s.heap.objs.size) H5->RR (.ref s.heap.objs.size) (s.heap.push { cls:=.type "list",dict:=none,data:=.seq ([]:List Value).toArray }).objs.size (.ok .next) s5:=fun {H5 s5} I5 q=>by
  subst hY;obtain⟨m,hn,_⟩:=I5.loc;have J5:Inv X pins σ H5 s5:=Inv.call' I3 I5.os I5.base I5.hok I5.bare fun b hb=>by
   obtain⟨f0,f1,f2,f3,f4,f5⟩:=hf b hb;exact⟨f3,f1,f4,f5⟩
  have lt3:∀{b:Addr}{o:Obj},s.heap.get? b=some o->b≠(s.heap.push { cls:=.type "list",dict:=none,data:=.seq ([]:List Value).toArray }).objs.size:=fun e=>by rw[hC];exact bo (en (Heap.lt_size e))
  refine hR _ _ s5 H5 m hn ⟨I5.free,hCL,I.nofs (by rw[hC];exact Nat.le_succ _),.inr (by rw[hC];exact Nat.le_succ_of_le I.sz),fun x c e z=>?_,fun p hp z=>?_⟩ q J5
  ·obtain⟨v,o,ho,_⟩:=I.cell x c e;exact lt3 ho z
  ·exact lt3 (I.pin p hp).1 z
 have yP:Y.prog=X.prog:=by rw[<-hY];rfl
 have yw:Y.w=X.w:=by rw[<-hY];rfl
 have yK:Y.K=X.K:=by rw[<-hY];rfl
 have yA:Y.A=X.A:=by rw[<-hY];rfl
 have yc:Y.calm=true:=by rw[<-hY];exact hc
 have yx:Y.xe=fun _ _=>False:=by rw[<-hY];rfl
 have yp:Y.pn=[]:=by rw[<-hY];rfl
 have yex:Y.ex=fp:=by rw[<-hY];rfl
 have stat:∀{H':Hp},(∀ b∈fp,H' b=none)->∀ b∈fp,jI Y [] H' b:=fun {H'} hn b hb=>by
  have hb':b∈Y.ex:=by rw[yex];exact hb
  obtain⟨x1,x2⟩:=I4.ok.exf b hb';exact⟨hn b hb,x1,I4.ok.exfs b hb',.inl hb',x2,fun p hp=>by rw[yp] at hp;cases hp⟩
 rw[<-yP,<-yw,<-yA];have loop:codeAny (model Y.prog Y.w) Y.A (.compLoop (.ListComp elt [⟨tg,iter,ifs,0⟩] scope pos) 0 (.ref it) (.ref s.heap.objs.size) Y.env) (RR (.ref s.heap.objs.size) (s.heap.push { cls:=.type "list",dict:=none,data:=.seq ([]:List Value).toArray }).objs.size) { s with heap:=h₁ }:=by
  refine nr (fun n s5=>∃ i H5,Inv Y [] (eJ σ pick) H5 s5/\tn i s5.heap/\(∀ b∈fp,H5 b=none)/\W i n H5) ?_ m0 ⟨0,_,I4,st4,fun b hb=>(hf3 b hb).1,w0⟩;rintro n s5 ⟨i,H5,I5,st5,fr5,w5⟩;rcases turn i n H5 w5 with ⟨stop,qn⟩ | ⟨go,N,hN,step⟩
  ·have d:=T.done Y yP yw yK yc i [] s5 (eJ σ pick) H5 (fun _ _=>False) I5 (stat fr5) st5 stop;rw[<-yP,<-yw] at d;refine bW d fun r s6 ⟨hr,I6⟩=>?_
   subst hr;exact back I6 qn
  ·have d:=T.item Y yP yw yK yc i [] s5 (eJ σ pick) H5 (fun _ _=>False) I5 (stat fr5) st5 go;rw[<-yP,<-yw] at d;refine bW d fun r s6 ⟨u,hr,h6⟩=>?_
   subst hr;refine bW h6 fun _ s7 ⟨x,H7,I7,r7,y7,st7,fr7⟩=>?_
   have I7':=I7.pinned (stat fr7) (T.obj _ _ st7);have yg':=yg _ s7 (eJ σ pick) H7 x u _ I7' r7 (gk _ _ _ _ (step x H7 y7));rw[yx] at yg';refine bW yg' fun _ s8 ⟨σ8,H8,I8,q8,l8,k8⟩=>?_
   have yt':=yt _ s8 σ8 H8 _ I8 q8;rw[yx] at yt';refine bW yt' fun b s9 ⟨H9,I9,q9⟩=>?_
   have again:∀{σ':L2.St}{H':Hp}{s':Shared},Inv Y ([]++kh fp s7.heap) σ' H' s'->σ'=σ8->N H'->∃ m,m<n/\∃ i H5,Inv Y [] (eJ σ pick) H5 s'/\tn i s'.heap/\(∀ b∈fp,H5 b=none)/\W i m H5:=fun {σ' H' s'} J e nn=>by
    subst e;obtain⟨m',hm,w'⟩:=hN H' nn;refine⟨m',hm,i+1,H',(J.unpinned).weak (l8.symm) (fun j v e=>?_),T.keep _ _ _ st7 fun b hb o e=>(J.pin (b,o) (aw _ (aw _ (eA hb e)))).1,fun b hb=>?_,w'⟩
    ·refine k8 j _ (fun z=>?_) e;unfold eJ at e;rw[List.getElem?_map,z] at e;simp at e
    ·obtain⟨o,e,_⟩:=T.obj _ _ st7 b hb;exact (J.pin (b,o) (aw _ (aw _ (eA hb e)))).2.1
   cases b with
   |false =>
    rw[if_neg ao];exact again I9 rfl q9
   |true =>
    rw[if_pos rfl];have q9:te σ8 H9 fun y H4=>∃ xs,H4 s.heap.objs.size=some (.lst xs)/\xs.length<sizeLine/\N (upd H4 s.heap.objs.size (.lst (xs ++ [y]))):=q9
    have ye':=ye _ s9 σ8 H9 _ I9 q9;rw[yx] at ye';refine bW ye' fun v s10 ⟨y,H10,I10,r10,xs,e10,z10,n10⟩=>?_
    have ap:=iM _ s10 σ8 H10 (.ref s.heap.objs.size) [y] (.ref s.heap.objs.size) [v] (fun _ H'=>N H') I10 rfl (.cons r10 .nil) ⟨s.heap.objs.size,xs,y,rfl,rfl,e10,z10,n10⟩;rw[yx] at ap;exact bW ap fun _ s11 ⟨_,H11,I11,_,n11⟩=>again I11 rfl n11
 show codeAny (model Y.prog Y.w) Y.A (.compStart (.ListComp elt [⟨tg,iter,ifs,0⟩] scope pos) 0 (.ref it) (.ref s.heap.objs.size) (compEnvC scope (cellsFrom ((s.heap.push { cls:=.type "list",dict:=none,data:=.seq ([]:List Value).toArray }).objs.size+1) scope.names (eV X.env.cells scope.names [])) (s.heap.push { cls:=.type "list",dict:=none,data:=.seq ([]:List Value).toArray }).objs.size X.env))
  (RR (.ref s.heap.objs.size) (s.heap.push { cls:=.type "list",dict:=none,data:=.seq ([]:List Value).toArray }).objs.size) { s with heap:=h₁ }
 rw[<-yE];refine codeAny_compStart_list loop ?_;have l2:=loop;rw[yP,yw] at l2 ⊢;exact T.self Y.A 0 _ _ _ st4 l2
theorem eK (S:dD X scope N' pick)(hh:∀ x,(X.env.kindOf x=some .cell\/X.env.kindOf x=some .free)->∃ c,X.env.cells.lookup x=some c):closureFor scope X.env=pure (eV X.env.cells scope.names []) :=
 pL fun x hx=>hh x (S.outer x (S.free x hx))
theorem xD (S:dD X scope N' pick)(hc:X.calm=true)(hi:PI X tg iter wi)(hin:∀ C s0 H0 ex,PG (inner X scope N' C s0 H0 ex) tg g/\BS (inner X scope N' C s0 H0 ex) ifs tt/\PE (inner X scope N' C s0 H0 ex) elt te)
  (gk:∀(v:V) (σ:L2.St) (H:Hp) (Q:L2.St->Hp->Prop),g v σ H Q->g v σ H fun σ' H'=>Q σ' H'/\σ'.length=σ.length/\∀(i:Nat) u,pick[i]?≠some none->σ[i]? = some u->σ'[i]? = some u) (hs:∀ x,foldedSetIterable iter X.env x=pure x) :
  PE X (.ListComp elt [⟨tg,iter,ifs,0⟩] scope pos) (tP pick wi g tt te):=by
 intro pins s σ H Q I h;rw[eval_ListComp];refine wpAny_comprehension_free (use:=none) rfl hs (eK S I.ok.has) S.kind S.names (bW (hi pins s σ H _ I h) fun v s1 h1=>bW h1 fun itv s2 h2=>?_);obtain⟨it,fp,tn,J,H2,e,I2,T,st2,f2,q⟩:=h2;subst e;refine jB (RR:=fun acc C=>compPost (model X.prog X.w) X.A X.xe none (EP X pins σ Q) acc C) S hc hin gk I2 T st2 f2 Q q fun l C s' H' m hn fc hq J0=>?_
 obtain⟨f0,f1,f2,f3,f4,f5⟩:=fc;exact⟨m,hn,fun h' sb=>⟨.ref l,H',J0.turned (t':=s'.toks) (fun b o hb e=>sb.extBut b o hb e) f0 f1 f3 f4 f5,rfl,hq⟩⟩
theorem pC {i:Nat}{x:Str}{pos' spos:Pos}(S:dD X scope N' pick)(hc:X.calm=true)(hi:PI X tg iter wi)(hin:∀ C s0 H0 ex,PG (inner X scope N' C s0 H0 ex) tg g/\BS (inner X scope N' C s0 H0 ex) ifs tt/\PE (inner X scope N' C s0 H0 ex) elt te)
  (gk:∀(v:V) (σ:L2.St) (H:Hp) (Q:L2.St->Hp->Prop),g v σ H Q->g v σ H fun σ' H'=>Q σ' H'/\σ'.length=σ.length/\∀(i:Nat) u,pick[i]?≠some none->σ[i]? = some u->σ'[i]? = some u) (hs:∀ x,foldedSetIterable iter X.env x=pure x)
  (hN:X.N.Nodup) (hx:X.N[i]? = some x) (hl:Loc X.env.scope x) (hf:X.fn x=true\/X.env.scope.names.lookup x=some .local) (hsw:swapsWith (.ListComp elt [⟨tg,iter,ifs,0⟩] scope pos) (some (.Name x pos')) spos.line X.env=pure true) :
  PS X (.Assign [.Name x pos'] (.ListComp elt [⟨tg,iter,ifs,0⟩] scope pos) spos) (Br (tP pick wi g tt te) (lI i)):=by
 intro pins s σ H D I h;rw[exec_Assign_Name_used _ _ _ _ hsw];refine wpAny_bind (wpAny_standAt (wpAny_bind ?_));show wpAny _ X.A (do let _ <- comprehension (.ListComp elt [⟨tg,iter,ifs,0⟩] scope pos) scope X.env _ (newList []) false (eval iter X.env) (some (assign (.Name x pos') X.env))) _ _ s;refine wpAny_bind (wpAny_mono (wpAny_comprehension_free (use:=some (assign (.Name x pos') X.env)) (Q:=fun _ s'=>SP X pins D .next s') rfl hs (eK S I.ok.has) S.kind S.names
  (bW (hi pins s σ H _ I h) fun v s1 h1=>bW h1 fun itv s2 h2=>?_)) (fun _ s' hq=>wpAny_pure (wpAny_pure hq)) fun _ _ e=>e)
 obtain⟨it,fp,tn,J,H2,e,I2,T,st2,f2,q⟩:=h2;subst e;refine jB (RR:=fun acc C=>compPost (model X.prog X.w) X.A X.xe (some (assign (.Name x pos') X.env)) (fun _ s'=>SP X pins D .next s') acc C) S hc hin gk I2 T st2 f2 (fun x H1=>lI i x σ H1 D.nx) q fun l C s' H' m hn fc hq J0=>?_
 obtain⟨o,es,ep,ho,hd,hr⟩:=id hn;have J1:=J0.pinned (fp:=[C]) (fun b hb=>by rw[eg.mp hb];exact fc) fun b hb=>by rw[eg.mp hb];exact⟨o,ho,fun v z=>by rw[hd] at z;cases z⟩
 show wpAny (model X.prog X.w) X.A (assign (.Name x pos') X.env (.ref l)) _ _ s';refine wpAny_assign_Name (ke J1 hN hx hl (v:=.ref l) rfl (fun s2 I2=>?_) hf);have hC2:=(I2.pin (C,o) (List.mem_append_right _ (List.mem_append_right _ (eA (by simp) ho)))).1;obtain⟨f0,f1,f2,f3,f4,f5⟩:=fc;refine⟨m,⟨o,es,ep,hC2,hd,hr⟩,fun h' sb=>?_⟩;exact⟨_,H',I2.unpinned.turned (t':=s2.toks) (fun b o hb e=>sb.extBut b o hb e) f0 f1 f3 f4 f5,hq⟩
end
noncomputable def dH (own:Nat)(pick:List Nat):List (Option Nat):=List.replicate own none++pick.map some
theorem mR (σ:L2.St)(pk:List (Option Nat)):(eJ σ pk).length=pk.length:=by simp[eJ]
theorem kU (env:En)(own:Nat)(pick:List Nat):(cN env own pick).length=own+pick.length:=by simp[cN]
noncomputable def lM (F:Nat->List Addr)(env:En)(own:Nat)(pick:List Nat):Nat->List Addr:=fun i=>match (cN env own pick)[i]? with
 | some (some _)=>match pick[i - own]? with
  |some j=>F j
  |none=>[]
 |_=>[]
theorem eE {env:En}{own:Nat}{pick:List Nat}{i:Nat}{d:D}{t:Tg}(h:(cN env own pick)[i]? = some (some (d,t))):t = .sh []/\own<=i/\∃ j t0,pick[i - own]? = some j/\env[j]? = some (some (d,t0)):=by
 unfold cN at h;by_cases hi:i<own
 ·rw[List.getElem?_append_left (by simpa using hi),List.getElem?_replicate] at h;split at h<;>cases h
 ·have hi:own<=i:=gg hi;rw[List.getElem?_append_right (by simpa using hi),List.length_replicate,List.getElem?_map] at h;cases hp:pick[i - own]? with
  |none=>rw[hp] at h;cases h
  |some j =>
   rw[hp] at h;simp only[Option.map_some,Option.some.injEq] at h;split at h
   ·rename_i d0 t0 q;cases h;exact⟨rfl,hi,j,t0,rfl,q⟩
   ·cases h
section
variable {K:Frag}{P:Addr->Prop}{env:En}{σ:L2.St}{H:Hp}{F:Nat->List Addr}
theorem RE.picked (re:RE K P env σ H F)(own:Nat)(pick:List Nat):RE K (fun _=>False) (cN env own pick) (eJ σ (dH own pick)) H (lM F env own pick) where
 len:=by rw[kU,mR];simp[dH]
 val:=fun i d t h=>by
  obtain⟨rfl,hi,j,t0,hp,he⟩:=eE h;obtain⟨v,e,r⟩:=re.val j d t0 he;refine⟨v,?_,?_⟩
  ·unfold eJ dH;rw[List.getElem?_map,List.getElem?_append_right (by simpa using hi),List.length_replicate,List.getElem?_map,hp];simp[e]
  ·unfold lM;rw[h,hp];exact r
 emp:=fun i h=>by
  unfold lM;split
  ·rename_i p q;exact absurd q (h p.1 p.2)
  ·rfl
 one:=fun i d t h o=>by
  obtain⟨rfl,_⟩:=eE h;cases o
 wr:=fun i d h=>by
  obtain⟨q,_⟩:=eE h;cases q
 pl:=fun _ h=>h.elim
theorem rB {own:Nat}{pick:List Nat}{i:Nat}{a:Addr}(re:RE K P env σ H F)(h:a∈lM F env own pick i):∃ j∈pick,∃ d t,a∈F j/\env[j]? = some (some (d,t)):=by
 unfold lM at h;split at h
 ·rename_i p q;obtain⟨_,hi,j,t0,hp,he⟩:=eE (d:=p.1) (t:=p.2) q;rw[hp] at h;exact⟨j,List.mem_of_getElem? hp,p.1,t0,h,he⟩
 ·cases h
end
noncomputable def zY (K:Frag)(T:Tb):lB->TT
 |.none=>fun _ H Q=>Q true H
 |.some c=>kJ K T c
section
variable {X:Cx}{T:Tb}{scope:Scope}{N':List Str}{own:Nat}{pick:List Nat}{t:jo}{it:qu}{c:lB}{e:Ex}
theorem Ar {σ:L2.St}{H:Hp}{Q:Bool->Hp->Prop}{P:Addr->Prop}{env:En}{F:Nat->List Addr}{k:Bool}(re:RE X.K P env σ H F)(hk:vK T c env = .ok k)(q:∀ H',aE H H'->Q k H'):zY X.K T c σ H Q:=by
 cases c with
 |none =>
  unfold vK at hk;cases hk;exact q H (aE.refl _)
 |some c =>
  unfold vK at hk;obtain⟨p,h1,h2⟩:=Rs.bind_ok hk;exact⟨P,env,F,re,p,k,h1,cF h2,q⟩
theorem lh {σ:L2.St}{H:Hp}{Q:VK}(h:tE X.K T (.comp own pick t it c e) σ H Q):tP (dH own pick) (tI X.K T it) (pz X.K t) (zY X.K T c) (tE X.K T e) σ H Q:=by
 obtain⟨P,env,F,re,p0,hev,k⟩:=h;unfold ev at hev;obtain⟨p,h1,hev⟩:=Rs.bind_ok hev;obtain⟨sA,h2,hev⟩:=Rs.bind_ok hev;have hlim:p.1.length<=lim:=Decidable.byContradiction fun hn=>by rw[if_neg hn] at hev;cases hev
 rw[if_pos hlim] at hev;cases hev;refine⟨P,env,F,re,p,h1,fun J H1 Gs s1 rt nn wk l hl=>?_⟩;have re1:=re.same s1;have wk:=wk (fun a=>a∈Gs) fun a ha=>ha
 let S0:Addr->Prop:=fun a=>a∈Gs\/∃ j∈pick,∃ d t,a∈F j/\env[j]? = some (some (d,t))
 have S0n:∀ a,S0 a->H1 a≠none:=fun a ha=>by
  rcases ha with ha | ⟨j,_,d,t,m,ej⟩
  ·exact nn a ha
  ·exact re1.nn ej m
 have lS:¬ S0 l:=fun z=>S0n l z hl
 refine⟨fun i m H2=>m=p.1.length - i/\i<=p.1.length/\∃(acc rest:List (D×Rt)) (vs:List V) (G:List Addr),eN (fun d=>cQ (bR [] t d (cN env own pick)) (vK T c) (ev T e)) (p.1.drop i) = .ok rest/\sA=acc++rest/\acc.length<=i/\H2 l=some (.lst vs)/\aD X.K H2 (acc.map (·.1)) vs G/\aE H1 H2/\l∉G /\
  (∀ a∈G,H1 a=none\/S0 a)/\(acc.all (fun q=>q.1.flat || gK q.2)=true->G.Nodup/\∀ a∈G,H1 a=none/\∃ ws:ML,H2 a=some ws.o),?_,?_⟩
 ·refine⟨p.1.length,by simp,Nat.zero_le _,[],sA,[],[],by simpa using h2,rfl,Nat.le_refl _,aI,.nil,aE.new hl,by simp,fun _ h=>(nomatch h),fun _=>⟨List.nodup_nil,fun _ h=>(nomatch h)⟩⟩
 ·rintro i m H2 ⟨rfl,hi,acc,rest,vs,G,hgo,htot,hacc,hl2,rs,s2,hlG,hG,hfr⟩;obtain⟨w1,w2⟩:=wk H2 (iU.of_same (fun a ha=>nn a ha) s2);by_cases hlt:i<p.1.length
  ·right;have hd:p.1[i]? = some p.1[i]:=by simp[hlt]
   obtain⟨g1,g2⟩:=w1 i _ hd;refine⟨g1,fun H3=>i+1<=p.1.length/\∃(acc rest:List (D×Rt)) (vs:List V) (G:List Addr),eN (fun d=>cQ (bR [] t d (cN env own pick)) (vK T c) (ev T e)) (p.1.drop (i+1)) = .ok rest/\sA=acc++rest/\acc.length<=i+1/\H3 l=some (.lst vs)/\aD X.K H3 (acc.map (·.1)) vs G/\aE H1 H3/\l∉G /\
    (∀ a∈G,H1 a=none\/S0 a)/\(acc.all (fun q=>q.1.flat || gK q.2)=true->G.Nodup/\∀ a∈G,H1 a=none/\∃ ws:ML,H3 a=some ws.o),fun H3 q=>⟨p.1.length - (i+1),by omega,rfl,q⟩,fun x H3 y=>?_⟩
   obtain⟨s3,G3,rp3,sub3⟩:=g2 x H3 y;rw[f9 hlt] at hgo;unfold eN at hgo;obtain⟨o,hstep,hgo⟩:=Rs.bind_ok hgo;obtain⟨rest',hrest,hgo⟩:=Rs.bind_ok hgo;cases hb:bR [] t p.1[i] (cN env own pick) with
   |none=>rw[hb] at hstep;cases hstep
   |some env4 =>
    rw[hb] at hstep;unfold cQ at hstep;obtain⟨kc,hkc,hstep⟩:=Rs.bind_ok hstep;have rep:=(re1.same (s2.trans s3)).picked own pick;let Z:Addr->Prop:=fun a=>S0 a
    have zF:∀ i,∀ a∈lM F env own pick i,Z a:=fun i a ha=>by
     obtain⟨j,hj,d,t,m,ej⟩:=rB (re1.same (s2.trans s3)) ha;exact .inr ⟨j,hj,d,t,m,ej⟩
    refine oq (Z:=Z) rep zF rp3 (fun a ha=>.inl (sub3 a ha)) (fun a ha j d' t' ej o m=>?_) hb fun σ4 F4 re4 z4 _=>?_
    ·obtain⟨rfl,_⟩:=eE ej;cases o
    ·refine Ar re4 hkc fun H5 s5=>?_
     have base5:=s2.trans (s3.trans s5);have l5:H5 l=some (.lst vs):=s5 _ _ (s3 _ _ hl2);cases kc with
     |false =>
      show if false=true then _ else _
      rw[if_neg ao];simp only[Bool.false_eq_true,if_false] at hstep;cases hstep;cases hgo;refine⟨hlt,acc,rest',vs,G,hrest,htot,Nat.le_succ_of_le hacc,l5,rs.same (s3.trans s5),base5,hlG,hG,fun f=>?_⟩;obtain⟨n1,n2⟩:=hfr f;exact⟨n1,fun a ha=>⟨(n2 a ha).1,let ⟨ws,q⟩:=(n2 a ha).2;⟨ws,s5 _ _ (s3 _ _ q)⟩⟩⟩
     |true =>
      show if true=true then _ else _
      rw[if_pos rfl];simp only[if_true] at hstep;obtain⟨q,hq,hstep⟩:=Rs.bind_ok hstep;cases hstep;cases hgo;refine⟨_,env4,F4,re4.same s5,q,hq,fun yv H6 Gy s6 rpy rty=>?_⟩;have l6:H6 l=some (.lst vs):=s6 _ _ l5;have base6:=base5.trans s6;have old6:=s3.trans (s5.trans s6);have yS:∀ a∈Gy,H5 a=none\/S0 a:=fun a ha=>(rty.cont a ha).imp id fun ⟨i,d,t,m,_⟩=>z4 i a m
      have ly:l∉Gy:=fun z=>by
       rcases yS l z with q | q
       ·rw[l5] at q;cases q
       ·exact lS q
      have len6:vs.length=acc.length:=by have:=rs.len;rw[au] at this;exact this.symm
      refine⟨vs,l6,Nat.lt_of_le_of_lt (Nat.le_trans (Nat.le_of_eq len6) (Nat.le_trans hacc (Nat.le_of_lt (Nat.lt_of_lt_of_le hlt hlim)))) (by decide),hlt,acc ++ [q],rest',vs ++ [yv],G++(Gy ++ []),hrest,by rw[htot];simp,by simp;exact hacc,aI,?_,?_,?_,?_,?_⟩
      ·rw[fm];exact (aD.append (rs.same old6) (.cons rpy .nil)).upd l6 (by simp;exact⟨hlG,ly⟩)
      ·intro b o e;rw[aL (fun z=>by subst z;rw[hl] at e;cases e)];exact base6 _ _ e
      ·simp;exact⟨hlG,ly⟩
      ·intro a ha;rw[ba] at ha;rcases List.mem_append.mp ha with ha | ha
       ·exact hG a ha
       ·exact (yS a ha).imp (aE.no base5) id
      ·intro f;rw[List.all_append,aj] at f;obtain⟨n1,n2⟩:=hfr f.1;have fy:Gy.Nodup/\∀ a∈Gy,H5 a=none/\∃ ws:ML,H6 a=some ws.o:=by
        have f2:q.1.flat=true\/gK q.2=true:=by simpa using f.2
        rcases f2 with f2 | f2
        ·rw[rpy.flat f2];exact⟨cg,fun _ h=>(nomatch h)⟩
        ·have:q.2 = .mv []:=by
          cases hr:q.2 with
          |sh R=>rw[hr] at f2;cases f2
          |mv R=>cases R with
           |nil=>rfl
           |cons a b=>rw[hr] at f2;cases f2
         obtain⟨m1,m2,m3⟩:=rty.mv [] this;refine⟨m1,fun a ha=>⟨?_,m2 a ha⟩⟩;rcases m3 a ha with z | ⟨_,_,_,z,_⟩
         ·exact z
         ·cases z
       rw[ba];refine⟨gc.mpr ⟨n1,fy.1,fun a ha b hb z=>?_⟩,fun a ha=>?_⟩
       ·subst z;obtain⟨_,ws,w⟩:=n2 a ha;have:=s5 _ _ (s3 _ _ w);rw[(fy.2 a hb).1] at this;cases this
       ·have ne:a≠l:=fun z=>by
         subst z;rcases List.mem_append.mp ha with ha | ha
         ·exact hlG ha
         ·exact ly ha
        rcases List.mem_append.mp ha with ha | ha
        ·obtain⟨u1,ws,w⟩:=n2 a ha;exact⟨u1,ws,by rw[aL ne];exact old6 _ _ w⟩
        ·obtain⟨u1,ws,w⟩:=fy.2 a ha;exact⟨aE.no base5 u1,ws,by rw[aL ne];exact w⟩
  ·left;have ei:i=p.1.length:=by omega
   subst ei;refine⟨w2,?_⟩;rw[List.drop_length] at hgo;unfold eN at hgo;cases hgo;rw[ba] at htot;subst htot;refine k _ H2 (l::G) (s1.trans s2) (.lst (.inl hl2) rs) ?_;have hl0:=aE.no s1 hl;cases hf:sA.all (fun q=>q.1.flat || gK q.2) with
   |true =>
    obtain⟨n1,n2⟩:=hfr hf;have new:∀ a∈l::G,H a=none:=fun a ha=>by
     rcases gd.mp ha with rfl | ha
     ·exact hl0
     ·exact aE.no s1 (n2 a ha).1
    refine⟨fun a ha=>.inl (new a ha),fun R e=>⟨List.nodup_cons.mpr ⟨hlG,n1⟩,fun a ha=>?_,fun a ha=>.inl (new a ha)⟩⟩;rcases gd.mp ha with rfl | ha
    ·exact⟨.l _,hl2⟩
    ·exact (n2 a ha).2
   |false =>
    refine⟨fun a ha=>?_,fun R e=>by cases e⟩;rcases gd.mp ha with rfl | ha
    ·exact .inl hl0
    ·rcases hG a ha with q | q | ⟨j,hj,d,t,m,ej⟩
     ·exact .inl (aE.no s1 q)
     ·exact (rt.cont a q).imp id fun ⟨i,d,t,x,y,z⟩=>⟨i,d,t,x,y,fun r hr=>bh _ (z r hr)⟩
     ·refine .inr ⟨j,d,t,m,ej,fun r hr=>aw _ ?_⟩;unfold kZ;rw[List.mem_flatten];exact⟨aT j t,List.mem_map.mpr ⟨j,hj,by rw[ej]⟩,hr⟩
theorem lF {K:Frag}{t:jo}{pk:List (Option Nat)}(ht:∀ i,(t = .nm i\/∃ is,t = .tp is/\i∈is)->pk[i]? = some none)(v:V)(σ:L2.St)(H:Hp)(Q:L2.St->Hp->Prop)(h:pz K t v σ H Q) :
  pz K t v σ H fun σ' H'=>Q σ' H'/\σ'.length=σ.length/\∀(i:Nat) u,pk[i]?≠some none->σ[i]? = some u->σ'[i]? = some u:=by
 cases t with
 |nm i=>exact⟨h,by simp,fun j u hj e=>by rw[List.getElem?_set_ne];exact e;rintro rfl;exact hj (ht i (.inl rfl))⟩
 |tp is =>
  obtain⟨a,xs,e1,e2,e3,h⟩:=h;refine⟨a,xs,e1,e2,e3,?_⟩;have gen:∀(is:List Nat) (xs:List V) (σ1:L2.St),(∀ i∈is,pk[i]? = some none)->σ1.length=σ.length->(∀(i:Nat) u,pk[i]?≠some none->σ[i]? = some u->σ1[i]? = some u)->fD is xs σ1 H Q->fD is xs σ1 H fun σ' H'=>Q σ' H'/\σ'.length=σ.length/\∀(i:Nat) u,pk[i]?≠some none->σ[i]? = some u->σ'[i]? = some u:=by
   intro is
   induction is with
   |nil=>intro xs σ1 _ hl hk h;exact⟨h.1,h.2,hl,hk⟩
   |cons j js ih =>
    intro xs σ1 hi hl hk h;obtain⟨v,r,e,h⟩:=h;refine⟨v,r,e,ih r (σ1.set j (some v)) (fun i hm=>hi i (List.mem_cons_of_mem _ hm)) (by simp[hl]) (fun i u hi' e'=>?_) h⟩;rw[List.getElem?_set_ne];exact hk i u hi' e';rintro rfl;exact hi' (hi j aq)
  exact gen is xs σ (fun i hm=>ht i (.inr ⟨is,rfl,hm⟩)) rfl (fun _ _ _ e=>e) h
end
def rj (K:Frag)(T:Tb)(x:Nat)(path:lB):TE:=fun σ H Q=>∃ P env F po v p,RE K P env σ H F/\jA T path env = .ok po/\σ[x]? = some (some v)/\PV K H v po p/\∀ H',aE H H'->Q (.ref p) H'
section
variable {X:Cx}{T:Tb}{pos:Pos}{i:Nat}{x:Str}
theorem An (hN:X.N[i]? = some x)(hv:yU X.env.scope x)(hd:(x==("__debug__" : Str))=false) (hcd:(x==("__classdict__" : Str))=false):PE X (.Name x pos) (rj X.K T i .none):=by
 refine bC (pX hN hv hd hcd) fun σ H Q ⟨P,env,F,po,v,p,re,hpo,hv,pv,k⟩=>?_
 unfold jA at hpo;cases hpo;cases pv;exact⟨_,hv,k H (aE.refl _)⟩
end
theorem aD.ins {K:Frag}{H:Hp}{d:D}{y:V}{Gd:List Addr}(rp:Rep K H d y Gd):∀(n:Nat) {xs:List D}{ws:List V}{Gx:List Addr},aD K H xs ws Gx->∃ A,aD K H (xs.take n++d::xs.drop n) (ws.take n++y::ws.drop n) A/\List.Perm A (Gx++Gd)
 |0,_,_,_,r=>⟨_,by simpa using .cons rp r,List.perm_append_comm⟩
 |_+1,_,_,_,.nil=>⟨_,by simpa using .cons rp .nil,by simp⟩
 | n+1,_,_,_,.cons h r=>by
  obtain⟨A,p1,p2⟩:=aD.ins rp n r;refine⟨_,by simpa using .cons h p1,?_⟩;rw[ax];exact List.Perm.append_left _ p2
def rY (K:Frag)(m:nQ):V->List V->Hp->VK->Prop:=fun x vs H Q=>∃ l ws xs ds Gx G ys,x = .ref l/\H l=some (.lst ws)/\aD K H xs ws Gx/\aD K H ds vs G/\sH m xs ds=some ys/\ys.length<=lim/\l∉Gx/\l∉G/\Gx.Nodup /\
 ∀ us Gy v,aD K (upd H l (.lst us)) ys us Gy->(∀ a∈Gy,a∈Gx\/(m.copies=false/\a∈G))->((∀ a∈Gx,a∉G)->G.Nodup\/m.copies=true->Gy.Nodup)->Q v (upd H l (.lst us))
section
variable {X:Cx}
def xN:V->List V->Hp->VK->Prop:=fun x vs H Q=>∃ l xs i y,x = .ref l/\vs=[.int i,y]/\H l=some (.lst xs)/\-(2 ^ 63)<=i/\i<2 ^ 63/\xs.length<sizeLine/\Q .non (upd H l (.lst (xs.take (aU xs.length 0 (some i))++y::xs.drop (aU xs.length 0 (some i)))))
theorem rO:MtM X "list.insert" xN:=by
 intro pins s σ H x vs v us Q I rx rv h;obtain⟨l,xs,i,y,rfl,rfl,hH,h1,h2,hz,q⟩:=h;cases rx;obtain⟨u,w,rfl,⟨t,rfl⟩,rw'⟩:=rv.two;obtain⟨z,its,n,r,hl,e⟩:=I.lstM hH;refine call_meets F.slot_list_insert ⟨_,e,rfl⟩ F.entry_list_insert (F.args_list_insert_3 _ _ _) (AutoListH.list_insert_list_int_val_1 l its.toArray n i t w (by rw[fitsIndex_both h1 h2];exact ao) (by rw[ah];omega)) ⟨e,?_⟩;have hk:(if i<0 then (i+((its.toArray.size:Nat):Int)).toNat else min i.toNat its.toArray.size)=aU xs.length 0 (some i):=by
  rw[ah,<-hl];rfl
 refine⟨.non,_,I.lset (its':=its.take (aU xs.length 0 (some i))++w::its.drop (aU xs.length 0 (some i))) hH e ?_ ((r.take _).append (.cons rw' (r.drop _))) ?_,rfl,q⟩
 ·simp only[hk];simp;exact List.take_of_length_le (by simp)
 ·simp only[List.length_append,List.length_cons,List.length_take,List.length_drop];omega
theorem o9:MtM X "list.append" (rY X.K .append):=by
 intro pins s σ H x vs v us Q I rx rv h;obtain⟨l,ws,xs,ds,Gx,G,ys,rfl,hl,r1,r2,hm,hlen,n1,n2,nd,k⟩:=h
 match ds,hm with
 |[d],hm =>
  cases hm;obtain⟨y,rfl,rp⟩:=r2.of1;refine iM pins s σ H _ _ v us Q I rx rv ⟨l,ws,y,rfl,rfl,hl,?_,k (ws ++ [y]) (Gx++(G ++ [])) _ ?_ (fun a ha=>?_) fun dj o=>?_⟩
  ·rw[<-r1.len];simp only[List.length_append,List.length_singleton] at hlen;exact bg (bg (du _) hlen) oB
  ·exact (r1.append (.cons rp .nil)).upd hl (by simp;exact⟨n1,n2⟩)
  ·simp at ha;exact ha.imp id fun z=>⟨rfl,z⟩
  ·rcases o with o | o
   ·rw[ba];exact gc.mpr ⟨nd,o,fun a ha b hb z=>by subst z;exact dj a ha hb⟩
   ·cases o
theorem pW:MtM X "list.insert" (rY X.K .insert):=by
 intro pins s σ H x vs v us Q I rx rv h;obtain⟨l,ws,xs,ds,Gx,G,ys,rfl,hl,r1,r2,hm,hlen,n1,n2,nd,k⟩:=h
 match ds,hm with
 |[.int i,d],hm =>
  have hm:(if -(2 ^ 63)<=i/\i<2 ^ 63 then some (xs.take (aU xs.length 0 (some i))++d::xs.drop (aU xs.length 0 (some i))) else none)=some ys:=hm;by_cases hi : -(2 ^ 63)<=i/\i<2 ^ 63
  ·rw[if_pos hi] at hm;cases hm;cases r2 with
   |cons ri r2 =>
    obtain⟨rfl,rfl⟩:=ri.int_inv;obtain⟨y,rfl,rp⟩:=r2.of1;have hln:=r1.len;simp only[List.nil_append] at n2 k;obtain⟨A,t1,t2⟩:=aD.ins rp (aU xs.length 0 (some i)) r1;refine rO pins s σ H _ _ v us Q I rx rv ⟨l,ws,i,y,rfl,rfl,hl,hi.1,hi.2,?_,?_⟩
    ·rw[<-hln];simp only[List.length_append,List.length_cons,List.length_take,List.length_drop] at hlen;have:=oB;omega
    ·rw[<-hln];refine k _ A _ (t1.upd hl (fun z=>?_)) (fun a ha=>?_) fun dj o=>?_
     ·have:=t2.subset z;simp at this;exact this.elim n1 n2
     ·have:=t2.subset ha;simp at this;exact this.imp id fun z=>⟨rfl,z⟩
     ·rcases o with o | o
      ·exact t2.nodup_iff.mpr (gc.mpr ⟨nd,o,fun a ha b hb z=>by subst z;exact dj a ha hb⟩)
      ·cases o
  ·rw[if_neg hi] at hm;cases hm
theorem jQ {T:Tb}{i:Nat}{path:lB}{m:nQ}{cs:kK}{D:Ends}{σ:L2.St}{H:Hp}(h:tS X.K T (.mut i path m cs) D σ H):va (C8 X.K "list" (rY X.K m) (rj X.K T i path) (sQ X.K T cs)) D σ H:=by
 obtain⟨P,Z,env,F,re,hz,zp,h⟩:=h;unfold bZ at h;cases hx:ownAt env i with
 |none=>rw[hx] at h;exact h.elim
 |some d =>
  rw[hx] at h;obtain⟨po,hpo,h⟩:=dW h;cases hat:d.at1 po with
  |none=>rw[hat] at h;exact h.elim
  |some xs =>
   rw[hat] at h;obtain⟨l,hl,h⟩:=dW h;cases hm:sH m xs (l.map (·.1)) with
   |none=>rw[hm] at h;exact h.elim
   |some ys =>
    rw[hm] at h;have hx':=hJ hx;obtain⟨v,hv,_⟩:=re.val i d .own hx';obtain⟨p,pv,f⟩:=sE re hx hv hat;refine⟨P,env,F,po,v,p,re,hpo,hv,pv,fun H1 s1=>?_⟩;obtain⟨ws1,g1,e1,_⟩:=f H1 s1;refine⟨.inl ⟨rfl,ws1,.inl (.inl e1)⟩,P,env,F,re.same s1,l,hl,fun vs H2 G ar=>?_⟩;have s2:=s1.trans ar.same;obtain⟨ws,Gx,a1,a2,a3,a4,a5,a6,fs⟩:=f H2 s2;by_cases hroot:(aS (l.map (·.2))).contains i=true
    ·simp only[hroot,if_true] at h;exact h.elim
    simp only[hroot,if_false] at h;have disj:∀ a∈F i,a∉G:=fun a ha hg=>by
     rcases ar.cont a hg with q | ⟨j,d2,t2,m2,e2,sr⟩
     ·exact (re.same s1).nn hx' ha q
     ·exact hroot (by simpa using sr i ((re.one i d .own hx' rfl).2.2 a ha j d2 t2 e2 m2))
    have nG:=disj p a3;refine⟨p,ws,xs,l.map (·.1),Gx,G,ys,rfl,a1,a2,ar.reps,hm,rK h,a6,nG,a5,fun us Gy w rs sub nd=>?_⟩;refine vf (N:=if m.copies then [] else G) re hz zp s2 hx hv a3 (fun R hR ndR=>?_) (fun hN hNd=>?_) h
    ·cases hc:m.copies with
     |true=>exact⟨cg,fun _ h=>(nomatch h),fun _ h=>(nomatch h)⟩
     |false =>
      rw[hc] at hR;obtain⟨n1,n2,n3⟩:=Args.mv (re.same s1) ar hR ndR;exact⟨n1,n2,fun a ha=>(n3 a ha).imp (aE.no s1) id⟩
    ·have ngy:Gy.Nodup:=nd (fun a ha=>disj a (a4 a ha)) (by
      cases hc:m.copies with
      |true=>exact .inr rfl
      |false=>rw[hc] at hNd;exact .inl hNd)
     obtain⟨G',b1,b2,b3⟩:=fs ys us Gy rs ngy (fun z=>(sub p z).elim a6 fun q=>nG q.2) fun a ha=>(sub a ha).imp id fun q z=>disj a z q.2
     refine⟨G',b1,b2,fun a ha=>?_⟩;rcases b3 a ha with q | q
     ·exact .inl q
     ·rcases sub a q with z | ⟨z1,z2⟩
      ·exact .inl (a4 a z)
      ·rw[z1];exact .inr z2
theorem se {T:Tb}{i:Nat}{path:lB}{m:nQ}{D:Ends}{σ:L2.St}{H:Hp}(h:tS X.K T (.mut i path m .nil) D σ H):va (BW X.K "list" (rY X.K m) (rj X.K T i path)) D σ H:=by
 obtain⟨P,env,F,po,v,p,re,hpo,hv,pv,k⟩:=jQ h;refine⟨P,env,F,po,v,p,re,hpo,hv,pv,fun H' s=>?_⟩;obtain⟨ty,P',env',F',re',l,hl,f⟩:=k H' s;unfold bE at hl;cases hl;exact⟨ty,f [] H' [] (.nil (aE.refl _))⟩
end
section
variable {X:Cx}
noncomputable def gL:List String:=["int","bool","str","list","tuple"]
theorem ty_type {T:String}(h:T∈gL):typeOf (.type T)=pure (.type "type"):=by
 simp only[gL,List.mem_cons,List.not_mem_nil,or_false] at h;rcases h with rfl | rfl | rfl | rfl | rfl<;>kernel_rfl
def CG (K:Frag):List V->Hp->VK->Prop:=fun xs H Q=>∃ x T d G,xs=[x,.ty T]/\T∈gL/\((∀ kvs,d≠.dct kvs)/\(∀ ks,d≠.mpi ks)/\(∀ ks,d≠.mpt ks)/\∀ ks,d≠.mpz ks)/\Rep K H d x G/\Q (.bl (uN T d)) H
theorem rS:dP X (.builtin "isinstance") (CG X.K):=by
 intro pins s σ H xs us Q I r h;obtain⟨x,T,d,G,rfl,hT,hnd,rp,q⟩:=h;obtain⟨u,w,rfl,rx,rt⟩:=r.two;obtain rfl:w=Value.type T:=rt;have hty:=ty_type hT;have yes:∀{Tx:String},s.TypeIs u Tx->isSubtype (.type Tx) (.type T)=pure true->uN T d=true->wpAny (model X.prog X.w) X.A (call (.builtin "isinstance") [u,.type T]) (EP X pins σ Q) X.xe s:=fun h1 h2 h3 =>
  call_isinstance (isinstance_true hty h2) ⟨h1,⟨.bl true,H,I,rfl,by rw[h3] at q;exact q⟩⟩
 have no:uN T d=false->EP X pins σ Q (.bool false) { s with toks:=s.toks+1 }:=fun h=>⟨.bl false,H,I.tok _,rfl,by rw[h] at q;exact q⟩
 simp only[gL,List.mem_cons,List.not_mem_nil,or_false] at hT;cases d with
 |dct kvs=>exact absurd rfl (hnd.1 kvs)
 |mpi ks=>exact absurd rfl (hnd.2.1 ks)
 |mpt ks=>exact absurd rfl (hnd.2.2.1 ks)
 |mpz ks=>exact absurd rfl (hnd.2.2.2 ks)
 |non =>
  obtain⟨rfl,_⟩:=rp.non_inv;cases rx;rcases hT with rfl | rfl | rfl | rfl | rfl
  ·exact call_isinstance (isinstance_false_none (by decide) hty F.sub_NoneType_int) (no rfl)
  ·exact call_isinstance (isinstance_false_none (by decide) hty F.sub_NoneType_bool) (no rfl)
  ·exact call_isinstance (isinstance_false_none (by decide) hty F.sub_NoneType_str) (no rfl)
  ·exact call_isinstance (isinstance_false_none (by decide) hty F.sub_NoneType_list) (no rfl)
  ·exact call_isinstance (isinstance_false_none (by decide) hty F.sub_NoneType_tuple) (no rfl)
 |bl b =>
  obtain⟨rfl,_⟩:=rp.bl_inv;cases rx;rcases hT with rfl | rfl | rfl | rfl | rfl
  ·exact yes (PySem.typeIs_bool s b) F.sub_bool_int rfl
  ·exact yes (PySem.typeIs_bool s b) F.sub_bool_bool rfl
  ·exact call_isinstance (isinstance_false_bool (by decide) hty F.sub_bool_str) (no rfl)
  ·exact call_isinstance (isinstance_false_bool (by decide) hty F.sub_bool_list) (no rfl)
  ·exact call_isinstance (isinstance_false_bool (by decide) hty F.sub_bool_tuple) (no rfl)
 |int i =>
  obtain⟨rfl,_⟩:=rp.int_inv;obtain⟨t,rfl⟩:=rx;rcases hT with rfl | rfl | rfl | rfl | rfl
  ·exact yes (typeIs_int s i t) F.sub_int_int rfl
  ·exact call_isinstance (isinstance_false_int (by decide) hty F.sub_int_bool) (no rfl)
  ·exact call_isinstance (isinstance_false_int (by decide) hty F.sub_int_str) (no rfl)
  ·exact call_isinstance (isinstance_false_int (by decide) hty F.sub_int_list) (no rfl)
  ·exact call_isinstance (isinstance_false_int (by decide) hty F.sub_int_tuple) (no rfl)
 |str z =>
  obtain⟨rfl,_⟩:=rp.str_inv;obtain⟨t,rfl⟩:=rx;rcases hT with rfl | rfl | rfl | rfl | rfl
  ·exact call_isinstance (isinstance_false_str (by decide) hty F.sub_str_int) (no rfl)
  ·exact call_isinstance (isinstance_false_str (by decide) hty F.sub_str_bool) (no rfl)
  ·exact yes (typeIs_str s z t) F.sub_str_str rfl
  ·exact call_isinstance (isinstance_false_str (by decide) hty F.sub_str_list) (no rfl)
  ·exact call_isinstance (isinstance_false_str (by decide) hty F.sub_str_tuple) (no rfl)
 |lst ds =>
  obtain⟨p,vs,g,rfl,_,a1,_⟩:=rp.lst_inv;cases rx;obtain⟨its,_,pl,_⟩:=I.list (.inl a1);obtain⟨o,ho,hc,_⟩:=pl.isList;rcases hT with rfl | rfl | rfl | rfl | rfl
  ·exact call_isinstance (isinstance_false_list (by decide) hty F.sub_list_int) ⟨⟨o,ho,hc⟩,no rfl⟩
  ·exact call_isinstance (isinstance_false_list (by decide) hty F.sub_list_bool) ⟨⟨o,ho,hc⟩,no rfl⟩
  ·exact call_isinstance (isinstance_false_list (by decide) hty F.sub_list_str) ⟨⟨o,ho,hc⟩,no rfl⟩
  ·exact yes ⟨o,ho,hc⟩ F.sub_list_list rfl
  ·exact call_isinstance (isinstance_false_list (by decide) hty F.sub_list_tuple) ⟨⟨o,ho,hc⟩,no rfl⟩
 |tup ds =>
  obtain⟨p,vs,rfl,a1,_⟩:=rp.tup_inv;cases rx;obtain⟨its,_,pl,_⟩:=I.tuple a1;obtain⟨o,ho,hc,_⟩:=pl;rcases hT with rfl | rfl | rfl | rfl | rfl
  ·exact call_isinstance (isinstance_false_tuple (by decide) hty F.sub_tuple_int) ⟨⟨o,ho,hc⟩,no rfl⟩
  ·exact call_isinstance (isinstance_false_tuple (by decide) hty F.sub_tuple_bool) ⟨⟨o,ho,hc⟩,no rfl⟩
  ·exact call_isinstance (isinstance_false_tuple (by decide) hty F.sub_tuple_str) ⟨⟨o,ho,hc⟩,no rfl⟩
  ·exact call_isinstance (isinstance_false_tuple (by decide) hty F.sub_tuple_list) ⟨⟨o,ho,hc⟩,no rfl⟩
  ·exact yes ⟨o,ho,hc⟩ F.sub_tuple_tuple rfl
theorem vi {T:Tb}{b:String}{c:Ex}{σ:L2.St}{H:Hp}{Q:VK}(hb:b∈gL)(h:tE X.K T (.blt (.isi b) (.cons c .nil)) σ H Q):tCB (CG X.K) (eW (tE X.K T c) (eW (tC (.ty b)) oS)) σ H Q:=by
 obtain⟨P,env,F,re,p,hev,k⟩:=h;unfold ev bE bE at hev;obtain⟨l,h1,hev⟩:=Rs.bind_ok hev;obtain⟨q,h2,h1⟩:=Rs.bind_ok h1;cases h1;obtain⟨d',h3,hev⟩:=Rs.bind_ok hev;have h3:fE (.isi b) [q.1]=some d':=cF h3;have hnd:(∀ kvs,q.1≠.dct kvs)/\(∀ ks,q.1≠.mpi ks)/\(∀ ks,q.1≠.mpt ks)/\∀ ks,q.1≠.mpz ks:=⟨fun kvs e=>(by rw[e] at h3;cases h3),fun kvs e=>(by rw[e] at h3;cases h3),fun kvs e=>(by rw[e] at h3;cases h3),fun kvs e=>(by rw[e] at h3;cases h3)⟩;have hd:d' = .bl (uN b q.1):=by
  cases hq:q.1 with
  |dct kvs=>exact absurd hq (hnd.1 kvs)
  |mpi ks=>exact absurd hq (hnd.2.1 ks)
  |mpt ks=>exact absurd hq (hnd.2.2.1 ks)
  |mpz ks=>exact absurd hq (hnd.2.2.2 ks)
  |_=>rw[hq] at h3;cases h3;rfl
 subst hd;cases hev;exact⟨P,env,F,re,q,h2,fun v H1 G s rp rt=>⟨v,b,q.1,G,rfl,hb,hnd,rp,k _ H1 [] s (.bl _) bK.nil⟩⟩
theorem nR:∀{r:List D},r.all D.isBl=true->∃ bs:List Bool,r=bs.map D.bl
 |[],_=>⟨[],rfl⟩
 | x::r,ha=>by
  rw[df,aj] at ha;obtain⟨bs,rfl⟩:=nR ha.2;cases x with
  |bl c=>exact⟨c::bs,rfl⟩
  |_=>cases ha.1
theorem all_range (bs:List Bool):(List.range bs.length).all (fun i=>bs[i]?.getD true)=bs.all id:=by
 rw[Bool.eq_iff_iff,bw,bw];constructor
 ·intro h x hx;obtain⟨i,hi,rfl⟩:=List.mem_iff_getElem.mp hx;have:=h i (by simpa using hi);simpa[hi] using this
 ·intro h i hi;have hi:i<bs.length:=by simpa using hi
  simpa[hi] using h bs[i] (List.getElem_mem hi)
theorem jv:∀{ds:List D}{b:Bool},allB ds=some b->ds.all D.isBl=true->∃ bs:List Bool,ds=bs.map D.bl/\b=bs.all id
 |[],b,h,_=>by cases h;exact⟨[],rfl,rfl⟩
 | .bl c::r,b,h,ha=>by
  have ha':r.all D.isBl=true:=by simpa[D.isBl] using ha
  cases c with
  |false =>
   cases h;have:=nR ha';obtain⟨bs,rfl⟩:=this;exact⟨false::bs,rfl,by simp⟩
  |true =>
   obtain⟨bs,rfl,rfl⟩:=jv (ds:=r) h ha';exact⟨true::bs,rfl,by simp⟩
 |.non::r,b,h,_=>by cases h
 |.int _::r,b,h,_=>by cases h
 |.str _::r,b,h,_=>by cases h
 |.lst _::r,b,h,_=>by cases h
 |.tup _::r,b,h,_=>by cases h
theorem kj {K:Frag}{H:Hp}:∀{bs:List Bool}{vs:List V}{G:List Addr}{us:List Value},aD K H (bs.map D.bl) vs G->aN vs us->us=bs.map Value.bool
 |[],_,_,_,.nil,.nil=>rfl
 | b::bs,_,_,_,.cons h r,.cons x y=>by
  obtain⟨rfl,_⟩:=h.bl_inv;cases x;rw[ay,<-kj r y]
theorem sS (hc:X.calm=true):dP X (.builtin "all") (mO X.K .all):=by
 intro pins s σ H xs us Q I r h;obtain⟨ds,d,G,rs,hd,k⟩:=h
 match ds,hd with
 |[.lst ys],hd =>
  simp only[fE,zh] at hd;by_cases hb:ys.all D.isBl=true
  ·rw[if_pos hb,aa] at hd;obtain⟨b,hb',rfl⟩:=hd;obtain⟨bs,rfl,rfl⟩:=jv hb' hb;obtain⟨x,rfl,rp⟩:=rs.of1;obtain⟨p,vs,g,rfl,rfl,a1,a2⟩:=rp.lst_inv;obtain⟨u,rfl,ru⟩:=r.one;cases ru;obtain⟨its,rv,pl,_⟩:=I.list (.inl a1);have ei:=kj a2 rv;subst ei;have hlt:p<s.heap.objs.size:=by
    obtain⟨o,ho,_⟩:=pl.isList;exact Heap.lt_size ho
   refine call_all_walk (wpAny_pyIter_list pl.isList ⟨s.heap.objs.size,[s.heap.objs.size,p],[s.heap.objs.size],(bs.map Value.bool).toArray.size,_,_,fun i=>bs[i]?.getD true,rfl,Walks.list (A:=X.A.in1) (show X.A.in1.handled=none from I.ok.hd hc) s.heap.objs.size p (bo hlt) (bs.map Value.bool).toArray,⟨⟨_,Heap.get?_push_size _ rfl,rfl,rfl⟩,pl.isList.at fun o e=>Heap.get?_push_of_some _ e⟩,fun i v s' Q' E' hP hQ=>?_,fun h' tk hk=>?_⟩)
   ·have hP:(bs.map Value.bool).toArray[i]? = some v:=hP;rw[List.getElem?_toArray,List.getElem?_map,aa] at hP;obtain⟨b,e1,rfl⟩:=hP;have hQ:Q' (bs[i]?.getD true) s':=hQ;rw[e1] at hQ;exact wpAny_truthy_bool hQ
   ·have e:(List.range (bs.map Value.bool).toArray.size).all (fun i=>bs[i]?.getD true)=bs.all id:=by
     simp only[List.size_toArray,List.length_map];exact all_range bs
    rw[e];refine⟨.bl (bs.all id),H,?_,rfl,k _ H [] (.bl _) eI.nil⟩;have I1:Inv X pins σ H { s with heap:=s.heap.push { cls:=.type "list_iterator",data:=.fields #[.ref p,.int 0 0] } }:=I.kept (t':=s.toks) fun b o e=>Heap.get?_push_of_some _ e
    obtain⟨f0,f1,f2,f3,f4,f5⟩:=I.fpOk (b:=s.heap.objs.size) (av _) (I.hok.fresh (av _));exact I1.turned (t':=tk) (fun b o hb e=>hk b o (by simpa using hb) e) f0 f1 f3 f4 f5
  ·rw[if_neg hb] at hd;cases hd
theorem k9:∀{ds:List D}{a r:Int},qc a ds=some r->∃ ns:List Int,ds=ns.map D.int/\r=a+ns.sum
 |[],a,r,h=>by cases h;exact⟨[],rfl,by simp⟩
 | .int i::ds,a,r,h=>by
  obtain⟨ns,rfl,rfl⟩:=k9 (ds:=ds) (a:=a+i) h;exact⟨i::ns,rfl,by rw[List.sum_cons];omega⟩
 |.non::_,_,_,h=>by cases h
 |.bl _::_,_,_,h=>by cases h
 |.str _::_,_,_,h=>by cases h
 |.lst _::_,_,_,h=>by cases h
 |.tup _::_,_,_,h=>by cases h
theorem jF {K:Frag}{H:Hp}:∀{ns:List Int}{vs:List V}{G:List Addr}{us:List Value},aD K H (ns.map D.int) vs G->aN vs us->us.length=ns.length/\∀ i u,us[i]? = some u->∃ t,u=Value.int (ns.getD i 0) t
 |[],_,_,_,.nil,.nil=>⟨rfl,fun i u h=>by simp at h⟩
 | n::ns,_,_,_,.cons h r,.cons x y=>by
  obtain⟨rfl,_⟩:=h.int_inv;obtain⟨t,rfl⟩:=x;obtain⟨a,b⟩:=jF r y;refine⟨by simp[a],fun i u h=>?_⟩;cases i with
  |zero=>simp at h;exact⟨t,by simp[<-h]⟩
  |succ i =>
   obtain⟨t',e⟩:=b i u (by simpa using h);exact⟨t',by simpa using e⟩
theorem sM (hc:X.calm=true):dP X (.builtin "sum") (mO X.K .sum):=by
 intro pins s σ H xs us Q I r h;obtain⟨ds,d,G,rs,hd,k⟩:=h
 match ds,hd with
 |[.lst ys],hd =>
  simp only[fE,yM] at hd;rw[aa] at hd;obtain⟨b,hb',rfl⟩:=hd;obtain⟨ns,rfl,rfl⟩:=k9 hb';obtain⟨x,rfl,rp⟩:=rs.of1;obtain⟨p,vs,g,rfl,rfl,a1,a2⟩:=rp.lst_inv;obtain⟨u,rfl,ru⟩:=r.one;cases ru;obtain⟨its,rv,pl,_⟩:=I.list (.inl a1);obtain⟨hl,hv⟩:=jF a2 rv;have hlt:p<s.heap.objs.size:=by
   obtain⟨o,ho,_⟩:=pl.isList;exact Heap.lt_size ho
  refine call_sum_walkG (wpAny_pyIter_list pl.isList ⟨s.heap.objs.size,[s.heap.objs.size,p],[s.heap.objs.size],its.toArray.size,_,_,fun i=>ns.getD i 0,rfl,Walks.list (A:=X.A.in1) (show X.A.in1.handled=none from I.ok.hd hc) s.heap.objs.size p (bo hlt) its.toArray,⟨⟨_,Heap.get?_push_size _ rfl,rfl,rfl⟩,pl.isList.at fun o e=>Heap.get?_push_of_some _ e⟩,fun b hb=>?_,fun i v hP=>?_,fun h' tk t' hk=>?_⟩)
  ·simp only[List.mem_cons,List.not_mem_nil,or_false] at hb;rw[Heap.size_push];rcases hb with rfl | rfl
   ·exact du _
   ·exact en hlt
  ·have hP:its.toArray[i]? = some v:=hP;rw[List.getElem?_toArray] at hP;exact hv i v hP
  ·rw[preSum_getD,ah,hl,List.take_length];refine⟨.int ns.sum,H,?_,⟨_,rfl⟩,by have:=k (.int (0+ns.sum)) H [] (.int _) eI.nil;rwa [Int.zero_add] at this⟩;have I1:Inv X pins σ H { s with heap:=s.heap.push { cls:=.type "list_iterator",data:=.fields #[.ref p,.int 0 0] } }:=I.kept (t':=s.toks) fun b o e=>Heap.get?_push_of_some _ e
   obtain⟨f0,f1,f2,f3,f4,f5⟩:=I.fpOk (b:=s.heap.objs.size) (av _) (I.hok.fresh (av _));exact I1.turned (t':=tk) (fun b o hb e=>hk b o (by simpa using hb) e) f0 f1 f3 f4 f5
end
section
variable {X:Cx}{T:Tb}
theorem gW.map {K:Frag}{H:Hp}(k:Int){m:MV}{v:V}(hm:oH K H m v):∀{q:List (Int×MV)}{x:List (Key×V)},gW K H q x->gW K H (q.map fun z=>if z.1=k then (z.1,m) else z) (x.map fun z=>if z.1=Sum.inl k then (z.1,v) else z)
 |[],[],_=>trivial
 | (j,n)::q,p::x,⟨a,b,c⟩=>by
  refine⟨?_,?_,c.map k hm⟩
  ·show (if p.1=Sum.inl k then (p.1,v) else p).1=Sum.inl (if j=k then (j,m) else (j,n)).1;rw[show (if p.1=Sum.inl k then (p.1,v) else p).1=p.1 by split<;>rfl,show (if j=k then (j,m) else (j,n)).1=j by split<;>rfl];exact a
  ·show oH K H (if j=k then (j,m) else (j,n)).2 (if p.1=Sum.inl k then (p.1,v) else p).2;by_cases e:j=k
   ·rw[if_pos e,if_pos (by rw[a,<-e])];exact hm
   ·rw[if_neg e,if_neg (by rw[a];exact fun z=>e (by injection z))];exact b
 |[],_::_,h=>h.elim
 |_::_,[],h=>h.elim
theorem gW.snoc {K:Frag}{H:Hp}(k:Int){m:MV}{v:V}(hm:oH K H m v):∀{q:List (Int×MV)}{x:List (Key×V)},gW K H q x->gW K H (q ++ [(k,m)]) (x ++ [(.inl k,v)])
 |[],[],_=>⟨rfl,hm,trivial⟩
 |_::_,_::_,⟨a,b,c⟩=>⟨a,b,c.snoc k hm⟩
 |[],_::_,h=>h.elim
 |_::_,[],h=>h.elim
theorem gW.put {K:Frag}{H:Hp}(k:Int){m:MV}{v:V}(hm:oH K H m v){q:List (Int×MV)}{x:List (Key×V)}(h:gW K H q x):gW K H (wC q k m) (putK x (.inl k) v):=by
 unfold wC putK;rw[h.any k];split
 ·exact h.map k hm
 ·exact h.snoc k hm
theorem lZ {K:Frag}{H:Hp}:∀ ks:List (Int×MV),aD K H (ks.map fun q=>D.int q.1) (ks.map fun q=>V.int q.1) []
 |[]=>.nil
 |k::ks=>.cons (G:=[]) (G':=[]) (.int k.1) (lZ ks)
theorem l9 {P:Program}{w:World}{K:Frag}{H:Hp}:∀{ks:List (Int×MV)}{xs:List (Key×V)}{vs:List (Key×Value)}{us:List Value},gW K H ks xs->KV xs vs->us.length=vs.length->(∀(j:Nat) u,us[j]? = some u->∃ k x,vs[j]? = some (k,x)/\(aO P w).is k u=true)->aN (ks.map fun q=>V.int q.1) us
 | [],[],_,us,_,r,hl,_=>by
  cases r;rw[List.length_eq_zero_iff.mp hl];exact .nil
 |[],_::_,_,_,h,_,_,_=>h.elim
 |_::_,[],_,_,h,_,_,_=>h.elim
 | (k,m)::ks,x::xs,_,us,⟨hk0,_,kr⟩,r,hl,h=>by
  have r:Paired _ (x::xs) _:=r;cases r with
  |@cons _ q _ qs h1 t =>
   cases us with
   |nil=>cases hl
   |cons u us =>
    obtain⟨k',y,e,hk⟩:=h 0 u rfl;have e:some q=some (k',y):=e;cases e;have h1:x.1=k':=h1.1;rw[hk0] at h1;have h1:(Sum.inl k:Key)=k':=h1;subst h1;obtain⟨i,t',e1,e2⟩ | ⟨x',t',e1,_⟩:=aV (show ja (.inl k) u=true from hk)
    ·cases e1;exact .cons ⟨t',e2⟩ (l9 kr t (Nat.succ.inj hl) fun j u hu=>h (j+1) u hu)
    ·cases e1
theorem pQ (hc:X.calm=true):dP X (.type "list") (mO X.K .list):=by
 intro pins s σ H xs us Q I r h;obtain⟨ds,d,G,rs,hd,k⟩:=h;by_cases hm:∃ ks,ds=[.mpi ks]
 ·obtain⟨ks,rfl⟩:=hm;have hd:(if ks.length<=lim then some (D.lst (ks.map fun q=>D.int q.1)) else none)=some d:=hd;by_cases hl:ks.length<=lim
  ·rw[if_pos hl] at hd;cases hd;obtain⟨x,rfl,rp⟩:=rs.of1;obtain⟨u,rfl,rx⟩:=r.one;cases rp with
   |@mpi p _ xs hr kr =>
    obtain rfl:u = .ref p:=rx;obtain⟨z,lo,vs,rel,dd⟩:=i0 I.hok (.inl hr);obtain⟨ep,hat⟩:=dd.dictAt;have hlen:vs.length=ks.length:=by rw[<-rel.length,kr.len]
    refine PySem.W.kdl_call (PySem.W.kdl_dict (knd:=aO X.prog X.w) (kvs:=vs) (ep:=ep) lo) (I.ok.hd hc) hat (by rw[hlen,sizeLine_eq];unfold lim at hl;omega) fun h' tk acc c hk hD hacc=>?_
    have hv:aN (ks.map fun q=>V.int q.1) acc.toList:=l9 kr rel (by rw[cv];exact hacc.1) fun j u hu=>hacc.2 j u (by rw[<-Array.getElem?_toList];exact hu)
    refine⟨.ref s.heap.objs.size,upd H s.heap.objs.size (.lst (ks.map fun q=>V.int q.1)),I.laid hk (av _) ⟨by rw[au,sizeLine_eq];unfold lim at hl;omega,acc.toList,c,hv,by rw[hD,Array.toArray_toList]⟩,rfl,?_⟩;obtain⟨n1,n2⟩:=iO (G0:=[p]) (lZ (K:=X.K) (H:=H) ks) (fun a ha=>nomatch ha) I.fresh;exact k _ _ _ n1 n2
  ·rw[if_neg hl] at hd;cases hd
 ·exact n6 I r rs hd k fun ks e=>hm ⟨ks,e⟩
end
theorem bQ.live' {P:Program}{w:World}{H:Hp}{h:Heap}{a:Addr}{o:HO}(x:bQ P w H h a o):∃ ob,h.get? a=some ob:=by
 cases o with
 |lst xs=>obtain⟨_,_,_,_,e⟩:=x;exact⟨_,e⟩
 |tup xs=>obtain⟨_,_,_,ob,e,_⟩:=x;exact⟨_,e⟩
 |dK kvs=>obtain⟨_,_,_,_,o,_,_,e,_⟩:=x;exact⟨_,e⟩
 |dT kvs=>obtain⟨_,_,_,_,o,_,_,e,_⟩:=x;exact⟨_,e⟩
 |set S n=>obtain⟨o,_,_,_,e,_⟩:=x;exact⟨_,e⟩
 |ins C dx fs=>obtain⟨_,_,_,e,_⟩:=x;exact⟨_,e⟩
 |own y=>obtain⟨_,e⟩:=x;exact⟨_,e⟩
 |xd fs=>obtain⟨_,⟨_,_,_,e,_⟩,_⟩:=x;exact⟨_,e⟩
 |rng lo hi=>obtain⟨_,_,_,e⟩:=x;exact⟨_,e⟩
 |frz ob u=>obtain⟨e,_⟩:=x;exact⟨_,e⟩
 |tbl ps=>exact⟨_,(show h.get? a=some _ from x)⟩
 |met f y=>exact⟨_,(show h.get? a=some _ from x)⟩
 |ext φ=>obtain⟨_,⟨_,e⟩,_⟩:=x;exact⟨_,e⟩
section
variable {prog:Program}{w:World}{A:Around}
def TupI (h:Heap)(v:Value)(k:List Int):Prop:=∃ a o its n,v = .ref a/\h.get? a=some o/\o.cls = .type "tuple"/\o.data = .seq its n/\IntsAre its.toList k
end
theorem lY:∀ k:List Int,D.flats (k.map D.int)=true
 |[]=>rfl
 |_::k=>lY k
section
variable {X:Cx}{pins:List (Addr×Obj)}{σ:L2.St}{H:Hp}{s:Shared}
theorem lN (I:Inv X pins σ H s):∀{ys:List D}{ks:List (List Int)}{vs:List V}{G:List Addr}{us:List Value},oj ys=some ks->aD X.K H ys vs G->aN vs us->ks.length=us.length/\(∀ i k,ks[i]? = some k->TupI s.heap (us.getD i .none) k)/\(∀ k∈ks,k≠[])/\G=[]
 | [],ks,_,_,_,h,.nil,.nil=>by
  cases h;exact⟨rfl,fun i k h=>(by simp at h),fun k h=>(nomatch h),rfl⟩
 | .tup xs::r,ks,_,_,_,h,.cons r1 r2,.cons (b:=u) v1 v2=>by
  have h:((eQ xs).bind fun k=>if k.isEmpty then none else (oj r).map (k :: ·))=some ks:=h;rw[ae] at h;obtain⟨k,h1,h2⟩:=h;by_cases he:k.isEmpty=true
  ·rw[if_pos he] at h2;cases h2
  ·rw[if_neg he,aa] at h2;obtain⟨ks',h3,rfl⟩:=h2;obtain⟨l,t,ne,g⟩:=lN I h3 r2 v2;have:=cZ h1;subst this;have gf:=r1.flat (lY k);obtain⟨p,vs',rfl,a1,a2⟩:=r1.tup_inv;obtain rfl:u = .ref p:=v1;obtain⟨its,rv,⟨o,e1,e2,n,e3⟩,_⟩:=I.tuple a1;refine⟨by simp[l],fun i k' hk=>?_,fun k' hk=>?_,by rw[gf,g];rfl⟩
   ·cases i with
    |zero =>
     have hk:some k=some k':=hk;cases hk;exact⟨p,o,_,n,rfl,e1,e2,e3,h9 a2 rv⟩
    |succ i=>exact t i k' hk
   ·rcases gd.mp hk with rfl | hk
    ·intro z;subst z;exact he rfl
    ·exact ne k' hk
end
section
variable {X:Cx}
end
section
variable {X:Cx}{T:Tb}
end
structure StrIt (ty:String):Prop where
 item:∀{prog:Program}{w:World}{A:Around}{E:Value->Shared->Prop}{s:Shared}{it:Addr}{x:Str}{t:Tok}{i c:Nat}{Q:Value->Shared->Prop},s.heap.IsStrIter it ty x t i->x.cps[i]? = some c ->
  (∀ h',h'.IsStrIter it ty x t (i+1)->Heap.SameBut it s.heap h'->Q (.str ⟨#[c]⟩ s.toks) { s with heap:=h',toks:=s.toks+1 })->wpAny (model prog w) A (Builtin.SmallTypes.nextOf (.ref it)) Q E s
 done:∀{prog:Program}{w:World}{A:Around}{E:Value->Shared->Prop}{s:Shared}{it:Addr}{x:Str}{t:Tok}{i:Nat}{Q:Value->Shared->Prop},A.handled=none->s.heap.IsStrIter it ty x t i->x.cps[i]? = none ->
  (∀ h' e,Heap.ExtBut it s.heap h'->(∃ o,h'.get? e=some o/\o.cls = .type "StopIteration")->E (.ref e) { s with heap:=h' })->wpAny (model prog w) A (Builtin.SmallTypes.nextOf (.ref it)) Q E s
 n1:ty≠"list"
section
variable {prog:Program}{w:World}{A:Around}{E:Value->Shared->Prop}{s:Shared}{z TI TO i1 i2 l1:Addr}{k1 k2:Nat}{xs:Array Value}{x a b:Value}{y:Str}{t:Tok}{c:Nat}{ty:String}
end
section
variable {prog:Program}{w:World}{A:Around}{E:Value->Shared->Prop}{s:Shared}
end
section
variable {X:Cx}{T:Tb}
end
section
variable {X:Cx}{T:Tb}
end
section
variable {prog:Program}{w:World}{A:Around}{E:Value->Shared->Prop}{s:Shared}
end
section
variable {X:Cx}{T:Tb}
end
section
variable {X:Cx}{T:Tb}
end
section
variable {prog:Program}{w:World}{A:Around}{R:Result->Shared->Prop}{it:Addr}{fp wr:List Addr}{n:Nat}{P:Nat->Value->Prop}{Sta:Nat->Heap->Prop}{dv:Value}{bx:Addr}
end
section
variable {X:Cx}{T:Tb}
end
noncomputable def isK (k:Int):Value->Bool
 |.int i _=>i==k
 |_=>false
theorem mU:∀{vs:List Value}{ns:List Int},IntsAre vs ns->vs.length=ns.length/\∀(i:Nat) v,vs[i]? = some v->∃ n t,ns[i]? = some n/\v = .int n t
 |_,_,.nil=>⟨rfl,fun i v h=>by simp at h⟩
 | _,_,.cons n t r=>by
  obtain⟨l,g⟩:=mU r;refine⟨by simp[l],fun i v h=>?_⟩;cases i with
  |zero =>
   rw[List.getElem?_cons_zero] at h;cases h;exact⟨n,t,rfl,rfl⟩
  |succ i =>
   rw[List.getElem?_cons_succ] at h;obtain⟨m,u,h1,h2⟩:=g i v h;exact⟨m,u,by rw[List.getElem?_cons_succ];exact h1,h2⟩
theorem uD {k:Int}:∀{ns:List Int},k∈ns->ns[ns.idxOf k]? = some k/\∀ m,m<ns.idxOf k->∀ n,ns[m]? = some n->n≠k
 | n::ns,h=>by
  rw[List.idxOf_cons];by_cases e:n=k
  ·subst e;simp
  ·have hk:k∈ns:=by
    rcases gd.mp h with z | z
    ·exact absurd z.symm e
    ·exact z
   obtain⟨h1,h2⟩:=uD hk;have hb:(n==k)=false:=beq_eq_false_iff_ne.mpr e;rw[hb];refine⟨by simpa using h1,fun m hm q hq=>?_⟩;cases m with
   |zero =>
    rw[List.getElem?_cons_zero] at hq;cases hq;exact e
   |succ m =>
    rw[List.getElem?_cons_succ] at hq;exact h2 m (by simpa using hm) q hq
theorem vB {prog:Program}{w:World}{A:Around}{E:Value->Shared->Prop}{s:Shared}{l:Addr}{vs:List Value}{ns:List Int}{k:Int}{t:Tok}{Q:Value->Shared->Prop}(pl:s.heap.IsList l vs.toArray)(hi:IntsAre vs ns)(hl:ns.length<=100000000)(hk:k∈ns)
  (q:Q (.int (ns.idxOf k:Nat) s.toks) { s with toks:=s.toks+1 }):wpAny (model prog w) A (call (.builtin "list.index") [.ref l,.int k t]) Q E s:=by
 obtain⟨⟨cls,dd,data,sl⟩,ho,hc,n,hd⟩:=id pl;cases hc;cases hd;obtain⟨hlen,hat⟩:=mU hi;obtain⟨i1,i2⟩:=uD hk;have hj:ns.idxOf k<vs.toArray.size:=by
  rw[ah,hlen];exact (List.getElem?_eq_some_iff.mp i1).1
 have val:∀(m:Nat) (hm:m<vs.toArray.size),∃ n t,ns[m]? = some n/\vs.toArray[m] = .int n t:=fun m hm=>hat m _ (by
  rw[ah] at hm;rw[List.getElem?_eq_getElem hm];rfl)
 refine call_meets PySem.F.slot_list_index ⟨_,ho,rfl⟩ PySem.F.entry_list_index (PySem.F.args_list_index_2 _ _) (SeqAt.list_indexAt l vs.toArray n dd sl (.int k t) (isK k) (ns.idxOf k) hj ?_ ?_ fun m hm hlt=>?_) ⟨ho,fun y hy=>?_,q⟩
 ·rw[ah,hlen] at hj;omega
 ·obtain⟨n',t',h1,h2⟩:=val _ hj;rw[i1] at h1;cases h1;rw[h2];show (k==k)=true;rw[cq]
 ·obtain⟨n',t',h1,h2⟩:=val m hm;rw[h2];exact beq_eq_false_iff_ne.mpr (i2 m hlt n' h1)
 ·obtain⟨m,hm,rfl⟩:=Array.mem_iff_getElem.mp hy;obtain⟨n',t',h1,h2⟩:=val m hm;rw[h2];exact SeqAt.EqAt.int_int n' t' k t
theorem nY {lt:Nat->Nat->Bool}{n:Nat}:∀(k j m:Nat),j+k=n->m<n->cY lt k j m<n
 |0,_,m,_,h=>h
 | k+1,j,m,e,h=>by
  unfold cY;refine nY k (j+1) _ (by omega) ?_;split
  ·omega
  ·exact h
theorem qg:(toString "min" ++ toString ".loop" : String) = "min.loop":=by decide
section
variable {prog:Program}{w:World}{A:Around}{R:Result->Shared->Prop}{it:Addr}{fp wr:List Addr}{n:Nat}{P:Nat->Value->Prop}{Sta:Nat->Heap->Prop}{bx:Addr}{val:Nat->Value}{lt:Nat->Nat->Bool}{h0:Heap}
def Kp (wr:List Addr)(bx:Addr)(h0 h:Heap):Prop:=∀ b o,b∉wr->b≠bx->h0.get? b=some o->h.get? b=some o
theorem yd (W:Walks prog w A.in1 it fp wr n P Sta)(hval:∀ i v,P i v->v=val i)(hb:bx∉fp)
  (hcmp:∀(i j:Nat) (s':Shared) (Q E:Value->Shared->Prop),i<n->j<n->Kp wr bx h0 s'.heap->Q (.bool (lt i j)) s'->wpAny (model prog w) A.in1 (richCompare .Lt (val i) (val j)) Q E s') :
  ∀(k j:Nat) (s:Shared) (m:Nat) (c:Nat),n - j=k->j<=n->m<n->Sta j s.heap->Kp wr bx h0 s.heap->s.heap.get? bx=some { cls:=.type "list",dict:=none,data:=.seq #[val m,val m] c,slots:=#[] } ->
  (∀ hp tk,Kp wr bx h0 hp->R (.ok (.ret (val (cY lt k j m)))) { s with heap:=hp,toks:=tk }) ->
  codeAny (model prog w) A (.builtin "min.loop" ⟨[.ref it,.none,.ref bx],[]⟩) R s:=by
 have hw:bx∉wr:=fun h=>hb (W.sub _ h)
 intro k
 induction k with
 |zero =>
  intro j s m c hk hj hm st kp hB q;have e:j=n:=by omega
  subst e;refine codeAny_builtin F.entry_min_loop (by
   rw[Around.under_plainId F.plain_min_loop _];show wpAny _ A.in1 (seqItems? (.ref bx) >>= _) _ _ s;refine wpAny_bind (wpAny_seqItems hB rfl (wpAny_bind (wpAny_tryCatch (W.done s _ _ st fun hp tk hk'=>?_))));have hB':=hk' bx _ hw hB;show wpAny _ A.in1 (updateSeq bx (fun _=>#[]) >>= _) _ _ _;exact wpAny_bind (wpAny_updateSeq hB' rfl (wpAny_bind (wpAny_letGo (wpAny_pure (q _ tk fun b o h1 h2 e=>(Heap.get?_update_other _ _ (cu h2)).trans (hk' b o h1 (kp b o h1 h2 e))))))))
 |succ k ih =>
  intro j s m c hk hj hm st kp hB q;have hlt:j<n:=by omega
  refine codeAny_builtin F.entry_min_loop (by
   rw[Around.under_plainId F.plain_min_loop _];show wpAny _ A.in1 (seqItems? (.ref bx) >>= _) _ _ s;refine wpAny_bind (wpAny_seqItems hB rfl (wpAny_bind (wpAny_tryCatch (W.item j s _ _ hlt st fun v hp tk hv st' hk'=>?_))));have hB':=hk' bx _ hw hB;have hve:=hval j v hv;subst hve;have kp':Kp wr bx h0 hp:=fun b o h1 h2 e=>hk' b o h1 (kp b o h1 h2 e)
   show wpAny _ A.in1 (tryCatch (holding [val j,val j] (richCompare .Lt (val j) (val m) >>= _)) _ >>= _) _ _ _;refine wpAny_bind (wpAny_tryCatch (wpAny_holding (wpAny_bind (hcmp j m _ _ _ hlt hm kp' (wpAny_bind (wpAny_holding (wpAny_truthy_bool (wpAny_bind (wpAny_letGo (wpAny_pure ?_))))))))));cases hg:lt j m with
   |true =>
    simp only[if_true];refine wpAny_bind (wpAny_updateSeq hB' rfl (wpAny_bind (wpAny_letGo ?_)));rw[qg];refine wpAny_pure ⟨plainId_quiet F.plain_min_loop _,ih (j+1) _ j _ (by omega) hlt hlt (W.frame _ _ _ st' fun b hbf o e=>(Heap.get?_update_other _ _ (fun h:bx=b=>hb (h ▸ hbf))).trans e) (fun b o h1 h2 e=>(Heap.get?_update_other _ _ (cu h2)).trans (kp' b o h1 h2 e)) (Heap.get?_update_self _ hB' rfl) fun hp2 tk2 hk2=>?_⟩;have:=q hp2 tk2 hk2;unfold cY at this
    rwa [hg,if_pos rfl] at this
   |false =>
    simp only[Bool.false_eq_true,if_false];refine wpAny_bind (wpAny_letGo ?_);rw[qg];refine wpAny_pure ⟨plainId_quiet F.plain_min_loop _,ih (j+1) _ m c (by omega) hlt hm st' kp' hB' fun hp2 tk2 hk2=>?_⟩;have:=q hp2 tk2 hk2;unfold cY at this
    rwa [hg,if_neg (by decide)] at this)
theorem u9 (W:Walks prog w A.in1 it fp wr n P Sta)(hval:∀ i v,P i v->v=val i)(hb:bx∉fp)(hn:0<n)
  (hcmp:∀(i j:Nat) (s':Shared) (Q E:Value->Shared->Prop),i<n->j<n->Kp wr bx h0 s'.heap->Q (.bool (lt i j)) s'->wpAny (model prog w) A.in1 (richCompare .Lt (val i) (val j)) Q E s')
  {s:Shared}{c:Nat}(st:Sta 0 s.heap) (kp:Kp wr bx h0 s.heap) (hB:s.heap.get? bx=some { cls:=.type "list",dict:=none,data:=.seq #[] c,slots:=#[] })
  (q:∀ hp tk,Kp wr bx h0 hp->R (.ok (.ret (val (cY lt (n - 1) 1 0)))) { s with heap:=hp,toks:=tk }) :
  codeAny (model prog w) A (.builtin "min.loop" ⟨[.ref it,.none,.ref bx],[]⟩) R s:=by
 have hw:bx∉wr:=fun h=>hb (W.sub _ h)
 refine codeAny_builtin F.entry_min_loop (by
  rw[Around.under_plainId F.plain_min_loop _];show wpAny _ A.in1 (seqItems? (.ref bx) >>= _) _ _ s;refine wpAny_bind (wpAny_seqItems hB rfl (wpAny_bind (wpAny_tryCatch (W.item 0 s _ _ hn st fun v hp tk hv st' hk'=>?_))));have hB':=hk' bx _ hw hB;have hve:=hval 0 v hv;subst hve;have kp':Kp wr bx h0 hp:=fun b o h1 h2 e=>hk' b o h1 (kp b o h1 h2 e)
  show wpAny _ A.in1 (updateSeq bx (fun _=>#[val 0,val 0]) >>= _) _ _ _;refine wpAny_bind (wpAny_updateSeq hB' rfl ?_);rw[qg];refine wpAny_pure ⟨plainId_quiet F.plain_min_loop _,yd W hval hb hcmp (n - 1) 1 _ 0 _ rfl hn hn (W.frame _ _ _ st' fun b hbf o e=>(Heap.get?_update_other _ _ (fun h:bx=b=>hb (h ▸ hbf))).trans e) (fun b o h1 h2 e=>(Heap.get?_update_other _ _ (cu h2)).trans (kp' b o h1 h2 e)) (Heap.get?_update_self _ hB' rfl) fun hp2 tk2 hk2=>?_⟩;exact q _ tk2 hk2)
end
theorem ro {prog:Program}{w:World}{A:Around}{E:Value->Shared->Prop}{s:Shared}{x:Value}{Q:Value->Shared->Prop}
  (h:wpAny (model prog w) A.in1 (pyIter x) (fun iv s₂=>∃ it fp wr n P Sta,∃(val:Nat->Value) (lt:Nat->Nat->Bool),iv = .ref it/\Walks prog w A.in1 it fp wr n P Sta/\Sta 0 s₂.heap/\(∀ b∈fp,b<s₂.heap.objs.size)/\0<n/\(∀ i v,P i v->v=val i) /\
   (∀(i j:Nat) (s':Shared) (Q E:Value->Shared->Prop),i<n->j<n->(∀ b o,b∉wr->s₂.heap.get? b=some o->s'.heap.get? b=some o)->Q (.bool (lt i j)) s'->wpAny (model prog w) A.in1 (richCompare .Lt (val i) (val j)) Q E s') /\
   ∀ hp tk,(∀ b o,b∉wr->s₂.heap.get? b=some o->hp.get? b=some o)->Q (val (cY lt (n - 1) 1 0)) { s₂ with heap:=hp,toks:=tk }) E s) :
  wpAny (model prog w) A (call (.builtin "min") [x]) Q E s:=by
 refine wpAny_call (codeAny_call_builtin F.plain_min F.entry_min ?_);have hc:wpAny (model prog w) A.in1 (Builtin.«min» ⟨[x],[]⟩) (fun fin s'=>match fin with
   |.done f=>(match (Except.ok f:Result) with | .ok (.ret v)=>Q v s' | .ok _=>False | .error e=>E e s')
   |.again c=>c.quiet=true/\codeAny (model prog w) A c (fun r s2=>match r with | .ok (.ret v)=>Q v s2 | .ok _=>False | .error e=>E e s2) s') E s:=by
  show wpAny _ A.in1 (Builtin.Builtins.bindParams "min" ["key","default"] 0 ⟨[],[]⟩ >>= _) _ _ s;refine wpAny_bind (wpAny_of_eq (show Builtin.Builtins.bindParams "min" ["key","default"] 0 ⟨[],[]⟩=pure [none,none] from rfl) (wpAny_bind (wpAny_pure (wpAny_bind (wpAny_mono h (fun iv s₂ h₂=>?_) fun _ _ e=>e)))));obtain⟨it,fp,wr,n,P,Sta,val,lt,rfl,W,st,hfp,hn,hval,hcmp,q⟩:=h₂;refine wpAny_bind (wpAny_newObj_type ?_);rw[qg];have fresh:∀ b o,s₂.heap.get? b=some o->b≠s₂.heap.objs.size:=fun b o e=>bo (Heap.lt_size e)
  refine wpAny_pure ⟨plainId_quiet F.plain_min_loop _,u9 (h0:=s₂.heap) (lt:=lt) W hval (fun hm=>c7 _ (hfp _ hm)) hn (fun i j s' Q E hi hj kp hQ=>hcmp i j s' Q E hi hj (fun b o hbw e=>kp b o hbw (fresh b o e) e) hQ) (W.frame _ _ _ st fun b _ o e=>Heap.get?_push_of_some _ e) (fun b o _ _ e=>Heap.get?_push_of_some _ e) (Heap.get?_push_size _ rfl) fun hp tk hk=>?_⟩;exact q hp tk fun b o hbw e=>hk b o hbw (fresh b o e) e
 have ha:=PySem.F.args_min1 x;simp only[checkBuiltinCall,F.kind_min];cases hsig:Manifest.signature? "min" with
 |none=>exact wpAny_pure hc
 |some sig =>
  simp only[argsOk,hsig] at ha;have h2:Bind.checkArgs "min" sig ⟨[x],[]⟩=pure ():=ha;show wpAny _ A.in1 (Bind.checkArgs "min" sig ⟨[x],[]⟩) _ _ s;rw[h2];exact wpAny_pure hc
section
variable {X:Cx}{pins:List (Addr×Obj)}{σ:L2.St}{H:Hp}{s:Shared}
theorem vy (hc:X.calm=true)(I:Inv X pins σ H s){p:Addr}{vs:List V}{its:List Value}{Q:VK}(rv:aN vs its)(pl:s.heap.IsList p its.toArray)(hn:0<its.length)(lt:Nat->Nat->Bool)
  (hcmp:∀(i j:Nat) (u v:Value),its[i]? = some u->its[j]? = some v->∀(s':Shared) (Q E:Value->Shared->Prop),(∀ b o,s.heap.get? b=some o->s'.heap.get? b=some o)->Q (.bool (lt i j)) s'->wpAny (model X.prog X.w) X.A.in1 (richCompare .Lt u v) Q E s')
  (k:∀ v,vs[cY lt (its.length - 1) 1 0]? = some v->Q v H):wpAny (model X.prog X.w) X.A (call (.builtin "min") [.ref p]) (EP X pins σ Q) X.xe s:=by
 have hlt:p<s.heap.objs.size:=by
  obtain⟨o,ho,_⟩:=pl;exact Heap.lt_size ho
 have atN:∀ i,i<its.length->its[i]? = some (its.getD i .none):=fun i hi=>by
  simp[List.getD,List.getElem?_eq_getElem hi]
 refine ro (wpAny_pyIter_list pl ⟨s.heap.objs.size,[s.heap.objs.size,p],[s.heap.objs.size],its.toArray.size,_,_,fun i=>its.getD i .none,lt,rfl,Walks.list (A:=X.A.in1) (show X.A.in1.handled=none from I.ok.hd hc) s.heap.objs.size p (bo hlt) its.toArray,⟨⟨_,Heap.get?_push_size _ rfl,rfl,rfl⟩,pl.at fun o e=>Heap.get?_push_of_some _ e⟩,fun c hb=>?_,by rw[ah];exact hn,fun i v hP=>?_,fun i j s' Q' E' hi hj kp hQ=>?_,fun hp tk hk=>?_⟩)
 ·simp only[List.mem_cons,List.not_mem_nil,or_false] at hb;rw[Heap.size_push];rcases hb with rfl | rfl
  ·exact du _
  ·exact en hlt
 ·have hP:its.toArray[i]? = some v:=hP;rw[List.getElem?_toArray] at hP;simp[List.getD,hP]
 ·rw[ah] at hi hj;exact hcmp i j _ _ (atN i hi) (atN j hj) s' Q' E' (fun b o e=>kp b o (by
   intro z;rw[eg] at z;subst z;exact c7 _ (Heap.lt_size e)) (Heap.get?_push_of_some _ e)) hQ
 ·have J1:Inv X pins σ H { s with heap:=s.heap.push { cls:=.type "list_iterator",data:=.fields #[.ref p,.int 0 0] } }:=I.kept (t':=s.toks) fun b o e=>Heap.get?_push_of_some _ e
  obtain⟨f0,f1,f2,f3,f4,f5⟩:=I.fpOk (b:=s.heap.objs.size) (av _) (I.hok.fresh (av _));have J2:=J1.turned (t':=tk) (fun b o hb e=>hk b o (by simpa using hb) e) f0 f1 f3 f4 f5;rw[ah];have hb:cY lt (its.length - 1) 1 0<its.length:=nY _ _ _ (by omega) hn;have hvb:cY lt (its.length - 1) 1 0<vs.length:=by rw[rv.length];exact hb
  obtain⟨u,e1,e2⟩:=rv.get (List.getElem?_eq_getElem hvb);have:its.getD (cY lt (its.length - 1) 1 0) .none=u:=by
   have:=atN _ hb;rw[e1] at this;cases this;rfl
  show EP X pins σ Q (its.getD (cY lt (its.length - 1) 1 0) .none) _;rw[this];exact⟨_,H,J2,e2,k _ (List.getElem?_eq_getElem hvb)⟩
theorem o7 {its:List Value}{ns:List Int}(hi:IntsAre its ns)(i j:Nat)(u v:Value)(hu:its[i]? = some u)(hv:its[j]? = some v)(s':Shared)(Q E:Value->Shared->Prop)(h:Q (.bool (decide (ns.getD i 0<ns.getD j 0))) s'):wpAny (model X.prog X.w) X.A.in1 (richCompare .Lt u v) Q E s':=by
 obtain⟨_,hat⟩:=mU hi;obtain⟨a,t,h1,rfl⟩:=hat i u hu;obtain⟨b,t',h2,rfl⟩:=hat j v hv;have e1:ns.getD i 0=a:=by simp[List.getD,h1]
 have e2:ns.getD j 0=b:=by simp[List.getD,h2]
 rw[e1,e2] at h;exact HT.jU _ _ _ _ _ _ _ _ _ _ h
theorem pF (hu:X.A.units+1<cLine){a b:Addr}{xs ys:List Value}{ns ms:List Int}(h1:IsTup s.heap a xs.toArray)(h2:IsTup s.heap b ys.toArray)(i1:IntsAre xs ns)(i2:IntsAre ys ms)(s':Shared)(Q E:Value->Shared->Prop)(kp:∀ b o,s.heap.get? b=some o->s'.heap.get? b=some o)(h:Q (.bool (HT.lexLt ns ms)) s') :
  wpAny (model X.prog X.w) X.A.in1 (richCompare .Lt (.ref a) (.ref b)) Q E s':=by
 obtain⟨o,ho,r⟩:=h1;obtain⟨o',ho',r'⟩:=h2;exact (HT.pq (A:=X.A.in1) ⟨o,kp _ _ ho,r⟩ ⟨o',kp _ _ ho',r'⟩ (by simpa using i1) (by simpa using i2) hu h:wpAny (model X.prog X.w) X.A.in1 (compareOp .Lt (.ref a) (.ref b)) Q E s')
end
theorem rg:∀ a b:List Int,sC a b=HT.lexLt a b
 |[],[]=>rfl
 |[],_::_=>rfl
 |_::_,[]=>rfl
 | x::a,y::b=>by
  show (if x==y then sC a b else decide (x<y))=_;rw[HT.jV,rg a b];by_cases e:x=y
  ·rw[if_pos e,if_pos (by rw[e];exact cq y)]
  ·rw[if_neg e,if_neg (by rw[gj];exact e)]
section
variable {X:Cx}
theorem ph (hc:X.calm=true)(hu:X.A.units+40<cLine):dP X (.builtin "min") (mO X.K .min2):=by
 intro pins s σ H xs us Q I r h;obtain⟨ds,d,G,rs,hd,k⟩:=h
 match ds,hd with
 |[.int i,.int j],hd =>
  cases hd;obtain⟨x,y,G1,G2,rfl,rp,rp'⟩:=rs.of2;obtain⟨rfl,rfl⟩:=rp.int_inv;obtain⟨rfl,rfl⟩:=rp'.int_inv;exact sd hc pins s σ H _ us Q I r ⟨i,j,rfl,k _ H [] (.int _) eI.nil⟩
 |[.lst ys],hd =>
  have hd:minD ys=some d:=hd;obtain⟨x,rfl,rp⟩:=rs.of1;obtain⟨l,vs,g,rfl,rfl,a1,a2⟩:=rp.lst_inv;obtain⟨u,rfl,rx⟩:=r.one;obtain rfl:u = .ref l:=rx;obtain⟨its,rv,pl,_⟩:=I.list (.inl a1);have hlen:its.length=ys.length:=by rw[<-rv.length,<-a2.len]
  unfold minD at hd;by_cases he:ys.isEmpty=true
  ·rw[if_pos he] at hd;cases hd
  rw[if_neg he] at hd;have hn:0<its.length:=by
   rw[hlen];cases ys with
   |nil=>exact absurd rfl he
   |cons _ _=>exact Nat.succ_pos _
  have fin:∀ lt:Nat->Nat->Bool,ys[cY lt (ys.length - 1) 1 0]? = some d->(d.flat=true\/g=[])->∀ v,vs[cY lt (its.length - 1) 1 0]? = some v->Q v H:=fun lt hy hf v hv=>by
   rw[hlen] at hv;obtain⟨v',G',e1,e2,e3⟩:=a2.get hy;rw[hv] at e1;cases e1;have:G'=[]:=by
    rcases hf with hf | rfl
    ·exact e2.flat hf
    ·exact List.sublist_nil.mp e3
   subst this;exact k _ H [] e2 eI.nil
  cases hk:eQ ys with
  |some ns =>
   rw[hk] at hd;have hy:=cZ hk;have ia:IntsAre its ns:=by
    rw[hy] at a2;exact h9 a2 rv
   refine vy hc I rv pl.isList hn _ (fun i j u v hi hj s' Q' E' _ h=>o7 ia i j u v hi hj s' Q' E' h) (fin _ hd (.inl ?_));rw[hy] at hd;obtain⟨n,_,rfl⟩:=List.mem_map.mp (List.mem_of_getElem? hd);rfl
  |none =>
   rw[hk] at hd;dsimp only at hd;rw[ae] at hd;obtain⟨ks,hks,hd⟩:=hd;obtain⟨kl,kt,kn,kg⟩:=lN I hks a2 rv;refine vy hc I rv pl.isList hn _ (fun i j u v hi hj s' Q' E' kp h=>?_) (fin _ hd (.inr kg));have at1:∀(i:Nat) (u:Value),its[i]? = some u->∃ a xs,u = .ref a/\IsTup s.heap a xs.toArray/\IntsAre xs (ks.getD i []):=fun i u hi=>by
    have hlt:i<ks.length:=by rw[kl];exact (List.getElem?_eq_some_iff.mp hi).1
    obtain⟨a,o,xs,n,e1,e2,e3,e4,e5⟩:=kt i _ (List.getElem?_eq_getElem hlt);have hgu:its.getD i .none=u:=by rw[List.getD_eq_getElem?_getD,hi];rfl
    rw[hgu] at e1;refine⟨a,xs.toList,e1,⟨o,e2,e3,n,by rw[e4]⟩,?_⟩;rw[List.getD_eq_getElem?_getD,List.getElem?_eq_getElem hlt];exact e5
   obtain⟨a,xs,rfl,t1,i1⟩:=at1 i u hi;obtain⟨b,zs,rfl,t2,i2⟩:=at1 j v hj;rw[rg] at h;exact pF (by omega) t1 t2 i1 i2 s' Q' E' kp h
end
section
variable {X:Cx}
theorem sP:dP X (.type "int") (mO X.K .int):=by
 intro pins s σ H xs us Q I r h;obtain⟨ds,d,G,rs,hd,k⟩:=h
 match ds,hd with
 |[.str z],hd =>
  obtain⟨x,rfl,rp⟩:=rs.of1;obtain⟨rfl,rfl⟩:=rp.str_inv;obtain⟨u,rfl,⟨t,rfl⟩⟩:=r.one;have hd:(if z.length<=640 then (PySem.intText? z).map D.int else none)=some d:=hd;by_cases hz:z.length<=640
  ·rw[if_pos hz,aa] at hd;obtain⟨n,hn,rfl⟩:=hd;exact PySem.W.KIN.call_text hn hz ⟨.int n,H,I.tok _,⟨_,rfl⟩,k _ H [] (.int n) eI.nil⟩
  ·rw[if_neg hz] at hd;cases hd
 |[.int i],hd =>
  cases hd;obtain⟨x,rfl,rp⟩:=rs.of1;obtain⟨rfl,rfl⟩:=rp.int_inv;obtain⟨u,rfl,⟨t,rfl⟩⟩:=r.one;exact call_int_int ⟨.int i,H,I,⟨_,rfl⟩,k _ H [] (.int i) eI.nil⟩
 |[.bl b],hd =>
  cases hd;obtain⟨x,rfl,rp⟩:=rs.of1;obtain⟨rfl,rfl⟩:=rp.bl_inv;obtain⟨u,rfl,ru⟩:=r.one;cases ru;exact call_int_bool ⟨.int _,H,I.tok _,⟨_,rfl⟩,k _ H [] (.int _) eI.nil⟩
theorem ui {m:BL}{a d:D}{bs:List D}(hm:m = .sfind\/m = .sindex)(h:mP m a bs=some d):(∃ z y n,a = .str z/\bs=[.str y]/\d = .int n)\/(m = .sindex/\∃(ns:List Int) (k:Int),a = .lst (ns.map .int)/\bs=[.int k]/\k∈ns/\ns.length<=lim/\d = .int ((ns.idxOf k:Nat):Int)):=by
 rcases hm with rfl | rfl
 ·cases a with
  |str z=>cases bs with
   |nil=>cases h
   |cons b r=>cases b with
    |str y=>cases r with
     |nil=>cases h;exact .inl ⟨z,y,_,rfl,rfl,rfl⟩
     |cons _ _=>cases h
    |_=>cases h
  |_=>cases h
 ·cases a with
  |str z=>cases bs with
   |nil=>cases h
   |cons b r=>cases b with
    |str y=>cases r with
     |nil =>
      have h:(match Builtin.Str.occurrences z y 0 z.length 1 with
       |i::_=>some (D.int (i:Int))
       |[]=>none)=some d:=h
      split at h
      ·cases h;exact .inl ⟨z,y,_,rfl,rfl,rfl⟩
      ·cases h
     |cons _ _=>cases h
    |_=>cases h
  |lst xs=>cases bs with
   |nil=>cases h
   |cons b r=>cases b with
    |int k=>cases r with
     |nil =>
      have h:((eQ xs).bind fun ns=>if k∈ns/\ns.length<=lim then some (D.int ((ns.idxOf k:Nat):Int)) else none)=some d:=h;rw[ae] at h;obtain⟨ns,h1,h2⟩:=h;by_cases hk:k∈ns/\ns.length<=lim
      ·rw[if_pos hk] at h2;cases h2;exact .inr ⟨rfl,ns,k,by rw[cZ h1],rfl,hk.1,hk.2,rfl⟩
      ·rw[if_neg hk] at h2;cases h2
     |cons _ _=>cases h
    |_=>cases h
  |_=>cases h
def x4 (m:BL):V->List V->Hp->VK->Prop:=fun x xs H Q=>∃ z y n,x = .str z/\xs=[.str y]/\mP m (.str z) [.str y]=some (.int n)/\Q (.int n) H
theorem yB:vZ X "str.find" (x4 .sfind):=by
 intro pins s σ H x xs v us Q I rx r h;obtain⟨z,y,n,rfl,rfl,hd,q⟩:=h;obtain⟨t,rfl⟩:=rx;obtain⟨u,rfl,⟨t',rfl⟩⟩:=r.one;cases hd;exact call_gives PySem.F.slot_str_find (typeIs_str s z t) PySem.F.entry_str_find (PySem.F.args_str_find_2 _ _) (gives_str_find z y t t') ⟨.int _,H,I.tok _,⟨_,rfl⟩,q⟩
theorem uv:vZ X "str.index" (x4 .sindex):=by
 intro pins s σ H x xs v us Q I rx r h;obtain⟨z,y,n,rfl,rfl,hd,q⟩:=h;obtain⟨t,rfl⟩:=rx;obtain⟨u,rfl,⟨t',rfl⟩⟩:=r.one;have hd:(match Builtin.Str.occurrences z y 0 z.length 1 with
  |i::_=>some (D.int (i:Int))
  |[]=>none)=some (.int n):=hd
 split at hd
 ·rename_i i rest ho;cases hd;exact call_gives PySem.F.slot_str_index (typeIs_str s z t) PySem.F.entry_str_index (PySem.F.args_str_index_2 _ _) (gives_str_index z y t t' i rest ho) ⟨.int _,H,I.tok _,⟨_,rfl⟩,q⟩
 ·cases hd
def CJ (K:Frag):V->List V->Hp->VK->Prop:=fun x xs H Q=>∃(p:Addr) (ns:List Int) (k:Int) (G:List Addr),x = .ref p/\xs=[.int k]/\k∈ns/\ns.length<=lim/\Rep K H (.lst (ns.map .int)) (.ref p) G/\Q (.int ((ns.idxOf k:Nat):Int)) H
theorem um {T:Tb}{m:BL}{co ce:Ex}{σ:L2.St}{H:Hp}{Q:VK}(hm:m = .sfind\/m = .sindex)(h:tE X.K T (.mth m co (.cons ce .nil)) σ H Q):C8 X.K "str" (x4 m) (tE X.K T co) (sQ X.K T (.cons ce .nil)) σ H Q\/(m = .sindex/\C8 X.K "list" (CJ X.K) (tE X.K T co) (sQ X.K T (.cons ce .nil)) σ H Q):=by
 obtain⟨P,env,F,re,p,hev,k⟩:=h;unfold ev at hev;obtain⟨q,h1,hev⟩:=Rs.bind_ok hev;obtain⟨l,h2,hev⟩:=Rs.bind_ok hev;obtain⟨d,h3,hev⟩:=Rs.bind_ok hev;have h3:=cF h3;cases hev;rcases ui hm h3 with ⟨z,y,n,e1,e2,rfl⟩ | ⟨rfl,ns,j,e1,e2,hk,hl,rfl⟩
 ·refine .inl ⟨P,env,F,re,q,h1,fun v H1 G s rp rt=>?_⟩;rw[e1] at rp h3;obtain⟨rfl,rfl⟩:=rp.str_inv;refine⟨rfl,P,env,F,re.same s,l,h2,fun vs H2 G' ar=>?_⟩;have rs:=ar.reps;rw[e2] at rs h3;obtain⟨x,rfl,rp2⟩:=rs.of1;obtain⟨rfl,_⟩:=rp2.str_inv;exact⟨z,y,n,rfl,rfl,h3,k _ H2 [] (s.trans ar.same) (.int n) bK.nil⟩
 ·refine .inr ⟨rfl,P,env,F,re,q,h1,fun v H1 G s rp rt=>?_⟩;rw[e1] at rp;obtain⟨p',vs,g,rfl,rfl,a1,a2⟩:=id rp.lst_inv;refine⟨.inl ⟨rfl,vs,.inl a1⟩,P,env,F,re.same s,l,h2,fun ws H2 G' ar=>?_⟩;have rs:=ar.reps;rw[e2] at rs;obtain⟨x,rfl,rp2⟩:=rs.of1;obtain⟨rfl,_⟩:=rp2.int_inv;exact⟨p',ns,j,_,rfl,rfl,hk,hl,rp.same ar.same,k _ H2 [] (s.trans ar.same) (.int _) bK.nil⟩
theorem intsAre_of {K:Frag}{H:Hp}:∀{ns:List Int}{vs:List V}{G:List Addr}{us:List Value},aD K H (ns.map D.int) vs G->aN vs us->IntsAre us ns
 |[],_,_,_,.nil,.nil=>.nil
 | n::ns,_,_,_,.cons h r,.cons x y=>by
  obtain⟨rfl,_⟩:=h.int_inv;obtain⟨t,rfl⟩:=x;exact .cons _ _ (intsAre_of r y)
theorem wM:vZ X "list.index" (CJ X.K):=by
 intro pins s σ H x xs v us Q I rx r h;obtain⟨p,ns,k,G,rfl,rfl,hk,hl,rp,q⟩:=h;cases rx;obtain⟨u,rfl,⟨t',rfl⟩⟩:=r.one;obtain⟨p',vs,g,e,rfl,a1,a2⟩:=rp.lst_inv;cases e;obtain⟨its,rv,pl,_⟩:=I.list (.inl a1);exact vB pl.isList (intsAre_of a2 rv) (be hl (by decide)) hk ⟨.int _,H,I.tok _,⟨_,rfl⟩,q⟩
end
section
variable {X:Cx}
theorem lU:∀{xs:List D}{k:List Str},uT xs=some k->xs=k.map D.str
 |[],k,h=>by cases h;rfl
 | .str i::r,k,h=>by
  have h:(uT r).map (i :: ·)=some k:=h;rw[aa] at h;obtain⟨k',h1,rfl⟩:=h;rw[lU h1];rfl
theorem j9 {K:Frag}{H:Hp}:∀{ns:List Str}{vs:List V}{G:List Addr}{us:List Value},aD K H (ns.map D.str) vs G->aN vs us->StrsAre us ns
 |[],_,_,_,.nil,.nil=>.nil
 | n::ns,_,_,_,.cons h r,.cons x y=>by
  obtain⟨rfl,_⟩:=h.str_inv;obtain⟨t,rfl⟩:=x;exact .cons _ _ (j9 r y)
def rJoin (K:Frag):V->List V->Hp->VK->Prop:=fun x xs H Q=>∃(z:Str) (p:Addr) (ys:List Str) (G:List Addr),x = .str z/\xs=[.ref p]/\Rep K H (.lst (ys.map .str)) (.ref p) G/\(ys.map (·.length)).sum+ys.length*z.length<=lim/\Q (.str (Str.join z ys)) H
theorem yn:vZ X "str.join" (rJoin X.K):=by
 intro pins s σ H x xs v us Q I rx r h;obtain⟨z,p,ys,G,rfl,rfl,rp,hl,q⟩:=h;obtain⟨t,rfl⟩:=rx;obtain⟨u,rfl,ru⟩:=r.one;cases ru;obtain⟨p',vs,g,e,rfl,a1,a2⟩:=rp.lst_inv;cases e;obtain⟨its,rv,pl,_⟩:=I.list (.inl a1);refine join_list pl.isList (by simpa using j9 a2 rv) (Nat.le_trans hl (by decide)) fun t' k=>⟨.str _,H,I.kept (t':=k) fun b o e=>e,?_,q⟩
 show RelV (.str _) (.str (Builtin.Str.glued z ys) t');rw[StrLaws.glued_eq_join];exact⟨t',rfl⟩
theorem r6 {T:Tb}{co ce:Ex}{σ:L2.St}{H:Hp}{Q:VK}(h:tE X.K T (.mth .sjoin co (.cons ce .nil)) σ H Q):C8 X.K "str" (rJoin X.K) (tE X.K T co) (sQ X.K T (.cons ce .nil)) σ H Q:=by
 obtain⟨P,env,F,re,p,hev,k⟩:=h;unfold ev at hev;obtain⟨q,h1,hev⟩:=Rs.bind_ok hev;obtain⟨l,h2,hev⟩:=Rs.bind_ok hev;obtain⟨d,h3,hev⟩:=Rs.bind_ok hev;have h3:=cF h3;cases hev;have inv:∃(z:Str) (ys:List Str),q.1 = .str z/\l.map (·.1)=[.lst (ys.map .str)]/\(ys.map (·.length)).sum+ys.length*z.length<=lim/\d = .str (Str.join z ys):=by
  generalize q.1=a at h3;generalize l.map (·.1)=bs at h3
  match a,bs,h3 with
  |.str z,[.lst xs],h3 =>
   have h3:((uT xs).bind fun ys=>if (ys.map (·.length)).sum+ys.length*z.length<=lim then some (D.str (Str.join z ys)) else none)=some d:=h3;rw[ae] at h3;obtain⟨ys,hy,h3⟩:=h3;by_cases hc:(ys.map (·.length)).sum+ys.length*z.length<=lim
   ·rw[if_pos hc] at h3;cases h3;exact⟨z,ys,rfl,by rw[lU hy],hc,rfl⟩
   ·rw[if_neg hc] at h3;cases h3
 obtain⟨z,ys,e1,e2,hc,rfl⟩:=inv;refine⟨P,env,F,re,q,h1,fun v H1 G s rp rt=>?_⟩;rw[e1] at rp;obtain⟨rfl,rfl⟩:=rp.str_inv;refine⟨rfl,P,env,F,re.same s,l,h2,fun ws H2 G' ar=>?_⟩;have rs:=ar.reps;rw[e2] at rs;obtain⟨x,rfl,rp2⟩:=rs.of1;obtain⟨p',vs,g,rfl,rfl,a1,a2⟩:=id rp2.lst_inv;exact⟨z,p',ys,_,rfl,rfl,rp2,hc,k _ H2 [] (s.trans ar.same) (.str _) bK.nil⟩
end
structure Sc where
 N:List Str
 sc:Scope
 fns:List Str
 pN:List Str
 fH:List Str
noncomputable def idxOf:List Str->Str->Option Nat
 |[],_=>none
 |y::r,x=>if y=x then some 0 else (idxOf r x).map (· + 1)
theorem bO:∀{l:List Str}{x:Str}{i:Nat},idxOf l x=some i->l[i]? = some x
 | y::r,x,i,h=>by
  simp only[idxOf] at h;by_cases e:y=x
  ·rw[if_pos e] at h;cases h;rw[e];rfl
  ·rw[if_neg e,aa] at h;obtain⟨j,hj,rfl⟩:=h;simpa using bO hj
noncomputable def cK (sc:Scope)(x:Str):Option NameKind:=sc.names.lookup x
noncomputable def n8 (sc:Scope)(x:Str):Bool:=match cK sc x with
 |some .local=>true
 |some .cell=>true
 |some .free=>true
 |_=>false
noncomputable def iR (sc:Scope)(x:Str):Bool:=match cK sc x with
 |some .local=>true
 |some .cell=>true
 |_=>false
noncomputable def oy (sc:Scope)(x:Str):Bool:=match cK sc x with
 |some .globalImplicit=>true
 |_=>false
noncomputable def cG (x:Str):Bool:=!(x==("__debug__" : Str)) && !(x==("__classdict__" : Str)) && !(x==("__name__" : Str))
noncomputable def notStar:Expr->Bool
 |.Starred _ _=>false
 |_=>true
noncomputable def fA:Expr->Bool
 |.Set _ _ _=>false
 |_=>true
noncomputable def mB:Expr->Bool
 |.Slice _ _ _ _=>false
 |_=>true
noncomputable def gE:Expr->Bool
 |.ListComp _ _ _ _=>true
 |.SetComp _ _ _ _=>true
 |.DictComp _ _ _ _ _=>true
 |_=>false
noncomputable def cI (f:Expr->Option Ex):List Expr->Option kK
 |[]=>some .nil
 |e::es=>if notStar e then (f e).bind fun c=>(cI f es).map fun cs=>.cons c cs else none
noncomputable def CD (f:Expr->Option Ex)(op:BoolOp):List Expr->Option Ex
 |[]=>none
 |[a]=>f a
 |a::r=>(f a).bind fun c=>(CD f op r).map fun d=>match op with
  |.And=>.and c d
  |.Or=>.or c d
noncomputable def ku (S:Sc):List Expr->Option (List Nat)
 |[]=>some []
 |.Name x _::r=>if iR S.sc x then (idxOf S.N x).bind fun i=>(ku S r).map fun is=>i::is else none
 |_::_=>none
noncomputable def sD (S:Sc):Expr->Option jo
 |.Name x _=>if iR S.sc x then (idxOf S.N x).map .nm else none
 |.Tuple es _ _=>(ku S es).map .tp
 |_=>none
noncomputable def u5 (f:Expr->Option Ex):Option Expr->Option lB
 |none=>some .none
 |some e=>(f e).map .some
noncomputable def Bm (S:Sc)(x:Str):Bool:=oy S.sc x&&S.fH.contains x
noncomputable def isTup:Expr->Bool
 |.Tuple _ _ _=>true
 |_=>false
noncomputable def BQ (S:Sc)(f:Expr->Option Ex)(tp:Bool):Expr->Option qu
 | .Call (.Name x p) es [] pos=>if x = "range" then (if Bm S "range" then (match cI f es with
   | some (.cons a .nil)=>some (.rng1 a)
   | some (.cons a (.cons b .nil))=>some (.rng2 a b)
   | some (.cons a (.cons b (.cons c .nil)))=>some (.rng3 a b c)
   |_=>none) else none) else if x = "enumerate" then none else if x = "reversed" then none else if x = "zip" then none else (f (.Call (.Name x p) es [] pos)).map .seq
 |e=>if fA e then (f e).map .seq else none
noncomputable def aZ (sc:Scope):List Str:=(sc.names.filter fun p=>(p.2 == .local || p.2 == .cell)&&p.1 != (".0" : Str)).map (·.1)
noncomputable def bB (sc:Scope):List Str:=(sc.names.filter fun p=>p.2 == .free).map (·.1)
noncomputable def iG:List (Option Nat)->Option (List Nat)
 |[]=>some []
 |some i::r=>(iG r).map (i :: ·)
 |none::_=>none
noncomputable def iW (S:Sc)(sc:Scope):Bool :=
 sc.kind == .function&&sc.names.all (fun p=>p.2 != .cell || cK sc p.1==some .cell)&&sc.names.all (fun p=>p.2 != .local || cK sc p.1==some .local)&&sc.names.all (fun p=>p.2 != .free || (cK sc p.1==some .free&&(cK S.sc p.1==some .cell || cK S.sc p.1==some .free))) &&
 decide (aZ sc++bB sc).Nodup
noncomputable def rR (own:Nat):jo->Bool
 |.nm i=>decide (i<own)
 |.tp is=>is.all fun i=>decide (i<own)
noncomputable def CB (x:Str):Option zD:=if x = "len" then some .len else if x = "all" then some .all else if x = "list" then some .list else if x = "min" then some .min2 else if x = "int" then some .int else if x = "sum" then some .sum else none
noncomputable def zx (t:Str):Option String:=if t = "int" then some "int" else if t = "bool" then some "bool" else if t = "str" then some "str" else if t = "list" then some "list" else if t = "tuple" then some "tuple" else none
noncomputable def C0 (S:Sc)(f:Expr->Option Ex):List Expr->Option Ex
 |[a,.Name t _]=>if oy S.sc t&&S.fH.contains t&&cG t&&notStar a then (zx t).bind fun u=>(f a).map fun ca=>.blt (.isi u) (.cons ca .nil) else none
 |_=>none
noncomputable def kX:List Expr->Bool
 | [.Call (.Name r _) [_] [] _]=>r==("reversed" : Str)
 |_=>false
noncomputable def B2 (S:Sc)(f:Expr->Option Ex):List Expr->Option Ex
 |_=>none
noncomputable def lj:List Expr->Bool
 | [.Call (.Name r _) _ [] _]=>r==("range" : Str)
 |_=>false
noncomputable def CV (S:Sc)(f:Expr->Option Ex):List Expr->Option Ex
 |_=>none
noncomputable def qN (S:Sc)(f:Expr->Option Ex)(x:Str)(es:List Expr):Option Ex :=
 if cG x&&oy S.sc x then (match idxOf S.fns x with
  |some i=>(cI f es).map fun cs=>.call i cs
  |none=>if S.fH.contains x then (if x = "isinstance" then C0 S f es else if x = "list"/\kX es=true then B2 S f es else if x = "list"/\lj es=true then CV S f es else match es with
    |[]=>none
    |e::r=>(CB x).bind fun b=>(cI f (e::r)).map fun cs=>.blt b cs) else none) else none
noncomputable def u7 (S:Sc)(f:Expr->Option Ex)(x:Str)(a d:Expr)(k:Str):Option Ex :=
 none
noncomputable def ub (x:Str):Option BL:=if x = "find" then some .sfind else if x = "index" then some .sindex else none
noncomputable def tD:Expr->Bool
 |.Name _ _=>true
 |.Subscript _ _ _=>true
 |.Constant _ _ _=>true
 | .Call _ (_::_) _ _=>true
 |_=>false
noncomputable def xK (f:Expr->Option Ex)(o:Expr)(name:Str)(es:List Expr)(apos cpos:Pos):Option Ex:=match es with
 |[e]=>if apos.endLine==cpos.line&&tD o then if name = "join" then (f o).bind fun co=>(cI f [e]).bind fun cs=>(match cs with
  |.cons ce .nil=>some (.mth .sjoin co (.cons ce .nil))
  |_=>none)
  else (ub name).bind fun m=>(f o).bind fun co=>(cI f [e]).bind fun cs=>match cs with
  |.cons ce .nil=>some (.mth m co (.cons ce .nil))
  |_=>none
  else none
 |_=>none
noncomputable def C7 (f:Expr->Option Ex):List Expr->Option lB
 |[]=>some .none
 |[c]=>(f c).map .some
 |_=>none
noncomputable def nZ (S:Sc)(f:Sc->Expr->Option Ex)(elt tg iter:Expr)(ifs:List Expr)(sc:Scope):Option Ex :=
 if iW S sc&&fA iter then
  (BQ S (f S) (isTup tg) iter).bind fun it=>(iG ((bB sc).map (idxOf S.N))).bind fun pick =>
   (sD { S with N:=aZ sc++bB sc,sc:=sc } tg).bind fun t=>if rR (aZ sc).length t then
    (C7 (f { S with N:=aZ sc++bB sc,sc:=sc }) ifs).bind fun c=>(f { S with N:=aZ sc++bB sc,sc:=sc } elt).map fun ce=>.comp (aZ sc).length pick t it c ce
   else none
 else none
noncomputable def tN (S:Sc)(x:Str):Option Ex:=if cG x then (if n8 S.sc x then (idxOf S.N x).map .var else if oy S.sc x then (idxOf S.pN x).map .glb else none) else none
noncomputable def Cw:Const->Option Ex
 |.int i=>some (.cst (.int i))
 |.bool b=>some (.cst (.bl b))
 |.none=>some (.cst .non)
 |.str s=>some (.cst (.str s))
 |_=>none
noncomputable def cUn (op:UnaryOp)(o:Option Ex):Option Ex:=match op with
 |.USub=>o.map .neg
 |.Not=>o.map .not
 |_=>none
noncomputable def vD (f:Expr->Option Ex)(a:Expr)(op:CmpOp)(b:Expr):Option Ex:=if behindInMarks op b then none else (f a).bind fun ca=>(f b).map fun cb=>.cmp op ca cb
noncomputable def yO (f:Expr->Option Ex)(a:Expr)(op op':CmpOp)(b c:Expr):Option Ex:=none
noncomputable def Dh (f:Expr->Option Ex)(a:Expr):List CmpOp->List Expr->Option Ex
 |[],_=>none
 |[op],bs=>(match bs with
  |[]=>none
  |[b]=>vD f a op b
  |_::_::_=>none)
 |op::op'::ops,bs=>(match ops with
  |[]=>(match bs with
   |[]=>none
   |[_]=>none
   |b::c::r=>(match r with
    |[]=>yO f a op op' b c
    |_::_=>none))
  |_::_=>none)
noncomputable def yL (f:Expr->Option Ex)(a b:Expr):Option Ex:=match b with
 |.Slice lo hi st _=>(match st with
  |none=>(f a).bind fun ca=>(u5 f lo).bind fun l=>(u5 f hi).map fun h=>.sl ca l h
  |some _=>none)
 |b=>if mB b then (f a).bind fun ca=>(f b).map fun cb=>.ix ca cb else none
noncomputable def vj (S:Sc)(f:Expr->Option Ex)(x:Str)(es:List Expr):List Keyword->Option Ex
 |[]=>qN S f x es
 |[⟨k,d,_⟩]=>(match k with
  |none=>none
  |some k=>(match es with
   |[]=>none
   |[a]=>u7 S f x a d k
   |_::_::_=>none))
 |_::_::_=>none
noncomputable def uw (S:Sc)(f:Expr->Option Ex)(g:Expr)(es:List Expr)(ks:List Keyword)(cpos:Pos):Option Ex:=match g with
 |.Name x _=>vj S f x es ks
 |.Attribute o name apos=>(match ks with
  |[]=>xK f o name es apos cpos
  |_::_=>none)
 |_=>none
noncomputable def cLC (S:Sc)(f:Sc->Expr->Option Ex)(elt:Expr)(sc:Scope):List Comprehension->Option Ex
 |[]=>none
 |[⟨tg,iter,ifs,as⟩]=>if as=0 then nZ S f elt tg iter ifs sc else none
 |_::_::_=>none
noncomputable def BI:Expr->Bool
 |.List [] _=>true
 |_=>false
noncomputable def qm:Expr->Option Expr
 |.List [e] _=>(match e with
  |.Tuple es k p=>if es.any BI then some (.Tuple es k p) else none
  |_=>none)
 |_=>none
noncomputable def isAdd:Operator->Bool
 |.Add=>true
 |_=>false
noncomputable def Ap (f:Expr->Option Ex)(a:Expr)(op:Operator)(b:Expr):Option Ex:=match qm b with
 |some e=>if isAdd op then (f a).bind fun ca=>(f e).map fun ce=>.snoc ca ce else none
 |none=>(f a).bind fun ca=>(f b).map fun cb=>.bin op ca cb
noncomputable def vX:Option Expr->Option Str
 | some (.Name x _)=>some x
 |_=>none
noncomputable def Bi:Expr->Option Int
 | .Constant (.int v) _ _=>some v
 |_=>none
noncomputable def uF (S:Sc):List (Option Expr)->List Expr->Option (List (Nat×Int))
 |[],[]=>some []
 |k::ks,e::vs=>(vX k).bind fun x=>(Bi e).bind fun v=>if cG x&&oy S.sc x then (idxOf S.pN x).bind fun i=>(uF S ks vs).map fun l=>(i,v)::l else none
 |_,_=>none
noncomputable def zS (S:Sc):List (Option Expr)->List Expr->Option Ex
 |[],[]=>none
 |k::ks,vs=>if (k::ks).length<=15 then (uF S (k::ks) vs).map .ddsp else none
 |_,_=>none
noncomputable def cE:Nat->Sc->Expr->Option Ex
 |0,_,_=>none
 |n+1,S,e=>match e with
  |.Name x _=>tN S x
  |.Constant c _ _=>Cw c
  |.BinOp a op b _=>Ap (cE n S) a op b
  |.UnaryOp op a _=>cUn op (cE n S a)
  |.BoolOp op es _=>CD (cE n S) op es
  |.Compare a ops bs _=>Dh (cE n S) a ops bs
  |.IfExp c a b _=>(cE n S c).bind fun cc=>(cE n S a).bind fun ca=>(cE n S b).map fun cb=>.ite cc ca cb
  |.List es _=>(cI (cE n S) es).map .lst
  |.Tuple es _ _=>(cI (cE n S) es).map .tup
  |.Subscript a b _=>yL (cE n S) a b
  |.Call g es ks pos=>uw S (cE n S) g es ks pos
  |.ListComp elt gens sc _=>cLC S (cE n) elt sc gens
  |.Dict ks vs _=>zS S ks vs
  |_=>none
structure Ctx (X:Cx)(S:Sc)(T:Tb):Prop where
 N:X.N=S.N
 nd:S.N.Nodup
 vis:∀ x,n8 S.sc x=true->yU X.env.scope x
 loc:∀ x,iR S.sc x=true->Loc X.env.scope x/\(X.fn x=true\/X.env.scope.names.lookup x=some .local)
 gl:∀ x,oy S.sc x=true->Gl X x
 cel:∀ x,(cK S.sc x=some .cell\/cK S.sc x=some .free)->(X.env.kindOf x=some .cell\/X.env.kindOf x=some .free)
 units:X.A.units+40<cLine/\sY X.w X.K
 calm:X.calm=true
 fns:∀ i x,idxOf S.fns x=some i->∃ f fd ps k,jh X.prog X.w X.K X.mg X.base uO k f fd ps (ti X.K ps.length (T.cl i))/\eT k X.A/\X.mg x=some (.ref f)/\PySem.W.keepIn X.K (.ref f)=true/\Binds X.K fd ps []/\∀ ds r,T.cl i ds = .ok r->ds.length=ps.length
 pN:∀ i x,idxOf S.pN x=some i->∃ v u,X.mg x=some u/\RelV v u/\∀ H,Rep X.K H (T.gl i) v []
 fH:∀ x,S.fH.contains x=true->X.mg x=none
theorem bD {e:Expr}{es:List Expr}{env:Env}(h:notStar e=true):starEach (e::es) env=(false,eval e env)::starEach es env:=by
 cases e<;>first | rfl | (cases h)
theorem pG {e:Expr}{env:Env}(h:fA e=true)(x:Value):foldedSetIterable e env x=pure x:=by
 cases e<;>first | rfl | (cases h)
theorem ug {e:Expr}(h:mB e=true):mQ e:=by
 intro o i;cases e<;>first | rfl | (cases h)
theorem bJ {f:Expr->Option Ex}{e:Expr}{es:List Expr}{cs:kK}(h:cI f (e::es)=some cs):notStar e=true/\∃ c d,f e=some c/\cI f es=some d/\cs = .cons c d:=by
 unfold cI at h;by_cases hs:notStar e=true
 ·rw[if_pos hs] at h;rw[ae] at h;obtain⟨c,h1,h2⟩:=h;rw[aa] at h2;obtain⟨d,h2,rfl⟩:=h2;exact⟨hs,c,d,h1,h2,rfl⟩
 ·rw[if_neg hs] at h;cases h
theorem dG {f:Expr->Option Ex}{env:Env}{pos:Pos}:∀{es:List Expr}{cs:kK},cI f es=some cs->(backTo pos (starEach es env)).any (·.1)=false
 |[],cs,_=>rfl
 | e::es,cs,h=>by
  obtain⟨hs,c,d,_,h2,_⟩:=bJ h;rw[bD hs];show (false || (backTo pos (starEach es env)).any (·.1))=false;rw[dG h2];rfl
theorem cD {x:Str}(h:cG x=true):(x==("__debug__" : Str))=false/\(x==("__classdict__" : Str))=false/\x≠"__name__":=by
 unfold cG at h;rw[aj,aj] at h;obtain⟨⟨h1,h2⟩,h3⟩:=h;refine⟨by simpa using h1,by simpa using h2,fun e=>?_⟩;subst e;simp at h3
theorem AM {X:Cx}{T:Tb}{c a b:Expr}{cc ca cb:Ex}{pos:Pos}(hc:PT X c (kJ X.K T cc))(ha:PT X a (kJ X.K T ca))(hb:PT X b (kJ X.K T cb)):PT X (.IfExp c a b pos) (kJ X.K T (.ite cc ca cb)):=by
 intro pins s σ H Q I h;obtain⟨P,env,F,re,p,bb,hev,ht,k⟩:=h;unfold ev at hev;obtain⟨q,h1,hev⟩:=Rs.bind_ok hev;obtain⟨kb,h2,hev⟩:=Rs.bind_ok hev;refine isTrue_IfExp (bW (hc pins s σ H (fun d H'=>d=kb/\aE H H') I ⟨P,env,F,re,q,kb,h1,cF h2,fun H' s=>⟨rfl,s⟩⟩) fun d s1 ⟨H1,I1,e,s⟩=>?_);subst e;cases d with
 |true=>exact ha pins s1 σ H1 Q I1 ⟨P,env,F,re.same s,p,bb,hev,ht,fun H' s'=>k H' (s.trans s')⟩
 |false=>exact hb pins s1 σ H1 Q I1 ⟨P,env,F,re.same s,p,bb,hev,ht,fun H' s'=>k H' (s.trans s')⟩
theorem uc {T:Tb}{a:Ex}{env:En}{p}(hev:gY T (.rng1 a) env = .ok p):p.2=[]/\∃ l,bE T (.cons a .nil) env = .ok l/\((∃ j,l.map (·.1)=[.int j]/\fP j=true/\p.1=bA 0 1 j.toNat)\/(∃ i j,l.map (·.1)=[.int i,.int j]/\fP i=true/\fP j=true/\p.1=bA i 1 (j - i).toNat) \/
   ∃ i j k,l.map (·.1)=[.int i,.int j,.int k]/\fP i=true/\fP j=true/\k≠0/\k.natAbs<1073741824/\p.1=bA i k (Builtin.Range.rangeSize i j k).toNat):=by
 unfold gY at hev;obtain⟨q,h1,hev⟩:=Rs.bind_ok hev;split at hev
 ·rename_i j hj;split at hev
  ·rename_i ho;cases hev;exact⟨rfl,[q],by unfold bE;rw[h1];unfold bE;rfl,.inl ⟨j,by simp[hj],ho,rfl⟩⟩
  ·cases hev
 ·cases hev
theorem uA {T:Tb}{a b:Ex}{env:En}{p}(hev:gY T (.rng2 a b) env = .ok p):p.2=[]/\∃ l,bE T (.cons a (.cons b .nil)) env = .ok l/\((∃ j,l.map (·.1)=[.int j]/\fP j=true/\p.1=bA 0 1 j.toNat)\/(∃ i j,l.map (·.1)=[.int i,.int j]/\fP i=true/\fP j=true/\p.1=bA i 1 (j - i).toNat) \/
   ∃ i j k,l.map (·.1)=[.int i,.int j,.int k]/\fP i=true/\fP j=true/\k≠0/\k.natAbs<1073741824/\p.1=bA i k (Builtin.Range.rangeSize i j k).toNat):=by
 unfold gY at hev;obtain⟨q,h1,hev⟩:=Rs.bind_ok hev;obtain⟨r,h2,hev⟩:=Rs.bind_ok hev;split at hev
 ·rename_i i j hi hj;split at hev
  ·rename_i ho;cases hev;rw[aj] at ho;exact⟨rfl,[q,r],by unfold bE;rw[h1];unfold bE;rw[h2];unfold bE;rfl,.inr (.inl ⟨i,j,by simp[hi,hj],ho.1,ho.2,rfl⟩)⟩
  ·cases hev
 ·cases hev
theorem vt {T:Tb}{a b c:Ex}{env:En}{p}(hev:gY T (.rng3 a b c) env = .ok p):p.2=[]/\∃ l,bE T (.cons a (.cons b (.cons c .nil))) env = .ok l/\((∃ j,l.map (·.1)=[.int j]/\fP j=true/\p.1=bA 0 1 j.toNat)\/(∃ i j,l.map (·.1)=[.int i,.int j]/\fP i=true/\fP j=true/\p.1=bA i 1 (j - i).toNat) \/
   ∃ i j k,l.map (·.1)=[.int i,.int j,.int k]/\fP i=true/\fP j=true/\k≠0/\k.natAbs<1073741824/\p.1=bA i k (Builtin.Range.rangeSize i j k).toNat):=by
 unfold gY at hev;obtain⟨q,h1,hev⟩:=Rs.bind_ok hev;obtain⟨r,h2,hev⟩:=Rs.bind_ok hev;obtain⟨t,h3,hev⟩:=Rs.bind_ok hev;split at hev
 ·rename_i i j k hi hj hk;split at hev
  ·rename_i ho;cases hev;simp only[Bool.and_eq_true,bne_iff_ne,decide_eq_true_eq] at ho;exact⟨rfl,[q,r,t],by unfold bE;rw[h1];unfold bE;rw[h2];unfold bE;rw[h3];unfold bE;rfl,.inr (.inr ⟨i,j,k,by simp[hi,hj,hk],ho.1.1.1,ho.1.1.2,ho.1.2,ho.2,rfl⟩)⟩
  ·cases hev
 ·cases hev
def SE (X:Cx)(T:Tb)(e:Expr)(c:Ex):Prop:=PE X e (tE X.K T c)/\PT X e (kJ X.K T c)
section
variable {X:Cx}{S:Sc}{T:Tb}
theorem cC {f:Expr->Option Ex}(hf:∀ e c,f e=some c->SE X T e c):∀{es:List Expr}{cs:kK},cI f es=some cs->PA X es (sQ X.K T cs)
 |[],cs,h=>by cases h;exact Aq
 | e::es,cs,h=>by
  obtain⟨hs,c,d,h1,h2,rfl⟩:=bJ h;exact wV (hf e c h1).1 (cC hf h2) (bD hs)
theorem zd {f:Expr->Option Ex}{op:BoolOp}{pos:Pos}(hf:∀ e c,f e=some c->SE X T e c):∀{es:List Expr}{c:Ex},CD f op es=some c->PE X (.BoolOp op es pos) (tE X.K T c)/\PW X (.BoolOp op es pos) (kJ X.K T c)
 |[],c,h=>by cases h
 | [a],c,h=>by
  have h:f a=some c:=h;have ⟨h1,h2⟩:=hf a c h;refine⟨Bo h1,?_⟩;cases op with
  |And=>exact xZ h2
  |Or=>exact BB h2
 | a::b::r,c,h=>by
  unfold CD at h;rw[ae] at h;obtain⟨ca,h1,h2⟩:=h;rw[aa] at h2;obtain⟨cb,h2,h3⟩:=h2;subst h3;have ⟨ia,ta⟩:=hf a ca h1;have ⟨ib,tb⟩:=zd (pos:=pos) hf h2;cases op with
  |And=>exact⟨z5 ia ib,zR ta tb⟩
  |Or=>exact⟨Cb ia ib,Dx ta tb⟩
theorem nM (C:Ctx X S T):∀{es:List Expr}{is:List Nat},ku S es=some is->Dn X es (fD is)/\(assignEach es X.env).length=is.length/\(assignEach es X.env).findIdx? (·.1)=none:=by
 intro es
 induction es with
 |nil=>intro is h;cases h;exact⟨we,rfl,rfl⟩
 |cons e es ih =>
  intro is h;cases e with
  |Name x p =>
   unfold ku at h;by_cases hl:iR S.sc x=true
   ·rw[if_pos hl,ae] at h;obtain⟨i,h1,h2⟩:=h;rw[aa] at h2;obtain⟨js,h2,rfl⟩:=h2;obtain⟨a,b,c⟩:=ih h2;have hN:=C.nd;rw[<-C.N] at hN;have hi:=bO h1;rw[<-C.N] at hi;refine⟨tW (rh hN hi (C.loc x hl).1 (C.loc x hl).2) a,?_,?_⟩
    ·show (assignEach es X.env).length+1=js.length+1;rw[b]
    ·show List.findIdx? (·.1) ((false,_)::assignEach es X.env)=none;rw[List.findIdx?_cons];simp[c]
   ·rw[if_neg hl] at h;cases h
  |_=>cases h
theorem uy (C:Ctx X S T){e:Expr}{t:jo}(h:sD S e=some t):PG X e (pz X.K t):=by
 cases e with
 |Name x p =>
  unfold sD at h;dsimp only at h;by_cases hl:iR S.sc x=true
  ·rw[if_pos hl,aa] at h;obtain⟨i,h1,rfl⟩:=h;have hN:=C.nd;rw[<-C.N] at hN;have hi:=bO h1;rw[<-C.N] at hi;exact rh hN hi (C.loc x hl).1 (C.loc x hl).2
  ·rw[if_neg hl] at h;cases h
 |Tuple es a b =>
  unfold sD at h;rw[aa] at h;obtain⟨is,h1,rfl⟩:=h;obtain⟨a,b,c⟩:=nM C h1;exact ur C.calm a b c
 |_=>cases h
theorem yZ (C:Ctx X S T){f:Expr->Option Ex}(hf:∀ e c,f e=some c->SE X T e c){tg e:Expr}{it:qu}(h:BQ S f (isTup tg) e=some it):PI X tg e (tI X.K T it):=by
 unfold BQ at h;split at h
 ·rename_i x p es pos;by_cases hx:x = "range"
  ·subst hx;rw[if_pos rfl] at h;by_cases hg:Bm S "range" = true
   ·rw[if_pos hg] at h;have hg2:oy S.sc "range" = true/\S.fH.contains "range" = true:=by
     unfold Bm at hg
     rwa [aj] at hg
    cases hc:cI f es with
    |none=>rw[hc] at h;cases h
    |some cs =>
     rw[hc] at h;cases es with
     |nil=>cases hc;cases h
     |cons e0 rest =>
      obtain⟨hs,c0,d0,_,hd,rfl⟩:=bJ hc;refine zC rfl (C.gl _ hg2.1) (C.fH _ hg2.2) (cC hf hc) (bD hs) (dG hd) ?_;intro env p hev;cases d0 with
      |nil =>
       cases h;exact uc hev
      |cons c1 d1 =>
       cases d1 with
       |nil =>
        cases h;exact uA hev
       |cons c2 d2 =>
        cases d2 with
        |nil =>
         cases h;exact vt hev
        |cons c3 d3=>cases h
   ·rw[if_neg hg] at h;cases h
  rw[if_neg hx] at h;by_cases hx:x = "enumerate"
  ·subst hx;rw[if_pos rfl] at h;cases h
  rw[if_neg hx] at h;by_cases hx:x = "reversed"
  ·subst hx;rw[if_pos rfl] at h;cases h
  rw[if_neg hx] at h;by_cases hx:x = "zip"
  ·subst hx;rw[if_pos rfl] at h;cases h
  ·rw[if_neg hx,aa] at h;obtain⟨c,h1,rfl⟩:=h;exact tM (hf _ _ h1).1
 ·by_cases hn:fA e=true
  ·rw[if_pos hn,aa] at h;obtain⟨c,h1,rfl⟩:=h;exact tM (hf _ _ h1).1
  ·rw[if_neg hn] at h;cases h
end
theorem fK {env:Env}:∀{names:List (Str×NameKind)}{x:Str}{k:NameKind},names.lookup x=some k->k≠.free ->
  (names.map fun (n,k)=>if (k==NameKind.free&&env.scope.kind == .function&&env.kindOf n==some .cell) then (n,NameKind.cell) else (n,k)).lookup x=some k
 |[],_,_,h,_=>by simp at h
 | (n,k0)::r,x,k,h,hk=>by
  rw[ay];by_cases hc:(k0==NameKind.free&&env.scope.kind == .function&&env.kindOf n==some .cell)=true
  ·simp only[hc,if_true,List.lookup_cons] at h ⊢;cases hx:x==n with
   |true =>
    rw[hx] at h;cases h;rw[aj,aj] at hc;exact absurd (by simpa using hc.1.1) hk
   |false=>rw[hx] at h;exact fK h hk
  ·have hc:(k0==NameKind.free&&env.scope.kind == .function&&env.kindOf n==some .cell)=false:=by simpa using hc
   simp only[hc,Bool.false_eq_true,if_false,List.lookup_cons] at h ⊢;cases hx:x==n with
   |true=>rw[hx] at h;exact h
   |false=>rw[hx] at h;exact fK h hk
theorem i4:∀{l:List (Option Nat)}{p:List Nat},iG l=some p->l=p.map some
 |[],p,h=>by cases h;rfl
 | some i::r,p,h=>by
  simp only[iG,Option.map_eq_some_iff] at h;obtain⟨q,h1,rfl⟩:=h;rw[i4 h1];rfl
 |none::r,p,h=>by cases h
theorem j6 {S:Sc}{sc:Scope}(h:iW S sc=true):sc.kind = .function/\(∀ y∈sc.names,y.2 = .cell->sc.names.lookup y.1=some .cell)/\(∀ y∈sc.names,y.2 = .local->sc.names.lookup y.1=some .local) /\
  (∀ y∈sc.names,y.2 = .free->sc.names.lookup y.1=some .free/\(cK S.sc y.1=some .cell\/cK S.sc y.1=some .free))/\(aZ sc++bB sc).Nodup:=by
 unfold iW at h;simp only[Bool.and_eq_true,List.all_eq_true,Bool.or_eq_true,beq_iff_eq,bne_iff_ne,decide_eq_true_eq,cK] at h;obtain⟨⟨⟨⟨h1,h2⟩,h3⟩,h4⟩,h5⟩:=h;refine⟨h1,fun y hy e=>?_,fun y hy e=>?_,fun y hy e=>?_,h5⟩
 ·rcases h2 y hy with h | h
  ·exact absurd e h
  ·exact h
 ·rcases h3 y hy with h | h
  ·exact absurd e h
  ·exact h
 ·rcases h4 y hy with h | h
  ·exact absurd e h
  ·exact h
section
variable {X:Cx}{S:Sc}{T:Tb}{sc:Scope}{pick:List Nat}
theorem oM (C:Ctx X S T)(h:iW S sc=true)(hp:iG ((bB sc).map (idxOf S.N))=some pick):dD X sc (aZ sc++bB sc) (dH (aZ sc).length pick):=by
 obtain⟨h1,h2,h3,h4,h5⟩:=j6 h;have hp:=i4 hp;have hlen:(bB sc).length=pick.length:=by simpa using congrArg List.length hp
 refine⟨h1,h2,h3,by simp[dH,hlen],fun x hx=>C.cel x (h4 _ (PySem.mem_of_lookup hx) rfl).2,fun x hx=>(h4 _ hx rfl).1,fun i j x hi hx=>?_⟩;unfold dH at hi;by_cases hlt:i<(aZ sc).length
 ·rw[List.getElem?_append_left (by simpa using hlt),List.getElem?_replicate] at hi;split at hi<;>cases hi
 ·have hle:=gg hlt;rw[List.getElem?_append_right (by simpa using hle),List.length_replicate,<-hp,List.getElem?_map] at hi;rw[List.getElem?_append_right hle] at hx;rw[hx] at hi;simp only[Option.map_some,Option.some.injEq] at hi;have hm:=List.mem_of_getElem? hx;unfold bB at hm;rw[List.mem_map] at hm;obtain⟨p,hp1,rfl⟩:=hm;rw[List.mem_filter] at hp1;have hf:p.2 = .free:=by simpa using hp1.2
  refine⟨(h4 p hp1.1 hf).1,?_⟩;rw[C.N];exact bO hi
theorem rX (C:Ctx X S T)(h:iW S sc=true)(Ca:Addr)(s0:Shared)(H0:Hp)(ex:List Addr):Ctx (inner X sc (aZ sc++bB sc) Ca s0 H0 ex) { S with N:=aZ sc++bB sc,sc:=sc } T:=by
 obtain⟨h1,h2,h3,h4,h5⟩:=j6 h;have keep:∀ x k,sc.names.lookup x=some k->k≠.free->(relabel sc X.env).names.lookup x=some k:=fun x k e hk=>fK e hk
 refine⟨rfl,h5,fun x hx=>?_,fun x hx=>?_,fun x hx=>?_,fun x hx=>?_,C.units,C.calm,C.fns,C.pN,C.fH⟩
 ·unfold n8 cK at hx;dsimp only at hx;split at hx
  ·rename_i e;exact .inl (keep _ _ e (by simp))
  ·rename_i e;exact .inr (.inl (keep _ _ e (by simp)))
  ·rename_i e;exact .inr (eC e)
  ·cases hx
 ·unfold iR cK at hx;dsimp only at hx;split at hx
  ·rename_i e;exact⟨.inl (keep _ _ e (by simp)),.inr (keep _ _ e (by simp))⟩
  ·rename_i e;exact⟨.inr (keep _ _ e (by simp)),.inl (by show (sc.names.lookup x==some NameKind.cell)=true;rw[e];rfl)⟩
  ·cases hx
 ·unfold oy cK at hx;dsimp only at hx;split at hx
  ·rename_i e;exact keep _ _ e (by simp)
  ·cases hx
 ·unfold cK at hx;rcases hx with hx | hx
  ·exact .inl (keep _ _ hx (by simp))
  ·exact eC hx
end
theorem iZ (n d:Nat)(o:Option Int):aU n d o=HT.aU n d o:=by cases o<;>rfl
theorem wW (n d:Nat)(hd:d<=n)(o:Option Int):aU n d o<=n\/∃ i,o=some i/\i<0/\(n:Int)<i+n:=by
 cases o with
 |none=>exact .inl hd
 |some i =>
  left;simp only[aU];split<;>omega
theorem mz {n d:Nat}(hd:d<=n)(o:Option Int):aU n d o<=n:=by
 rcases wW n d hd o with h | ⟨i,_,h1,h2⟩
 ·exact h
 ·omega
theorem Bn (lo hi:Option Int)(n:Nat):Builtin.Str.strSliceIndices lo hi 1 n=(List.range (aU n n hi - aU n 0 lo)).map (aU n 0 lo + ·):=by
 unfold Builtin.Str.strSliceIndices;have h1:∀(o:Option Int) (d:Nat),d<=n->(match o with | none=>(d:Int) | some i=>if (1:Int) > 0 then max 0 (min (if i<0 then i+(n:Int) else i) n) else max (-1) (min (if i<0 then i+(n:Int) else i) (n - 1)))=((aU n d o:Nat):Int):=by
  intro o d hd;cases o with
  |none=>rfl
  |some i =>
   simp only[aU];rw[if_pos (by decide)];by_cases hi:i<0
   ·rw[if_pos hi,if_pos hi];omega
   ·rw[if_neg hi,if_neg hi];omega
 have e1:=h1 lo 0 (de _);have e2:=h1 hi n (av _);dsimp only;rw[if_pos (by decide),if_pos (by decide)];refine Eq.trans ?_ (sliceRange_one (aU n 0 lo) (aU n n hi));have gen:∀ a b a' b':Int,a=a'->b=b'->sliceRange a b 1=sliceRange a' b' 1:=fun a b a' b' h h'=>by rw[h,h']
 exact gen _ _ _ _ e1 e2
theorem Ay {X:Cx}:ze X (fun x lo hi H Q=>∃ z,x = .str z/\z.length<=lim/\Q (.str ⟨(cut z.cps.toList lo hi).toArray⟩) H):=by
 intro pins s σ H x v vl vu lo hi sl Q I rx hs pl pu h;obtain⟨z,rfl,hzl,q⟩:=h;obtain⟨t,rfl⟩:=rx;have part:∀{v:Value}{o:Option Int},IsPart v o->∃ l:Option (Int×Tok),partValue l=v/\l.map (·.1)=o:=fun h=>by
  cases h with
  |none=>exact⟨none,rfl,rfl⟩
  |int i t=>exact⟨some (i,t),rfl,rfl⟩
 obtain⟨l,rfl,rfl⟩:=part pl;obtain⟨u,rfl,rfl⟩:=part pu;refine⟨"str",_,PySem.F.slot_str_getitem.lookup,typeIs_str s z t,wpAny_getItem_str_slice (l:=l) (u:=u) (st:=none) hs rfl ?_⟩;have hp:slicePicked z l u none=(List.range (aU z.length z.length (u.map (·.1)) - aU z.length 0 (l.map (·.1)))).map (aU z.length 0 (l.map (·.1)) + ·):=Bn _ _ _;have hc:(slicePicked z l u none).filterMap (z.cps[·]?)=cut z.cps.toList (l.map (·.1)) (u.map (·.1)):=by
  rw[hp,pick_run];rfl
 unfold sliceMade;split
 ·rename_i hw;have hl:(slicePicked z l u none).length=z.length:=by
   have:=(aj _ _ ▸ hw).2;simpa using this
  rw[hp,au,dn] at hl;have hz:(⟨(cut z.cps.toList (l.map (·.1)) (u.map (·.1))).toArray⟩:Str)=z:=by
   have a1:=mz (n:=z.length) (de _) (l.map (·.1));have a2:=mz (n:=z.length) (av _) (u.map (·.1));have:cut z.cps.toList (l.map (·.1)) (u.map (·.1))=z.cps.toList:=by
    have hlen:z.cps.toList.length=z.length:=rfl;unfold cut;rw[hlen];dsimp only;by_cases h0:z.length=0
    ·have:z.cps.toList=[]:=List.eq_nil_of_length_eq_zero (hlen.trans h0);rw[this];simp
    ·rw[show aU z.length 0 (l.map (·.1))=0 by omega,show aU z.length z.length (u.map (·.1))=z.length by omega,List.drop_zero,Nat.sub_zero];exact eo (Nat.le_of_eq hlen)
   rw[this]
  rw[hz] at q;exact⟨.str z,H,I,⟨t,rfl⟩,q⟩
 ·rw[hc];refine⟨?_,.str _,H,I.tok _,⟨_,rfl⟩,q⟩;show (cut z.cps.toList (l.map (·.1)) (u.map (·.1))).toArray.size<=sizeLine;rw[ah];refine be ?_ (eD hzl);unfold cut;rw[bt,cn];exact be (Nat.min_le_right _ _) (Nat.sub_le _ _)
section
variable {X:Cx}{T:Tb}{a:Expr}{ca:Ex}{lo hi:Option Expr}{cl ch:lB}{pos p2:Pos}
noncomputable def tO (K:Frag)(T:Tb)(c:lB):TO:=fun σ H Q=>∃ P env F,RE K P env σ H F/\∃ o,jA T c env = .ok o/\∀ H',aE H H'->Q o H'
theorem vQ {X:Cx}{e:Option Expr}{t t':TO}(h:PO X e t)(k:∀ σ H Q,t' σ H Q->t σ H Q):PO X e t':=fun pins s σ H Q I q=>h pins s σ H Q I (k σ H Q q)
theorem xT:PO X none (tO X.K T .none):=vQ yi fun σ H Q ⟨P,env,F,re,o,h,k⟩=>by
 unfold jA at h;cases h;exact k H (aE.refl _)
theorem xv (h:PE X a (tE X.K T ca)):PO X (some a) (tO X.K T (.some ca)):=vQ (m7 h) fun σ H Q ⟨P,env,F,re,o,h,k⟩=>by
 unfold jA at h;obtain⟨p,h1,h2⟩:=Rs.bind_ok h;refine⟨P,env,F,re,p,h1,fun v H' G s rp rt=>?_⟩;split at h2
 ·rename_i i hi;cases h2;rw[hi] at rp;obtain⟨rfl,rfl⟩:=rp.int_inv;exact⟨i,rfl,k H' s⟩
 ·cases h2
theorem Cp (ha:PE X a (tE X.K T ca))(hl:PO X lo (tO X.K T cl))(hh:PO X hi (tO X.K T ch)):PE X (.Subscript a (.Slice lo hi none p2) pos) (tE X.K T (.sl ca cl ch)):=by
 refine bC (nD (qw.or (Ay.or zt)) ha hl hh) fun σ H Q ⟨P,env,F,re,p,hev,k⟩=>?_
 unfold ev at hev;obtain⟨q,h1,hev⟩:=Rs.bind_ok hev;obtain⟨ol,h2,hev⟩:=Rs.bind_ok hev;obtain⟨oh,h3,hev⟩:=Rs.bind_ok hev;obtain⟨d,h4,hev⟩:=Rs.bind_ok hev;have h4:=cF h4;cases hev;refine⟨P,env,F,re,q,h1,fun v H1 G s rp rt=>⟨P,env,F,re.same s,ol,h2,fun H2 s2=>⟨P,env,F,re.same (s.trans s2),oh,h3,fun H3 s3=>?_⟩⟩⟩;have s23:=s2.trans s3;cases hq:q.1 with
 |lst xs =>
  rw[hq] at rp h4;cases h4;obtain⟨pa,vs,G',rfl,rfl,hr,rs⟩:=Rep.lst_inv (rp.same s23);refine .inl ⟨pa,vs,rfl,.inl hr,fun pn hn=>?_⟩;obtain⟨G1,r1,u1⟩:=rs.drop (aU xs.length 0 ol);obtain⟨G2,r2,u2⟩:=r1.take (aU xs.length xs.length oh - aU xs.length 0 ol);have hc:jj vs ol oh=(vs.drop (aU xs.length 0 ol)).take (aU xs.length xs.length oh - aU xs.length 0 ol):=by
   unfold jj;rw[rs.len,iZ,iZ]
  rw[hc];have sub:∀ a∈G2,a∈pa::G':=fun a ha=>ai _ (u1.mem (u2.mem ha))
  obtain⟨rp',nv⟩:=iO (G0:=pa::G') r2 sub hn;have ar:Args X.K env F H H3 [q] [.ref pa] ((pa::G') ++ []):=.cons s (by rw[hq];exact rp) rt (.nil s23);rw[ba] at ar;exact k _ _ _ ((s.trans s23).trans nv.same) rp' (bK.new ar nv (by simp[aS]))
 |str z =>
  rw[hq] at rp h4;obtain⟨rfl,rfl⟩:=rp.str_inv;have h4:(if z.length<=lim then some (D.str ⟨(cut z.cps.toList ol oh).toArray⟩) else none)=some d:=h4;by_cases hz:z.length<=lim
  ·rw[if_pos hz] at h4;cases h4;exact .inr (.inl ⟨z,rfl,hz,k _ H3 [] (s.trans s23) (.str _) bK.nil⟩)
  ·rw[if_neg hz] at h4;cases h4
 |tup xs =>
  rw[hq] at rp h4;have h4:(if aU xs.length 0 ol=0/\aU xs.length xs.length oh=xs.length then none else some (D.tup (cut xs ol oh)))=some d:=h4;by_cases hw:aU xs.length 0 ol=0/\aU xs.length xs.length oh=xs.length
  ·rw[if_pos hw] at h4;cases h4
  ·rw[if_neg hw] at h4;cases h4;obtain⟨pa,vs,rfl,hr,rs⟩:=Rep.tup_inv (rp.same s23);refine .inr (.inr ⟨pa,vs,rfl,hr,by rw[<-rs.len,<-iZ,<-iZ];exact hw,fun pn hn=>?_⟩);obtain⟨G1,r1,u1⟩:=rs.drop (aU xs.length 0 ol);obtain⟨G2,r2,u2⟩:=r1.take (aU xs.length xs.length oh - aU xs.length 0 ol);have hc:jj vs ol oh=(vs.drop (aU xs.length 0 ol)).take (aU xs.length xs.length oh - aU xs.length 0 ol):=by
    unfold jj;rw[rs.len,iZ,iZ]
   rw[hc];obtain⟨rp',nv⟩:=t6 (G0:=G) r2 (fun a ha=>u1.mem (u2.mem ha)) hn;have ar:Args X.K env F H H3 [q] [.ref pa] (G ++ []):=.cons s (by rw[hq];exact rp) rt (.nil s23);rw[ba] at ar;exact k _ _ _ ((s.trans s23).trans nv.same) rp' (bK.new ar nv (by simp[aS]))
 |_=>rw[hq] at h4;cases h4
end
section
variable {X:Cx}{S:Sc}{T:Tb}
theorem tz {f:Expr->Option Ex}(hf:∀ e c,f e=some c->SE X T e c){o:Option Expr}{c:lB}(h:u5 f o=some c):PO X o (tO X.K T c):=by
 cases o with
 |none=>cases h;exact xT
 |some e =>
  have h:(f e).map lB.some=some c:=h;rw[aa] at h;obtain⟨d,h1,rfl⟩:=h;exact xv (hf e d h1).1
theorem wc {x id:String}{b:zD}{f:Expr->Option Ex}(hf:∀ e c,f e=some c->SE X T e c){e:Expr}{r:List Expr}{cs:kK}{p pos:Pos}(hr:dP X (.builtin id) (mO X.K b))(hv:bootBuiltins x=some (.builtin id))(hg:Gl X x)(hm:X.mg x=none)(hn:cG x=true)(ha:cI f (e::r)=some cs) :
  PE X (.Call (.Name x p) (e::r) [] pos) (tE X.K T (.blt b cs)):=by
 obtain⟨hs,_,_,_,h2,_⟩:=bJ ha;obtain⟨n1,n2,n3⟩:=cD hn;exact bC (jY hr hg hm hv (cC hf ha) n3 n1 (bD hs) (dG h2)) fun σ H Q h=>nK h
theorem CK {x id:String}{b:zD}{f:Expr->Option Ex}(hf:∀ e c,f e=some c->SE X T e c){e:Expr}{r:List Expr}{cs:kK}{p pos:Pos}(hr:dP X (.type id) (mO X.K b))(hv:bootBuiltins x=some (.type id))(hg:Gl X x)(hm:X.mg x=none)(hn:cG x=true)(ha:cI f (e::r)=some cs) :
  PE X (.Call (.Name x p) (e::r) [] pos) (tE X.K T (.blt b cs)):=by
 obtain⟨hs,_,_,_,h2,_⟩:=bJ ha;obtain⟨n1,n2,n3⟩:=cD hn;exact bC (lD hr hg hm hv (cC hf ha) n3 n1 (bD hs) (dG h2)) fun σ H Q h=>nK h
theorem ve {t:Str}{u:String}(h:zx t=some u):u∈gL/\bootBuiltins t=some (.type u):=by
 unfold zx at h;split at h
 ·rename_i e;cases h;subst e;exact⟨by decide,boot_int⟩
 split at h
 ·rename_i e;cases h;subst e;exact⟨by decide,boot_bool⟩
 split at h
 ·rename_i e;cases h;subst e;exact⟨by decide,boot_str⟩
 split at h
 ·rename_i e;cases h;subst e;exact⟨by decide,boot_list⟩
 split at h
 ·rename_i e;cases h;subst e;exact⟨by decide,boot_tuple⟩
 cases h
theorem xt (C:Ctx X S T){f:Expr->Option Ex}(hf:∀ e c,f e=some c->SE X T e c){x:Str}{es:List Expr}{c:Ex}{p pos:Pos}(h:qN S f x es=some c):PE X (.Call (.Name x p) es [] pos) (tE X.K T c):=by
 unfold qN at h;by_cases hk:(cG x&&oy S.sc x)=true
 ·rw[if_pos hk] at h;rw[aj] at hk;obtain⟨hn,hg⟩:=hk;have hg:=C.gl x hg;obtain⟨n1,n2,n3⟩:=cD hn;cases hi:idxOf S.fns x with
  |some i =>
   rw[hi] at h;dsimp only at h;rw[aa] at h;obtain⟨cs,h1,rfl⟩:=h;obtain⟨fa,fd,ps,k,FO,hr,hm,hkp,hb,hl⟩:=C.fns i x hi;cases es with
   |nil =>
    cases h1;refine bC (uG FO hr hg hm hkp hb .nil vJ n1) fun σ H Q h=>?_
    have:=lJ hl h;obtain⟨P,env,F,re,l,hev,k⟩:=this;unfold bE at hev;cases hev;exact k [] H [] (.nil (aE.refl _))
   |cons e r =>
    obtain⟨hs,_,_,_,h2,_⟩:=bJ h1;exact bC (wZ FO hr hg hm hkp hb .nil vJ (cC hf h1) n1 (bD hs) (dG h2)) fun σ H Q h=>lJ hl h
  |none =>
   rw[hi] at h;dsimp only at h;by_cases hb:S.fH.contains x=true
   ·rw[if_pos hb] at h;have hm:=C.fH x hb;by_cases hx:x = "isinstance"
    ·rw[if_pos hx] at h;subst hx;unfold C0 at h;split at h
     ·rename_i a t pt;by_cases hc:(oy S.sc t&&S.fH.contains t&&cG t&&notStar a)=true
      ·rw[if_pos hc] at h;simp only[Bool.and_eq_true] at hc;obtain⟨⟨⟨c1,c2⟩,c3⟩,c4⟩:=hc;rw[ae] at h;obtain⟨u,h1,h2⟩:=h;rw[aa] at h2;obtain⟨ca,h2,rfl⟩:=h2;obtain⟨hu,hbt⟩:=ve h1;obtain⟨m1,m2,m3⟩:=cD c3;refine bC (jY rS hg hm boot_isinstance (aP (hf a ca h2).1 (aP (xP (v:=.ty u) (C.gl t c1) (C.fH t c2) hbt rfl m3 m1) bL rfl) (bD c4)) n3 n1 (bD c4) rfl) fun σ H Q h=>vi hu h
      ·rw[if_neg hc] at h;cases h
     ·cases h
    ·rw[if_neg hx] at h;by_cases hlr:x = "list"/\kX es=true
     ·rw[if_pos hlr] at h;obtain⟨rfl,_⟩:=hlr;cases h
     rw[if_neg hlr] at h;by_cases hlg:x = "list"/\lj es=true
     ·rw[if_pos hlg] at h;obtain⟨rfl,_⟩:=hlg;cases h
     rw[if_neg hlg] at h;cases es with
     |nil=>cases h
     |cons e r =>
      dsimp only at h;rw[ae] at h;obtain⟨b,h1,h2⟩:=h;rw[aa] at h2;obtain⟨cs,h2,rfl⟩:=h2;unfold CB at h1;split at h1
      ·rename_i e;cases h1;subst e;exact wc hf sy boot_len hg hm hn h2
      split at h1
      ·rename_i e;cases h1;subst e;exact wc hf (sS C.calm) boot_all hg hm hn h2
      split at h1
      ·rename_i e;cases h1;subst e;exact CK hf (pQ C.calm) boot_list hg hm hn h2
      split at h1
      ·rename_i e;cases h1;subst e;exact wc hf (ph C.calm C.units.1) boot_min hg hm hn h2
      split at h1
      ·rename_i e;cases h1;subst e;exact CK hf sP boot_int hg hm hn h2
      split at h1
      ·rename_i e;cases h1;subst e;exact wc hf (sM C.calm) boot_sum hg hm hn h2
      cases h1
   ·rw[if_neg hb] at h;cases h
 ·rw[if_neg hk] at h;cases h
theorem A3 {f:Expr->Option Ex}(hf:∀ e c,f e=some c->SE X T e c){o:Expr}{name:Str}{es:List Expr}{c:Ex}{apos cpos:Pos}(h:xK f o name es apos cpos=some c):PE X (.Call (.Attribute o name apos) es [] cpos) (tE X.K T c):=by
 unfold xK at h;split at h
 ·rename_i e;by_cases hk:(apos.endLine==cpos.line&&tD o)=true
  ·rw[if_pos hk] at h;rw[aj] at hk;have hb:attributeBase o name X.env (eval o X.env)=eval o X.env:=by
    obtain⟨_,hk⟩:=hk;cases o<;>first | rfl | (cases hk;done) | skip
    rename_i g as ks cp;cases as with
    |nil=>cases hk
    |cons a r=>cases g<;>rfl
   by_cases hjn:name = "join"
   ·rw[if_pos hjn,ae] at h;subst hjn;obtain⟨co,ho,h⟩:=h;rw[ae] at h;obtain⟨cs,hc,h⟩:=h;obtain⟨ns,ce,d,he,hd,rfl⟩:=bJ hc;cases hd;cases h;refine bC (kB gp PySem.F.slot_str_join PySem.F.type_str_join yn (hf o co ho).1 (cC hf hc) hb ?_ hk.1 (bD ns) rfl) fun σ H Q h=>r6 h
    rw[bD ns];rfl
   rw[if_neg hjn,ae] at h;obtain⟨m,hm,h⟩:=h;rw[ae] at h;obtain⟨co,ho,h⟩:=h;rw[ae] at h;obtain⟨cs,hc,h⟩:=h;obtain⟨ns,ce,d,he,hd,rfl⟩:=bJ hc;cases hd;cases h;have slot:∃ id,PySem.Slot "str" name id/\typeOf (.builtin id)=pure (.type "method_descriptor")/\vZ X id (x4 m)/\(m = .sfind\/m = .sindex):=by
    unfold ub at hm;split at hm
    ·rename_i e;cases hm;subst e;exact⟨_,PySem.F.slot_str_find,PySem.F.type_str_find,yB,.inl rfl⟩
    split at hm
    ·rename_i e;cases hm;subst e;exact⟨_,PySem.F.slot_str_index,PySem.F.type_str_index,uv,.inr rfl⟩
    cases hm
   obtain⟨id,s1,s2,s3,s4⟩:=slot;intro pins s σ H Q I hh;rcases um s4 hh with hh1 | ⟨em,hh2⟩
   ·refine kB gp s1 s2 s3 (hf o co ho).1 (cC hf hc) hb ?_ hk.1 (bD ns) rfl pins s σ H Q I hh1;rw[bD ns];rfl
   ·subst em;have:name = "index":=by
     unfold ub at hm;split at hm
     ·cases hm
     split at hm
     ·assumption
     cases hm
    subst this;refine kB dr PySem.F.slot_list_index PySem.F.type_list_index wM (hf o co ho).1 (cC hf hc) hb ?_ hk.1 (bD ns) rfl pins s σ H Q I hh2;rw[bD ns];rfl
  ·rw[if_neg hk] at h;cases h
 ·cases h
theorem qH {own:Nat}{pick:List Nat}{t:jo}(h:rR own t=true)(i:Nat)(hi:t = .nm i\/∃ is,t = .tp is/\i∈is):(dH own pick)[i]? = some none:=by
 have:i<own:=by
  rcases hi with rfl | ⟨is,rfl,hm⟩
  ·simpa[rR] using h
  ·simp only[rR,List.all_eq_true,decide_eq_true_eq] at h;exact h i hm
 unfold dH;rw[List.getElem?_append_left (by simpa using this),List.getElem?_replicate,if_pos this]
structure lE (X:Cx)(S:Sc)(T:Tb)(elt tg iter:Expr)(ifs:List Expr)(sc:Scope)(c:Ex):Prop where
 ex:∃ pick t it ci ce,c = .comp (aZ sc).length pick t it ci ce/\dD X sc (aZ sc++bB sc) (dH (aZ sc).length pick)/\PI X tg iter (tI X.K T it) /\
  (∀ C s0 H0 ex,PG (inner X sc (aZ sc++bB sc) C s0 H0 ex) tg (pz X.K t)/\BS (inner X sc (aZ sc++bB sc) C s0 H0 ex) ifs (zY X.K T ci)/\PE (inner X sc (aZ sc++bB sc) C s0 H0 ex) elt (tE X.K T ce)) /\
  rR (aZ sc).length t=true/\fA iter=true
theorem ki (C:Ctx X S T){f:Sc->Expr->Option Ex}(hf:∀{X:Cx}{S:Sc},Ctx X S T->∀ e c,f S e=some c->SE X T e c){elt tg iter:Expr}{ifs:List Expr}{sc:Scope}{c:Ex}(h:nZ S f elt tg iter ifs sc=some c):lE X S T elt tg iter ifs sc c:=by
 unfold nZ at h;by_cases hk:(iW S sc&&fA iter)=true
 ·rw[if_pos hk] at h;rw[aj] at hk;rw[ae] at h;obtain⟨it,h1,h⟩:=h;rw[ae] at h;obtain⟨pick,h2,h⟩:=h;rw[ae] at h;obtain⟨t,h3,h⟩:=h;by_cases ho:rR (aZ sc).length t=true
  ·rw[if_pos ho] at h;rw[ae] at h;obtain⟨ci,h4,h⟩:=h;rw[aa] at h;obtain⟨ce,h5,rfl⟩:=h;refine⟨pick,t,it,ci,ce,rfl,oM C hk.1 h2,yZ C (hf C) h1,fun Ca s0 H0 ex=>?_,ho,hk.2⟩;have C':=rX C hk.1 Ca s0 H0 ex;refine⟨uy C' h3,?_,(hf C' elt ce h5).1⟩;unfold C7 at h4;split at h4
   ·cases h4;exact xm
   ·rw[aa] at h4;obtain⟨cc,h4,rfl⟩:=h4;exact yl (hf C' _ cc h4).2
   ·cases h4
  ·rw[if_neg ho] at h;cases h
 ·rw[if_neg hk] at h;cases h
theorem yu (C:Ctx X S T){elt tg iter:Expr}{ifs:List Expr}{sc:Scope}{c:Ex}{pos:Pos}(h:lE X S T elt tg iter ifs sc c):PE X (.ListComp elt [⟨tg,iter,ifs,0⟩] sc pos) (tE X.K T c):=by
 obtain⟨pick,t,it,ci,ce,rfl,h1,h2,h3,h4,h5⟩:=h;exact bC (xD h1 C.calm h2 h3 (lF (qH h4)) (pG h5)) fun σ H Q h=>lh h
theorem wz (C:Ctx X S T){f:Expr->Option Ex}(hf:∀ e c,f e=some c->SE X T e c){x kn:Str}{a d:Expr}{c:Ex}{p kp pos:Pos}(h:u7 S f x a d kn=some c):PE X (.Call (.Name x p) [a] [⟨some kn,d,kp⟩] pos) (tE X.K T c):=by
 cases h
theorem sj {k:Option Expr}{x:Str}(h:vX k=some x):∃ p,k=some (.Name x p):=by
 cases k with
 |none=>cases h
 |some e=>cases e<;>first | (cases h;exact⟨_,rfl⟩) | (cases h)
theorem vn {e:Expr}{v:Int}(h:Bi e=some v):∃ a b,e = .Constant (.int v) a b:=by
 cases e with
 |Constant c a b=>cases c<;>first | (cases h;exact⟨_,_,rfl⟩) | (cases h)
 |_=>cases h
theorem ql (C:Ctx X S T){pos:Pos}:∀{ks:List (Option Expr)}{vs:List Expr}{l:List (Nat×Int)},uF S ks vs=some l->∃ us:List (V×Int),Cr X pos ks vs (us.map fun q=>(tC q.1,tC (.int q.2)))/\Paired (fun (q:Nat×Int) (u:V×Int)=>q.2=u.2/\∀ H,Rep X.K H (T.gl q.1) u.1 []) l us/\ks.all (·.isSome)=true/\ks.length=vs.length/\ks.length=l.length
 |[],[],l,h=>by cases h;exact⟨[],xS,.nil,rfl,rfl,rfl⟩
 | k::ks,e::vs,l,h=>by
  have hA:((vX k).bind fun x=>(Bi e).bind fun v=>if cG x&&oy S.sc x then (idxOf S.pN x).bind fun i=>(uF S ks vs).map fun l=>(i,v)::l else none)=some l:=h;clear h;obtain⟨x,hx,hB⟩:=ae.mp hA;clear hA;obtain⟨v,hv,hD⟩:=ae.mp hB;clear hB;obtain⟨p,e1⟩:=sj hx;obtain⟨a,b,e2⟩:=vn hv;rw[e1,e2];by_cases hc:(cG x&&oy S.sc x)=true
  ·rw[if_pos hc] at hD;rw[aj] at hc;obtain⟨i,h1,hE⟩:=ae.mp hD;obtain⟨l',h2,rfl⟩:=aa.mp hE;obtain⟨us,g1,g2,g3,g4,g5⟩:=ql C (pos:=pos) h2;obtain⟨u,w,e1,e2,e3⟩:=C.pN i x h1;obtain⟨n1,n2,n3⟩:=cD hc.1;exact⟨(u,v)::us,tY (rl (C.gl x hc.2) e1 e2 n1) jG g1,.cons ⟨rfl,e3⟩ g2,by rw[df,g3];rfl,by rw[ak,ak,g4],by rw[ak,ak,g5]⟩
  ·rw[if_neg hc] at hD;cases hD
 |[],_::_,l,h=>by cases h
 |_::_,[],l,h=>by cases h
theorem nP {Q:List (V×V)->Hp->Prop}{σ:L2.St}{H:Hp}:∀{us:List (V×Int)},Q (us.map fun q=>(q.1,.int q.2)) H->jw (us.map fun q=>(tC q.1,tC (.int q.2))) σ H Q
 |[],h=>h
 | (u,i)::us,h=>by
  show jw (us.map fun q=>(tC q.1,tC (.int q.2))) σ H (fun ps H3=>Q ((u,.int i)::ps) H3);exact nP (us:=us) (Q:=fun ps H3=>Q ((u,.int i)::ps) H3) h
theorem xC {K:Frag}{gl:Nat->D}{l:List (Nat×Int)}{us:List (V×Int)}(r:Paired (fun (q:Nat×Int) (u:V×Int)=>q.2=u.2/\∀ H,Rep K H (gl q.1) u.1 []) l us) :
  ∀{ks ks':List (Int×MV)}{xs:List (Key×V)},wB gl l ks=some ks'->(∀ H,gW K H ks xs)->∃ kvs:List (Key×V),(us.map fun q=>(q.1,(.int q.2:V)))=kvs.map (fun kv=>(kV kv.1,kv.2))/\kvs.length=l.length/\∀ H,gW K H ks' (fG xs kvs):=by
 induction r with
 |nil=>intro ks ks' xs h k;cases h;exact⟨[],rfl,rfl,k⟩
 |@cons q u l us h0 t ih =>
  intro ks ks' xs h k;unfold wB at h;split at h
  ·rename_i i hi;have r1:=h0.2 fun _=>none
   rw[hi] at r1;obtain⟨e,_⟩:=r1.int_inv;obtain⟨kvs,e1,e2,e3⟩:=ih (xs:=putK xs (.inl i) (.int q.2)) h (fun H=>(k H).put i (m:=.int q.2) rfl);refine⟨(.inl i,.int q.2)::kvs,?_,by rw[ak,ak,e2],e3⟩;rw[ay,ay,e1,<-h0.1,e];rfl
  ·cases h
theorem z8 (C:Ctx X S T){pos:Pos}{ks:List (Option Expr)}{vs:List Expr}{l:List (Nat×Int)}(h:uF S ks vs=some l)(h0:ks≠[])(h15:ks.length<=15):PE X (.Dict ks vs pos) (tE X.K T (.ddsp l)):=by
 obtain⟨us,g1,g2,g3,g4,g5⟩:=ql C (pos:=pos) h;refine bC (xQ g1 g3 g4 h0 h15) fun σ H Q ⟨P,env,F,re,p,hev,k⟩=>?_
 unfold ev at hev;obtain⟨ks',h1,hev⟩:=Rs.bind_ok hev;cases hev;intro a ha;obtain⟨kvs,e1,e2,e3⟩:=xC g2 (cF h1) (xs:=[]) fun _=>trivial
 refine nP ⟨aI,kvs,e1,by omega,?_⟩;have eu:upd (upd H a (.dK [])) a (.dK (fG [] kvs))=upd H a (.dK (fG [] kvs)):=by
  funext b;by_cases e:b=a
  ·rw[e,aI,aI]
  ·rw[aL e,aL e,aL e]
 rw[eu];refine k _ _ [a] (aE.new ha) (.mpi (xs:=fG [] kvs) aI (e3 _)) ⟨fun b hb=>?_,fun R hR=>⟨by simp,fun b hb=>?_,fun b hb=>?_⟩⟩
 ·obtain rfl:=eg.mp hb;exact .inl ha
 ·obtain rfl:=eg.mp hb;exact⟨.k _,aI⟩
 ·obtain rfl:=eg.mp hb;exact .inl ha
theorem sU {b e:Expr}(h:qm b=some e):∃ q,b = .List [e] q/\∀ env,starEach [e] env=(false,eval e env)::starEach [] env:=by
 unfold qm at h;split at h
 ·split at h
  ·split at h
   ·cases h;exact⟨_,rfl,fun _=>rfl⟩
   ·cases h
  ·cases h
 ·cases h
theorem wA {a e:Expr}{ca ce:Ex}{pos q:Pos}(ha:PE X a (tE X.K T ca))(he:PE X e (tE X.K T ce))(hs:∀ env,starEach [e] env=(false,eval e env)::starEach [] env):PE X (.BinOp a .Add (.List [e] q) pos) (tE X.K T (.snoc ca ce)):=by
 refine bC (nV qZ ha (pU (aP he bL (hs _)))) fun σ H Q ⟨P,env,F,re,p,hev,k⟩=>?_
 unfold ev at hev;obtain⟨x,h1,hev⟩:=Rs.bind_ok hev;obtain⟨y,h2,hev⟩:=Rs.bind_ok hev;obtain⟨d,h3,hev⟩:=Rs.bind_ok hev;cases hev;have h3:=cF h3;obtain⟨x1,xr⟩:=x;obtain⟨y1,yr⟩:=y;unfold zg at h3;dsimp only at h3;split at h3
 ·rename_i xs;split at h3
  ·rename_i hc;cases h3;rw[aj,decide_eq_true_iff] at hc;refine⟨P,env,F,re,_,h1,fun v H1 G1 s1 r1 t1=>?_⟩;obtain⟨pa,vs,G1',rfl,rfl,a1,a2⟩:=r1.lst_inv;have eG:G1'=[]:=a2.flat hc.1;subst eG;refine⟨P,env,F,re.same s1,_,h2,fun u H2 G2 s2 r2 t2=>⟨(show (1:Nat)<=sizeLine by decide),fun p' hp'=>?_⟩⟩;obtain⟨nd,ml,nw⟩:=t2.mv [] rfl;have s3:=aE.new (o:=.lst [u]) hp';have a1':Rd (upd H2 p' (.lst [u])) pa (.lst vs):=by
    rcases a1 with q | ⟨o,q⟩
    ·exact .inl ((s2.trans s3) _ _ q)
    ·exact .inr ⟨o,(s2.trans s3) _ _ q⟩
   refine⟨pa,p',vs,[u],rfl,rfl,a1',.inl aI,?_,fun q0 hq0=>?_⟩
   ·have hl:=a2.len;rw[<-hl];exact eD hc.2
   ·have s4:=aE.new (o:=.lst (vs ++ [u])) hq0;have sAll:=s1.trans (s2.trans (s3.trans s4));have new1:∀ z∈G2,H z=none:=fun z hz=>by
     rcases nw z hz with w | ⟨i,_,_,hi,_⟩
     ·exact aE.no s1 w
     ·cases hi
    have nn2:∀ z∈G2,H2 z≠none:=fun z hz=>by
     obtain⟨m,e⟩:=ml z hz;rw[e];simp
    refine k (.ref q0) _ (q0::G2) sAll (.lst (.inl aI) ?_) ⟨fun z hz=>?_,fun R hR=>⟨?_,fun z hz=>?_,fun z hz=>?_⟩⟩
    ·have ra:=a2.same (s2.trans (s3.trans s4));have rb:=r2.same (s3.trans s4);have:=ra.append (.cons rb .nil)
     rwa [gu,ba] at this
    ·rcases gd.mp hz with rfl | hz
     ·exact .inl (aE.no (s1.trans (s2.trans s3)) hq0)
     ·exact .inl (new1 z hz)
    ·refine List.nodup_cons.mpr ⟨fun hz=>?_,nd⟩;have:=aE.no s3 hq0;exact nn2 q0 hz this
    ·rcases gd.mp hz with rfl | hz
     ·exact⟨.l _,aI⟩
     ·obtain⟨m,e⟩:=ml z hz;exact⟨m,(s3.trans s4) z _ e⟩
    ·rcases gd.mp hz with rfl | hz
     ·exact .inl (aE.no (s1.trans (s2.trans s3)) hq0)
     ·exact .inl (new1 z hz)
  ·cases h3
 ·cases h3
theorem bX:∀(n:Nat) {X:Cx}{S:Sc}{T:Tb}(C:Ctx X S T) (e:Expr) (c:Ex),cE n S e=some c->SE X T e c:=by
 intro n
 induction n with
 |zero=>intro X S T C e c h;cases h
 |succ n ih =>
  intro X S T C e c h;have ihX:=ih C;cases e with
  |Name x p =>
   have h:tN S x=some c:=h;unfold tN at h;by_cases hn:cG x=true
   ·rw[if_pos hn] at h;obtain⟨n1,n2,n3⟩:=cD hn;by_cases hv:n8 S.sc x=true
    ·rw[if_pos hv,aa] at h;obtain⟨i,h1,rfl⟩:=h;have hi:=bO h1;rw[<-C.N] at hi;have:=Bz (T:=T) (pos:=p) hi (C.vis x hv) n1 n2;exact⟨this,bT this fun _=>rfl⟩
    ·rw[if_neg hv] at h;by_cases hg:oy S.sc x=true
     ·rw[if_pos hg,aa] at h;obtain⟨i,h1,rfl⟩:=h;obtain⟨v,u,g1,g2,g3⟩:=C.pN i x h1;have:=A7 (rl (pos:=p) (C.gl x hg) g1 g2 n1) g3;exact⟨this,bT this fun _=>rfl⟩
     ·rw[if_neg hg] at h;cases h
   ·rw[if_neg hn] at h;cases h
  |Constant k x1 p =>
   have h:Cw k=some c:=h;cases k with
   |int i=>cases h;exact⟨gA (T:=T) jG fun H=>Rep.int _,bT (gA (T:=T) jG fun H=>Rep.int _) fun _=>rfl⟩
   |bool b=>cases h;exact⟨gA (T:=T) zc fun H=>Rep.bl _,bT (gA (T:=T) zc fun H=>Rep.bl _) fun _=>rfl⟩
   |none=>cases h;exact⟨gA (T:=T) vc fun H=>Rep.non,bT (gA (T:=T) vc fun H=>Rep.non) fun _=>rfl⟩
   |str s=>cases h;exact⟨gA (T:=T) hV fun H=>Rep.str _,bT (gA (T:=T) hV fun H=>Rep.str _) fun _=>rfl⟩
   |_=>cases h
  |BinOp a op b p =>
   have h:Ap (cE n S) a op b=some c:=h;unfold Ap at h;cases hlt:qm b with
   |none =>
    rw[hlt] at h;dsimp only at h;rw[ae] at h;obtain⟨ca,h1,h⟩:=h;rw[aa] at h;obtain⟨cb,h2,rfl⟩:=h;have:=zL (pos:=p) (yy op) (ihX a ca h1).1 (ihX b cb h2).1;exact⟨this,bT this fun _=>rfl⟩
   |some e =>
    rw[hlt] at h;dsimp only at h;by_cases ho:isAdd op=true
    ·rw[if_pos ho] at h;rw[ae] at h;obtain⟨ca,h1,h⟩:=h;rw[aa] at h;obtain⟨ce,h2,rfl⟩:=h;obtain⟨q,hq,hse⟩:=sU hlt;have ho:op = .Add:=by cases op<;>first | rfl | (cases ho)
     subst ho;rw[hq];have:=wA (pos:=p) (q:=q) (ihX a ca h1).1 (ihX e ce h2).1 hse;exact⟨this,bT this fun _=>rfl⟩
    ·rw[if_neg ho] at h;cases h
  |UnaryOp op a p =>
   have h:cUn op (cE n S a)=some c:=h;cases op with
   |USub =>
    have h:(cE n S a).map .neg=some c:=h;rw[aa] at h;obtain⟨ca,h1,rfl⟩:=h;have:=zJ (pos:=p) (ihX a ca h1).1;exact⟨this,bT this fun _=>rfl⟩
   |Not =>
    have h:(cE n S a).map .not=some c:=h;rw[aa] at h;obtain⟨ca,h1,rfl⟩:=h;exact⟨AK (ihX a ca h1).1,A9 (ihX a ca h1).2⟩
   |_=>cases h
  |BoolOp op es p =>
   have h:CD (cE n S) op es=some c:=h;have ⟨h1,h2⟩:=zd (pos:=p) ihX h;exact⟨h1,h2.pt⟩
  |Compare a ops bs p =>
   have h:Dh (cE n S) a ops bs=some c:=h;cases ops with
   |nil=>cases h
   |cons op r=>cases r with
    |nil=>cases bs with
     |nil=>cases h
     |cons b r2=>cases r2 with
      |cons _ _=>cases h
      |nil =>
       have h:vD (cE n S) a op b=some c:=h;unfold vD at h;by_cases hb:behindInMarks op b=true
       ·rw[if_pos hb] at h;cases h
       ·rw[if_neg hb] at h;have hb:behindInMarks op b=false:=by simpa using hb
        rw[ae] at h;obtain⟨ca,h1,h⟩:=h;rw[aa] at h;obtain⟨cb,h2,rfl⟩:=h;exact⟨zW (qC op C.units) (ihX a ca h1).1 (ihX b cb h2).1 hb,AF C.units (ihX a ca h1).1 (ihX b cb h2).1 hb⟩
    |cons op' r2=>cases r2 with
     |cons _ _=>cases bs<;>cases h
     |nil=>cases bs with
      |nil=>cases h
      |cons b r3=>cases r3 with
       |nil=>cases h
       |cons d r4=>cases r4 with
        |cons _ _=>cases h
        |nil =>
         have h:yO (cE n S) a op op' b d=some c:=h;cases h
  |IfExp t a b p =>
   have h:((cE n S t).bind fun cc=>(cE n S a).bind fun ca=>(cE n S b).map fun cb=>.ite cc ca cb)=some c:=h;rw[ae] at h;obtain⟨cc,h1,h⟩:=h;rw[ae] at h;obtain⟨ca,h2,h⟩:=h;rw[aa] at h;obtain⟨cb,h3,rfl⟩:=h;exact⟨AN (ihX t cc h1).2 (ihX a ca h2).1 (ihX b cb h3).1,AM (ihX t cc h1).2 (ihX a ca h2).2 (ihX b cb h3).2⟩
  |List es p =>
   have h:(cI (cE n S) es).map .lst=some c:=h;rw[aa] at h;obtain⟨cs,h1,rfl⟩:=h;have:=AI (pos:=p) (cC ihX h1);exact⟨this,bT this fun _=>rfl⟩
  |Dict ks vs p =>
   have h:zS S ks vs=some c:=h;unfold zS at h;split at h
   ·cases h
   ·split at h
    ·rename_i hl;obtain⟨l,h1,rfl⟩:=aa.mp h;have:=z8 (pos:=p) C h1 (by simp) hl;exact⟨this,bT this fun _=>rfl⟩
    ·cases h
   ·cases h
  |Tuple es x1 p =>
   have h:(cI (cE n S) es).map .tup=some c:=h;rw[aa] at h;obtain⟨cs,h1,rfl⟩:=h;have:=zV (pos:=p) (x1:=x1) (cC ihX h1);exact⟨this,bT this fun _=>rfl⟩
  |Subscript a b p =>
   have h:yL (cE n S) a b=some c:=h;by_cases hb:mB b=true
   ·have h:(if mB b then (cE n S a).bind fun ca=>(cE n S b).map fun cb=>.ix ca cb else none)=some c:=by
     cases b<;>first | exact h | cases hb
    rw[if_pos hb] at h;rw[ae] at h;obtain⟨ca,h1,h⟩:=h;rw[aa] at h;obtain⟨cb,h2,rfl⟩:=h;have:=DE (pos:=p) (wO C.units.2) (ihX a ca h1).1 (ihX b cb h2).1 (ug hb);exact⟨this,bT this fun _=>rfl⟩
   ·cases b with
    |Slice lo hi st p2 =>
     cases st with
     |none =>
      have h:((cE n S a).bind fun ca=>(u5 (cE n S) lo).bind fun l=>(u5 (cE n S) hi).map fun h=>.sl ca l h)=some c:=h;rw[ae] at h;obtain⟨ca,h1,h⟩:=h;rw[ae] at h;obtain⟨cl,h2,h⟩:=h;rw[aa] at h;obtain⟨ch,h3,rfl⟩:=h;have:=Cp (pos:=p) (p2:=p2) (ihX a ca h1).1 (tz ihX h2) (tz ihX h3);exact⟨this,bT this fun _=>rfl⟩
     |some _=>cases h
    |_=>exact absurd rfl hb
  |Call g es ks pos =>
   have h:uw S (cE n S) g es ks pos=some c:=h;cases g with
   |Name x p =>
    have h:vj S (cE n S) x es ks=some c:=h;cases ks with
    |nil =>
     have h:qN S (cE n S) x es=some c:=h;have:=xt (p:=p) (pos:=pos) C ihX h;exact⟨this,bT this fun _=>rfl⟩
    |cons k r=>cases r with
     |cons _ _=>obtain⟨_,_,_⟩:=k;cases h
     |nil =>
      obtain⟨k,d,kp⟩:=k;cases k with
      |none=>cases h
      |some kn=>cases es with
       |nil=>cases h
       |cons a r2=>cases r2 with
        |cons _ _=>cases h
        |nil =>
         have h:u7 S (cE n S) x a d kn=some c:=h;have:=wz (p:=p) (kp:=kp) (pos:=pos) C ihX h;exact⟨this,bT this fun _=>rfl⟩
   |Attribute o name apos =>
    cases ks with
    |nil =>
     have h:xK (cE n S) o name es apos pos=some c:=h;have:=A3 (apos:=apos) (cpos:=pos) ihX h;exact⟨this,bT this fun _=>rfl⟩
    |cons _ _=>cases h
   |_=>cases h
  |ListComp elt gens sc pos =>
   have h:cLC S (cE n) elt sc gens=some c:=h;cases gens with
   |nil=>cases h
   |cons g r=>cases r with
    |cons _ _=>obtain⟨_,_,_,_⟩:=g;cases h
    |nil =>
     obtain⟨tg,iter,ifs,as⟩:=g;have h:(if as=0 then nZ S (cE n) elt tg iter ifs sc else none)=some c:=h;by_cases ha:as=0
     ·rw[if_pos ha] at h;subst ha;have:=yu (pos:=pos) C (ki C (fun C'=>ih C') h);exact⟨this,bT this fun _=>rfl⟩
     ·rw[if_neg ha] at h;cases h
  |_=>cases h
end
section
variable {X:Cx}{T:Tb}
end
structure kT (X:Cx)(S:Sc)(T:Tb):Prop where
 c:Ctx X S T
 sc:X.env.scope=S.sc
 fn:S.sc.kind = .function
 own:PassesOwn (model X.prog X.w) X.A X.env X.xe
noncomputable def zl (m:Str):Option nQ:=if m = "append" then some .append else if m = "insert" then some .insert else none
noncomputable def ue (m:Str):Option nQ:=none
noncomputable def lq (n:Nat)(S:Sc):Expr->Option (Nat×lB)
 |.Name x _=>if cG x&&n8 S.sc x then (idxOf S.N x).map fun i=>(i,.none) else none
 |_=>none
noncomputable def uP:Expr->Bool
 | .Constant (.bool true) _ _=>true
 |.Tuple _ _ _=>true
 |.IfExp _ _ _ _=>true
 |_=>false
noncomputable def mvB (x:Str):Expr->Bool
 |.Name y _=>x==("_law_best" : Str)&&y==("_law_way" : Str)
 |_=>false
noncomputable def yh (n:Nat)(S:Sc)(tg e:Expr):Option St:=match tg with
 |.Name x px=>match e with
  |.ListComp elt [⟨tg',iter,ifs,0⟩] sc p=>if iR S.sc x then (idxOf S.N x).bind fun i=>(cE n S (.ListComp elt [⟨tg',iter,ifs,0⟩] sc p)).map fun c=>.asg (.nm i) c false else none
  |e=>if gE e then none else if iR S.sc x then (idxOf S.N x).bind fun i=>(cE n S e).map fun c=>.asg (.nm i) c (mvB x e) else none
 |.Tuple es k p=>if gE e || isTup e then none else (ku S es).bind fun is=>(cE n S e).map fun c=>.asg (.tp is) c false
 |.Subscript o ix p=>if uP e then none else none
 |_=>none
noncomputable def wU (n:Nat)(S:Sc)(o:Expr)(name:Str)(es:List Expr)(apos cpos:Pos):Option St :=
 if apos.endLine==cpos.line then (if es.isEmpty then (ue name).bind fun m=>(lq n S o).map fun q=>.mut q.1 q.2 m .nil else (zl name).bind fun m=>(lq n S o).bind fun q=>match es with
  |[a]=>(cI (cE n S) [a]).map fun cs=>.mut q.1 q.2 m cs
  |[a,b]=>(cI (cE n S) [a,b]).map fun cs=>.mut q.1 q.2 m cs
  |_=>none)
 else none
noncomputable def qW (n:Nat)(S:Sc)(o:Expr)(name:Str)(es:List Expr)(apos cpos:Pos):Option St:=match es with
 |_=>none
noncomputable def cAug (n:Nat)(S:Sc)(tg:Expr)(op:Operator)(e:Expr):Option St:=none
noncomputable def yD (n:Nat)(S:Sc)(tg e:Expr):Option St:=none
noncomputable def BU (n:Nat)(S:Sc)(e:Expr):Option St:=if gE e then none else (cE n S e).map .expr
noncomputable def CY (n:Nat)(S:Sc):Expr->Option St
 |.Constant k x1 p=>(match k with
  |.str _=>some .pass
  |k=>BU n S (.Constant k x1 p))
 |.Call g es ks cpos=>(match g with
  |.Attribute o name apos=>(match ks with
   |[]=>(match qW n S o name es apos cpos with
    |some c=>some c
    |none=>wU n S o name es apos cpos)
   |k::ks=>BU n S (.Call (.Attribute o name apos) es (k::ks) cpos))
  |g=>BU n S (.Call g es ks cpos))
 |e=>BU n S e
noncomputable def cAs (n:Nat)(S:Sc)(e:Expr):List Expr->Option St
 |[]=>none
 |[tg]=>(match yD n S tg e with
  |some c=>some c
  |none=>yh n S tg e)
 |_::_::_=>none
noncomputable def cRet (n:Nat)(S:Sc):Option Expr->Option St
 |none=>some .retN
 |some e=>(cE n S e).map .ret
noncomputable def qv:jo->cM->Option Nat
 |_,_=>none
theorem uX {t:jo}{cb:cM}{x:Nat}(h:qv t cb=some x):t = .nm x:=by
 cases h
noncomputable def Dq (n:Nat)(S:Sc)(tg iter:Expr)(ob:Option cM):List Stmt->Option St
 |[]=>if fA iter then (sD S tg).bind fun t=>ob.bind fun cb=>(match qv t cb with
  |some x=>(cE n S iter).map fun c=>.forw x c cb
  |none=>(BQ S (cE n S) (isTup tg) iter).map fun it=>.forr t it cb) else none
 |_::_=>none
noncomputable def Dj (S:Sc):Expr->Option St->Option St
 |_,o=>o
theorem u6 {S:Sc}{e:Expr}{o:Option St}{c:St}(h:Dj S e o=some c):o=some c:=h
noncomputable def cWhl (n:Nat)(S:Sc)(e:Expr)(ob:Option cM):List Stmt->Option St
 |[]=>none
 |_::_=>none
mutual
noncomputable def cS:Nat->Sc->Stmt->Option St
 |0,_,_=>none
 |n+1,S,st=>match st with
  |.Assign tgs e _=>cAs n S e tgs
  |.AugAssign tg op e _=>cAug n S tg op e
  |.Expr e _=>CY n S e
  |.Return o _=>cRet n S o
  |.If e a b _=>(cE n S e).bind fun c=>(sf n S a).bind fun ca=>(sf n S b).map fun cb=>.ite c ca cb
  |.For tg iter b oe _=>Dj S iter (Dq n S tg iter (sf n S b) oe)
  |.While e b oe _=>cWhl n S e (sf n S b) oe
  |.Pass _=>some .pass
  |.Raise _ _ _=>some (.expr (.neg (.cst .non)))
  |_=>none
noncomputable def sf:Nat->Sc->List Stmt->Option cM
 |0,_,_=>none
 |_+1,_,[]=>some .nil
 |n+1,S,s::r=>(cS n S s).bind fun c=>(sf n S r).map fun d=>.cons c d
end
theorem mf {e:Expr}{t:Option Expr}{l:Nat}{env:Env}(h:gE e=false):swapsWith e t l env=pure false:=by
 cases e<;>first | rfl | (cases h)
theorem r8 {e t:Expr}{l:Nat}{env:Env}(h:gE e=false):swapsWithSole [t] e l env=pure false:=mf h
section
variable {X:Cx}{S:Sc}{T:Tb}
theorem wQ {st:Stmt}:PS X st (tS X.K T (.expr (.neg (.cst .non)))):=by
 intro pins s σ H D I h;obtain⟨P,Z,env,F,re,hz,zp,h⟩:=h;exact h.elim
theorem mi (C:Ctx X S T){n:Nat}{o:Expr}{q:Nat×lB}(h:lq n S o=some q):PE X o (rj X.K T q.1 q.2):=by
 unfold lq at h;split at h
 ·rename_i x p;by_cases hk:(cG x&&n8 S.sc x)=true
  ·rw[if_pos hk,aa] at h;rw[aj] at hk;obtain⟨i,h1,rfl⟩:=h;obtain⟨n1,n2,n3⟩:=cD hk.1;have hi:=bO h1;rw[<-C.N] at hi;exact An hi (C.vis x hk.2) n1 n2
  ·rw[if_neg hk] at h;cases h
 ·cases h
theorem iK {n:Nat}{o:Expr}{q:Nat×lB}{name:Str}{env:Env}(h:lq n S o=some q):attributeBase o name env (eval o env)=eval o env:=by
 unfold lq at h;split at h
 ·rfl
 ·cases h
theorem Ag (C:kT X S T){n:Nat}{tg e:Expr}{c:St}{pos:Pos}(h:yh n S tg e=some c):PS X (.Assign [tg] e pos) (tS X.K T c):=by
 have hN:=C.c.nd;rw[<-C.c.N] at hN;unfold yh at h;split at h
 ·rename_i x px;split at h
  ·rename_i elt tg' iter ifs sc p;by_cases hl:iR S.sc x=true
   ·rw[if_pos hl,ae] at h;obtain⟨i,h1,h⟩:=h;rw[aa] at h;obtain⟨ce,h2,rfl⟩:=h;have hi:=bO h1;rw[<-C.c.N] at hi;have hsw:swapsWith (.ListComp elt [⟨tg',iter,ifs,0⟩] sc p) (some (.Name x px)) pos.line X.env=pure (X.env.blockKind == .function&&X.env.kindOf x==some .local&&px.line==p.line && !(sc.names.any fun (n,k)=>n==x&&(k == .local || k == .cell))):=rfl;cases hb:(X.env.blockKind == .function&&X.env.kindOf x==some .local&&px.line==p.line && !(sc.names.any fun (n,k)=>n==x&&(k == .local || k == .cell))) with
    |false =>
     rw[hb] at hsw;exact vg hN hi (C.c.loc x hl).1 (bX n C.c _ _ h2).1 hsw (C.c.loc x hl).2
    |true =>
     rw[hb] at hsw;cases n with
     |zero=>cases h2
     |succ n =>
      have h2:nZ S (cE n) elt tg' iter ifs sc=some ce:=h2;obtain⟨pick,t,it,ci,ce',rfl,g1,g2,g3,g4,g5⟩:=ki C.c (fun C'=>bX n C') h2;refine dB (pC g1 C.c.calm g2 g3 (lF (qH g4)) (pG g5) hN hi (C.c.loc x hl).1 (C.c.loc x hl).2 hsw) fun D σ H h=>?_
      obtain⟨P,Z,env,F,re,hz,zp,h⟩:=h;unfold bZ at h;obtain⟨p,hp,h⟩:=dW h;exact lh ⟨P,env,F,re,p,hp,fun v H' G s rp rt=>vO re hz zp s rp rt h⟩
   ·rw[if_neg hl] at h;cases h
  ·by_cases hc:gE e=true
   ·rw[if_pos hc] at h;cases h
   ·rw[if_neg hc] at h;by_cases hl:iR S.sc x=true
    ·rw[if_pos hl,ae] at h;obtain⟨i,h1,h⟩:=h;rw[aa] at h;obtain⟨ce,h2,rfl⟩:=h;have hi:=bO h1;rw[<-C.c.N] at hi;exact vg hN hi (C.c.loc x hl).1 (bX n C.c _ _ h2).1 (mf (by simpa using hc)) (C.c.loc x hl).2
    ·rw[if_neg hl] at h;cases h
 ·rename_i es k p;by_cases hc:(gE e || isTup e)=true
  ·rw[if_pos hc] at h;cases h
  ·rw[if_neg hc,ae] at h;simp only[Bool.or_eq_true,not_or,Bool.not_eq_true] at hc;obtain⟨is,h1,h⟩:=h;rw[aa] at h;obtain⟨ce,h2,rfl⟩:=h;obtain⟨a1,a2,a3⟩:=nM C.c h1;refine wD (ur C.c.calm a1 a2 a3) (bX n C.c _ _ h2).1 (r8 hc.1) ?_ rfl;obtain⟨_,hc⟩:=hc;cases e<;>first | rfl | (cases hc)
 ·rename_i o ix p;by_cases ht:uP e=true
  ·rw[if_pos ht] at h;cases h
  rw[if_neg ht] at h;cases h
 ·cases h
theorem A1 (C:kT X S T){n:Nat}{o:Expr}{name:Str}{es:List Expr}{c:St}{apos cpos pos:Pos}(h:wU n S o name es apos cpos=some c):PS X (.Expr (.Call (.Attribute o name apos) es [] cpos) pos) (tS X.K T c):=by
 unfold wU at h;by_cases hl:(apos.endLine==cpos.line)=true
 ·rw[if_pos hl] at h;by_cases he:es.isEmpty=true
  ·rw[if_pos he,ae] at h;have he:es=[]:=by simpa using he
   subst he;obtain⟨m,hm,h⟩:=h;rw[aa] at h;obtain⟨q,hq,rfl⟩:=h;have slot:∃ id,PySem.Slot "list" name id/\typeOf (.builtin id)=pure (.type "method_descriptor")/\vZ X id (rY X.K m):=by
    unfold ue at hm;cases hm
   obtain⟨id,s1,s2,s3⟩:=slot;exact dB (iu (Am dr s1 s2 s3 (mi C.c hq) (iK hq) hl) rfl) fun D σ H h=>se h
  rw[if_neg he,ae] at h;obtain⟨m,hm,h⟩:=h;rw[ae] at h;obtain⟨q,hq,h⟩:=h;have slot:∃ id,PySem.Slot "list" name id/\typeOf (.builtin id)=pure (.type "method_descriptor")/\vZ X id (rY X.K m):=by
   unfold zl at hm;split at hm
   ·rename_i e;cases hm;subst e;exact⟨_,PySem.F.slot_list_append,by rfl,o9⟩
   split at hm
   ·rename_i e;cases hm;subst e;exact⟨_,PySem.F.slot_list_insert,by rfl,pW⟩
   cases hm
  obtain⟨id,s1,s2,s3⟩:=slot;split at h
  ·rename_i a;rw[aa] at h;obtain⟨cs,ha,rfl⟩:=h;obtain⟨n1,c1,d1,_,hd,_⟩:=bJ ha;refine dB (iu (kB dr s1 s2 s3 (mi C.c hq) (cC (bX n C.c) ha) (iK hq) ?_ hl (bD n1) (dG hd)) rfl) fun D σ H h=>jQ h
   rw[bD n1];rfl
  ·rename_i a b;rw[aa] at h;obtain⟨cs,ha,rfl⟩:=h;obtain⟨n1,c1,d1,_,hd,_⟩:=bJ ha;obtain⟨n2,_,_,_,_,_⟩:=bJ hd;refine dB (iu (kB dr s1 s2 s3 (mi C.c hq) (cC (bX n C.c) ha) (iK hq) ?_ hl (bD n1) (dG hd)) rfl) fun D σ H h=>jQ h
   rw[bD n1,bD n2];rfl
  ·cases h
 ·rw[if_neg hl] at h;cases h
theorem xO (C:kT X S T){n:Nat}{o:Expr}{name:Str}{es:List Expr}{c:St}{apos cpos pos:Pos}(h:qW n S o name es apos cpos=some c):PS X (.Expr (.Call (.Attribute o name apos) es [] cpos) pos) (tS X.K T c):=by
 cases h
theorem zE (C:kT X S T){n:Nat}{tg e:Expr}{c:St}{pos:Pos}(h:yD n S tg e=some c):PS X (.Assign [tg] e pos) (tS X.K T c):=by
 cases h
theorem CA (C:kT X S T):∀(n:Nat),(∀(st:Stmt) (c:St),cS n S st=some c->PS X st (tS X.K T c))/\∀(l:List Stmt) (c:cM),sf n S l=some c->jS X l (AB X.K T c):=by
 intro n
 induction n with
 |zero=>exact⟨fun st c h=>(by cases h),fun l c h=>(by cases h)⟩
 |succ n ih =>
  obtain⟨i1,i2⟩:=ih;refine⟨fun st c h=>?_,fun l c h=>?_⟩
  ·cases st with
   |Assign tgs e p =>
    have h:cAs n S e tgs=some c:=h;cases tgs with
    |nil=>cases h
    |cons tg r=>cases r with
     |cons _ _=>cases h
     |nil =>
      have h:(match yD n S tg e with
       |some c=>some c
       |none=>yh n S tg e)=some c:=h
      cases hp:yD n S tg e with
      |some c'=>rw[hp] at h;cases h;exact zE C hp
      |none=>rw[hp] at h;exact Ag C h
   |AugAssign tg op e p=>cases h
   |Expr e p =>
    have h:CY n S e=some c:=h;have plain:BU n S e=some c->PS X (.Expr e p) (tS X.K T c):=fun h=>by
     unfold BU at h;by_cases hc:gE e=true
     ·rw[if_pos hc] at h;cases h
     ·rw[if_neg hc,aa] at h;obtain⟨ce,h1,rfl⟩:=h;exact wN (bX n C.c _ _ h1).1 (mf (by simpa using hc))
    cases e with
    |Constant k x1 q=>cases k with
     |str s=>cases h;exact AX
     |_=>exact plain h
    |Call g es ks q=>cases g with
     |Attribute o name apos=>cases ks with
      |nil =>
       have h:(match qW n S o name es apos q with
        |some c=>some c
        |none=>wU n S o name es apos q)=some c:=h
       cases ha:qW n S o name es apos q with
       |some c'=>rw[ha] at h;cases h;exact xO C ha
       |none=>rw[ha] at h;exact A1 C h
      |cons k ks=>exact plain h
     |_=>exact plain h
    |_=>exact plain h
   |Return o p=>cases o with
    |none=>cases h;exact yC
    |some e =>
     have h:(cE n S e).map .ret=some c:=h;rw[aa] at h;obtain⟨ce,h1,rfl⟩:=h;exact A4 (bX n C.c _ _ h1).1
   |If e a b p =>
    have h:((cE n S e).bind fun c=>(sf n S a).bind fun ca=>(sf n S b).map fun cb=>St.ite c ca cb)=some c:=h;rw[ae] at h;obtain⟨cc,h1,h⟩:=h;rw[ae] at h;obtain⟨ca,h2,h⟩:=h;rw[aa] at h;obtain⟨cb,h3,rfl⟩:=h;exact zI (bX n C.c _ _ h1).2 (i2 _ _ h2) (i2 _ _ h3)
   |For tg iter b oe p =>
    have key:∀ c,Dq n S tg iter (sf n S b) oe=some c->PS X (.For tg iter b oe p) (tS X.K T c):=by
     intro c h;cases oe with
      |cons _ _=>cases h
      |nil =>
       have h:(if fA iter then (sD S tg).bind fun t=>(sf n S b).bind fun cb=>(match qv t cb with
        |some x=>(cE n S iter).map fun c=>St.forw x c cb
        |none=>(BQ S (cE n S) (isTup tg) iter).map fun it=>St.forr t it cb) else none)=some c:=h
       by_cases hs:fA iter=true
       ·rw[if_pos hs,ae] at h;obtain⟨t,h1,h⟩:=h;rw[ae] at h;obtain⟨cb,h3,h⟩:=h;cases hx:qv t cb with
        |some x =>
         rw[hx] at h;have h:(cE n S iter).map (fun c=>St.forw x c cb)=some c:=h;rw[aa] at h;obtain⟨ci,h2,rfl⟩:=h;have ht:=uX hx;subst ht;cases hx
        |none =>
         rw[hx] at h;have h:(BQ S (cE n S) (isTup tg) iter).map (fun it=>St.forr t it cb)=some c:=h;rw[aa] at h;obtain⟨it,h2,rfl⟩:=h;exact AD C.own C.c.calm (yZ C.c (bX n C.c) h2) (uy C.c h1) (i2 _ _ h3) (pG hs)
       ·rw[if_neg hs] at h;cases h
    exact key c (u6 (S:=S) (e:=iter) h)
   |While e b oe p=>cases oe with
    |cons _ _=>cases h
    |nil =>
     cases h
   |Pass p=>cases h;exact w8
   |Raise a b p=>cases h;exact wQ
   |_=>cases h
  ·cases l with
   |nil=>cases h;exact ya
   |cons st r =>
    unfold sf at h;rw[ae] at h;obtain⟨cc,h1,h⟩:=h;rw[aa] at h;obtain⟨cb,h3,rfl⟩:=h;exact uI (i1 _ _ h1) (i2 _ _ h3)
end
structure Df where
 nm:Str
 st:Stmt
 ps:List Str
 N:List Str
 body:cM
structure Pg where
 dfs:List Df
 pN:List Str
 fH:List Str
 gl:Nat->D
 fuel:Nat
noncomputable def Pg.fns (p:Pg):List Fn:=p.dfs.map fun d=>⟨d.ps.length,d.N.length,d.body⟩
noncomputable def Pg.run (p:Pg):Nat->Nat->List D->Rs (D×Bool):=Pc.run p.fns p.gl p.fuel
noncomputable def Pg.sc (p:Pg)(d:Df):Sc:=⟨d.N,aC d.st,p.dfs.map (·.nm),p.pN,p.fH⟩
noncomputable def Df.okB (p:Pg)(n:Nat)(d:Df):Bool :=
 decide ((aC d.st).kind = .function) && !(aC d.st).isCoroutine && !(aC d.st).isGenerator&&decide d.N.Nodup&&decide (d.N.take d.ps.length=d.ps)&&d.ps.all (fun x=>iR (aC d.st) x)&&(aC d.st).names.all (fun y=>decide (y.2≠.free))
structure Df.Ok (p:Pg)(d:Df):Prop where
 b:∃ n,sf n (p.sc d) (aY d.st)=some d.body
 S:bV d.N d.ps (aC d.st)
 bd:∀(kV doc pm:Value) (an:Option Addr) (cdv ct:Value) (us:List Value),us.length=d.ps.length->bindArgs (PySem.W.fnOf d.nm d.nm (bU d.st) (aY d.st) (aC d.st) .none kV doc pm an cdv ct) ⟨us,[]⟩=pure (d.ps.zip us)
theorem ic {sc:Scope}{x:Str}(h:iR sc x=true):Loc sc x:=by
 unfold iR cK at h;split at h
 ·rename_i e;exact .inl e
 ·rename_i e;exact .inr e
 ·cases h
theorem nW {sc:Scope}{x:Str}(h:n8 sc x=true):yU sc x:=by
 unfold n8 cK at h;split at h
 ·rename_i e;exact .inl e
 ·rename_i e;exact .inr (.inl e)
 ·rename_i e;exact .inr (.inr e)
 ·cases h
theorem qr {sc:Scope}{x:Str}(h:oy sc x=true):sc.names.lookup x=some .globalImplicit:=by
 unfold oy cK at h;split at h
 ·rename_i e;exact e
 ·cases h
theorem len0 {P:List Value->Prop}{us:List Value}(h:us.length=0)(f:P []):P us:=by
 cases us with
 |nil=>exact f
 |cons a r=>cases h
theorem Av {P:List Value->Prop}{us:List Value}(h:us.length=1)(f:∀ a,P [a]):P us:=by
 cases us with
 |nil=>cases h
 |cons a r=>exact len0 (P:=fun r=>P (a::r)) (Nat.succ.inj h) (f a)
theorem uq {P:List Value->Prop}{us:List Value}(h:us.length=2)(f:∀ a b,P [a,b]):P us:=by
 cases us with
 |nil=>cases h
 |cons a r=>exact Av (P:=fun r=>P (a::r)) (Nat.succ.inj h) (f a)
theorem BV {P:List Value->Prop}{us:List Value}(h:us.length=3)(f:∀ a b c,P [a,b,c]):P us:=by
 cases us with
 |nil=>cases h
 |cons a r=>exact uq (P:=fun r=>P (a::r)) (Nat.succ.inj h) (f a)
theorem Df.ok_of {p:Pg}{d:Df}{n:Nat}(h:d.okB p n=true)(hb:sf n (p.sc d) (aY d.st)=some d.body)
  (bd:∀(kV doc pm:Value) (an:Option Addr) (cdv ct:Value) (us:List Value),us.length=d.ps.length->bindArgs (PySem.W.fnOf d.nm d.nm (bU d.st) (aY d.st) (aC d.st) .none kV doc pm an cdv ct) ⟨us,[]⟩=pure (d.ps.zip us)):d.Ok p:=by
 unfold Df.okB at h;simp only[Bool.and_eq_true,decide_eq_true_eq,Bool.not_eq_true',List.all_eq_true] at h;obtain⟨⟨⟨⟨⟨⟨h1,h2⟩,h3⟩,h4⟩,h5⟩,h6⟩,h7⟩:=h;exact⟨⟨n,hb⟩,⟨h1,h2,h3,h4,h5,fun x hx=>ic (h6 x hx),h7⟩,bd⟩
structure Pg.In (p:Pg)(K:Frag)(mg:Str->Option Value):Prop where
 fn:∀(i:Nat) (d:Df),p.dfs[i]? = some d->∃ f fd,L2.kL K d.nm d.nm d.st f fd/\mg d.nm=some (.ref f)
 gl:∀ i x,idxOf p.pN x=some i->∃ v u,mg x=some u/\RelV v u/\∀ H,Rep K H (p.gl i) v []
 blt:∀ x,p.fH.contains x=true->mg x=none
theorem i6 {ds:List D}{n i:Nat}{d:D}{t:Tg}(h:(aR ds n)[i]? = some (some (d,t))):ds[i]? = some d/\t=bH d []:=by
 unfold aR at h;by_cases hi:i<ds.length
 ·rw[List.getElem?_append_left (by simpa using hi),List.getElem?_map] at h;rw[List.getElem?_eq_getElem hi] at h ⊢;simp only[Option.map_some,Option.some.injEq,Prod.mk.injEq] at h;obtain⟨h1,h2⟩:=h;subst h1;exact⟨rfl,h2.symm⟩
 ·rw[List.getElem?_append_right (by simpa using Nat.le_of_not_lt hi),List.getElem?_replicate] at h;split at h<;>cases h
theorem aD.parts {K:Frag}{H:Hp}:∀{ds:List D}{vs:List V}{G:List Addr},aD K H ds vs G->∃ F:Nat->List Addr,(∀ i d,ds[i]? = some d->∃ v,vs[i]? = some v/\Rep K H d v (F i))/\(∀ i,ds[i]? = none->F i=[])/\∀ i,∀ a∈F i,a∈G
 |_,_,_,.nil=>⟨fun _=>[],fun i d h=>(by simp at h),fun _ _=>rfl,fun _ _ h=>(nomatch h)⟩
 | _,_,_,.cons (d:=d) (v:=v) (ds:=ds) (vs:=vs) (G:=G1) (G':=G2) r s=>by
  obtain⟨F,h1,h2,h3⟩:=aD.parts s;refine⟨fun i=>match i with | 0=>G1 | j+1=>F j,fun i e h=>?_,fun i h=>?_,fun i a h=>?_⟩
  ·cases i with
   |zero=>cases h;exact⟨v,rfl,r⟩
   |succ j=>exact h1 j e (by simpa using h)
  ·cases i with
   |zero=>cases h
   |succ j=>exact h2 j (by simpa using h)
  ·cases i with
   |zero=>exact bh _ h
   |succ j=>exact aw _ (h3 j a h)
theorem entry {K:Frag}{H:Hp}{ds:List D}{vs:List V}{G:List Addr}{N:List Str}(hr:aD K H ds vs G)(hl:ds.length<=N.length):∃ F,RE K (fun a=>H a≠none) (aR ds N.length) (L2.start N vs) H F/\∀ i,∀ a∈F i,a∈G:=by
 obtain⟨F,h1,h2,h3⟩:=hr.parts;have flat:∀ i d t,(aR ds N.length)[i]? = some (some (d,t))->aW t=true->F i=[]:=fun i d t h o=>by
  obtain⟨e1,e2⟩:=i6 h;obtain⟨v,_,rp⟩:=h1 i d e1;unfold bH at e2;by_cases hf:d.flat=true
  ·exact rp.flat hf
  ·rw[if_neg hf] at e2;subst e2;cases o
 refine⟨F,⟨?_,fun i d t h=>?_,fun i h=>?_,fun i d t h o=>?_,fun i d h a ha=>?_,fun a h=>h⟩,h3⟩
 ·simp only[aR,L2.start,List.length_append,List.length_map,List.length_replicate,hr.len]
 ·obtain⟨e1,e2⟩:=i6 h;obtain⟨v,e3,rp⟩:=h1 i d e1;refine⟨v,?_,rp⟩;unfold L2.start;have hi:i<vs.length:=(List.getElem?_eq_some_iff.mp e3).1;rw[List.getElem?_append_left (by simpa using hi),List.getElem?_map,e3];rfl
 ·cases e:ds[i]? with
  |none=>exact h2 i e
  |some d =>
   refine absurd ?_ (h d (bH d []));unfold aR;have hi:i<ds.length:=(List.getElem?_eq_some_iff.mp e).1;rw[List.getElem?_append_left (by simpa using hi),List.getElem?_map,e];rfl
 ·rw[flat i d t h o];exact⟨cg,fun _ h=>(nomatch h),fun _ h=>(nomatch h)⟩
 ·rw[flat i d _ h rfl] at ha;cases ha
theorem lG {α:Type}{g:α->Str}:∀{l:List α}{x:Str}{i:Nat},idxOf (l.map g) x=some i->∃ a,l[i]? = some a/\g a=x:=by
 intro l x i h;have:=bO h;rw[List.getElem?_map,aa] at this;exact this
theorem om {H H':Hp}(e:iU (fun a=>H a≠none) H H'):aE H H':=fun b u h=>(e.keep b (by rw[h];exact fun z=>(by cases z))).trans h
section
variable {p:Pg}{P:Program}{w:World}{K:Frag}{mg:Str->Option Value}{base:Heap}
end
noncomputable def noL (K:Frag):Bool:=K.all fun p=>match p.2.cls with
 |.type n=>!(n == "list")
 |_=>true
theorem lookup_mem:∀{K:Frag}{a:Addr}{o:Obj},K.lookup a=some o->(a,o)∈K
 |[],_,_,h=>by cases h
 | (b,x)::r,a,o,h=>by
  rw[cm] at h;cases e:a==b with
  |true =>
   rw[e] at h;cases h;rw[gj] at e;rw[e];exact aq
  |false=>rw[e] at h;exact ai _ (lookup_mem h)
theorem Az {K:Frag}{a:Addr}{o:Obj}(h:noL K=true)(l:K.lookup a=some o)(c:o.cls = .type "list"):False:=by
 unfold noL at h;rw[bw] at h;have:=h _ (lookup_mem l);rw[c] at this;simp at this
theorem lO {K:Frag}{H:Hp}:∀ ns:List Int,aD K H (ns.map D.int) (ns.map V.int) []
 |[]=>.nil
 |n::r=>.cons (.int n) (lO r)
theorem Aj {K:Frag}{H:Hp}{a:Addr}{ns:List Int}{f:List D->Rs (D×Bool)}{E:XK}{fr:Bool}(hL:noL K=true)(hS:mE K H a (ns.map V.int))(hf:f [.lst (ns.map D.int)] = .ok (.bl true,fr)):ti K 1 f [.ref a] H (fun v _=>v = .bl true) E:=by
 rcases hS with h | ⟨o,its,n,h1,h2,_⟩
 ·refine⟨[.lst (ns.map D.int)],[a] ++ [],rfl,.cons (.lst h (lO ns)) .nil,(.bl true,fr),hf,fun v H' G' _ rp _ _=>?_⟩;exact rp.bl_inv.1
 ·exact (Az hL h1 h2).elim
noncomputable def qB (es:List DictEntry):Bool:=es.all (fun e=>match e.val with
  |.int _ _=>true
  |.none=>true
  |_=>false)&&es.any (fun e=>match e.key with
  |.str _ _=>true
  |_=>false)
noncomputable def noS (as:List Addr)(K:Frag):Bool:=K.all fun p=>as.contains p.1 || match p.2.data with
 |.dict es _=>!qB es.toList
 |_=>true
theorem fC.vals {es:List DictEntry}{kvs:List (Key×Option Int)}(h:fC es kvs):es.all (fun e=>match e.val with
  |.int _ _=>true
  |.none=>true
  |_=>false)=true:=by
 induction h with
 |nil=>rfl
 |cons hh hk hv r ih=>rw[df,hv,ih];rfl
 |si hk hv r ih=>rw[df,hv,ih];rfl
 |sn hk hv r ih=>rw[df,hv,ih];rfl
theorem Dm {w:World}{K:Frag}(as:List Addr)(h:noS as K=true)(h0:∀ a∈as,∀ o es ep,K.lookup a=some o->o.data = .dict es ep->∀ e∈es.toList,∀ s t,e.key = .str s t->(a==sysModules)=false/\e.hash=hashStr w s):sY w K:=by
 intro a o es ep hl hd kvs he e hm s t hk;by_cases ha:a∈as
 ·exact h0 a ha o es ep hl hd e hm s t hk
 ·unfold noS at h;rw[bw] at h;have:=h _ (lookup_mem hl);dsimp only at this;rw[hd,show as.contains a=false by rw[Bool.eq_false_iff];intro z;exact ha (List.contains_iff_mem.mp z),Bool.false_or] at this;dsimp only at this;unfold qB at this;rw[he.vals,Bool.true_and,fh] at this;have h2:es.toList.any (fun e=>match e.key with
   |.str _ _=>true
   |_=>false)=true:=by
   rw[List.any_eq_true];exact⟨e,hm,by rw[hk]⟩
  rw[h2] at this;cases this
noncomputable def hashes (w:World):List DictEntry->Prop
 |[]=>True
 |e::r=>(match e.key with
  |.str s _=>e.hash=hashStr w s
  |_=>True)/\hashes w r
theorem yX {w:World}{K:Frag}(h:noS [] K=true):sY w K:=Dm [] h fun a ha=>(nomatch ha)
def Has (K:Frag)(d:Df):Prop:=∃(f:Addr) (oc:Value) (od:Option Addr) (kV dc pm:Value) (an:Option Addr) (cd ct:Value) (sl:Array (Option Value)),
 PySem.W.nsIn K mainGlobals d.nm=some (some (.ref f))/\K.lookup f=some ⟨oc,od,.func (PySem.W.fnOf d.nm d.nm (bU d.st) (aY d.st) (aC d.st) .none kV dc pm an cd ct),sl⟩/\PySem.W.codeIn K cd d.nm=true/\PySem.W.keepIn K (.ref f)=true
def lx (K:Frag)(x:Str)(d:D):Prop:=∃ v u,PySem.W.nsIn K mainGlobals x=some (some u)/\RelV v u/\∀ H,Rep K H d v []
noncomputable def r9 {α:Type}(P:α->Prop):List α->Prop
 |[]=>True
 |a::r=>P a/\r9 P r
theorem cW {α:Type}{P:α->Prop}:∀{l:List α},r9 P l->∀ a∈l,P a
 |[],_,a,h=>by cases h
 | b::r,⟨h1,h2⟩,a,h=>by
  rcases gd.mp h with rfl | h
  ·exact h1
  ·exact cW h2 a h
structure oY (p:Pg)(K:Frag):Prop where
 fn:r9 (Has K) p.dfs
 gl:∀ i x,idxOf p.pN x=some i->lx K x (p.gl i)
 blt:r9 (fun x=>PySem.W.nsIn K mainGlobals x=some none) p.fH
theorem oY.isin {p:Pg}{K:Frag}{h:Heap}{mg:Str->Option Value}(s:oY p K)(X:K.In h)(G:h.Ns mainGlobals mg):p.In K mg where
 fn:=fun i d hd=>by
  obtain⟨f,oc,od,kV,dc,pm,an,cd,ct,sl,a,l,c,k⟩:=cW s.fn d (List.mem_of_getElem? hd);exact⟨f,_,Bk (st:=d.st) l c k,fk X G a⟩
 gl:=fun i x hx=>by
  obtain⟨v,u,a,b,c⟩:=s.gl i x hx;exact⟨v,u,fk X G a,b,c⟩
 blt:=fun x hx=>PySem.W.mg_none_of X G (cW s.blt x (by simpa using hx))
end Pc
end
section
namespace Pc
open PySem
theorem aA {α β:Type}(a:α)(f:α->Rs β):(Rs.ok a).bind f=f a:=rfl
theorem bM {α:Type}(env:En)(a:α)(k:α->Fl):fB env (.ok a) k=k a:=rfl
theorem aF (e:En)(k:En->Fl):(Fl.nx e).andThen k=k e:=rfl
theorem then_rt (d:D)(b:Bool)(k:En->Fl):(Fl.rt d b).andThen k = .rt d b:=rfl
theorem cV {α:Type}(a:α):fT (some a) = .ok a:=rfl
theorem iJ (op:Operator)(i j:Int):pY op (.int i) (.int j)=(Pc.binI op i j).map .int:=by cases op<;>rfl
theorem gH (i:Int)(R:List Nat):dQ (.int i) R = .mv []:=rfl
theorem kz:∀ l:List Int,D.flats (l.map D.int)=true
 |[]=>rfl
 |_::r=>kz r
theorem eY (l:List Int)(R:List Nat):dQ (.lst (l.map D.int)) R = .mv []:=by
 unfold dQ;rw[if_pos];exact kz l
theorem n5 (n:Nat):∀ a b:List Int,a.length=b.length->lu (D.eqf (n+1)) (a.map D.int) (b.map D.int)=some (a==b)
 |[],[],_=>rfl
 | x::a,y::b,h=>by
  show (some (x==y)).bind (fun c=>(lu (D.eqf (n+1)) (a.map D.int) (b.map D.int)).map fun d=>c&&d)=_;rw[n5 n a b (by simpa using h)];rfl
 |[],_::_,h=>by simp at h
 |_::_,[],h=>by simp at h
theorem wK (n:Nat)(a b:List Int):D.eqf (n+2) (.lst (a.map D.int)) (.lst (b.map D.int))=some (a==b):=by
 show (if (a.map D.int).length=(b.map D.int).length then lu (D.eqf (n+1)) (a.map D.int) (b.map D.int) else some false)=_;by_cases h:a.length=b.length
 ·rw[if_pos (by simpa using h),n5 n a b h]
 ·rw[if_neg (by simpa using h)];have:(a==b)=false:=by
   rw[beq_eq_false_iff_ne];rintro rfl;exact h rfl
  rw[this]
end Pc
end
section
namespace Pc
open PySem PySem.Spec PyProof.Rows L2
theorem AE {K:Frag}{d:Df}{f:Addr}{oc:Value}{od:Option Addr}{kV dc pm:Value}{an:Option Addr}{cd ct:Value}{sl:Array (Option Value)}
 (a:PySem.W.nsIn K mainGlobals d.nm=some (some (.ref f))) (l:K.lookup f=some ⟨oc,od,.func (PySem.W.fnOf d.nm d.nm (bU d.st) (aY d.st) (aC d.st) .none kV dc pm an cd ct),sl⟩) (c:PySem.W.codeIn K cd d.nm=true) (k:PySem.W.keepIn K (.ref f)=true):Has K d :=
 ⟨f,oc,od,kV,dc,pm,an,cd,ct,sl,a,l,c,k⟩
theorem gl_int {K:Frag}{x:Str}{i:Int}{t:Tok}(h:PySem.W.nsIn K mainGlobals x=some (some (.int i t))):lx K x (.int i):=⟨.int i,_,h,⟨t,rfl⟩,fun _=>.int i⟩
theorem me {K:Frag}{x:Str}{a:Addr}{oc:Value}{od:Option Addr}{its:Array Value}{n:Nat}{sl:Array (Option Value)}{ds:List D}{vs:List V}(h:PySem.W.nsIn K mainGlobals x=some (some (.ref a)))
  (l:K.lookup a=some ⟨oc,od,.seq its n,sl⟩) (c:oc = .type "tuple") (hz:its.size<=sizeLine) (hv:aN vs its.toList) (hr:∀ H,aD K H ds vs []) (hp:tF vs=false:=by rfl):lx K x (.tup ds) :=
 ⟨.ref a,_,h,rfl,fun H=>.tup (.inr ⟨hp,_,its,n,l,c,rfl,hz,hv⟩) (hr H)⟩
noncomputable def mw (K:Frag)(g:Nat->D):Nat->List Str->Prop
 |_,[]=>True
 |i,x::r=>lx K x (g i)/\mw K g (i+1) r
theorem m9 {K:Frag}{g:Nat->D}:∀{l:List Str}{k i:Nat}{x:Str},mw K g k l->idxOf l x=some i->lx K x (g (k+i))
 | y::r,k,i,x,⟨h1,h2⟩,e=>by
  unfold idxOf at e;by_cases hx:y=x
  ·rw[if_pos hx] at e;cases e;subst hx;exact h1
  ·rw[if_neg hx,aa] at e;obtain⟨j,hj,rfl⟩:=e;have:=m9 h2 hj;rw[show k+1+j=k+(j+1) by omega] at this;exact this
theorem wo {K:Frag}{g:Nat->D}{l:List Str}(h:mw K g 0 l):∀ i x,idxOf l x=some i->lx K x (g i):=fun i x e=>by
 have:=m9 h e
 rwa [dw] at this
end Pc
end
section
namespace Pc.Hd
open PySem PySem.W L2
noncomputable def sv (x:String)(t:Tok):Value:=.str (Str.ofString x) t
noncomputable def kv (P:Params)(x:String)(t:Tok)(v:Value):DictEntry:=⟨PyData.keyHash P (Str.ofString x),sv x t,v⟩
noncomputable def vI:Stmt->Str
 |.FunctionDef n ..=>n
 |_=>Str.ofString ""
noncomputable def fo (a:Addr)(s:Stmt)(m c:Value):Addr×Obj:=(a,⟨.type "function",none,.func { name:=vI s,qualname:=vI s,params:=bU s,body:=.stmts (aY s),scope:=aC s,globals:=mainGlobals,closure:=[],defaults:=.none,kwdefaults:=.none,pyModule:=m,code:=c },#[]⟩)
noncomputable def co (a:Addr)(vs:Array Value):Addr×Obj:=(a,⟨.type "code",none,.fields vs,#[]⟩)
noncomputable def tu (a:Addr)(vs:Array Value):Addr×Obj:=(a,⟨.type "tuple",none,.seq vs 0,#[]⟩)
noncomputable def di (a:Addr)(es:Array DictEntry)(n:Nat):Addr×Obj:=(a,⟨.type "dict",none,.dict es n,#[]⟩)
end Pc.Hd
end
section
namespace Pc
open PySem PySem.Spec PyProof.Rows L2
theorem wJ {K:PySem.W.Frag}{h:Heap}{C:Addr}{bmB:List Value}{newId:String}(kin:K.In h)(q:PySem.W.excIn K C bmB newId=true) :
  ∃ bm N nm qn bs hdct sn sub ab col dd k0 k1 k2 k3 k5 mN,h.get? C=some (excClassObj nm qn C N bs bm hdct sn sub ab col dd k0 k1 k2 k3 k5 newId)/\h.Ns N mN/\mN "__init__" = none/\OwnTail h bmB bm:=by
 unfold PySem.W.excIn at q;split at q
 ·rename_i dd cd sl ho;split at q
  ·rename_i C' bm k0 k1 k2 k3 n k5 hm hs;simp only[Bool.and_eq_true,beq_iff_eq,Bool.not_eq_true'] at q;obtain⟨⟨⟨⟨⟨rfl,rfl⟩,hdel⟩,ht⟩,hok⟩,hni⟩:=q;obtain⟨nm,bs,mro,ns,qn,hd,sn,sub,ab,col,del⟩:=cd;dsimp only at hm hdel hok hni;subst hm hdel;have hsl:sl = #[k0,k1,k2,k3,some (.builtin n),k5]:=by
    obtain⟨l⟩:=sl;simp only at hs;rw[hs]
   subst hsl;exact⟨bm,ns,nm,qn,bs,hd,sn,sub,ab,col,dd,k0,k1,k2,k3,k5,_,kin _ _ ho,.of_isNs (PySem.W.isNs_of_in kin hok),PySem.W.nsMap_none_of_in kin hok hni,PySem.W.tail_of_in kin ht⟩
  ·cases q
 ·cases q
section
variable {X:Cx}
theorem jJ {x:Str}{C:Addr}{bmB:List Value}{B newId initId:String}{np cpos pos:Pos}{e:Expr}{es:List Expr}{t:TA}{W:Hp->Prop}(hc:X.calm=true)(hg:Gl X x)(hm:X.mg x=some (.ref C))(q:PySem.W.excIn X.K C bmB newId=true)(FB:ExcBaseFacts B newId initId bmB)(ha:PA X (e::es) t)
  (hw:∀(pins:List (Addr×Obj)) (σ:L2.St) (H:Hp) (s:Shared) (h':Heap) (a:Addr) (us:List Value),W H->Inv X pins σ H s->Heap.MadeExcOf s.heap h' a (.ref C) us->X.xe (.ref a) { s with heap:=h' })
  (hl:∀ σ H Q,t σ H Q->t σ H fun vs H'=>vs.length<=sizeLine/\Q vs H')
  (he:starEach (e::es) X.env=(false,eval e X.env)::starEach es X.env:=by rfl) (hpl:(backTo cpos (starEach es X.env)).any (·.1)=false:=by rfl) (hd:(x==("__debug__" : Str))=false:=by decide) :
  PS X (.Raise (some (.Call (.Name x np) (e::es) [] cpos)) none pos) (fun D σ H=>t σ H fun vs H'=>W H'):=by
 intro pins s σ H D I h;obtain⟨bm,N,nm,qn,bs,hdct,sn,sub,ab,col,dd,k0,k1,k2,k3,k5,mN,hC,hN,hni,T⟩:=wJ I.ok.mod.kin q;refine wpAny_Raise_call_subT (C:=C) (nm:=nm) (q:=qn) (N:=N) (bs:=bs) (bm:=bm) (hdct:=hdct) (sn:=sn) (sub:=sub) (ab:=ab) (col:=col) (dd:=dd) (k0:=k0) (k1:=k1) (k2:=k2) (k3:=k3) (k5:=k5)
  FB (mN:=mN) (T.hasType FB.hasBase) (I.ok.hd hc) (by rw[he];show (false || (backTo cpos (starEach es X.env)).any (·.1))=false;rw[hpl];rfl) hni (gO I hg hm ⟨rfl,?_⟩ hd)
 have ha':=ha cpos pins s σ H _ I (hl σ H _ h);rw[he] at ha' ⊢;refine Calls.evalArgs_plain (wpAny_mono ha' (fun us s₂ h₂=>?_) fun _ _ y=>y);obtain⟨vs,H2,I2,r2,l2,w2⟩:=h₂;exact⟨rfl,by rw[<-r2.length];exact l2,I2.bk _ _ hC,hN.keeps I2.bk,T.keeps I2.bk,fun h' a hx=>hw pins σ H2 s₂ h' a us w2 I2 hx⟩
end
def Bf (B:Heap)(fr:List Addr)(H':Hp)(h h':Heap):Prop:=∀ b o,h'.get? b=some o->b∈fr\/B.get? b=some o\/(h.get? b=none/\H' b=none)
noncomputable def kM (P:Program)(w:World):nS:=fun outer H s E e s'=>∃ a C a0 H' B,e = .ref a/\s'.os=s.os/\AllBare s'.gens/\Un (fR outer) [] H H' s.heap s'.heap/\gU P w H' s'.heap /\
 Heap.FlyingW B outer a C a0 s'.heap/\Bf B (fR outer) H' s.heap s'.heap/\E C none H'
theorem ng {P:Program}{w:World}{H:Hp}{h h':Heap}(x:gU P w H h)(k:∀ b o,H b≠none->h.get? b=some o->h'.get? b=some o):gU P w H h':=fun a o e =>
 (x a o e).stay (fun b u hb q=>k b u (by rcases hb with rfl | hb<;>(intro z;simp_all)) q) (fun _ q=>q) fun _ _ q=>q
theorem gy {P:Program}{w:World}{K:PySem.W.Frag}{mg:Str->Option Value}{base:Heap}{N:List Str}{qual:Str}{scope:Scope}{f:Addr}{cd:Value}{A:Around}{outer:List Env}{s:Shared}{H:Hp}{E:XK}
  {pins:List (Addr×Obj)}{σ:L2.St}{H1:Hp}{s1:Shared}{h2:Heap}{a:Addr}{C:Value}{us:List Value}(I:Inv (dR (kM P w) P w K mg base N qual scope f cd A outer s H E) pins σ H1 s1)
  (hx:Heap.MadeExcOf s1.heap h2 a C us) (hE:E C none H1):(dR (kM P w) P w K mg base N qual scope f cd A outer s H E).xe (.ref a) { s1 with heap:=h2 }:=by
 have hst:=I.stack;have hin:∀ env∈(envOfC qual scope s.heap.objs.size f cd::outer),∀ b,env.frame=some b->b∈fR (envOfC qual scope s.heap.objs.size f cd::outer):=fun env he b hb=>List.mem_filterMap.mpr ⟨env,he,hb⟩
 show wpAny (model P w) (A.deeper (envOfC qual scope s.heap.objs.size f cd)) (leaving (envOfC qual scope s.heap.objs.size f cd) (.ref a)) _ _ _;refine wpAny_leaves_madeW (base:=PySem.W.hideAll s1.heap (fR (envOfC qual scope s.heap.objs.size f cd::outer))) (h:=s1.heap) (outer:=outer) I.ok.frames rfl (fun b o q=>PySem.W.of_hideAll _ q) (PySem.W.funFrames_hide hst hin) hx fun h' t fl tup hbn uts=>?_
 have L0:∀ b o,s.heap.get? b=some o->b≠s.heap.objs.size:=fun b o e=>bo (Heap.lt_size e)
 have fr:fR (envOfC qual scope s.heap.objs.size f cd::outer)=s.heap.objs.size::fR outer:=rfl;have stay:∀ b o,s1.heap.get? b=some o->b≠s.heap.objs.size->b∉fR outer->h'.get? b=some o:=fun b o e h1 h2=>fl.1 b o (PySem.W.hideAll_get _ e (by
  rw[fr];intro z;rcases gd.mp z with z | z
  ·exact h1 z
  ·exact h2 z))
 have fslot:∀ b o,s1.heap.get? b=some o->b∈fR outer->∃ sl,h'.get? b=some { o with slots:=sl }:=fun b o e hb=>by
  obtain⟨_,o',e',hd⟩:=hst.mem (b:=b) (show b∈s.heap.objs.size::fR outer from ai _ hb);rw[e] at e';cases e';exact uts b o (hx.keeps b o e) hd
 have bs:=I.base;have nofr:∀ b,H1 b≠none->b≠s.heap.objs.size/\b∉fR outer:=fun b hb=>by
  have:=I.stkFree;refine⟨fun z=>hb (this b (show b∈s.heap.objs.size::fR outer by rw[z];exact aq)),fun z=>hb (this b (show b∈s.heap.objs.size::fR outer from ai _ z))⟩
 refine⟨a,C,.ref t,H1,_,rfl,I.os,I.bare,⟨fun b o e n hf _=>?_,fun b o e n hf _=>?_,fun b o e n _=>bs.free b o e n (by simp[dR]),fun b o e _=>?_,bs.tups,bs.frzs,bs.tbls⟩,ng I.hok fun b o hb e=>stay b o e (nofr b hb).1 (nofr b hb).2,fl,fun b o e=>?_,hE⟩
 ·exact stay b o (bs.keep b o e n hf (by simp[dR])) (L0 b o e) hf
 ·obtain⟨sl,e1⟩:=bs.slot b o e n hf (by simp[dR]);obtain⟨sl',e2⟩:=fslot b _ e1 hf;exact⟨sl',e2⟩
 ·obtain⟨o1,e1⟩:=bs.there b o e (by simp[dR]);by_cases hf:b∈fR outer
  ·obtain⟨sl',e2⟩:=fslot b _ e1 hf;exact⟨_,e2⟩
  ·exact⟨o1,stay b o1 e1 (L0 b o e) hf⟩
 ·by_cases hf:b∈fR outer
  ·exact .inl hf
  ·cases e1:s1.heap.get? b with
   |none =>
    refine .inr (.inr ⟨?_,?_⟩)
    ·cases e0:s.heap.get? b with
     |none=>rfl
     |some o0 =>
      obtain⟨o1,e2⟩:=bs.there b o0 e0 (by simp[dR]);rw[e1] at e2;cases e2
    ·cases e0:H1 b with
     |none=>rfl
     |some u =>
      obtain⟨ob,e2⟩:=bQ.live' (I.hok b u e0);rw[e1] at e2;cases e2
   |some o1 =>
    by_cases hL:b=s.heap.objs.size
    ·refine .inr (.inr ⟨?_,?_⟩)
     ·rw[hL];cases e0:s.heap.get? s.heap.objs.size with
      |none=>rfl
      |some o0=>exact absurd rfl (L0 _ _ e0)
     ·cases e0:H1 b with
      |none=>rfl
      |some u=>exact absurd hL (nofr b (by rw[e0];simp)).1
    ·have:=stay b o1 e1 hL hf;rw[e] at this;cases this;refine .inr (.inl (PySem.W.hideAll_get _ e1 ?_));rw[fr];intro z;rcases gd.mp z with z | z
     ·exact hL z
     ·exact hf z
structure y2 (X:Cx)(H H':Hp)(s:Shared)(B h:Heap):Prop where
 un:Un (fR X.stack) [] H H' s.heap h
 hok:gU X.prog X.w H' h
 bf:Bf B (fR X.stack) H' s.heap h
section
variable {X:Cx}{pins:List (Addr×Obj)}{σ:L2.St}{H H':Hp}{s:Shared}{B h h':Heap}
theorem y2.frFree (F:y2 X H H' s B h)(I:Inv X pins σ H s):∀ b∈fR X.stack,H' b=none:=fun b hb=>by
 obtain⟨_,o,e,_⟩:=I.stack.mem hb;exact F.un.free b o e (I.stkFree b hb) (by simp)
theorem y2.next (F:y2 X H H' s B h)(I:Inv X pins σ H s)(st:B.StaysIn h')(fr:∀ b∈fR X.stack,∃ o,h.get? b=some o/\∀ vs,o.data≠.fields vs)(ut:h.UpToSlots h'):y2 X H H' s B h':=by
 have keep:∀ b o,h.get? b=some o->b∉fR X.stack->(s.heap.get? b≠none\/H' b≠none)->h'.get? b=some o:=fun b o e hf hn=>by
  rcases F.bf b o e with z | z | ⟨z1,z2⟩
  ·exact absurd z hf
  ·exact st b o z
  ·rcases hn with hn | hn
   ·exact absurd z1 hn
   ·exact absurd z2 hn
 have slot:∀ b o,h.get? b=some o->b∈fR X.stack->∃ sl,h'.get? b=some { o with slots:=sl }:=fun b o e hf=>by
  obtain⟨o',e',hd⟩:=fr b hf;rw[e] at e';cases e';exact ut b o e hd
 refine⟨⟨fun b o e n hf _=>?_,fun b o e n hf _=>?_,fun b o e n hx=>F.un.free b o e n hx,fun b o e hx=>?_,F.un.tups,F.un.frzs,F.un.tbls⟩,ng F.hok fun b o hb e=>?_,fun b o e=>?_⟩
 ·exact keep b o (F.un.keep b o e n hf (by simp)) hf (.inl (by rw[e];simp))
 ·obtain⟨sl,e1⟩:=F.un.slot b o e n hf (by simp);obtain⟨sl',e2⟩:=slot b _ e1 hf;exact⟨sl',e2⟩
 ·obtain⟨o1,e1⟩:=F.un.there b o e (by simp);by_cases hf:b∈fR X.stack
  ·obtain⟨sl',e2⟩:=slot b _ e1 hf;exact⟨_,e2⟩
  ·exact⟨o1,keep b o1 e1 hf (.inl (by rw[e];simp))⟩
 ·exact keep b o e (fun z=>hb (F.frFree I b z)) (.inr hb)
 ·by_cases hf:b∈fR X.stack
  ·exact .inl hf
  ·cases e1:h.get? b with
   |none =>
    refine .inr (.inr ⟨?_,?_⟩)
    ·cases e0:s.heap.get? b with
     |none=>rfl
     |some o0 =>
      obtain⟨o1,e2⟩:=F.un.there b o0 e0 (by simp);rw[e1] at e2;cases e2
    ·cases e0:H' b with
     |none=>rfl
     |some u =>
      obtain⟨ob,e2⟩:=bQ.live' (F.hok b u e0);rw[e1] at e2;cases e2
   |some o1 =>
    rcases F.bf b o1 e1 with z | z | z
    ·exact absurd z hf
    ·have:=st b o1 z;rw[e] at this;cases this;exact .inr (.inl z)
    ·exact .inr (.inr z)
theorem y2.inv {g':Array GenState}{d':Drawn}{t':Nat}(F:y2 X H H' s B h)(I:Inv X pins σ H s)(hg:AllBare g'):Inv X pins σ H' { s with heap:=h,gens:=g',drawn:=d',toks:=t' } :=
 I.call (ch:=[]) F.un F.hok hg fun b z=>nomatch z
theorem Be {E:XK}{e:Value}{s':Shared}(c:kM X.prog X.w X.stack H s E e s'):∃ a C a0 H' B,e = .ref a/\s'.os=s.os/\AllBare s'.gens/\y2 X H H' s B s'.heap/\Heap.FlyingW B X.stack a C a0 s'.heap/\E C none H':=by
 obtain⟨a,C,a0,H',B,e1,e2,e3,e4,e5,e6,e7,e8⟩:=c;exact⟨a,C,a0,H',B,e1,e2,e3,⟨e4,e5,e7⟩,e6,e8⟩
theorem qa {a:Addr}{C a0:Value}(f:Heap.FlyingW B X.stack a C a0 h):∀ b∈fR X.stack,∃ o,h.get? b=some o/\∀ vs,o.data≠.fields vs:=fun b hb=>(f.2.2.1.mem hb).2
end
section
variable {M:Model}{A:Around}{E:Value->Shared->Prop}{prog:Program}{w:World}
end
section
variable {X:Cx}{pins:List (Addr×Obj)}{σ:L2.St}{H:Hp}{s:Shared}{D:Ends}
end
section
variable {X:Cx}{pins:List (Addr×Obj)}{σ:L2.St}{H:Hp}{s:Shared}{D:Ends}
end
inductive tT (h:Heap) (bmB:List Value) (ns:List Str):List Value->Prop
 | base:tT h bmB ns bmB
 | own {A:Addr}{c0:Value}{dd:Option Addr}{cd:ClassData}{sl:Array (Option Value)}{mA:Str->Option Value}{tl:List Value} :
   h.get? A=some { cls:=c0,dict:=dd,data:=.cls cd,slots:=sl }->h.Ns cd.ns mA->(∀ n∈ns,mA n=none)->tT h bmB ns tl->tT h bmB ns (.ref A::tl)
noncomputable def qns:List Str:=["__getattribute__","__getattr__","__class__"]
section
variable {M:Model}{A:Around}{E:Value->Shared->Prop}{h:Heap}{g:Array GenState}{d:Drawn}{t:Nat}{os:OsState}
variable {nm q:Str}{C N:Addr}{bs bm bmB:List Value}{hdct:Bool}{sn:List Str}{sub:List Value}{ab:Bool}{col:Option Bool}{dd:Option Addr}{k0 k1 k2 k3 k5:Option Value}{B newId:String}
end
noncomputable abbrev vh:List Value:=[.type "ValueError",.type "Exception",.type "BaseException",.type "object"]
section
variable {prog:Program}{w:World}{A:Around}{E:Value->Shared->Prop}{h:Heap}{g:Array GenState}{d:Drawn}{t:Nat}{os:OsState}{a:Addr}{o:Obj}
 {nm q:Str}{C N:Addr}{bs bm:List Value}{hdct:Bool}{sn:List Str}{sub:List Value}{ab:Bool}{col:Option Bool}{dd:Option Addr}{k0 k1 k2 k3 k5:Option Value}{newId:String}{mN:Str->Option Value}
end
section
variable {prog:Program}{w:World}{A:Around}{E:Value->Shared->Prop}{h:Heap}{g:Array GenState}{d:Drawn}{t:Nat}{os:OsState}{a:Addr}{o:Obj}
 {nm q:Str}{C N:Addr}{bs bm:List Value}{hdct:Bool}{sn:List Str}{sub:List Value}{ab:Bool}{col:Option Bool}{dd:Option Addr}{k0 k1 k2 k3 k5:Option Value}{newId:String}{mN:Str->Option Value}
 {nm' q':Str}{C' N':Addr}{bs' bm':List Value}{hdct':Bool}{sn':List Str}{sub':List Value}{ab':Bool}{col':Option Bool}{dd':Option Addr}{j0 j1 j2 j3 j5:Option Value}{newId':String}
end
noncomputable def yI (K:PySem.W.Frag):List Value->Bool
 |[]=>vh == []
 |v::r=>(v::r)==vh || match v with
  |.ref A=>(match K.lookup A with
   |some ⟨_,_,.cls cd,_⟩=>PySem.W.nsOkIn K cd.ns&&qns.all (fun n=>PySem.W.nsIn K cd.ns n==some none)&&yI K r
   |_=>false)
  |_=>false
noncomputable def yf (K:PySem.W.Frag)(C:Addr):Bool:=PySem.W.excIn K C vh "ValueError.__new__" && (match K.lookup C with
 |some ⟨_,_,.cls cd,_⟩=>PySem.W.nsOkIn K cd.ns&&qns.all (fun n=>PySem.W.nsIn K cd.ns n==some none)&&yI K cd.mro.tail
 |_=>false)
noncomputable def DA (K:PySem.W.Frag)(C D:Addr):Bool:=match K.lookup C with
 |some ⟨_,_,.cls cd,_⟩=>cd.mro.contains (.ref D)
 |_=>false
structure ExcF (K:PySem.W.Frag)(h:Heap)(C:Addr)(bm:List Value):Prop where
 ex:∃ nm q N bs hdct sn sub ab col dd k0 k1 k2 k3 k5 mN,h.get? C=some (excClassObj nm q C N bs bm hdct sn sub ab col dd k0 k1 k2 k3 k5 "ValueError.__new__")/\h.Ns N mN/\∀ n∈qns,mN n=none
 tail:OwnTail h vh bm
 tn:tT h vh qns bm
 over:∀ D,DA K C D=(Value.ref C::bm).contains (.ref D)
section
variable {prog:Program}{w:World}{A:Around}{E:Value->Shared->Prop}{K:PySem.W.Frag}
end
section
variable {X:Cx}{pins:List (Addr×Obj)}{σ:L2.St}{H:Hp}{s:Shared}{D:Ends}{k:Nat}{f:Addr}{fd:FuncData}{ps:List Str}{sp:Sp}{dvs:List V}{ds:List Value}{W:Value->Hp->Prop}
end
section
variable {X:Cx}{a C:Addr}{o:Obj}
end
def Df.Bd (d:Df):Prop:=∀(kV doc pm:Value) (an:Option Addr) (cdv ct:Value) (us:List Value),us.length=d.ps.length->bindArgs (PySem.W.fnOf d.nm d.nm (bU d.st) (aY d.st) (aC d.st) .none kV doc pm an cdv ct) ⟨us,[]⟩=pure (d.ps.zip us)
def Df.OkX (p:Pg)(fo:List Str)(d:Df):Prop:=d.Ok p\/(d.Bd/\d.nm∈fo)
theorem Df.OkX.bd {p:Pg}{fo:List Str}{d:Df}(h:d.OkX p fo):d.Bd:=by
 rcases h with h | h
 ·exact h.bd
 ·exact h.1
theorem fY {p:Pg}{d:Df}{n:Nat}(h:d.okB p n=true):bV d.N d.ps (aC d.st):=by
 unfold Df.okB at h;simp only[Bool.and_eq_true,decide_eq_true_eq,Bool.not_eq_true',List.all_eq_true] at h;obtain⟨⟨⟨⟨⟨⟨h1,h2⟩,h3⟩,h4⟩,h5⟩,h6⟩,h7⟩:=h;exact⟨h1,h2,h3,h4,h5,fun x hx=>ic (h6 x hx),h7⟩
section
variable {p:Pg}{P:Program}{w:World}{K:Frag}{mg:Str->Option Value}{base:Heap}
def qz (p:Pg)(P:Program)(w:World)(K:Frag)(mg:Str->Option Value)(base:Heap)(n:Nat):Prop:=∀(i:Nat) (d:Df),p.dfs[i]? = some d->∀ f fd,L2.kL K d.nm d.nm d.st f fd->jh P w K mg base uO n f fd d.ps (ti K d.ps.length (p.run n i))
def mG (p:Pg)(fo:List Str)(P:Program)(w:World)(K:Frag)(mg:Str->Option Value)(base:Heap):Prop:=∀(n i:Nat) (d:Df),p.dfs[i]? = some d->d.nm∈fo->qz p P w K mg base n->∀ f fd,L2.kL K d.nm d.nm d.st f fd->jh P w K mg base uO (n+1) f fd d.ps (ti K d.ps.length (p.run (n+1) i))
theorem w4 {fo:List Str}(hp:∀ d∈p.dfs,d.OkX p fo)(hi:p.In K mg)(hh:sY w K)(hf:mG p fo P w K mg base):∀ n,qz p P w K mg base n:=by
 intro n
 induction n with
 |zero =>
  intro i d hd f fd F;refine⟨fun vs H Q E h=>ir h,fun A outer s H args us vs Q E hr he hb hv hs=>?_⟩;obtain⟨ds,G,_,_,r,h,_⟩:=hs;cases h
 |succ n ih =>
  intro i d hd f fd F;rcases hp d (List.mem_of_getElem? hd) with ⟨⟨m,hb⟩,S,_⟩ | ⟨_,hn⟩
  rotate_left
  ·exact hf n i d hd hn ih f fd F
  refine F.ok S (fun vs H Q E h=>ir h) fun cdv A outer s H vs Q E hr hs=>?_
  have C:kT (dR uO P w K mg base d.N d.nm (aC d.st) f cdv A outer s H E).nox (p.sc d) ⟨p.run n,p.gl,p.fuel⟩:=by
   refine⟨⟨rfl,S.nd,fun x h=>nW h,fun x h=>⟨ic h,.inl rfl⟩,fun x h=>qr h,fun x h=>h,?_,rfl,fun j x hj=>?_,fun j x hj=>hi.gl j x hj,fun x h=>hi.blt x h⟩,rfl,S.kind,PassesOwn.never⟩
   ·exact⟨Nat.lt_of_le_of_lt (Nat.add_le_add_left (by decide:40<=64) _) hr.units,hh⟩
   ·obtain⟨e,he,hx⟩:=lG hj;obtain⟨f',fd',F',M'⟩:=hi.fn j e he;have B':=F'.binds (hp e (List.mem_of_getElem? he)).bd;subst hx;refine⟨f',fd',e.ps,n,ih j e he f' fd' F',hr,M',F'.kp,B',fun ds r h=>?_⟩;have h:p.run n j ds = .ok r:=h;cases n with
    |zero=>cases h
    |succ n =>
     unfold Pg.run Pc.run at h;have:p.fns[j]? = some ⟨e.ps.length,e.N.length,e.body⟩:=by unfold Pg.fns;rw[List.getElem?_map,he];rfl
     rw[this] at h;dsimp only at h;by_cases hl:ds.length=e.ps.length
     ·exact hl
     ·rw[if_neg hl] at h;cases h
  refine⟨_,(CA C m).2 _ _ hb,?_⟩;obtain⟨ds,G,hl,rs,r,hrun,k⟩:=hs;unfold Pg.run Pc.run at hrun;have:p.fns[i]? = some ⟨d.ps.length,d.N.length,d.body⟩:=by unfold Pg.fns;rw[List.getElem?_map,hd];rfl
  rw[this] at hrun;dsimp only at hrun;rw[if_pos hl] at hrun;have hN:ds.length<=d.N.length:=by
   rw[hl,<-S.pre,bt];exact Nat.min_le_right _ _
  obtain⟨F0,re,hF⟩:=entry rs hN;refine⟨fun a=>H a≠none,fun a=>H a=none\/a∈G,aR ds d.N.length,F0,re,fun j a ha=>.inr (hF j a ha),fun a h=>.inl (Classical.not_not.mp h),?_⟩;show post K _ _ _ _ H _ (aH ⟨p.run n,p.gl,p.fuel⟩ d.body (aR ds d.N.length));have hrun:(match aH ⟨p.run n,p.gl,p.fuel⟩ d.body (aR ds d.N.length) with
   |.rt d fr=>Rs.ok (d,fr)
   |.nx _=>.ok (.non,true)
   |.xc e _=>.exc e
   |_=>.bad) = .ok r:=hrun
  cases hq:aH ⟨p.run n,p.gl,p.fuel⟩ d.body (aR ds d.N.length) with
  |rt dd fr =>
   rw[hq] at hrun;cases hrun;intro v H' G' rp ev z fz;exact k v H' G' (om ev) rp z fun hf=>let ⟨a,b⟩:=fz hf;⟨a,fun x hx=>⟨Classical.not_not.mp (b x hx).1,(b x hx).2⟩⟩
  |nx e =>
   rw[hq] at hrun;cases hrun;intro σ' H' F' af;exact k .non H' [] (om af.ev) .non (fun _ h=>(nomatch h)) fun _=>⟨cg,fun _ h=>(nomatch h)⟩
  |bk e=>rw[hq] at hrun;cases hrun
  |ct e=>rw[hq] at hrun;cases hrun
  |xc e e'=>rw[hq] at hrun;cases hrun
  |bad=>rw[hq] at hrun;cases hrun
end
theorem B3 {l:PySem.W.OpenLaw}{q:Program}{loose:List Str}{XP:(Str->Option Value)->Heap->Prop}{YP:World->Heap->Prop}{d:DefRec}{K:Params->PySem.W.Frag}(p:Pg)(fo:List Str)(n i:Nat)(x:Str)(e:Df)(hn:l.most=some 63)(hdf:d.params.defaults=[])
  (hY:∀(w:World) (h:Heap),YP w h->(K w.params).In h) (hd:p.dfs[i]? = some e) (hps:e.ps=[x]) (hnm:d.name=e.nm) (hr:eT n callerA) (ok:r9 (Df.OkX p fo) p.dfs) (st:∀ w:World,oY p (K w.params)) (hL:∀ w:World,noL (K w.params)=true) (hH:∀ w:World,sY w (K w.params))
  (hf:∀(w:World) (mg:Str->Option Value) (h base:Heap),(K w.params).In h->h.Ns mainGlobals mg->p.In (K w.params) mg->mG p fo l.prog w (K w.params) mg base)
  (law:∀ ns:List Int,ns.length<=63->∃ fr,p.run n i [.lst (ns.map D.int)] = .ok (.bl true,fr)) :
  PySem.W.WalkO q loose XP YP l.row.toRowW d [] (fun f vs=>PySem.call f vs):=by
 refine L2.xl (n:=63) (k:=n) (x:=x) (CX:=fun _=>uO) (sp:=fun w=>ti (K w.params) 1 (p.run n i)) hn (by decide) hdf hr hY (fun w mg fa h KX G hm=>?_) (fun w H a ns hl _ hS=>?_) fun _ _ _ _ _ z=>z
 ·have I:=(st w).isin KX G;obtain⟨f,fd,F,m⟩:=I.fn i e hd;rw[hnm,m] at hm;obtain rfl:f=fa:=by cases hm;rfl
  refine⟨fd,fun s u=>?_,fun base kb nb=>?_⟩
  ·obtain⟨oc,od,kV,doc,pm,an,cdv,ct,osl,rfl,lk,hcd⟩:=F.ex;have:=(cW ok e (List.mem_of_getElem? hd)).bd kV doc pm an cdv ct [u] (by rw[hps];rfl);rw[hps] at this;exact .of_eq this
  ·have:=w4 (P:=l.prog) (w:=w) (base:=base) (cW ok) I (hH w) (hf w mg h base KX G I) n i e hd f fd F;rw[hps] at this;exact this
 ·obtain⟨fr,h⟩:=law ns hl;exact Aj (hL w) hS h
def vR (K:Frag)(x:Str)(C:Addr):Prop:=PySem.W.nsIn K mainGlobals x=some (some (.ref C))/\yf K C=true
theorem mZ {K:Frag}{C:Addr}(h:yf K C=true):PySem.W.excIn K C vh "ValueError.__new__" = true:=by
 unfold yf at h;rw[aj] at h;exact h.1
structure RoomH (k:Nat)(A:Around):Prop where
 hd:A.handled=none
 dp:A.depth+3*k+6<recursionLimit
 un:A.units+16*k+203<cLine
structure cR (P:Program)(w:World)(K:PySem.W.Frag)(mg:Str->Option Value)(base:Heap)(CX:nS)(RP:Around->Prop)(f:Addr)(fd:FuncData)(ps:List Str)(sp:Sp):Prop where
 len:∀ vs H Q E,sp vs H Q E->vs.length=ps.length
 run:∀(A:Around) (outer:List Env) (s:Shared) (H:Hp) (args:PySem.Args) (us:List Value) (vs:List V) (Q:VK) (E:XK),RP A->nz P w K mg base A outer s H->BindsTo s fd args (ps.zip us)->aN vs us->sp vs H Q E ->
  codeAny (model P w) A (.call (.ref f) args) (CR CX outer P w H s Q E) s
section
variable {P:Program}{w:World}{K:PySem.W.Frag}{mg:Str->Option Value}{base:Heap}{f:Addr}{fd:FuncData}{ps N:List Str}{sp:Sp}
theorem jZ {CX:nS}{RP:Around->Prop}{x qual:Str}{st:Stmt}(F:L2.kL K x qual st f fd)(S:bV N ps (aC st))(hRP:∀ A,RP A->A.handled=none/\A.depth<recursionLimit)(len:∀ vs H Q E,sp vs H Q E->vs.length=ps.length)
  (hbody:∀(cdv:Value) (A:Around) (outer:List Env) (s:Shared) (H:Hp) (vs:List V) (Q:VK) (E:XK),RP A->sp vs H Q E ->
   ∃ t,jS (dR CX P w K mg base N qual (aC st) f cdv A outer s H E) (aY st) t/\t { nx:=fun _ H'=>Q .non H',rt:=Q } (L2.start N vs) H):cR P w K mg base CX RP f fd ps sp:=by
 obtain⟨oc,od,kV,doc,pm,an,cdv,ct,osl,rfl,lk,hcd⟩:=F.ex;refine⟨len,fun A outer s H args us vs Q E hr e0 hb r hsp=>?_⟩;have hl:=len _ _ _ _ hsp;have KX:K.In s.heap:=e0.mod.kin.keeps fun b o e=>(e0.bs b o e).1
 have lim:s.heap.NoLimit:=e0.mod.nolimit.keeps fun b o e=>(e0.bs b o e).1
 have hkind:∀ y∈ps.zip us,(aC st).names.lookup y.1=some .local\/((aC st).names.lookup y.1=some .cell/\((cellsFrom (s.heap.objs.size+1) (aC st).names []).lookup y.1).isSome=true):=fun ⟨n,v⟩ hy=>by
  rcases S.par n (gr hy).1 with q | q
  ·exact .inl q
  ·exact .inr ⟨q,gn _ _ _ (.inl q)⟩
 refine codeAny_call_function (hRP A hr).2 (KX _ _ lk) rfl S.co S.gen rfl (PySem.W.codeRec_of KX hcd) (hb _ _ _ _ ?_);refine wpAny_newFunctionEnv_cells S.kind hkind fun env he s1 x=>?_
 subst he;refine⟨lim.keeps x.toInCall.keep,codeAny_func ?_⟩;obtain⟨t,ht,hq⟩:=hbody cdv A outer s H vs Q E hr hsp;have I:Inv (dR CX P w K mg base N qual (aC st) f cdv A outer s H E) [] (L2.start N vs) H s1:=lL S (hRP A hr).1 e0 hl r x;refine wpAny_mono (ht [] s1 (L2.start N vs) H _ I hq) (fun fl s' hs=>?_) fun e s' hs=>hs
 have fin:∀{σ':L2.St}{H':Hp}{v:V}{u:Value},Inv (dR CX P w K mg base N qual (aC st) f cdv A outer s H E) [] σ' H' s'->RelV v u->Q v H'->CE outer P w H s Q u s' :=
  fun {σ' H' v u} J rv q=>⟨v,H',J.os,J.bare,J.base,J.hok,rv,q⟩
 cases fl with
 |ret u =>
  obtain⟨v,σ',H',J,rv,q⟩:=hs;exact fin J rv q
 |next =>
  obtain⟨σ',H',J,q⟩:=hs;exact fin (v:=V.non) (u:=Value.none) J rfl q
 |brk =>
  obtain⟨_,_,_,q⟩:=hs;exact False.elim q
 |cont =>
  obtain⟨_,_,_,q⟩:=hs;exact False.elim q
end
section
variable {X:Cx}{pins:List (Addr×Obj)}{σ:L2.St}{H:Hp}{s:Shared}{D:Ends}{RP:Around->Prop}{f:Addr}{fd:FuncData}{ps:List Str}{sp:Sp}{dvs:List V}{ds:List Value}{W:Value->Hp->Prop}
end
section
variable {X:Cx}{S:Sc}{T:Tb}
end
section
variable {p:Pg}{P:Program}{w:World}{K:Frag}{mg:Str->Option Value}{base:Heap}
theorem pM {fo:List Str}{n:Nat}{CX:nS}{N:List Str}{nm:Str}{sc:Scope}{ps:List Str}{f:Addr}{cdv:Value}{A:Around}{outer:List Env}{s:Shared}{H:Hp}{E:XK}(hp:∀ d∈p.dfs,d.OkX p fo)(hi:p.In K mg)(hh:sY w K)(ih:qz p P w K mg base n)(S:bV N ps sc)
  (hr:eT n (A.deeper (envOfC nm sc s.heap.objs.size f cdv))):kT (dR CX P w K mg base N nm sc f cdv A outer s H E).nox ⟨N,sc,p.dfs.map (·.nm),p.pN,p.fH⟩ ⟨p.run n,p.gl,p.fuel⟩:=by
 refine⟨⟨rfl,S.nd,fun x h=>nW h,fun x h=>⟨ic h,.inl rfl⟩,fun x h=>qr h,fun x h=>h,?_,rfl,fun j x hj=>?_,fun j x hj=>hi.gl j x hj,fun x h=>hi.blt x h⟩,rfl,S.kind,PassesOwn.never⟩
 ·exact⟨Nat.lt_of_le_of_lt (Nat.add_le_add_left (by decide:40<=64) _) hr.units,hh⟩
 ·obtain⟨e,he,hx⟩:=lG hj;obtain⟨f',fd',F',M'⟩:=hi.fn j e he;have B':=F'.binds (hp e (List.mem_of_getElem? he)).bd;subst hx;refine⟨f',fd',e.ps,n,ih j e he f' fd' F',hr,M',F'.kp,B',fun ds r h=>?_⟩;have h:p.run n j ds = .ok r:=h;cases n with
  |zero=>cases h
  |succ n =>
   unfold Pg.run Pc.run at h;have:p.fns[j]? = some ⟨e.ps.length,e.N.length,e.body⟩:=by unfold Pg.fns;rw[List.getElem?_map,he];rfl
   rw[this] at h;dsimp only at h;by_cases hl:ds.length=e.ps.length
   ·exact hl
   ·rw[if_neg hl] at h;cases h
def spR (K:Frag)(n:Nat)(C:Addr)(f:List D->Fl):Sp:=fun vs H Q E=>∃ ds G,ds.length=n/\aD K H ds vs G/\(match f ds with
 |.rt d fr=>∀ v H' G',aE H H'->Rep K H' d v G'->(∀ a∈G',H a=none\/a∈G)->(fr=true->G'.Nodup/\∀ a∈G',H a=none/\∃ vs:ML,H' a=some vs.o)->Q v H'
 |.nx _=>∀ H',aE H H'->E (.ref C) none H'
 |_=>False)
end
section
variable {X:Cx}{pins:List (Addr×Obj)}{σ:L2.St}{H:Hp}{s:Shared}{D:Ends}{W:Value->Hp->Prop}
end
def i5 (h:Heap)(e:Addr)(od:Option Addr):Prop:=∃ o,h.get? e=some o/\o.dict=od
theorem jW (o:Obj)(f):(o.mapFields f).dict=o.dict:=by
 unfold Obj.mapFields;split<;>rfl
section
variable {M:Model}{A:Around}{E:Value->Shared->Prop}{s:Shared}{base:Heap}{env:Env}{outer l:List Env}{L e:Addr}{oe:Obj}{vs:Array Value}{head a0 cls fl:Value}{hadNext:Bool}{od:Option Addr}
theorem Bj {Q:Unit->Shared->Prop}(fr:A.frames=some (env::outer))(ff:s.heap.FunFrames base (env::outer))(ef:env.frame=some L)(at_:s.heap.get? e=some oe)(st:base.StaysIn s.heap)(nw:base.get? e=none)(da:oe.data = .fields vs)(sz:1<vs.size)
  (v0:vs[0]? = some a0) (k:∀ h',Heap.NotedW base (env::outer) e oe.cls a0 (rawInt L) s.heap h'->i5 h' e oe.dict->Q () { s with heap:=h' }) :
  wpAny M A (do let a <- frameOf env;let pl <- entryPlaceOf L hadNext;let b <- EntryCells.newEntry head a .none (rawInt L) .none pl;setField (.ref e) 1 b) Q E s:=by
 have nofr:e∉(env::outer).filterMap (·.frame):=fun z=>by
  obtain⟨_,o,ho,nf⟩:=ff.mem z;rw[at_] at ho;cases ho;exact nf vs da
 refine wpAny_bind (wpAny_frameOf_fun fr ff ef fun g so=>wpAny_bind (wpAny_entryPlaceOf fun pl hp=>?_));unfold EntryCells.newEntry newFields;refine wpAny_bind (wpAny_newObj_type ?_ (hp.sizeOk5 _ _ _ _ _));have at1:g.get? e=some oe:=(so.2.1 e nofr).trans at_;have st1:base.StaysIn g:=fun b o q=>(so.2.1 b fun z=>by rw[(ff.mem z).1] at q;cases q).trans (st b o q)
 generalize hT:({ cls:=.type "traceback",dict:=none,data:=.fields ([head,.ref L,.none,rawInt L,.none]++(if pl.isEmpty then List.replicate 6 Value.none else pl)).toArray }:Obj)=oT;have frT:oT.isFreed=false:=by subst hT;rfl
 have daT:oT.data = .fields ([head,.ref L,.none,rawInt L,.none]++(if pl.isEmpty then List.replicate 6 Value.none else pl)).toArray:=by subst hT;rfl
 have at2:=Heap.get?_push_of_some oT at1;refine wpAny_setField at2 da sz (k _ ?_ ?_)
 ·have ne:g.objs.size≠e:=Nat.ne_of_gt (Heap.lt_size at1);have da3:=Obj.data_mapFields da (·.setIfInBounds 1 (Value.ref g.objs.size));have at3:=Heap.get?_update_self (Obj.mapFields (·.setIfInBounds 1 (Value.ref g.objs.size))) at2 (Obj.isFreed_of_fields da3);have tb3:=(Heap.get?_update_other (g.push oT) (Obj.mapFields (·.setIfInBounds 1 (Value.ref g.objs.size))) (cu ne)).trans (Heap.get?_push_size g frT);have kp:∀ b o,b≠e->g.get? b=some o->((g.push oT).update e (Obj.mapFields (·.setIfInBounds 1 (Value.ref g.objs.size)))).get? b=some o:=fun b o hb q =>
   (Heap.get?_update_other _ _ (cu hb)).trans (Heap.get?_push_of_some _ q)
  have nrec:∀ b o,s.heap.get? b=some o->(∀ ws,o.data≠.fields ws)->b≠e:=fun b o q nf z=>by
   subst z;rw[at_] at q;cases q;exact nf vs da
  refine⟨fun b o q=>kp b o (fun z=>by rw[z,nw] at q;cases q) (st1 b o q),ff.of_keeps fun b o q nf=>?_,⟨_,_,g.objs.size,_,_,at3,⟨Obj.cls_mapFields _ _,by rw[Array.getElem?_setIfInBounds_ne (by decide)];exact v0⟩,da3,by simp[sz],st1.fresh,ne,tb3,daT,?_⟩,fun b o q nf=>?_⟩
  ·obtain⟨sl,q1⟩:=so.2.2 b o q;exact⟨_,kp b _ (nrec b o q nf) q1,rfl⟩
  ·rcases hp with rfl | ⟨_,_,_,_,_,_,_,rfl⟩<;>simp
  ·obtain⟨sl,q1⟩:=so.2.2 b o q;exact⟨sl,kp b _ (nrec b o q nf) q1⟩
 ·exact⟨_,Heap.get?_update_self _ at2 (Obj.isFreed_of_fields (Obj.data_mapFields da _)),jW _ _⟩
theorem xy {Q:Unit->Shared->Prop}(st:base.StaysIn s.heap)(ff:s.heap.FunFrames base l)(tr:s.heap.TracedAtW base e cls a0 fl)(dc:i5 s.heap e od)
  (k:∀ h',base.StaysIn h'->h'.FunFrames base l->h'.TracedW base e cls a0->(∀ b o,s.heap.get? b=some o->(∀ ws,o.data≠.fields ws)->h'.get? b=some o)->i5 h' e od->Q () { s with heap:=h' }) :
  wpAny M A (setFlight (.ref e) none) Q E s:=by
 obtain⟨ob,ws,T,oT,ts,e1,e2,e3,e4,e5,e6,e7,e8,e9⟩:=tr;have z3:3<ts.size:=(Array.getElem?_eq_some_iff.mp e9).1;have ot:∀ b,b≠T->(s.heap.update T (Obj.mapFields (·.setIfInBounds 3 ((none:Option Addr).elim Value.none fun f=>rawInt f)))).get? b=s.heap.get? b:=fun b hb=>Heap.get?_update_other _ _ (cu hb)
 have nrec:∀ b o,s.heap.get? b=some o->(∀ us,o.data≠.fields us)->b≠T:=fun b o q nf z=>by
  subst z;rw[e7] at q;cases q;exact nf ts e8
 unfold setFlight;refine wpAny_bind (wpAny_field e1 e3 e4 ?_);rw[if_pos (show (Value.ref T != Value.none)=true from by simp)];refine wpAny_setField e7 e8 z3 (k _ (fun b o q=>(ot b fun z=>by rw[z,e5] at q;cases q).trans (st b o q)) (ff.of_keeps fun b o q nf=>⟨o,(ot b (nrec b o q nf)).trans q,rfl⟩) ?_ (fun b o q nf=>(ot b (nrec b o q nf)).trans q) ?_)
 ·exact⟨ob,ws,T,_,_,(ot e (Ne.symm e6)).trans e1,e2,e3,e4,e5,e6,Heap.get?_update_self _ e7 (Obj.isFreed_of_fields (Obj.data_mapFields e8 _)),Obj.data_mapFields e8 _,by simp[z3]⟩
 ·obtain⟨o,q1,q2⟩:=dc;exact⟨o,(ot e (cu e6)).trans q1,q2⟩
theorem BZ {Q:Unit->Shared->Prop}(fr:A.frames=some (env::outer))(ef:env.frame=some L)(f:Heap.FlyingW base (env::outer) e cls a0 s.heap)(dc:i5 s.heap e od)
  (k:∀ h',Heap.HeldW base (env::outer) e cls a0 L h'->s.heap.UpToSlots h'->i5 h' e od->Q () { s with heap:=h' }):wpAny M A (noteFrame (.ref e) env) Q E s:=by
 obtain⟨f1,f2,f3,ob,ws,T,oT,ts,e1,⟨rfl,e2⟩,e3,e4,e5,e6,e7,e8,e9⟩:=f;have hdic:ob.dict=od:=by
  obtain⟨o,q1,q2⟩:=dc;rw[e1] at q1;cases q1;exact q2
 unfold noteFrame;simp only[ef];refine wpAny_bind (wpAny_field e1 e3 e4 ?_);rw[if_pos (show (Value.ref T != Value.none)=true from by simp)];refine wpAny_bind (wpAny_field e7 e8 e9 ?_);rw[if_neg (show ¬ ((Value.none==rawInt L)=true) from by simp[rawInt])];refine wpAny_bind (wpAny_setField e7 e8 (Array.getElem?_eq_some_iff.mp e9).1 ?_);have ot:∀ b,b≠T->(s.heap.update T (Obj.mapFields (·.setIfInBounds 3 Value.none))).get? b=s.heap.get? b:=fun b hb=>Heap.get?_update_other _ _ (cu hb)
 have nrec:∀ b o,s.heap.get? b=some o->(∀ us,o.data≠.fields us)->b≠T:=fun b o q nf z=>by
  subst z;rw[e7] at q;cases q;exact nf ts e8
 refine Bj fr (f3.of_keeps fun b o q nf=>⟨o,(ot b (nrec b o q nf)).trans q,rfl⟩) ef ((ot e (cu e6)).trans e1) (fun b o q=>(ot b fun z=>by rw[z,e5] at q;cases q).trans (f1 b o q)) f2 e3 (Array.getElem?_eq_some_iff.mp e4).1 e2 fun h' ⟨n1,n2,n3,n4⟩ d'=>?_
 exact k h' ⟨n1,f2,n2,n3⟩ (fun b o q nf=>n4 b o ((ot b (nrec b o q nf)).trans q) nf) (hdic ▸ d')
theorem onD {Q:Unit->Shared->Prop}(fr:A.frames=some (env::outer))(ef:env.frame=some L)(f:Heap.FlyingW base (env::outer) e cls a0 s.heap)(dc:i5 s.heap e od)
  (k:∀ h',Heap.FlyingW base outer e cls a0 h'->s.heap.UpToSlots h'->i5 h' e od->Q () { s with heap:=h' }):wpAny M A (leaving env (.ref e)) Q E s:=by
 unfold leaving;refine wpAny_bind (BZ fr ef f dc fun g ⟨n1,n2,n3,n4⟩ u d1=>?_);refine xy (s:={ s with heap:=g }) n1 n3 n4 d1 fun h' k1 k2 k3 k4 k5=>k h' ⟨k1,n2,?_,k3⟩ (u.trans fun b o q nf=>⟨o.slots,k4 b o q nf⟩) k5
 obtain⟨_,_,z⟩:=k2;exact z
end
def Att (x:Str)(h:Heap)(e:Addr)(n:Int):Prop:=∃ dx m u,i5 h e (some dx)/\h.Ns dx m/\m x=some (.int n u)
noncomputable def yY (K:PySem.W.Frag)(ns:List Str):List Value->Bool
 |[]=>vh == []
 |v::r=>(v::r)==vh || match v with
  |.ref A=>(match K.lookup A with
   |some ⟨_,_,.cls cd,_⟩=>PySem.W.nsOkIn K cd.ns&&ns.all (fun n=>PySem.W.nsIn K cd.ns n==some none)&&yY K ns r
   |_=>false)
  |_=>false
noncomputable def iniC (K:PySem.W.Frag)(C:Addr)(ns:List Str)(fI:Addr):Bool:=match K.lookup C with
 |some ⟨.type "type",_,.cls cd,sl⟩=>(match cd.mro,sl.toList with
  | .ref C'::bm,[_,_,_,_,some (.builtin n),_]=>C'==C&&n == "ValueError.__new__" && !cd.hasDel&&cd.hasDict&&PySem.W.tailIn K vh bm&&yY K ns bm&&PySem.W.nsOkIn K cd.ns&&ns.all (fun n=>PySem.W.nsIn K cd.ns n==some none)&&PySem.W.nsIn K cd.ns "__init__" == some (some (.ref fI))
  |_,_=>false)
 |_=>false
structure IniF (K:PySem.W.Frag)(h:Heap)(C:Addr)(ns:List Str)(fI:Addr)(bm:List Value):Prop where
 ex:∃ nm q N bs sn sub ab col dd k0 k1 k2 k3 k5 mN,h.get? C=some (excClassObj nm q C N bs bm true sn sub ab col dd k0 k1 k2 k3 k5 "ValueError.__new__")/\h.Ns N mN/\(∀ n∈ns,mN n=none)/\mN "__init__" = some (.ref fI)
 tail:OwnTail h vh bm
 tn:tT h vh ns bm
section
variable {prog:Program}{w:World}{A:Around}{E:Value->Shared->Prop}{h:Heap}{g:Array GenState}{d:Drawn}{t:Nat}{os:OsState}{e:Addr}{oe:Obj}{vs:Array Value}{ns:List Str}
 {nm q:Str}{C N:Addr}{bs bm:List Value}{sn:List Str}{sub:List Value}{ab:Bool}{col:Option Bool}{dd:Option Addr}{k0 k1 k2 k3 k5:Option Value}{newId:String}{mN:Str->Option Value}{x:Str}{v:Value}
end
section
variable {prog:Program}{w:World}{A:Around}{E:Value->Shared->Prop}{h:Heap}{g:Array GenState}{d:Drawn}{t:Nat}{os:OsState}{e t0:Addr}{us:List Value}
 {nm q:Str}{C N fI:Addr}{bs bm:List Value}{hdct:Bool}{sn:List Str}{sub:List Value}{ab:Bool}{col:Option Bool}{dd:Option Addr}{k0 k1 k2 k3 k5:Option Value}{mN:Str->Option Value}
end
noncomputable abbrev ins (x:Str):List Str:=["__getattribute__","__getattr__","__class__","__setattr__",x]
structure Dw (st:Stmt)(S x:Str):Prop where
 ex:∃(c1 c2:Str) (p1 p2 p3 p4 p5 p6 p7 p8 p9 p10 p11 p12 p13 p14:Pos),aY st=[.Expr (.Call (.Attribute (.Name S p1) "__init__" p2) [.Name "self" p3,.JoinedStr [.Constant (.str c1) 0 p4,.FormattedValue (.Name x p5) (-1) none p6,.Constant (.str c2) 0 p7] p8] [] p9) p10,
   .Assign [.Attribute (.Name "self" p11) x p12] (.Name x p13) p14] /\
  (p2.endLine==p9.line)=true/\c1.length<=1000/\c2.length<=1000
 sc:bV ["self",x] ["self",x] (aC st)
 gl:(aC st).names.lookup S=some .globalImplicit
 l1:(aC st).names.lookup ("self" : Str)=some .local
 l2:(aC st).names.lookup x=some .local
 ne:x≠"self"
 db:(S==("__debug__" : Str))=false/\(x==("__debug__" : Str))=false
structure IniK (K:PySem.W.Frag)(mg:Str->Option Value)(S x qual:Str)(C cS fI:Addr)(fd:FuncData)(st:Stmt):Prop where
 hS:mg S=some (.ref cS)
 cls:iniC K C (ins x) fI=true
 keep:PySem.W.keepIn K (.ref C)=true
 ga:PySem.W.specialIn K (.ref cS) "__getattribute__" = some (some (.builtin "type.__getattribute__"))
 rd:PySem.W.readsIn K cS (.type "type")=true
 fc:PySem.W.findCls K (.ref cS) (.type "type") "__init__" = some (.val (.builtin "ValueError.__init__"))
 F:L2.kL K "__init__" qual st fI fd
 ft:(K.lookup fI).any (fun o=>o.cls == .type "function")=true
 bd:Binds K fd ["self",x] []
 s:Dw st S x
 nx:typeLookup (.type "ValueError") x=pure none
theorem log2_small {n:Int}(h:n.natAbs<2 ^ 64):n.natAbs.log2<1920:=by
 by_cases z:n.natAbs=0
 ·rw[z];decide
 ·have:=(Nat.log2_lt z).mpr h;omega
section
variable {P:Program}{w:World}{K:PySem.W.Frag}{mg:Str->Option Value}{base:Heap}{A:Around}{E:Value->Shared->Prop}{s:Shared}{e t0 C cS fI:Addr}{fd:FuncData}{st:Stmt}{S x qual:Str}{n:Int}{u:Tok}
end
section
variable {M:Model}{A:Around}{E:Value->Shared->Prop}{s:Shared}{env:Env}{nm q:Str}{C N:Addr}{bs bm:List Value}{hdct:Bool}{sn:List Str}{sub:List Value}{ab:Bool}{col:Option Bool}{dd:Option Addr}{k0 k1 k2 k3 k5:Option Value}{newId:String}
end
section
variable {X:Cx}
end
inductive Rb where
 | fin (cs:cM)
 | seq (cs:cM) (c:Ex) (n:Nat) (r:Rb)
section
variable {X:Cx}{S:Sc}{T:Tb}{W:Nat->Hp->Prop}
end
section
variable {p:Pg}{P:Program}{w:World}{K:Frag}{mg:Str->Option Value}{base:Heap}
end
section
variable {X:Cx}{pins:List (Addr×Obj)}{σ:L2.St}{H:Hp}{s:Shared}{D:Ends}{x:Str}{W:Value->Nat->Hp->Prop}
end
end Pc
end
section
namespace Fl64
noncomputable def dbl (a:Nat):Nat:=if 64<=2*a then (2*a)^^^67 else 2*a
noncomputable def B7:Nat->Nat->Nat->Nat->Nat
 |0,p,_,_=>p
 |n+1,p,d,l=>if l=0 then p else B7 n (if l%2=1 then p^^^d else p) (dbl d) (l / 2)
noncomputable def tm (a b:Nat):Nat:=B7 6 0 a b
noncomputable def allB (n:Nat)(f:Nat->Bool):Bool:=match n with
 |0=>true
 |k+1=>f k&&allB k f
end Fl64
end
section
namespace Pc
open PySem
noncomputable abbrev sI (i:Int):Slot:=some (.int i,.own)
noncomputable abbrev sN (i:Nat):Slot:=some (.int (i:Int),.own)
noncomputable def ret (f:Fl):Rs (D×Bool):=match f with
 |.rt d fr=>.ok (d,fr)
 |.nx _=>.ok (.non,true)
 |.xc e _=>.exc e
 |_=>.bad
theorem dC {fns:List Fn}{gl:Nat->D}{fuel n i:Nat}{F:Fn}{ds:List D}(h:fns[i]? = some F)(hl:ds.length=F.ps):Pc.run fns gl fuel (n+1) i ds=ret (aH ⟨Pc.run fns gl fuel n,gl,fuel⟩ F.body (aR ds F.slots)):=by
 unfold Pc.run;rw[h];dsimp only;rw[if_pos hl];rfl
theorem jL {a m:Int}(h0:0<=a)(h1:a<m):∃ n:Nat,a=(n:Int)/\(n:Int)<m:=⟨a.toNat,by omega,by omega⟩
theorem pK {n k:Nat}(h:k<n):iF n (k:Int)=some k:=by
 unfold iF;rw[if_pos (by omega),if_pos (by omega),c5]
theorem vS (env:En):lock [] env=env:=by
 unfold lock;have:∀(l:En) (k:Nat),(l.mapIdx fun i (s:Slot)=>match s with
  | some (d,.own)=>if ([]:List Nat).contains i then some (d,.lk) else some (d,.own)
  |s=>s)=l:=fun l k=>by
  rw[List.mapIdx_eq_iff];intro i;cases h:l[i]? with
  |none=>rfl
  |some s =>
   cases s with
   |none=>rfl
   |some p=>obtain⟨d,t⟩:=p;cases t<;>rfl
 exact this env 0
theorem pI (e0 env:En):unlock [] e0 env=env:=by
 unfold unlock;rw[List.mapIdx_eq_iff];intro i;cases h:env[i]? with
 |none=>rfl
 |some s =>
  cases s with
  |none=>rfl
  |some p =>
   obtain⟨d,t⟩:=p;cases t with
   |lk =>
    simp only[Option.map_some];split<;>rfl
   |own=>rfl
   |sh R=>rfl
theorem fM {T:Tb}{t:jo}{it:qu}{b:cM}{env e:En}{l:List D}(hit:gY T it env = .ok (l,[]))(h:cA t [] (aH T b) l env = .nx e):bZ T (.forr t it b) env = .nx e:=by
 rw[bZ,hit,bM];dsimp only;rw[vS,h];dsimp only;rw[pI]
end Pc
end
section
namespace Pc
open PySem PySem.Spec PyProof.Rows L2
noncomputable def cM.app:cM->cM->cM
 |.nil,b=>b
 |.cons s r,b=>.cons s (r.app b)
noncomputable def Rb.ask:Rb->cM
 |.fin cs=>cs
 |.seq cs c n r=>cs.app (.cons (.ite c (.cons .retN .nil) .nil) r.ask)
structure AskSt (st:Stmt)(a b c t g y:Str):Prop where
 ex:∃(j1 j2:Nat) (q1 q2 q3 p1 p2 p3 p4 p5 p6 p7 p8 h1 h2 h3 h4 h5 r1 r2:Pos),aY st=[.Assign [.Name t q1] (.Constant .none j1 q2) q3,
   .Try [.Assign [.Name t p1] (.Call (.Name g p2) [.Name a p3,.Name b p4,.Name c p5] [] p6) p7] [.ExceptHandler (some (.Name y h1)) none [.Assign [.Name t h2] (.Constant .none j2 h3) h4] h5] [] [] p8,
   .Return (some (.Name t r1)) r2]
 sc:bV [a,b,c,t] [a,b,c] (aC st)
 la:(aC st).names.lookup a=some .local
 lb:(aC st).names.lookup b=some .local
 lc:(aC st).names.lookup c=some .local
 lt:(aC st).names.lookup t=some .local
 lg:(aC st).names.lookup g=some .globalImplicit
 ly:(aC st).names.lookup y=some .globalImplicit
 db:((a==("__debug__" : Str))=false/\(a==("__classdict__" : Str))=false)/\((b==("__debug__" : Str))=false/\(b==("__classdict__" : Str))=false)/\((c==("__debug__" : Str))=false/\(c==("__classdict__" : Str))=false)/\((t==("__debug__" : Str))=false/\(t==("__classdict__" : Str))=false)/\(g==("__debug__" : Str))=false/\(y==("__debug__" : Str))=false
section
variable {P:Program}{w:World}{K:Frag}{mg:Str->Option Value}{base:Heap}
end
section
variable {p:Pg}{P:Program}{w:World}{K:Frag}{mg:Str->Option Value}{base:Heap}
end
section
variable {prog:Program}{w:World}{A:Around}{E:Value->Shared->Prop}{h:Heap}{g:Array GenState}{d:Drawn}{t:Nat}{os:OsState}{a dx:Addr}{o:Obj}{vs:Array Value}{m:Str->Option Value}{x:Str}{v:Value}
 {nm q:Str}{C N:Addr}{bs bm:List Value}{sn:List Str}{sub:List Value}{ab:Bool}{col:Option Bool}{dd:Option Addr}{k0 k1 k2 k3 k5:Option Value}{newId:String}{mN:Str->Option Value}
end
section
variable {X:Cx}{a dx C fI:Addr}{o od:Obj}{x:Str}{k:Nat}
end
section
variable {P:Program}{w:World}{K:PySem.W.Frag}{mg:Str->Option Value}{base:Heap}{f:Addr}{fd:FuncData}{ps N:List Str}{sp:Sp}
end
section
variable {X:Cx}
end
noncomputable def cM.asgs:cM->Bool
 |.nil=>true
 | .cons (.asg (.nm _) _ _) r=>r.asgs
 |_=>false
noncomputable def Rb.plain:Rb->Bool
 | .fin (.cons (.ret _) .nil)=>true
 |.fin _=>false
 |.seq cs _ n r=>cs.asgs&&n==0&&r.plain
inductive Rw where
 | nil
 | st (c:St) (r:Rw)
 | ifr (c e:Ex) (r:Rw)
 | lop (t:jo) (it:qu) (b r:Rw)
inductive Rf where
 | fl (f:Fl) | rs (n:Nat)
section
variable {X:Cx}{S:Sc}{T:Tb}{W:Nat->Hp->Prop}
end
section
variable {p:Pg}{P:Program}{w:World}{K:Frag}{mg:Str->Option Value}{base:Heap}
end
noncomputable def ckE (e:Ex):Ex:=.ite (.cmp .Lt e (.cst (.int (18446744073709551616)))) (.ite (.cmp .Lt e (.cst (.int (0)))) (.neg (.cst .non)) e) (.neg (.cst .non))
noncomputable def rsS (h e:Ex):cM:=.cons (.expr (ckE e)) (.cons (.ret h) .nil)
noncomputable def Rw.inl (h:Ex->Ex):Rw->cM
 |.nil=>.nil
 |.st c r=>.cons c (r.inl h)
 |.ifr c e r=>.cons (.ite c (rsS (h e) e) .nil) (r.inl h)
 |.lop _ _ _ _=>.nil
noncomputable def St.pl:St->Bool
 | .asg (.nm _) _ _=>true
 |.mut _ _ _ _=>true
 |_=>false
section
variable {T:Tb}{Rn:Nat->D×Bool->Prop}{h:Ex->Ex}
end
section
variable {x:Str}{P:Program}{w:World}{K:PySem.W.Frag}{mg:Str->Option Value}{base:Heap}{N:List Str}{qual:Str}{scope:Scope}{f:Addr}{cd:Value}{A:Around}{outer:List Env}{s:Shared}{H:Hp}{E:XK}{pins:List (Addr×Obj)}{σ:L2.St}
end
section
variable {x:Str}{P:Program}{w:World}{K:PySem.W.Frag}{mg:Str->Option Value}{base:Heap}{N:List Str}{qual:Str}{scope:Scope}{f:Addr}{cd:Value}{A:Around}{outer:List Env}{s:Shared}{H:Hp}{E:XK}
theorem dJ:eS (kM P w) (dR (kM P w) P w K mg base N qual scope f cd A outer s H E) (fun C _ H'=>E C none H'):=by
 intro pins σ H1 s1 e s' I hq;obtain⟨a,C,a0,H',B,fe,e2,e3,fy,fl,hE⟩:=Be (X:=dR (kM P w) P w K mg base N qual scope f cd A outer s H E) hq;subst fe;obtain⟨ob,hob⟩:∃ ob,s'.heap.get? a=some ob:=by
  obtain⟨_,_,_,ob,_,_,_,_,h1,_⟩:=fl;exact⟨ob,h1⟩
 show wpAny (model P w) (A.deeper (envOfC qual scope s.heap.objs.size f cd)) (leaving (envOfC qual scope s.heap.objs.size f cd) (.ref a)) _ _ _;refine onD (base:=B) (outer:=outer) (od:=ob.dict) I.ok.frames rfl fl ⟨ob,hob,rfl⟩ fun h' fl' uts dc=>?_
 have fy':=fy.next I fl'.1 (qa fl) uts;have J:=fy'.inv (g':=s'.gens) (d':=s'.drawn) (t':=s'.toks) I e3;have bs:Un (fR outer) [] H H' s.heap h':=J.base;refine⟨a,C,a0,H',B,rfl,e2.trans I.os,e3,bs,J.hok,fl',fun b o e=>?_,hE⟩;rcases fy'.bf b o e with z | z | ⟨z1,z2⟩
 ·have z:b∈s.heap.objs.size::fR outer:=z;rcases gd.mp z with z | z
  ·refine .inr (.inr ⟨?_,fy'.frFree I b (show b∈s.heap.objs.size::fR outer by rw[z];exact aq)⟩);cases q:s.heap.get? b with
   |none=>rfl
   |some o0=>exact absurd z (bo (Heap.lt_size q))
  ·exact .inl z
 ·exact .inr (.inl z)
 ·refine .inr (.inr ⟨?_,z2⟩);cases q:s.heap.get? b with
  |none=>rfl
  |some o0 =>
   obtain⟨o1,q1⟩:=I.base.there b o0 q (by simp[dR]);rw[z1] at q1;cases q1
end
section
variable {X:Cx}{CX:nS}{RP:Around->Prop}{f:Addr}{fd:FuncData}{ps:List Str}{sp:Sp}{E:XK}
theorem qj {pins:List (Addr×Obj)}{σ:L2.St}{H:Hp}{s:Shared}{Q:VK}{us:List Value}{vs:List V}(F:cR X.prog X.w X.K X.mg X.base CX RP f fd ps sp)(hr:RP X.A)(hb:Binds X.K fd ps [])(hx:eS CX X E)(I:Inv X pins σ H s)(r:aN vs us)(h:sp vs H Q E) :
  wpAny (model X.prog X.w) X.A (call (.ref f) us) (EP X pins σ Q) X.xe s:=by
 have hl:us.length=ps.length:=by rw[<-r.length];exact F.len _ _ _ _ h
 have hb':=hb s us I.kIn (by rw[ba];exact hl);rw[ba] at hb';refine wpAny_call (codeAny_mono (F.run X.A X.stack s H ⟨us,[]⟩ us vs Q E hr I.env0 hb' r h) fun r s' hq=>?_);cases r with
 |error e=>exact hx pins σ H s e s' I hq
 |ok fl =>
  cases fl with
  |ret u=>exact I.after hq
  |next=>exact False.elim hq
  |brk=>exact False.elim hq
  |cont=>exact False.elim hq
theorem jM {y:Str}{p pos:Pos}{e:Expr}{es:List Expr}{t:TA}(F:cR X.prog X.w X.K X.mg X.base CX RP f fd ps sp)(hr:RP X.A)(hg:Gl X y)(hm:X.mg y=some (.ref f))(hk:PySem.W.keepIn X.K (.ref f)=true)(hb:Binds X.K fd ps [])(hx:eS CX X E)(ha:PA X (e::es) t)
  (hdb:(y==("__debug__" : Str))=false:=by decide) (he:starEach (e::es) X.env=(false,eval e X.env)::starEach es X.env:=by rfl) (hpl:(backTo pos (starEach es X.env)).any (·.1)=false:=by rfl) :
  PE X (.Call (.Name y p) (e::es) [] pos) (fun σ H Q=>t σ H fun vs H1=>sp vs H1 Q E):=by
 intro pins s σ H Q I h;refine wpAny_Call_Name_kw (gO I hg hm ?_ hdb);refine fw (h₀:=X.base) I.ok.mod.kin hk (bW (ha pos pins s σ H _ I h) fun us s1 ⟨vs,H1,I1,r,q⟩=>⟨I1.kIn,?_⟩) he hpl;exact qj F hr hb hx I1 r q
end
section
variable {p:Pg}{P:Program}{w:World}{K:Frag}{mg:Str->Option Value}{base:Heap}
end
section
variable {P:Program}{w:World}{K:Frag}{mg:Str->Option Value}{base:Heap}
end
section
variable {X:Cx}{CX:nS}{RP:Around->Prop}{f C:Addr}{fd:FuncData}{ps:List Str}{sp:Sp}{E:XK}{x m:Str}{p pos apos:Pos}{e o:Expr}{es:List Expr}{ta:TE}{t:TA}
def Ai (C:Addr)(m:Str)(sp:Sp)(E:XK)(ta:TE)(t:TA):TE:=fun σ H Q=>ta σ H fun x H1=>∃ a dx fs,x = .ref a/\H1 a=some (.ins C dx fs)/\fs.lookup m=none /\
 t σ H1 fun vs H2=>sp (x::vs) H2 Q E
theorem fX {pl:Sem Bool}(he:PE X o ta)(c:L2.vR X.K C)(hm:zr X.K C m f)(F:cR X.prog X.w X.K X.mg X.base CX RP f fd ps sp)(hr:RP X.A)(hb:Binds X.K fd ps [])(hx:eS CX X E)(ha:PA X (e::es) t)
  (hst:starEach (e::es) X.env=(false,eval e X.env)::starEach es X.env:=by rfl) (hpl:(backTo pos (starEach es X.env)).any (·.1)=false:=by rfl)
  (ht:eval (.Call (.Attribute o m apos) (e::es) [] pos) X.env=(do
   let ov <- eval o X.env
   standAt apos.atName
   let (f,first) <- holding [ov] (getMethod ov m pl)
   callWith pos f first (backTo pos (starEach (e::es) X.env)) (backToKw pos (keywordEach [] X.env))):=by rfl) :
  PE X (.Call (.Attribute o m apos) (e::es) [] pos) (Ai C m sp E ta t):=by
 intro pins s σ H Q I h;refine PySem.W.methodCall_KW (pl:=pl) (bW (he pins s σ H _ I h) fun u s1 ⟨x,H1,I1,rx,a,dx,fs,ex,ea,l,q⟩=>?_) ht;subst ex;obtain rfl:u=Value.ref a:=rx;refine oZ I1 ea c hm l ?_;refine fw (first:=[.ref a]) (h₀:=X.base) I.ok.mod.kin hm.kp (bW (ha pos pins s1 σ H1 _ I1 q) fun us s2 ⟨vs,H2,I2,r,q2⟩=>⟨I2.kIn,?_⟩) hst hpl;exact qj (us:=.ref a::us) (vs:=.ref a::vs) F hr hb hx I2 (.cons rfl r) q2
theorem sV {pins:List (Addr×Obj)}{σ:L2.St}{H:Hp}{s:Shared}{Q:VK}{us:List Value}{vs:List V}(M:Mk X.K C f)(F:cR X.prog X.w X.K X.mg X.base CX RP f fd ps sp)(hr:∀ us,RP (X.A.under (.builtin "type.__call__" ⟨.ref C::us,[]⟩))) (hb:Binds X.K fd ps [])
  (hx:eS CX X E) (I:Inv X pins σ H s) (r:aN vs us)
  (h:∀ x dx,H x=none->H dx=none->dx≠x->sp (.ref x::vs) (upd (upd H dx (.own x)) x (.ins C dx [])) (fun v H2=>v = .non/\Q (.ref x) H2) E) :
  wpAny (model X.prog X.w) X.A (call (.ref C) us) (EP X pins σ Q) X.xe s:=by
 have hq:=h (s.heap.objs.size+1) s.heap.objs.size (I.hok.fresh (Nat.le_succ _)) (I.hok.fresh (av _)) (bo (du _));have I2:=Inv.made (C:=C) I;have r2:aN (V.ref (s.heap.objs.size+1)::vs) (Value.ref (s.heap.objs.size+1)::us):=.cons rfl r;have hl:(Value.ref (s.heap.objs.size+1)::us).length=ps.length:=by
  have e:=r2.length;rw[F.len _ _ _ _ hq] at e;exact e.symm
 have hb':=hb _ (Value.ref (s.heap.objs.size+1)::us) I2.kIn (by rw[ba];exact hl);rw[ba] at hb';refine wpAny_call (vo (f:=f) I.kIn M.makes M.init (gj.mp M.fn) (codeAny_mono (F.run _ X.stack _ _ ⟨Value.ref (s.heap.objs.size+1)::us,[]⟩ (Value.ref (s.heap.objs.size+1)::us) _ _ E (hr us)
  (I2.env0.make C us []) hb' r2 hq) fun r s' hq'=>?_))
 cases r with
 |error e=>exact hx pins σ _ _ e s' I2 hq'
 |ok fl =>
  cases fl with
  |ret u =>
   obtain⟨v,H',I3,rv,ev,q3⟩:=I2.after hq';subst ev;exact⟨rv,⟨V.ref (s.heap.objs.size+1),H',I3,rfl,q3⟩⟩
  |next=>exact False.elim hq'
  |brk=>exact False.elim hq'
  |cont=>exact False.elim hq'
def Al (C:Addr)(sp:Sp)(E:XK)(t:TA):TE:=fun σ H Q=>t σ H fun vs H1=>∀ x dx,H1 x=none->H1 dx=none->dx≠x ->
 sp (.ref x::vs) (upd (upd H1 dx (.own x)) x (.ins C dx [])) (fun v H2=>v = .non/\Q (.ref x) H2) E
theorem vq (M:Mk X.K C f)(F:cR X.prog X.w X.K X.mg X.base CX RP f fd ps sp)(hr:∀ us,RP (X.A.under (.builtin "type.__call__" ⟨.ref C::us,[]⟩))) (hg:Gl X x) (hm:X.mg x=some (.ref C)) (hb:Binds X.K fd ps []) (hx:eS CX X E)
  (ha:PA X (e::es) t) (hdb:(x==("__debug__" : Str))=false:=by decide) (he:starEach (e::es) X.env=(false,eval e X.env)::starEach es X.env:=by rfl) (hpl:(backTo pos (starEach es X.env)).any (·.1)=false:=by rfl) :
  PE X (.Call (.Name x p) (e::es) [] pos) (Al C sp E t):=by
 intro pins s σ H Q I h;refine wpAny_Call_Name_kw (gO I hg hm ?_ hdb);refine fw (h₀:=X.base) I.ok.mod.kin M.kp (bW (ha pos pins s σ H _ I h) fun us s1 ⟨vs,H1,I1,r,q⟩=>⟨I1.kIn,?_⟩) he hpl;exact sV M F hr hb hx I1 r q
theorem oz:dP X (.type "str") (fun xs H Q=>∃ i:Int,xs=[.int i]/\i.natAbs<2 ^ 64/\Q (.str (Str.ofString (toString i))) H):=by
 intro pins s σ H xs us Q I r h;obtain⟨i,rfl,hi,q⟩:=h;obtain⟨u,rfl,⟨t,rfl⟩⟩:=r.one;exact PySem.P.str_of_int (log2_small hi) ⟨.str _,H,I.tok _,⟨_,rfl⟩,q⟩
theorem vY:vZ X "str.zfill" (fun x xs H Q=>∃ z i,x = .str z/\xs=[.int i]/\PadOk i=true/\Q (.str (Txt.zfill z i)) H):=by
 intro pins s σ H x xs v us Q I rx r h;obtain⟨z,i,rfl,rfl,hp,q⟩:=h;obtain⟨t,rfl⟩:=rx;obtain⟨u,rfl,⟨t',rfl⟩⟩:=r.one;exact SC.zfill hp fun t' k=>⟨.str _,H,I.tok _,⟨_,rfl⟩,q⟩
end
end Pc
end
section
namespace Pc
open PySem
noncomputable abbrev sq (M:List (List D)):D:=.lst (M.map D.lst)
noncomputable def okC:D->Bool
 |.int _=>true
 |.non=>true
 |_=>false
structure Sqr (n:Nat)(M:List (List D)):Prop where
 len:M.length=n
 row:∀ r∈M,r.length=n
 cell:∀ r∈M,∀ d∈r,okC d=true
theorem kD {f:D->Rs (Option (D×Rt))}{g:D->D×Rt}:∀{l:List D},(∀ d∈l,f d = .ok (some (g d)))->eN f l = .ok (l.map g)
 |[],_=>rfl
 | d::l,h=>by
  simp only[List.map_cons,eN];rw[h d aq,kD fun j hj=>h j (ai _ hj)];rfl
theorem xA {T:Tb}{own:Nat}{pick:List Nat}{t:jo}{it:qu}{e:Ex}{env:En}{l:List D}{R:List Nat}{g:D->D×Rt}(hit:gY T it env = .ok (l,R))(hl:l.length<=lim)(hg:∀ d∈l,cQ (bR [] t d (cN env own pick)) (vK T .none) (ev T e) = .ok (some (g d)))(hf:∀ d∈l,((g d).1.flat || gK (g d).2)=true) :
  ev T (.comp own pick t it .none e) env = .ok (.lst (l.map fun d=>(g d).1),.mv []):=by
 rw[ev,hit,aA,kD hg,aA];dsimp only;rw[if_pos hl,if_pos]
 ·rw[dm];rfl
 ·rw[List.all_map,bw];exact hf
theorem kE {T:Tb}{e:Ex}{env:En}{d:D}(h:ev T e env = .ok (d,.mv [])):ret (aH T (.cons (.ret e) .nil) env) = .ok (d,true):=by
 rw[aH,bZ,h,bM];rfl
theorem q5 {n:Nat}(h:n<=1000):n<=lim:=be h (by decide)
theorem wq (T:Tb)(env:En)(e:Ex)(j:Int)(r:Rt)(he:ev T e env = .ok (.int j,r))(h1:fP j=true):gY T (.rng1 e) env = .ok (bA 0 1 j.toNat,[]):=by
 rw[gY,he,aA];show (if fP j=true then Rs.ok (bA 0 1 j.toNat,[]) else .bad)=_;rw[if_pos h1]
theorem zj {n:Nat}(h:n<=1000):fP (n:Int)=true:=by
 unfold fP;exact bj ⟨Int.le_trans (by decide) (Int.natCast_nonneg n),Int.lt_of_le_of_lt (Int.ofNat_le.mpr h) (by decide)⟩
def bG (s:Slot):Prop:=s=none\/(∃ d,s=some (d,.own))\/(∃ d,s=some (d,.sh []))\/∃ d,s=some (d,.lk)
def Tame (env:En):Prop:=∀ s∈env,bG s
theorem cH:bG none:=.inl rfl
theorem aB (d:D):bG (some (d,.own)):=.inr (.inl ⟨d,rfl⟩)
theorem iE (d:D):bG (some (d,.sh [])):=.inr (.inr (.inl ⟨d,rfl⟩))
theorem qM (d:D):bG (some (d,.lk)):=.inr (.inr (.inr ⟨d,rfl⟩))
theorem Tame.nil:Tame []:=fun _ h=>(nomatch h)
theorem Tame.cons {s:Slot}{e:En}(h:bG s)(t:Tame e):Tame (s::e):=fun x hx=>by
 rcases gd.mp hx with rfl | hx
 ·exact h
 ·exact t x hx
theorem Tame.set {e:En}{s:Slot}(t:Tame e)(h:bG s)(i:Nat):Tame (e.set i s):=fun x hx=>by
 rcases List.mem_or_eq_of_mem_set hx with q | q
 ·exact t x q
 ·rw[q];exact h
theorem iH {env:En}(h:Tame env)(i:Nat)(d:D)(t:Tg):put env i d t=env.set i (some (d,t)):=by
 unfold put;have:env.map (fun (s:Slot)=>s.map fun (p:D×Tg)=>(p.1,p.2.drop i))=env:=by
  conv=>rhs;rw[<-List.map_id env]
  refine List.map_congr_left fun s hs=>?_
  rcases h s hs with rfl | ⟨d,rfl⟩ | ⟨d,rfl⟩ | ⟨d,rfl⟩<;>rfl
 rw[this]
theorem sk {env:En}(h:Tame env)(R:List Nat):kill R env=env.mapIdx fun i s=>if R.contains i then none else s:=by
 unfold kill;apply List.ext_getElem?;intro i;rw[List.getElem?_mapIdx,List.getElem?_mapIdx];cases q:env[i]? with
 |none=>rfl
 |some s =>
  rcases h s (List.mem_of_getElem? q) with rfl | ⟨d,rfl⟩ | ⟨d,rfl⟩ | ⟨d,rfl⟩
  ·simp
  ·simp[gN]
  ·simp[gN]
  ·simp[gN]
theorem nX {env:En}(h:Tame env)(x:Nat)(s:Slot):(kill [x] env).set x s=env.set x s:=by
 rw[sk h];apply List.ext_getElem?;intro i;by_cases hi:i=x
 ·subst hi;by_cases hl:i<env.length
  ·rw[List.getElem?_set_self (by simpa using hl),List.getElem?_set_self hl]
  ·rw[List.getElem?_eq_none (by simp;omega),List.getElem?_eq_none (by simp;omega)]
 ·rw[List.getElem?_set_ne (cu hi),List.getElem?_set_ne (cu hi),List.getElem?_mapIdx];cases q:env[i]? with
  |none=>rfl
  |some s=>simp[hi]
section
variable {T:Tb}{env:En}
theorem aX {i:Nat}{e:Ex}{d:D}(ht:Tame env)(hi:i<env.length)(h:ev T e env = .ok (d,.mv [])):bZ T (.asg (.nm i) e false) env = .nx (env.set i (some (d,.own))):=by
 rw[bZ,h,bM];show (if i<env.length then Fl.nx (put env i d .own) else .bad)=_;rw[if_pos hi,iH ht]
theorem eF {i:Nat}{d:D}(ht:Tame env)(hi:i<env.length):bR [] (.nm i) d env=some (env.set i (some (d,bH d []))):=by
 show (if i<env.length then some (put env i d (bH d [])) else none)=_;rw[if_pos hi,iH ht]
theorem bP {i:Nat}{d:D}(h:env[i]? = some (some (d,.own)))(hf:d.flat=false):ev T (.var i) env = .ok (d,.mv [i]):=by
 rw[ev,h];dsimp only;rw[hf];rfl
theorem aG {i:Nat}{d:D}{t:Tg}(h:env[i]? = some (some (d,t)))(hf:d.flat=true):ev T (.var i) env = .ok (d,.mv []):=by
 rw[ev,h];dsimp only;rw[if_pos hf]
theorem vE (xs:List D)(d:D):sH .append xs [d]=some (xs ++ [d]):=rfl
theorem CM (xs ys:List D):sH .extend xs [.lst ys]=if D.flats ys then some (xs++ys) else none:=rfl
theorem qk {x:Nat}{e:Ex}{xs:List D}{d:D}(ht:Tame env)(hx:env[x]? = some (some (.lst xs,.own)))(h:ev T e env = .ok (d,.mv []))(hl:xs.length+1<=lim):bZ T (.mut x .none .append (.cons e .nil)) env = .nx (env.set x (some (.lst (xs ++ [d]),.own))):=by
 have ho:ownAt env x=some (.lst xs):=by unfold ownAt;rw[hx]
 have hs:bE T (.cons e .nil) env = .ok [(d,.mv [])]:=by
  rw[bE,h,aA];rfl
 rw[bZ,ho];simp only[jA,bM,D.at1,hs,List.map_cons,List.map_nil,vE,aS,Rt.roots,List.flatten_cons,List.flatten_nil,List.append_nil,List.contains_nil,Bool.false_eq_true,if_false,nQ.copies,gC,dO,Option.map_some];have:(xs ++ [d]).length<=lim:=by rw[ag];exact hl
 simp only[List.nodup_nil,decide_true,gB,List.all_nil,Bool.not_false,Bool.and_self,this,if_true,D.set1,Bool.true_and];rw[nX ht]
theorem ite_ff {c:Ex}{a:cM}{R:Rt}(h:ev T c env = .ok (.bl false,R)):bZ T (.ite c a .nil) env = .nx env:=by
 rw[bZ,h,bM];rfl
theorem rm {a b:Ex}{R R':Rt}(h:ev T a env = .ok (.bl false,R))(h':ev T b env = .ok (.bl false,R')):ev T (.or a b) env = .ok (.bl false,R'):=by
 rw[ev,h,aA,h']
theorem vM {a:Ex}{R:Rt}(h:ev T a env = .ok (.bl true,R)):ev T (.not a) env = .ok (.bl false,.mv []):=by
 rw[ev,h,aA];rfl
theorem ka {a b:Ex}{d:D}{R R':Rt}(h:ev T a env = .ok (d,R))(h':ev T b env = .ok (d,R'))(he:D.eqf 40 d d=some true):ev T (.cmp .NotEq a b) env = .ok (.bl false,.mv []):=by
 rw[ev,h,aA,h',aA];show (fT ((D.eqf 40 d d).map (!·))).bind _=_;rw[he];rfl
theorem uY {x:Nat}{d:D}(hx:env[x]? = some (some (d,.own))):lock [x] env=env.set x (some (d,.lk)):=by
 unfold lock;apply List.ext_getElem?;intro i;rw[List.getElem?_mapIdx];by_cases hi:i=x
 ·subst hi;have hl:i<env.length:=(List.getElem?_eq_some_iff.mp hx).1;rw[List.getElem?_set_self hl,hx];simp
 ·rw[List.getElem?_set_ne (cu hi)];cases q:env[i]? with
  |none=>rfl
  |some s =>
   cases s with
   |none=>rfl
   |some p =>
    obtain⟨d,t⟩:=p;cases t with
    |own=>simp[hi]
    |lk=>rfl
    |sh R=>rfl
theorem o6 {x:Nat}{d d':D}{e:En}(hx:env[x]? = some (some (d,.own)))(he:e[x]? = some (some (d',.lk))):unlock [x] env e=e.set x (some (d',.own)):=by
 unfold unlock;apply List.ext_getElem?;intro i;rw[List.getElem?_mapIdx];by_cases hi:i=x
 ·subst hi;have hl:i<e.length:=(List.getElem?_eq_some_iff.mp he).1;rw[List.getElem?_set_self hl,he];simp[hx]
 ·rw[List.getElem?_set_ne (cu hi)];cases q:e[i]? with
  |none=>rfl
  |some s =>
   cases s with
   |none=>rfl
   |some p =>
    obtain⟨d,t⟩:=p;cases t with
    |own=>rfl
    |lk =>
     simp only[Option.map_some];split
     ·simp[hi]
     ·rfl
    |sh R=>rfl
theorem xB {t:jo}{it:qu}{b:cM}{e:En}{l:List D}{x:Nat}{d d':D}(hx:env[x]? = some (some (d,.own)))(hit:gY T it env = .ok (l,[x]))(h:cA t [x] (aH T b) l (env.set x (some (d,.lk))) = .nx e)(he:e[x]? = some (some (d',.lk))):bZ T (.forr t it b) env = .nx (e.set x (some (d',.own))):=by
 rw[bZ,hit,bM];dsimp only;rw[uY hx,h];dsimp only;rw[o6 hx he]
theorem rH {i j:Nat}{x y:D}{R:List Nat}(ht:Tame env)(hi:i<env.length)(hj:j<env.length)(fx:x.flat=true)(fy:y.flat=true):bR R (.tp [i,j]) (.tup [x,y]) env=some ((env.set i (some (x,.own))).set j (some (y,.own))):=by
 show bindM (fun d=>bH d R) [i,j] [x,y] env=_;have tx:bH x R = .own:=by unfold bH;rw[if_pos fx]
 have ty:bH y R = .own:=by unfold bH;rw[if_pos fy]
 simp only[bindM,hi,if_true,tx,ty];rw[iH ht,if_pos (by rw[List.length_set];exact hj),iH (ht.set (aB x) i)]
end
end Pc
end
section
namespace Pc
end Pc
namespace Pc.Sm
open PySem Pc
noncomputable def b6:cM:=(.cons (.ret (.bin .Mod (.bin .Mult (.bin .Add (.bin .Add (.var 0) (.bin .Mult (.var 1) (.var 1))) (.cst (.int (1)))) (.var 2)) (.cst (.int (2305843009213693951)))))
  .nil)
noncomputable def e7:Ex:=.comp 1 [] (.nm 0) (.seq (.sl (.var 0) .none (.some (.cst (.int (63)))))) .none (.bin .Mod (.var 0) (.cst (.int (1000003))))
noncomputable def b7:cM:=(.cons (.ret (.call 6 (.cons (.blt .sum (.cons e7 .nil)) (.cons (.bin .Mod (.blt .len (.cons (.var 0) .nil)) (.cst (.int (64)))) (.cons (.var 1) .nil)))))
  .nil)
noncomputable def b8:cM:=(.cons (.ret (.ix (.lst (.cons (.cst (.int (15))) (.cons (.cst (.int (15))) (.cons (.cst (.int (15))) (.cons (.cst (.int (19))) (.cons (.cst (.int (15))) (.cons (.cst (.int (15))) (.cons (.cst (.int (23))) (.cons (.cst (.int (15))) (.cons (.cst (.int (19))) (.cons (.cst (.int (15))) (.cons (.cst (.int (27))) (.cons (.cst (.int (15))) (.cons (.cst (.int (15))) (.cons (.cst (.int (19))) (.cons (.cst (.int (15))) (.cons (.cst (.int (31))) .nil))))))))))))))))) (.bin .Mod (.var 0) (.cst (.int (16))))))
  .nil)
noncomputable def b9c:cM:=(.cons (.asg (.nm 1) (.bin .Mod (.bin .Mult (.bin .Add (.var 1) (.var 5)) (.cst (.int (40692)))) (.cst (.int (2147483399)))) false)
  (.cons (.mut 4 .none .append (.cons (.ix (.lst (.cons (.cst (.int (0))) (.cons (.cst (.int (1))) (.cons (.cst (.int (0))) (.cons (.cst (.int (1))) (.cons (.cst .non) .nil)))))) (.bin .Mod (.bin .FloorDiv (.var 1) (.cst (.int (7)))) (.cst (.int (5))))) .nil))
  .nil))
noncomputable def s9:St:=.mut 2 .none .append (.cons (.var 4) .nil)
noncomputable def b9r:cM:=(.cons (.asg (.nm 4) (.lst .nil) false)
  (.cons (.forr (.nm 5) (.rng1 (.var 0)) b9c)
  (.cons s9
  .nil)))
noncomputable def b9:cM:=(.cons (.asg (.nm 2) (.lst .nil) false)
  (.cons (.forr (.nm 3) (.rng1 (.var 0)) b9r)
  (.cons (.ret (.var 2))
  .nil)))
theorem mm (p:D×Rt):List.map (fun x:D×Rt=>x.1) [p]=[p.1]:=rfl
theorem map2 (p q:D×Rt):List.map (fun x:D×Rt=>x.1) [p,q]=[p.1,q.1]:=rfl
theorem i9 {T:Tb}{f:Nat}{e1:Ex}{env:En}{d1 r:D}{R1:Rt}(h1:ev T e1 env = .ok (d1,R1))(h:T.cl f [d1] = .ok (r,true)):ev T (.call f (.cons e1 .nil)) env = .ok (r,.mv []):=by
 have:bE T (.cons e1 .nil) env = .ok [(d1,R1)]:=by
  rw[bE,h1,aA];rfl
 rw[ev,this,aA,mm,h,aA];rfl
theorem oo {T:Tb}{f:Nat}{e1 e2:Ex}{env:En}{d1 d2 r:D}{R1 R2:Rt}(h1:ev T e1 env = .ok (d1,R1))(h2:ev T e2 env = .ok (d2,R2))(h:T.cl f [d1,d2] = .ok (r,true)):ev T (.call f (.cons e1 (.cons e2 .nil))) env = .ok (r,.mv []):=by
 have:bE T (.cons e1 (.cons e2 .nil)) env = .ok [(d1,R1),(d2,R2)]:=by
  rw[bE,h1,aA,bE,h2,aA];rfl
 rw[ev,this,aA,map2,h,aA];rfl
noncomputable def e8:Ex:=(.lst (.cons (.cst (.int (15))) (.cons (.cst (.int (15))) (.cons (.cst (.int (15))) (.cons (.cst (.int (19))) (.cons (.cst (.int (15))) (.cons (.cst (.int (15))) (.cons (.cst (.int (23))) (.cons (.cst (.int (15))) (.cons (.cst (.int (19))) (.cons (.cst (.int (15))) (.cons (.cst (.int (27))) (.cons (.cst (.int (15))) (.cons (.cst (.int (15))) (.cons (.cst (.int (19))) (.cons (.cst (.int (15))) (.cons (.cst (.int (31))) .nil)))))))))))))))))
theorem DD (ns:List D)(m:Nat)(hl:ns.length<=m)(M:Int)(hM:M=(m:Int)):slD (.lst ns) none (some M)=some (.lst ns):=by
 subst hM;show some (D.lst ((ns.drop 0).take ((if (m:Int)<0 then ((m:Int)+(ns.length:Int)).toNat else min (m:Int).toNat ns.length) - 0)))=_;rw[if_neg (by omega),c5,Nat.min_eq_right hl,Nat.sub_zero,List.drop_zero,List.take_length]
theorem sum_ints:∀(l:List Int) (a:Int),qc a (l.map D.int)=some (a+l.sum)
 |[],a=>by simp[qc]
 | x::r,a=>by
  rw[ay,qc,sum_ints r,List.sum_cons];congr 1;omega
end Pc.Sm
end
section
namespace Fl64
def Gr (l:List Nat):Prop:=∀ g∈l,g<64
noncomputable def hor (x w:Nat)(l:List Nat):Nat:=l.foldl (fun w g=>tm w x^^^g) w
noncomputable abbrev wth (x:Nat)(l:List Nat):Nat:=hor x 0 l
noncomputable def pw (x:Nat):Nat->Nat
 |0=>1
 |n+1=>tm (pw x n) x
noncomputable def mulR (f:Nat)(l:List Nat):List Nat:=l.map fun g=>tm f g
noncomputable def xi (c:Nat):List Nat:=(List.range' 1 c).map (pw 2)
noncomputable def zb (l:List Nat)(p:Nat):List Nat->List Nat
 |[]=>l
 |g::r=>zb (l.set p (l.getD p 0^^^g)) (p+1) r
noncomputable def uQ (l:List Nat)(k:Nat):List Nat->List Nat->List Nat
 |[],_=>l
 |g::a,b=>uQ (zb l k (mulR g b)) (k+1) a b
noncomputable def CQ (a b:List Nat):List Nat:=uQ (List.replicate (a.length+b.length - 1) 0) 0 a b
def isC (l:List Nat)(c:Nat):Prop:=∀ x∈xi c,wth x l=0
noncomputable instance (l:List Nat) (c:Nat):Decidable (isC l c):=by unfold isC;infer_instance
end Fl64
end
section
namespace Pc.Gr
open PySem Pc Pc.Sm
noncomputable abbrev gD (gs:List Nat):List D:=gs.map fun (g:Nat)=>D.int (g:Int)
noncomputable abbrev sG (gs:List Nat):Slot:=some (.lst (gD gs),.sh [])
noncomputable abbrev oG (gs:List Nat):Slot:=some (.lst (gD gs),.own)
def Dy (T:Tb)(rp:Nat):Prop:=∀ a b:List Nat,Fl64.Gr a->Fl64.Gr b->0<b.length->a.length+b.length<=1000->T.cl rp [.lst (gD a),.lst (gD b)] = .ok (.lst (gD (Fl64.CQ a b)),true)
structure CE (d:List Nat)(c:Nat)(D l:List Nat)(e:En):Prop where
 te:Tame e
 len:e.length=8
 h0:e[0]? = some (sG d)
 h2:e[2]? = some (oG D)
 h3:e[3]? = some (oG l)
end Pc.Gr
end
section
namespace Fl64
end Fl64
namespace Pc.Lw
open PySem Pc Pc.Sm Pc.Gr
def rQ (T:Tb)(mx:Nat):Prop:=∀ c k:Int,∃ v:Int,0<=v/\T.cl mx [.int c,.int k] = .ok (.int v,true)
def isF (gs:List Nat)(k m:Nat):Prop:=∀ x∈(List.range' (k+1) m).map (Fl64.pw 2),Fl64.wth x gs=0
noncomputable instance (gs:List Nat) (k m:Nat):Decidable (isF gs k m):=by unfold isF;infer_instance
def Dv (T:Tb)(wh:Nat):Prop:=∀ x:Int,T.cl wh [.int x] = .ok (.bl true,true)
end Pc.Lw
end
section
namespace Fl64
noncomputable def sm:List (Nat×Nat)->Nat->Nat
 |[],_=>0
 |p::r,j=>tm p.1 (pw p.2 j)^^^sm r j
end Fl64
end
section
namespace Pc.Lw
open PySem Pc Pc.Sm Pc.Gr
noncomputable abbrev cp (i:Nat):Ex:=.blt .list (.cons (.var i) .nil)
theorem aJ {T:Tb}{env:En}(d:D):ev T (.cst d) env = .ok (d,.mv []):=by rw[ev]
theorem dX {T:Tb}{env:En}{a b:Ex}{x y:Int}{R R':Rt}(h:ev T a env = .ok (.int x,R))(h':ev T b env = .ok (.int y,R')):ev T (.bin .Add a b) env = .ok (.int (x+y),.mv []):=by
 rw[ev,h,aA,h',aA];rfl
theorem dA {T:Tb}{env:En}{a b:Ex}{x y:Int}{R R':Rt}(hy:0<y)(h:ev T a env = .ok (.int x,R))(h':ev T b env = .ok (.int y,R')):ev T (.bin .Mod a b) env = .ok (.int (x%y),.mv []):=by
 rw[ev,h,aA,h',aA,iJ];have:Pc.binI .Mod x y=some (x%y):=by
  show (if 0<y then some (x%y) else none)=_;rw[if_pos hy]
 rw[this];rfl
theorem gS {T:Tb}{env:En}{a b:Ex}{x y:Int}{R R':Rt}(hy:0<y)(hy':y<1073741824)(h:ev T a env = .ok (.int x,R))(h':ev T b env = .ok (.int y,R')):ev T (.bin .FloorDiv a b) env = .ok (.int (x / y),.mv []):=by
 rw[ev,h,aA,h',aA,iJ];have:Pc.binI .FloorDiv x y=some (x / y):=by
  show (if 0<y/\y<1073741824 then some (x / y) else none)=_;rw[if_pos ⟨hy,hy'⟩]
 rw[this];rfl
end Pc.Lw
end
section
namespace Pc.Nw
open PySem Pc Pc.Sm Pc.Lw Pc.Gr
theorem dM {t:jo}{R:List Nat}{b:En->Fl}{x:D}{l:List D}{e e1 e2:En}(h1:bR R t x e=some e1)(h2:b e1 = .nx e2):cA t R b (x::l) e=cA t R b l e2:=by
 conv=>lhs;unfold cA
 rw[h1];dsimp only;rw[h2]
theorem xh {T:Tb}{env:En}{e:Ex}{m:Nat}{R:Rt}(h:ev T e env = .ok (.int (m:Int),R))(hm:m<=1000):gY T (.rng1 e) env = .ok (bA ((0:Nat):Int) 1 m,[]):=by
 rw[wq _ _ _ _ _ h (zj hm),c5];rfl
theorem oU (k m:Nat):bA (k:Int) 1 (m+1) = .int (k:Int)::bA ((k+1:Nat):Int) 1 m:=by
 rw[bA,show (k:Int)+1=((k+1:Nat):Int) by omega]
theorem dY (n:Nat):∀ a:Nat,bA (a:Int) 1 n=(List.range n).map fun (k:Nat)=>D.int ((a+k:Nat):Int):=by
 induction n with
 |zero=>intro a;rfl
 |succ n ih =>
  intro a;rw[oU,ih,gq,ay,dm];congr 1;refine List.map_congr_left fun k _=>?_
  show D.int ((a+1+k:Nat):Int)=D.int ((a+(k+1):Nat):Int);rw[show a+1+k=a+(k+1) by omega]
theorem mh {T:Tb}{env:En}{e:Ex}{xs:List D}{R:Rt}(h:ev T e env = .ok (.lst xs,R)):ev T (.blt .len (.cons e .nil)) env = .ok (.int (xs.length:Int),.mv []):=by
 rw[ev,bE,bE,h,aA,aA,aA,mm];show (fT (some (D.int (xs.length:Int)))).bind _=_;rw[cV,aA,gH]
theorem tw {T:Tb}{f:Nat}{e1 e2 e3:Ex}{env:En}{d1 d2 d3 r:D}{R1 R2 R3:Rt}(h1:ev T e1 env = .ok (d1,R1))(h2:ev T e2 env = .ok (d2,R2))(h3:ev T e3 env = .ok (d3,R3))(h:T.cl f [d1,d2,d3] = .ok (r,true)):ev T (.call f (.cons e1 (.cons e2 (.cons e3 .nil)))) env = .ok (r,.mv []):=by
 rw[ev,bE,bE,bE,bE,h1,aA,h2,aA,h3,aA,aA,aA,aA,aA];show (T.cl f [d1,d2,d3]).bind _=_;rw[h];rfl
theorem i3 {α:Type}{f:D->Rs (Option (D×Rt))}{g r:α->D}{c:α->Bool}:∀{l:List α},(∀ a∈l,f (g a) = .ok (if c a then some (r a,.mv []) else none))->eN f (l.map g) = .ok ((l.filter c).map fun a=>(r a,Rt.mv []))
 |[],_=>rfl
 | a::l,h=>by
  simp only[List.map_cons,eN];rw[h a aq,i3 fun b hb=>h b (ai _ hb)];cases q:c a<;>simp[aA,List.filter_cons,q]
section
variable {T:Tb}{env:En}
theorem uM {a b:Ex}{x y:Nat}{R R':Rt}(h:ev T a env = .ok (.int (x:Int),R))(h':ev T b env = .ok (.int (y:Int),R')):ev T (.cmp .Eq a b) env = .ok (.bl (decide (x=y)),.mv []):=by
 rw[ev,h,aA,h',aA];have:kW .Eq (.int (x:Int)) (.int (y:Int))=some (decide (x=y)):=by
  show some ((x:Int)==(y:Int))=_;congr 1;rw[Bool.eq_iff_iff,gj,cx];omega
 rw[this];rfl
theorem AO {a b:Ex}{x y:Nat}{R R':Rt}(h:ev T a env = .ok (.int (x:Int),R))(h':ev T b env = .ok (.int (y:Int),R')):ev T (.cmp .Gt a b) env = .ok (.bl (decide (y<x)),.mv []):=by
 rw[ev,h,aA,h',aA];have:kW .Gt (.int (x:Int)) (.int (y:Int))=some (decide (y<x)):=by
  show some (decide ((y:Int)<(x:Int)))=_;congr 1;exact decide_eq_decide.mpr (by omega)
 rw[this];rfl
theorem jT {a b:Ex}{x y:Nat}{R R':Rt}(h:ev T a env = .ok (.int (x:Int),R))(h':ev T b env = .ok (.int (y:Int),R')):ev T (.bin .Add a b) env = .ok (.int ((x+y:Nat):Int),.mv []):=by
 rw[dX h h'];rfl
theorem vG {a b:Ex}{x y:Int}{R R':Rt}(h:ev T a env = .ok (.int x,R))(h':ev T b env = .ok (.int y,R')):ev T (.bin .Sub a b) env = .ok (.int (x - y),.mv []):=by
 rw[ev,h,aA,h',aA,iJ];rfl
theorem vP {c:Ex}{a b:cM}{p:Prop}[Decidable p]{R:Rt}(h:ev T c env = .ok (.bl (decide p),R)):bZ T (.ite c a b) env=if p then aH T a env else aH T b env:=by
 rw[bZ,h,bM];by_cases hp:p
 ·rw[bj hp,if_pos hp];rfl
 ·rw[az hp,if_neg hp];rfl
end
section
variable {T:Tb}{env:En}
end
end Pc.Nw
end
section
namespace Pc.Fr
open PySem Pc Pc.Sm Pc.Lw Pc.Gr Pc.Nw
noncomputable abbrev pD (p:Int×Int):D:=.tup [.int p.1,.int p.2]
noncomputable def cnt (s t:Int):Nat:=((if s<t+3 then s else t+3) - t).toNat
theorem gZ {T:Tb}{env:En}{e:Ex}{d:D}{R:Rt}{n:String}{b:Bool}(h:ev T e env = .ok (d,R))(hb:fE (.isi n) [d]=some (.bl b)):ev T (.blt (.isi n) (.cons e .nil)) env = .ok (.bl b,.mv []):=by
 rw[ev,bE,bE,h,aA,aA,aA,mm,hb];rfl
noncomputable abbrev Tr:=Int×Int×Int
noncomputable abbrev pT (t:Tr):Int×Int:=(t.1,t.2.1)
noncomputable abbrev iD (l:List Int):List D:=l.map D.int
noncomputable def wr (M:List (List Int))(t:Tr):List (List Int):=M.set t.1.toNat ((M.getD t.1.toNat []).set t.2.1.toNat t.2.2)
structure Rect (n:Nat)(M:List (List Int)):Prop where
 len:M.length=n
 row:∀ r∈M,r.length=n
noncomputable def zero (n:Nat):List (List Int):=List.replicate n (List.replicate n 0)
theorem Ab {n:Nat}{i:Int}(h0:0<=i)(h1:i<n):Pc.iF n i=some i.toNat:=by
 unfold Pc.iF;rw[if_pos h0,if_pos h1]
section
variable {T:Tb}{env:En}
theorem jC {a b:Ex}{i j:Int}{R R':Rt}(hs:(small i || small j)=true)(ha:ev T a env = .ok (.int i,R))(hb:ev T b env = .ok (.int j,R')):ev T (.bin .Mult a b) env = .ok (.int (i*j),.mv []):=by
 rw[ev,ha,aA,hb,aA,iJ];simp only[Pc.binI,hs,if_true,Option.map_some,cV,aA,gH]
theorem BC {a b:Ex}{l:List Int}{i:Int}{v:Int}{R R':Rt}(h0:0<=i)(hv:l[i.toNat]? = some v)(ha:ev T a env = .ok (.lst (iD l),R))(hb:ev T b env = .ok (.int i,R')):ev T (.ix a b) env = .ok (.int v,.mv []):=by
 have hi:=(List.getElem?_eq_some_iff.mp hv).1;have:AY (.lst (iD l)) (.int i)=some (.int v):=by
  show ((Pc.iF (iD l).length i).bind fun j=>(iD l)[j]?)=_;rw[Ab h0 (by rw[au];omega),dt,List.getElem?_map,hv];rfl
 rw[ev,ha,aA,hb,aA,this];rfl
end
end Pc.Fr
end
section
namespace Pc.Ct
open PySem Pc Pc.Sm Pc.Lw Pc.Gr Pc.Nw
noncomputable def tx (l:List Nat):Str:=⟨l.toArray⟩
theorem iV (l:List Nat):(tx l).length=l.length:=by simp[tx,Str.length]
theorem oN (a b:List Nat):tx a++tx b=tx (a++b):=by
 show (⟨a.toArray++b.toArray⟩:Str)=⟨(a++b).toArray⟩;rw[List.append_toArray]
theorem xp {cs:List Nat}(h:cs.length<=1000):(tx cs).length<=lim:=by rw[iV];exact q5 h
noncomputable abbrev sT (cs:List Nat):Slot:=some (.str (tx cs),.own)
theorem CP {cs:List Nat}(hl:cs.length<=1000){i c:Nat}(h:cs[i]? = some c):AY (.str (tx cs)) (.int (i:Int))=some (.str (tx [c])):=by
 have hj:i<cs.length:=(List.getElem?_eq_some_iff.mp h).1;show (if (tx cs).length<=lim then ((Pc.iF (tx cs).cps.toList.length (i:Int)).bind fun j=>(tx cs).cps.toList[j]?).map fun c=>D.str ⟨#[c]⟩ else none)=_;rw[if_pos (xp hl)];show ((Pc.iF cs.length (i:Int)).bind fun j=>cs[j]?).map _=_;rw[pK hj];show (cs[i]?).map _=_;rw[h];rfl
theorem zQ {a b:List Nat}(h:a.length+b.length<=1000):pY .Add (.str (tx a)) (.str (tx b))=some (.str (tx (a++b))):=by
 show ck ((tx a).length+(tx b).length) (.str (tx a++tx b))=_;unfold ck;rw[if_pos (by rw[iV,iV];exact q5 h),oN]
theorem wX {T:Tb}{env:En}{a b:Ex}{x y:List Nat}{R R':Rt}(ha:ev T a env = .ok (.str (tx x),R))(hb:ev T b env = .ok (.str (tx y),R'))(h:x.length+y.length<=1000):ev T (.bin .Add a b) env = .ok (.str (tx (x++y)),.mv []):=by
 rw[ev,ha,aA,hb,aA,zQ h];rfl
theorem BA {T:Tb}{env:En}{a b:Ex}{cs:List Nat}{i c:Nat}{R R':Rt}(hl:cs.length<=1000)(ha:ev T a env = .ok (.str (tx cs),R))(hb:ev T b env = .ok (.int (i:Int),R'))(h:cs[i]? = some c):ev T (.ix a b) env = .ok (.str (tx [c]),.mv []):=by
 rw[ev,ha,aA,hb,aA,CP hl h];rfl
theorem m8 {T:Tb}{env:En}{e:Ex}{cs:List Nat}{R:Rt}(hl:cs.length<=1000)(h:ev T e env = .ok (.str (tx cs),R)):ev T (.blt .len (.cons e .nil)) env = .ok (.int (cs.length:Int),.mv []):=by
 rw[ev,bE,bE,h,aA,aA,aA,mm];have:fE .len [.str (tx cs)]=some (.int (cs.length:Int)):=by
  show (if (tx cs).length<=lim then some (D.int ((tx cs).length:Int)) else none)=_;rw[if_pos (xp hl),iV]
 dsimp only;rw[this,cV,aA,gH]
theorem jq (n d v:Nat):aU n d (some (v:Int))=min v n:=by
 unfold aU;dsimp only;rw[if_neg (by omega),c5]
theorem uo {T:Tb}{env:En}{a b:Ex}{ds:List D}{i:Nat}{d:D}{R R':Rt}(ha:ev T a env = .ok (.tup ds,R))(hb:ev T b env = .ok (.int (i:Int),R'))(h:ds[i]? = some d)(hf:d.flat=true):ev T (.ix a b) env = .ok (d,.mv []):=by
 have:AY (.tup ds) (.int (i:Int))=some d:=by
  show (Pc.iF ds.length (i:Int)).bind (fun j=>ds[j]?)=_;rw[pK (List.getElem?_eq_some_iff.mp h).1];exact h
 rw[ev,ha,aA,hb,aA,this,cV,aA];unfold mo;rw[if_pos hf]
theorem uf {T:Tb}{env:En}{a b:Ex}{x y:D}(ha:ev T a env = .ok (x,.mv []))(hb:ev T b env = .ok (y,.mv [])):ev T (.tup (.cons a (.cons b .nil))) env = .ok (.tup [x,y],.mv []):=by
 rw[ev,bE,ha,aA,bE,hb,aA,bE,aA,aA,aA];rfl
noncomputable def s1:Str:="0123456789"
noncomputable def s2:Str:=" ABCDEFGHIJKLMNOPQRSTUVWXYZ.,-:/"
noncomputable def s3:Str:=" !\"#$&'()*+,-./0123456789:;<=>?@ABCDEFGHIJKLMNOPQRSTUVWXYZ[\\]^_`abcdefghijklmnopqrstuvwxyz{|}~"
noncomputable def KS:Nat->Str
 |1=>s1
 |2=>s2
 |3=>s3
 |_=>⟨#[]⟩
noncomputable def kn (k:Nat):List Nat:=(KS k).cps.toList
noncomputable def uS (k c:Nat):Bool:=(kn k).contains c
theorem Du (k:Nat):KS k=tx (kn k):=rfl
theorem pZ:(kn 1).length=10/\(kn 2).length=32/\(kn 3).length=94:=by decide +kernel
noncomputable def G:Nat->D
 |0=>.int 1
 |1=>.int 2
 |2=>.int 3
 |3=>.tup [.str ⟨#[]⟩,.str s1,.str s2,.str s3]
 |4=>.tup [.int 0,.int 0,.int 5,.int 7]
 |5=>.int 2
 |6=>.int 6
 |7=>.int 64
 |8=>.tup [.int 0,.int 4,.int 7,.int 10]
 |9=>.int 3
 |_=>.non
noncomputable def fb (m:Nat):Nat:=if m=0 then 0 else 3*m+1
noncomputable def plen (k c:Nat):Nat:=if k=1 then 8+10*(c / 3)+fb (c%3) else 8+(if k=2 then 5 else 7)*c
noncomputable abbrev Q4:=Nat×Nat×Nat×Nat
noncomputable def q4 (q:Q4):D:=.tup [.int (q.1:Int),.int (q.2.1:Int),.int (q.2.2.1:Int),.int (q.2.2.2:Int)]
noncomputable def qs (l:List Q4):D:=.lst (l.map q4)
noncomputable abbrev EK (B:List Q4)(s k r:Nat)(ch:List Q4)(a5 a6:Slot):En:=[some (qs B,.sh []),sN s,sN k,sN r,some (qs ch,.own),a5,a6]
noncomputable def one (k c:Nat)(q:Q4):Q4:=(plen k c+q.1,1+q.2.1,k,c)
noncomputable abbrev z4:Q4:=(0,0,0,0)
noncomputable def k4 (q:Q4):List Int:=[(q.1:Int),(q.2.1:Int),(q.2.2.1:Int),(q.2.2.2:Int)]
noncomputable def bst (l:List Q4):Q4:=l.getD (cY (fun i j=>sC ((l.map k4).getD i []) ((l.map k4).getD j [])) (l.length - 1) 1 0) z4
noncomputable def rn (k:Nat):List Nat->Nat
 |[]=>0
 |c::r=>if uS k c then rn k r+1 else 0
noncomputable def chN (k:Nat)(C:List Q4)(m:Nat):List Q4:=(List.range m).map fun j=>one k (j+1) (C.getD j z4)
noncomputable def chA (t:List Nat)(C:List Q4):List Q4:=chN 1 C (min (rn 1 t) 64)++chN 2 C (min (rn 2 t) 64)++chN 3 C (min (rn 3 t) 64)
noncomputable def bc:List Nat->List Q4
 |[]=>[z4]
 |c::r=>bst (chA (c::r) (bc r))::bc r
noncomputable abbrev mp (rs:List (Int×MV)):Slot:=some (.mpi rs,.own)
noncomputable abbrev oQ (l:List Q4):Slot:=some (qs l,.own)
noncomputable abbrev EB (t:List Nat)(B:List Q4)(rs:List (Int×MV))(s:Nat)(ch:List Q4)(a5:Slot):En:=[sT t,oQ B,mp rs,sN s,oQ ch,a5]
noncomputable def r3 (a b c:Nat):List (Int×MV):=[(1,.int (a:Int)),(2,.int (b:Int)),(3,.int (c:Int))]
noncomputable abbrev Pe:=Nat×List Nat
noncomputable def pD (p:Pe):D:=.tup [.int (p.1:Int),.str (tx p.2)]
noncomputable def hd (t:List Nat):Q4:=(bc t).getD 0 z4
structure First (t:List Nat)(q:Q4):Prop where
 k1:1<=q.2.2.1
 k3:q.2.2.1<=3
 c1:1<=q.2.2.2
 c64:q.2.2.2<=64
 run:q.2.2.2<=rn q.2.2.1 t
noncomputable abbrev oP (l:List Pe):Slot:=some (.lst (l.map pD),.own)
noncomputable abbrev EC (t:List Nat)(B:List Q4)(P:List Pe)(s:Nat)(a4 a5:Slot):En:=[sT t,oQ B,oP P,sN s,a4,a5]
structure Piece (p:Pe):Prop where
 k1:1<=p.1
 k3:p.1<=3
 c1:1<=p.2.length
 c64:p.2.length<=64
 all:∀ c∈p.2,uS p.1 c=true
open Pc.Fr (iD)
def rQ (T:Tb):Prop:=∀(cs:List Int) (k p:Int),small k=true->0<p->∃ r,0<=r/\r<p/\T.cl 5 [.lst (iD cs),.int k,.int p] = .ok (.int r,true)
theorem Bh {cs:List Nat}(hl:cs.length<=1000){i:Int}(h0:0<=i)(h1:i<cs.length){T:Tb}{env:En}{a b:Ex}{R R':Rt}(ha:ev T a env = .ok (.str (tx cs),R))(hb:ev T b env = .ok (.int i,R')):∃ c∈cs,ev T (.ix a b) env = .ok (.str (tx [c]),.mv []):=by
 obtain⟨j,rfl,_⟩:=jL h0 h1;have hj:j<cs.length:=by omega
 exact⟨cs[j],List.getElem_mem hj,BA hl ha hb (List.getElem?_eq_getElem hj)⟩
theorem kn_b {k:Nat}(h1:1<=k)(h3:k<=3):(kn k).length<=100/\0<(kn k).length:=by
 obtain⟨a,b,c⟩:=pZ;have:k=1\/k=2\/k=3:=by omega
 rcases this with rfl | rfl | rfl<;>omega
noncomputable abbrev ET (cs:List Int)(m:Int)(n:Nat)(t:List Nat)(k:Nat)(a5 a6:Slot):En:=[some (.lst (iD cs),.sh []),sI m,sN n,sT t,sN k,a5,a6]
open Pc.Fr (iD gZ)
theorem tB {α:Type}{T:Tb}{own:Nat}{pick:List Nat}{t:jo}{it:qu}{e:Ex}{env:En}{l:List α}{R:List Nat}{g r:α->D}(hit:gY T it env = .ok (l.map g,R))(hl:l.length<=1000)
  (hg:∀ a∈l,cQ (bR [] t (g a) (cN env own pick)) (vK T .none) (ev T e) = .ok (some (r a,.mv []))):ev T (.comp own pick t it .none e) env = .ok (.lst (l.map r),.mv []):=by
 rw[ev,hit,aA,i3 (f:=fun d=>cQ (bR [] t d (cN env own pick)) (vK T .none) (ev T e)) (c:=fun _=>true) (r:=r) (fun a ha=>by rw[hg a ha];rfl),aA];dsimp only;rw[List.filter_eq_self.mpr fun _ _=>rfl,if_pos (by rw[au];exact q5 hl),if_pos,dm]
 ·rfl
 ·rw[bw];intro q hq;obtain⟨a,_,rfl⟩:=List.mem_map.mp hq;show ((r a).flat || true)=true;rw[Bool.or_true]
theorem DG {T:Tb}{e:Ex}{env:En}{d:D}(h:ev T e env = .ok (d,.mv [])):cQ (some env) (vK T .none) (ev T e) = .ok (some (d,.mv [])):=by
 unfold cQ;dsimp only;rw[vK,aA,if_pos rfl,h,aA]
theorem ud {α:Type}:∀ l:List α,allB (l.map fun _=>D.bl true)=some true
 |[]=>rfl
 |_::l=>ud l
theorem wF {α:Type}{T:Tb}{env:En}{e:Ex}{l:List α}{R:Rt}(h:ev T e env = .ok (.lst (l.map fun _=>D.bl true),R)):ev T (.blt .all (.cons e .nil)) env = .ok (.bl true,.mv []):=by
 rw[ev,bE,h,aA,bE,aA,aA,mm];show (fT (if (l.map fun _=>D.bl true).all D.isBl then (allB (l.map fun _=>D.bl true)).map D.bl else none)).bind _=_;rw[if_pos (by rw[bw];intro d hd;obtain⟨_,_,rfl⟩:=List.mem_map.mp hd;rfl),ud];rfl
theorem vb {T:Tb}{env:En}{e:Ex}{cs:List Nat}(hl:cs.length<=1000)(h:ev T e env = .ok (.str (tx cs),.mv [])):gY T (.seq e) env = .ok (cs.map fun c=>D.str (tx [c]),[]):=by
 rw[gY,h,aA];show (fT (if (tx cs).length<=lim then some (cs.map fun c=>D.str ⟨#[c]⟩) else none)).bind _=_;rw[if_pos (xp hl)];rfl
noncomputable def e0:Ex:=.ix (.var 0) (.cst (.int (0)))
noncomputable def e1:Ex:=.ix (.var 0) (.cst (.int (1)))
noncomputable def BN:Ex:=(.or (.not (.blt (.isi "tuple") (.cons (.var 0) .nil))) (.cmp .NotEq (.blt .len (.cons (.var 0) .nil)) (.cst (.int (2)))))
theorem Co (n:Nat)(s:List Nat):D.eqf (n+1) (.str (tx s)) (.str (tx s))=some true:=by
 show some (tx s==tx s)=_;rw[cq]
theorem DK (n:Nat)(p:Pe):D.eqf (n+2) (pD p) (pD p)=some true:=by
 show (if (2:Nat)=2 then lu (D.eqf (n+1)) [.int (p.1:Int),.str (tx p.2)] [.int (p.1:Int),.str (tx p.2)] else some false)=_;rw[if_pos rfl];show ((D.eqf (n+1) (.int (p.1:Int)) (.int (p.1:Int))).bind fun a=>((D.eqf (n+1) (.str (tx p.2)) (.str (tx p.2))).bind fun b=>(some true).map fun c=>b&&c).map fun b=>a&&b)=_;rw[Co,show D.eqf (n+1) (.int (p.1:Int)) (.int (p.1:Int))=some true by show some ((p.1:Int)==(p.1:Int))=_;rw[cq]];rfl
theorem u0 (n:Nat):∀ l:List Pe,lu (D.eqf (n+2)) (l.map pD) (l.map pD)=some true
 |[]=>rfl
 | p::l=>by
  show ((D.eqf (n+2) (pD p) (pD p)).bind fun a=>(lu (D.eqf (n+2)) (l.map pD) (l.map pD)).map fun b=>a&&b)=_;rw[u0 n l,DK];rfl
theorem Dc (l:List Pe):D.eqf 40 (.lst (l.map pD)) (.lst (l.map pD))=some true:=by
 show (if (l.map pD).length=(l.map pD).length then lu (D.eqf 39) (l.map pD) (l.map pD) else some false)=_;rw[if_pos rfl];exact u0 37 l
theorem xH {T:Tb}{env:En}{x:Nat}{e:Ex}{xs:List D}{d:D}(ht:Tame env)(hx:env[x]? = some (some (.lst xs,.own)))(h:ev T e env = .ok (d,.mv []))(hl:xs.length+1<=lim):bZ T (.mut x .none .insert (.cons (.cst (.int (0))) (.cons e .nil))) env = .nx (env.set x (some (.lst (d::xs),.own))):=by
 have ho:ownAt env x=some (.lst xs):=by unfold ownAt;rw[hx]
 have hs:bE T (.cons (.cst (.int (0))) (.cons e .nil)) env = .ok [(.int 0,.mv []),(d,.mv [])]:=by
  rw[bE,aJ,aA,bE,h,aA,bE];rfl
 have hm:sH .insert xs [.int 0,d]=some (d::xs):=by
  show (if -(2 ^ 63)<=(0:Int)/\(0:Int)<2 ^ 63 then some (xs.take (aU xs.length 0 (some ((0:Nat):Int)))++d::xs.drop (aU xs.length 0 (some ((0:Nat):Int)))) else none)=_;rw[if_pos (by decide),jq,Nat.zero_min];rfl
 rw[bZ,ho];simp only[jA,bM,D.at1,hs,List.map_cons,List.map_nil,hm,aS,Rt.roots,List.flatten_cons,List.flatten_nil,List.append_nil,List.contains_nil,Bool.false_eq_true,if_false,nQ.copies,gC,dO,Option.map_some];have:(d::xs).length<=lim:=hl;simp only[List.nodup_nil,decide_true,gB,List.all_nil,Bool.not_false,Bool.and_self,this,if_true,D.set1,Bool.true_and];rw[nX ht]
end Pc.Ct
end
section
namespace Pc.Gn
open PySem Pc Pc.Sm Pc.Lw Pc.Gr Pc.Nw Pc.Ct
open Pc.Fr (iD)
theorem limB {n:Nat}(h:n<=20000):n<=lim:=be h (by decide)
noncomputable def aM (x:Int):Nat->List Int
 |0=>[]
 |n+1=>x / 2 ^ n%2::aM x n
theorem aK (x:Int):∀ n,(aM x n).length=n
 |0=>rfl
 |n+1=>by rw[aM,ak,aK]
theorem nN (x:Int):∀ n,∀ b∈aM x n,0<=b/\b<=1
 | n+1,b,h=>by
  rcases gd.mp h with rfl | h
  ·omega
  ·exact nN x n b h
theorem vL (x P:Int)(hP:0<=P):x%(P*2)=P*(x / P%2)+x%P:=by
 have a:=gx x (P*2);have b:=gx x P;have c:=gx (x / P) 2;have d:x / P / 2=x / (P*2):=Int.ediv_ediv_of_nonneg hP;have e:P*(2*(x / P / 2)+x / P%2)=P*2*(x / P / 2)+P*(x / P%2):=by rw[Int.mul_add,Int.mul_assoc]
 rw[c,d] at e;omega
theorem lA (x:Int):∀(n:Nat) (a:Int),(aM x n).foldl (fun x y=>2*x+y) a=a*2 ^ n+x%2 ^ n
 |0,a=>by simp[aM]
 | n+1,a=>by
  rw[aM,gv,lA x n,Int.pow_succ,ed (2 ^ n) 2];have h:x%(2*2 ^ n)=2 ^ n*(x / 2 ^ n%2)+x%2 ^ n:=by
   rw[ed 2 (2 ^ n)];exact vL x (2 ^ n) (Int.pow_nonneg (by decide))
  rw[h,Int.add_mul];have:2*a*2 ^ n=a*(2*2 ^ n):=by rw[ed 2 a,Int.mul_assoc]
  rw[this,ed (x / 2 ^ n%2) (2 ^ n)];omega
theorem rL {x:Int}{n:Nat}(h0:0<=x)(h1:x<2 ^ n):(aM x n).foldl (fun x y=>2*x+y) 0=x:=by
 rw[lA,Int.zero_mul,Int.zero_add,Int.emod_eq_of_lt h0 h1]
noncomputable def zH:cM:=(.cons (.asg (.nm 1) (.bin .Add (.bin .Mult (.cst (.int (2))) (.var 1)) (.var 2)) false)
  .nil)
noncomputable def bNO:cM:=(.cons (.asg (.nm 1) (.cst (.int (0))) false)
  (.cons (.forr (.nm 2) (.seq (.var 0)) zH)
  (.cons (.ret (.var 1))
  .nil)))
noncomputable def num (l:List Int):Int:=l.foldl (fun x y=>2*x+y) 0
theorem B8 (T:Tb)(S:List D)(a b:Int):aH T zH [some (.lst S,.sh []),sI a,sI b] = .nx [some (.lst S,.sh []),sI (2*a+b),sI b]:=rfl
theorem qt (T:Tb)(S:List D):∀(l:List Int) (a:Int) (o:Slot),bG o->∃ o',cA (.nm 2) [] (aH T zH) (iD l) [some (.lst S,.sh []),sI a,o] = .nx [some (.lst S,.sh []),sI (l.foldl (fun x y=>2*x+y) a),o']
 |[],a,o,_=>⟨o,rfl⟩
 | b::l,a,o,h=>by
  obtain⟨o',q⟩:=qt T S l (2*a+b) (sI b) (aB _);refine⟨o',?_⟩;have hb:bR [] (.nm 2) (.int b) [some (.lst S,.sh []),sI a,o]=some [some (.lst S,.sh []),sI a,sI b]:=eF (.cons (iE _) (.cons (aB _) (.cons h .nil))) (show (2:Nat)<3 by decide);rw[iD,ay,dM hb (B8 T S a b)];exact q
theorem yN {T:Tb}(l:List Int):ret (aH T bNO (aR [.lst (iD l)] 3)) = .ok (.int (num l),true):=by
 have hst:aR [.lst (iD l)] 3=[some (.lst (iD l),.sh []),none,none]:=rfl;rw[hst];have g1:bZ T (.asg (.nm 1) (.cst (.int (0))) false) [some (.lst (iD l),.sh []),none,none] = .nx [some (.lst (iD l),.sh []),sI 0,none]:=rfl;obtain⟨o',q⟩:=qt T (iD l) l 0 none cH;have hit:gY T (.seq (.var 0)) [some (.lst (iD l),.sh []),sI 0,none] = .ok (iD l,[]):=rfl;have g2:=fM hit q;unfold bNO;rw[aH,g1,aF,aH,g2,aF];exact kE (aG rfl rfl)
noncomputable def eB (k c:Nat):Int:=match mP .sfind (.str (KS k)) [.str (tx [c])] with
 | some (.int j)=>j
 |_=>-1
noncomputable def xo (k c:Nat):Bool:=(match mP .sindex (.str (KS k)) [.str (tx [c])] with
 | some (.int j)=>j==eB k c
 |_=>false)&&(match mP .sfind (.str (KS k)) [.str (tx [c])] with
 | some (.int j)=>j==eB k c
 |_=>false)&&decide (0<=eB k c/\eB k c<2 ^ (2*k+1))
theorem cX2:(kn 2).all (xo 2)=true:=by decide +kernel
theorem cX3:(kn 3).all (xo 3)=true:=by decide +kernel
theorem qS {k c:Nat}(hk:k=2\/k=3)(hc:c∈kn k):mP .sindex (.str (KS k)) [.str (tx [c])]=some (.int (eB k c))/\mP .sfind (.str (KS k)) [.str (tx [c])]=some (.int (eB k c))/\0<=eB k c/\eB k c<2 ^ (2*k+1):=by
 have h:xo k c=true:=by
  rcases hk with rfl | rfl
  ·exact bw.mp cX2 c hc
  ·exact bw.mp cX3 c hc
 unfold xo at h;rw[aj,aj] at h;obtain⟨⟨h1,h2⟩,h3⟩:=h;have h3:=cw h3;refine⟨?_,?_,h3.1,h3.2⟩
 ·split at h1
  ·rename_i j e;rw[e,gj.mp h1]
  ·cases h1
 ·split at h2
  ·rename_i j e;rw[e,gj.mp h2]
  ·cases h2
noncomputable def ju (g:List Nat):Int:=match PySem.intText? (tx g) with
 |some n=>n
 |none=>-1
noncomputable def vz (g:List Nat):Bool:=(match PySem.intText? (tx g) with
 |some n=>n==ju g
 |none=>false)&&decide (0<=ju g/\ju g<2 ^ fb g.length)
theorem cV1:(kn 1).all (fun a=>vz [a])=true:=by decide +kernel
theorem cV2:(kn 1).all (fun a=>(kn 1).all fun b=>vz [a,b])=true:=by decide +kernel
theorem cV3:(kn 1).all (fun a=>(kn 1).all fun b=>(kn 1).all fun c=>vz [a,b,c])=true:=by decide +kernel
theorem qI {g:List Nat}(h0:0<g.length)(h3:g.length<=3)(hg:∀ c∈g,c∈kn 1):PySem.intText? (tx g)=some (ju g)/\0<=ju g/\ju g<2 ^ fb g.length:=by
 have h:vz g=true:=by
  match g,h0,h3,hg with
  |[a],_,_,hg=>exact List.all_eq_true.mp cV1 a (hg a (by simp))
  |[a,b],_,_,hg=>exact List.all_eq_true.mp (List.all_eq_true.mp cV2 a (hg a (by simp))) b (hg b (by simp))
  |[a,b,c],_,_,hg=>exact List.all_eq_true.mp (List.all_eq_true.mp (List.all_eq_true.mp cV3 a (hg a (by simp))) b (hg b (by simp))) c (hg c (by simp))
 unfold vz at h;rw[aj] at h;have h2:=cw h.2;refine⟨?_,h2.1,h2.2⟩;have h1:=h.1;split at h1
 ·rename_i n e;rw[e,gj.mp h1]
 ·cases h1
noncomputable def pb (G:List (Int×Nat)):List Int:=(G.map fun q=>aM q.1 q.2).flatten
theorem t7 (a b:List Int):iD (a++b)=iD a++iD b:=fm ..
theorem iN (a:List Int):(iD a).length=a.length:=au ..
noncomputable abbrev oI (l:List Int):Slot:=some (.lst (iD l),.own)
end Pc.Gn
end
section
namespace Pc.Rd
open PySem Pc Pc.Ct Pc.Gn
noncomputable def fO (bs:List Int)(p c:Nat):Option Int:=if p+c<=bs.length then some (num ((bs.drop p).take c)) else none
noncomputable def zf (m:Nat)(n:Int):Str:=Txt.zfill (Str.ofString (toString n)) (m:Int)
noncomputable def gm (m:Nat):Int:=if m=1 then 9 else if m=2 then 99 else if m=3 then 999 else 0
noncomputable def ft (r:Nat):Nat:=if r<3 then r else 3
noncomputable def lT (bs:List Int):Nat->Nat->Nat->Str->Option (Str×Nat)
 |_,p,0,acc=>some (acc,p)
 |0,_,_+1,_=>none
 |f+1,p,r+1,acc=>(fO bs p (fb (ft (r+1)))).bind fun n=>if gm (ft (r+1))<n then none else lT bs f (p+fb (ft (r+1))) (r+1 - ft (r+1)) (acc++zf (ft (r+1)) n)
noncomputable def sb (k:Nat):Nat:=if k=2 then 5 else if k=3 then 7 else 0
noncomputable def kQ (bs:List Int)(k:Nat):Nat->Nat->Str->Option (Str×Nat)
 |0,p,acc=>some (acc,p)
 |r+1,p,acc=>(fO bs p (sb k)).bind fun n=>match (kn k)[n.toNat]? with
  |some c=>kQ bs k r (p+sb k) (acc++tx [c])
  |none=>none
noncomputable def oA (bs:List Int):Nat->Nat->Nat->List (Nat×Str)->Option (List (Nat×Str)×Nat)
 |_,0,p,acc=>some (acc,p)
 |0,_+1,_,_=>none
 |f+1,k+1,p,acc=>(fO bs p 6).bind fun c=>(if k=0 then lT bs (c.toNat+1) (p+6) (c.toNat+1) (tx []) else kQ bs (k+1) (c.toNat+1) (p+6) (tx [])).bind fun q =>
  (fO bs q.2 2).bind fun k'=>oA bs f k'.toNat (q.2+2) (acc ++ [(k+1,q.1)])
noncomputable def xu (bs:List Int):Option (List (Nat×Str)×Nat):=(fO bs 0 2).bind fun k=>oA bs bs.length k.toNat 2 []
noncomputable def Ah (q:Nat×Str):D:=.tup [.int (q.1:Int),.str q.2]
noncomputable def outD (q:List (Nat×Str)×Nat):D:=.tup [.lst (q.1.map Ah),.int (q.2:Int)]
noncomputable def sZ (bs:List Int):Bool:=bs.all fun b=>decide (0<=b/\b<=1)
noncomputable def gP:List D->Option D
 |[.lst xs]=>match eQ xs with
  |some bs=>if sZ bs&&decide (bs.length<=10000) then (xu bs).map outD else none
  |none=>none
 |_=>none
noncomputable def dg (m n:Nat):List Nat:=match m with
 |1=>[48+n]
 |2=>[48+n / 10,48+n%10]
 |_=>[48+n / 100,48+n / 10%10,48+n%10]
theorem z1:∀ n:Nat,n<10->(zf 1 (n:Int)).cps.toList=dg 1 n:=by decide +kernel
theorem z2:∀ n:Nat,n<100->(zf 2 (n:Int)).cps.toList=dg 2 n:=by decide +kernel
theorem z3:∀ n:Nat,n<1000->(zf 3 (n:Int)).cps.toList=dg 3 n:=by decide +kernel
theorem mD {s:Str}{l:List Nat}(h:s.cps.toList=l):s=tx l:=by
 cases s with
 |mk a =>
  show (⟨a⟩:Str)=⟨l.toArray⟩;rw[<-h]
theorem Dz {m n:Nat}(h1:1<=m)(h3:m<=3)(h:(n:Int)<=gm m):zf m (n:Int)=tx (dg m n):=by
 match m,h1,h3 with
 |1,_,_=>exact mD (z1 n (by unfold gm at h;simp at h;omega))
 |2,_,_=>exact mD (z2 n (by unfold gm at h;simp at h;omega))
 |3,_,_=>exact mD (z3 n (by unfold gm at h;simp at h;omega))
theorem BH {m n:Nat}(h1:1<=m)(h3:m<=3):(dg m n).length=m:=by
 match m,h1,h3 with
 |1,_,_=>rfl
 |2,_,_=>rfl
 |3,_,_=>rfl
theorem AR {m:Nat}{n:Int}(h1:1<=m)(h3:m<=3)(h0:0<=n)(h:n<=gm m):(zf m n).length=m:=by
 obtain⟨k,rfl⟩:=c9 h0;rw[Dz h1 h3 h,iV,BH h1 h3]
theorem B1 {r:Nat}(h:0<r):1<=ft r/\ft r<=3/\ft r<=r:=by unfold ft;split<;>omega
theorem z7 {bs:List Int}(h:sZ bs=true):∀ b∈bs,0<=b/\b<=1:=fun b hb=>cw (bw.mp h b hb)
theorem vv:∀(l:List Int) (a:Int),0<=a->(∀ b∈l,0<=b/\b<=1)->a*2 ^ l.length<=l.foldl (fun x y=>2*x+y) a/\l.foldl (fun x y=>2*x+y) a<(a+1)*2 ^ l.length
 |[],a,_,_=>by simp;omega
 | b::l,a,ha,h=>by
  obtain⟨b0,b1⟩:=h b aq;obtain⟨q1,q2⟩:=vv l (2*a+b) (by omega) fun x hx=>h x (ai _ hx)
  have hp:(0:Int)<2 ^ l.length:=Int.pow_pos (by decide);rw[gv,ak,Int.pow_succ];generalize hP:(2:Int) ^ l.length=P at *;constructor
  ·refine Int.le_trans ?_ q1;rw[Int.add_mul,ed P 2,<-Int.mul_assoc,ed a 2];have:=Int.mul_nonneg b0 (Int.le_of_lt hp);omega
  ·refine Int.lt_of_lt_of_le q2 ?_;have e:(a+1)*(P*2)=(2*a+2)*P:=by rw[ed P 2,<-Int.mul_assoc,Int.add_mul,ed a 2];rfl
   rw[e];exact Int.mul_le_mul_of_nonneg_right (by omega) (Int.le_of_lt hp)
theorem nH {bs:List Int}(hb:sZ bs=true){p c:Nat}{n:Int}(h:fO bs p c=some n):p+c<=bs.length/\0<=n/\n<2 ^ c:=by
 unfold fO at h;by_cases hc:p+c<=bs.length
 ·rw[if_pos hc] at h;cases h;have:=vv ((bs.drop p).take c) 0 (by decide) fun b h=>z7 hb b (List.mem_of_mem_drop (List.mem_of_mem_take h))
  have hl:((bs.drop p).take c).length=c:=by rw[bt,cn];omega
  rw[hl] at this;simp at this;exact⟨hc,this.1,this.2⟩
 ·rw[if_neg hc] at h;cases h
theorem zk {bs:List Int}{p c:Nat}{n:Int}(h:fO bs p c=some n):p+c<=bs.length:=by
 unfold fO at h;by_cases hc:p+c<=bs.length
 ·exact hc
 ·rw[if_neg hc] at h;cases h
theorem y6 {bs:List Int}:∀(f p r:Nat) (acc:Str) (w:Str×Nat),p<=bs.length->lT bs f p r acc=some w->p<=w.2/\w.2<=bs.length
 | f,p,0,acc,w,hp,h=>by
  have:lT bs f p 0 acc=some (acc,p):=by cases f<;>rfl
  rw[this] at h;cases h;exact⟨av _,hp⟩
 |0,p,r+1,acc,w,hp,h=>by cases h
 | f+1,p,r+1,acc,w,hp,h=>by
  have h:((fO bs p (fb (ft (r+1)))).bind fun n=>if gm (ft (r+1))<n then none else lT bs f (p+fb (ft (r+1))) (r+1 - ft (r+1)) (acc++zf (ft (r+1)) n))=some w:=h;obtain⟨n,hn,h⟩:=ae.mp h;have b:=zk hn;by_cases hg:gm (ft (r+1))<n
  ·rw[if_pos hg] at h;cases h
  ·rw[if_neg hg] at h;have:=y6 f _ _ _ w b h;omega
theorem y4 {bs:List Int}(k:Nat):∀(r p:Nat) (acc:Str) (w:Str×Nat),p<=bs.length->kQ bs k r p acc=some w->p<=w.2/\w.2<=bs.length
 |0,p,acc,w,hp,h=>by cases h;exact⟨av _,hp⟩
 | r+1,p,acc,w,hp,h=>by
  have h:((fO bs p (sb k)).bind fun n=>match (kn k)[n.toNat]? with
   |some c=>kQ bs k r (p+sb k) (acc++tx [c])
   |none=>none)=some w:=h
  obtain⟨n,hn,h⟩:=ae.mp h;have b:=zk hn;cases hx:(kn k)[n.toNat]? with
  |none=>rw[hx] at h;cases h
  |some c =>
   rw[hx] at h;have:=y4 k r _ _ w b h;omega
end Pc.Rd
end
section
namespace K03
open PySem PySem.Spec PyProof.Rows L2 Pc Pc.Ct Pc.Gn Pc.Rd
noncomputable abbrev st (i:Nat):Stmt:=PySem.Challenge.pw_patchsquare_k03_pieces_read.main.body.getD i (.Pass ⟨0,0,0,0⟩)
noncomputable def stM (i:Nat):Stmt:=match st 15 with
 |.ClassDef _ _ _ b ..=>b.getD i (.Pass ⟨0,0,0,0⟩)
 |s=>s
section
variable {P:Program}{w:World}{K:Frag}{mg:Str->Option Value}{base:Heap}
structure gJ (a b:Nat)(A:Around):Prop where
 hd:A.handled=none
 dp:A.depth+a<recursionLimit
 un:A.units+b<cLine
theorem gJ.deeper {a b:Nat}{A:Around}(r:gJ (a+1) (b+3) A)(env:Env):gJ a b (A.deeper env) :=
 ⟨r.hd,by have:=r.dp;show A.depth+1+a<_;omega,by have:=r.un;show A.units+3+b<_;omega⟩
theorem gJ.mono {a b a' b':Nat}{A:Around}(r:gJ a b A)(h:a'<=a)(h':b'<=b):gJ a' b' A:=⟨r.hd,by have:=r.dp;omega,by have:=r.un;omega⟩
theorem gJ.room {n:Nat}{A:Around}(r:gJ (3*n+5) (16*n+200) A):eT n A:=⟨r.hd,by have:=r.dp;omega,by have:=r.un;omega⟩
theorem gJ.ok {a b:Nat}{A:Around}(r:gJ a b A):A.handled=none/\A.depth<recursionLimit:=⟨r.hd,by have:=r.dp;omega⟩
structure BM (K:Frag)(mg:Str->Option Value)(C fI fN:Addr)(fdI fdN:FuncData)(cT:Addr):Prop where
 cl:L2.vR K C
 n1:eR K C "bits"
 n2:eR K C "place"
 mc:Mk K C fI
 mt:zr K C "read_number" fN
 mC:mg "BitReader" = some (.ref C)
 FI:L2.kL K "__init__" "BitReader.__init__" (stM 0) fI fdI
 FN:L2.kL K "read_number" "BitReader.read_number" (stM 1) fN fdN
 bI:Binds K fdI ["self","bits"] []
 bN:Binds K fdN ["self","count"] []
 mT:mg "NoText" = some (.ref cT)
 qT:yf K cT=true
def At (H:Hp)(C a l:Addr)(bs:List Int)(p:Nat):Prop:=∃ dx,H a=some (.ins C dx [("bits",.ref l),("place",.int (p:Int))])/\Rd H l (.lst (bs.map .int))
def Kept (a:Addr)(H H':Hp):Prop:=∀ b o,b≠a->H b=some o->H' b=some o
theorem Kept.refl {a:Addr}{H:Hp}:Kept a H H:=fun _ _ _ h=>h
theorem Kept.trans {a:Addr}{H H' H'':Hp}(x:Kept a H H')(y:Kept a H' H''):Kept a H H'':=fun b o n h=>y b o n (x b o n h)
theorem Kept.same {a:Addr}{H H':Hp}(x:aE H H'):Kept a H H':=fun b o _ h=>x b o h
theorem Kept.rd {a b:Addr}{H H':Hp}{o:HO}(x:Kept a H H')(n:b≠a)(h:Rd H b o):Rd H' b o:=by
 rcases h with h | ⟨u,h⟩
 ·exact .inl (x _ _ n h)
 ·exact .inr ⟨u,x _ _ n h⟩
theorem At.ne {H:Hp}{C a l:Addr}{bs:List Int}{p:Nat}(h:At H C a l bs p):l≠a:=by
 obtain⟨dx,h1,h2⟩:=h;intro z;subst z;rcases h2 with h2 | ⟨u,h2⟩<;>(rw[h1] at h2;cases h2)
theorem At.same {H H':Hp}{C a l:Addr}{bs:List Int}{p:Nat}(h:At H C a l bs p)(s:aE H H'):At H' C a l bs p:=by
 obtain⟨dx,h1,h2⟩:=h;exact⟨dx,s _ _ h1,aE.rd s h2⟩
def sp0 (C:Addr):Sp:=fun vs H Q E=>∃ a dx v,vs=[.ref a,v]/\H a=some (.ins C dx [])/\Q .non (upd (upd H a (.ins C dx [("bits",v)])) a (.ins C dx [("bits",v),("place",.int 0)]))
theorem wx {C fI fN cT:Addr}{fdI fdN:FuncData}(k:BM K mg C fI fN fdI fdN cT)(S:bV ["self","bits"] ["self","bits"] (aC (stM 0))):cR P w K mg base (kM P w) (gJ 1 3) fI fdI ["self","bits"] (sp0 C):=by
 refine jZ k.FI S (fun A r=>r.ok) (fun vs H Q E ⟨a,dx,v,e,_⟩=>by rw[e];rfl) fun cdv A outer s H vs Q E hr hs=>?_
 obtain⟨a,dx,v,rfl,hH,q⟩:=hs;refine⟨_,aQ (pe (pv 0) (pv 1) rfl) (cO (pe (pv 0) jG rfl)),?_⟩;refine⟨v,rfl,.ref a,rfl,a,C,dx,[],rfl,hH,k.cl,k.n1,by decide,.ref a,rfl,a,C,dx,_,rfl,aI,k.cl,k.n2,(show (1:Nat)<1000 by decide),?_⟩;exact q
def spN (C cT:Addr):Sp:=fun vs H Q E=>∃ a l bs p c,vs=[.ref a,.int ((c:Nat):Int)]/\At H C a l bs p/\bs.length<=10000/\match fO bs p c with
 |some n=>∀ H',Kept a H H'->At H' C a l bs (p+c)->Q (.int n) H'
 |none=>∀ H',Kept a H H'->E (.ref cT) none H'
theorem xU (bs:List Int)(p c:Nat)(h:p+c<=bs.length):jj (bs.map V.int) (some (p:Int)) (some ((p:Int)+(c:Int)))=(((bs.drop p).take c).map V.int):=by
 have e1:HT.aU (bs.map V.int).length 0 (some (p:Int))=p:=by
  rw[HT.jq,au];omega
 have e2:HT.aU (bs.map V.int).length (bs.map V.int).length (some ((p:Int)+(c:Int)))=p+c:=by
  rw[show (p:Int)+(c:Int)=((p+c:Nat):Int) from by omega,HT.jq,au];omega
 unfold jj;rw[e1,e2,Nat.add_sub_cancel_left,List.map_take,List.map_drop]
theorem BG {f C fI fN cT:Addr}{fd fdI fdN:FuncData}{n:Nat}{r:List D->Rs (D×Bool)}(k:BM K mg C fI fN fdI fdN cT)(S:bV ["self","count","end","number"] ["self","count"] (aC (stM 1)))
  (F:jh P w K mg base uO n f fd ["bits"] (ti K 1 r)) (kp:PySem.W.keepIn K (.ref f)=true) (B:Binds K fd ["bits"] []) (hm:mg "number_of" = some (.ref f)) (hr:∀ l:List Int,r [.lst (l.map .int)] = .ok (.int (num l),true)) (hl:mg "len" = none) :
  cR P w K mg base (kM P w) (gJ (3*n+6) (16*n+203)) fN fdN ["self","count"] (spN C cT):=by
 refine jZ k.FN S (fun A r=>r.ok) (fun vs H Q E ⟨a,l,bs,p,c,e,_⟩=>by rw[e];rfl) fun cdv A outer s H vs Q E hr1 hs=>?_
 obtain⟨a,l,bs,p,c,rfl,⟨dx,h1,h2⟩,h10,q⟩:=hs;have FG:cR P w K mg base uO (eT n) f fd ["bits"] (ti K 1 r):=⟨F.len,F.run⟩;refine⟨_,aQ (cB (i:=2) S.nd rfl (.inl rfl) (nV oX (j8 (pv 0) rfl) (pv 1))) (aQ (qD (qF yV (pv 2) (jY eX rfl hl PySem.boot_len (aP (j8 (pv 0) rfl) bL)) rfl)
  (cO (jJ (C:=cT) (W:=fun H'=>E (.ref cT) none H') rfl rfl k.mT (mZ k.qT) f6 (aP hV bL) (fun pins σ H1 s1 h' a us hW I hx=>gy I hx hW) (fun σ H Q h=>⟨(show (1:Nat)<=sizeLine by decide),h⟩) rfl rfl rfl)) jr)
  (aQ (cB (i:=3) S.nd rfl (.inl rfl) (jM (E:=E0) FG (gJ.room (hr1.deeper _)) rfl hm kp B vJ (aP (nD qw (j8 (pv 0) rfl) (m7 (j8 (pv 0) rfl)) (m7 (pv 2))) bL)))
  (aQ (pe (pv 0) (pv 2) rfl) (cO (jR (pv 3)))))),?_⟩
 refine⟨.ref a,rfl,a,C,dx,_,.int p,rfl,h1,k.cl,k.n2,rfl,.int c,rfl,p,c,rfl,rfl,?_⟩;refine⟨.int ((p:Int)+(c:Int)),rfl,.ref a,rfl,a,C,dx,_,.ref l,rfl,h1,k.cl,k.n1,rfl,l,_,rfl,.inl (.inl h2),_,_,rfl,rfl,_,rfl,?_⟩;rw[au];by_cases hc:p+c<=bs.length
 ·have e:fO bs p c=some (num ((bs.drop p).take c)):=if_pos hc;rw[e] at q;rw[az (by omega)];show if false=true then _ else _
  rw[if_neg ao];refine⟨.ref a,rfl,a,C,dx,_,.ref l,rfl,h1,k.cl,k.n1,rfl,.ref a,rfl,a,C,dx,_,.int p,rfl,h1,k.cl,k.n2,rfl,p,rfl,.int ((p:Int)+(c:Int)),rfl,_,rfl,l,_,rfl,.inl h2,fun b hb=>?_⟩;rw[xU bs p c hc];refine⟨[.lst (((bs.drop p).take c).map .int)],_,rfl,.cons (.lst (.inl aI) (iY _)) .nil,_,hr _,fun v H' G' sm rp _ _=>?_⟩;obtain⟨rfl,_⟩:=rp.int_inv;have sm':aE H H':=(aE.new hb).trans sm;refine⟨.int ((p:Int)+(c:Int)),rfl,.ref a,rfl,a,C,dx,_,rfl,sm' _ _ h1,k.cl,k.n2,(show (2:Nat)<1000 by decide),.int _,rfl,?_⟩;refine q _ (fun b o hn hb'=>?_) ⟨dx,?_,?_⟩
  ·rw[aL hn];exact sm' _ _ hb'
  ·exact aI
  ·have hn:=At.ne ⟨dx,h1,h2⟩;exact Kept.rd (fun b o hb' h'=>by rw[aL hb'];exact h') hn (aE.rd sm' h2)
 ·have e:fO bs p c=none:=if_neg hc;rw[e] at q;rw[bj (by omega)];show if true=true then _ else _
  rw[if_pos rfl];exact q H Kept.refl
inductive FR (K:Frag):List (Option D)->L2.St->Prop where
 | nil:FR K [] []
 | skip {o:Option V}{r:List (Option D)}{s:L2.St}(h:FR K r s):FR K (none::r) (o::s)
 | val {d:D}{v:V}{r:List (Option D)}{s:L2.St}(hd:∀ H,Rep K H d v []) (h:FR K r s):FR K (some d::r) (some v::s)
noncomputable def ji (ds:List (Option D)):En:=ds.map fun o=>o.map fun d=>(d,Tg.own)
theorem FR.len {ds:List (Option D)}{σ:L2.St}(h:FR K ds σ):ds.length=σ.length:=by
 induction h with
 |nil=>rfl
 |skip _ ih=>rw[ak,ak,ih]
 |val _ _ ih=>rw[ak,ak,ih]
theorem FR.get {ds:List (Option D)}{σ:L2.St}(h:FR K ds σ)(H:Hp):∀(i:Nat) (d:D) (t:Tg),(ji ds)[i]? = some (some (d,t))->∃ v,σ[i]? = some (some v)/\Rep K H d v []:=by
 induction h with
 |nil=>intro i d t e;cases e
 |skip _ ih=>intro i d t e;cases i with
  |zero=>cases e
  |succ i=>exact ih i d t e
 |val hd _ ih=>intro i d t e;cases i with
  |zero=>cases e;exact⟨_,rfl,hd H⟩
  |succ i=>exact ih i d t e
theorem FR.re {ds:List (Option D)}{σ:L2.St}(h:FR K ds σ)(H:Hp):RE K (fun _=>False) (ji ds) σ H (fun _=>[]) where
 len:=by unfold ji;rw[au,h.len]
 val:=h.get H
 emp:=fun _ _=>rfl
 one:=fun _ _ _ _ _=>⟨cg,fun _ z=>(nomatch z),fun _ z=>(nomatch z)⟩
 wr:=fun _ _ _ _ z=>(nomatch z)
 pl:=fun _ z=>z.elim
theorem gI {T:Tb}{c:Ex}{ds:List (Option D)}{σ:L2.St}{H:Hp}{Q:VK}{n:Int}{r:Rt}(fr:FR K ds σ)(h:ev T c (ji ds) = .ok (.int n,r))(k:∀ H',aE H H'->Q (.int n) H'):tE K T c σ H Q :=
 ⟨_,_,_,fr.re H,_,h,fun v H' G s rp _=>by obtain⟨rfl,_⟩:=rp.int_inv;exact k H' s⟩
theorem x9 {T:Tb}{c:Ex}{ds:List (Option D)}{σ:L2.St}{H:Hp}{Q:VK}{n:Str}{r:Rt}(fr:FR K ds σ)(h:ev T c (ji ds) = .ok (.str n,r))(k:∀ H',aE H H'->Q (.str n) H'):tE K T c σ H Q :=
 ⟨_,_,_,fr.re H,_,h,fun v H' G s rp _=>by obtain⟨rfl,_⟩:=rp.str_inv;exact k H' s⟩
theorem iX {T:Tb}{c:Ex}{ds:List (Option D)}{σ:L2.St}{H:Hp}{Q:Bool->Hp->Prop}{b:Bool}{r:Rt}(fr:FR K ds σ)(h:ev T c (ji ds) = .ok (.bl b,r))(k:∀ H',aE H H'->Q b H'):kJ K T c σ H Q :=
 ⟨_,_,_,fr.re H,_,b,h,rfl,k⟩
noncomputable def cF0:Ex:=.cmp .Lt (.blt .len (.cons (.var 2) .nil)) (.var 1)
noncomputable def cF1:Ex:=.blt .min2 (.cons (.glb 8) (.cons (.bin .Sub (.var 1) (.blt .len (.cons (.var 2) .nil))) .nil))
noncomputable def cF2:Ex:=.ix (.glb 6) (.var 3)
noncomputable def cF3:Ex:=.cmp .Gt (.var 4) (.ix (.glb 7) (.var 3))
noncomputable def G3:Nat->D
 |0=>.int 0
 |1=>.int 1
 |2=>.tup [.str (tx []),.str (KS 1),.str (KS 2),.str (KS 3)]
 |3=>.tup [.int 0,.int 0,.int 5,.int 7]
 |4=>.int 2
 |5=>.int 6
 |6=>.tup [.int 0,.int 4,.int 7,.int 10]
 |7=>.tup [.int 0,.int 9,.int 99,.int 999]
 |8=>.int 3
 |_=>.non
def rf (T:Tb):Prop:=∀ i,i<9->T.gl i=G3 i
noncomputable def zK:List Str:=["END","FIGURES","KIND_SIGNS","SIGN_BITS","KIND_BITS","COUNT_BITS","FIGURE_BITS","FIGURE_GREATEST","MOST_FIGURES"]
noncomputable def zu:List Str:=["number_of","read_pieces","_law_mix","_law_all","_law_known","_law_signs","_law_bits","_law_piece_bits","_law_pieces","_law_whole","_law_tail","law"]
noncomputable def uH:List Str:=["range","len","isinstance","int","bool","list","tuple","min","str","all","sum"]
noncomputable def scF:Sc:=⟨["reader","count","signs","together","number"],aC (st 17),zu,zK,uH⟩
def spG (C cT:Addr)(out:List Int->Nat->Nat->Option (Str×Nat)):List V->Hp->VK->XK->Addr->Nat->Prop:=fun vs H Q E a c=>∃ l bs p,At H C a l bs p/\bs.length<=10000/\sZ bs=true/\c<=64/\match out bs p c with
 |some q=>∀ H',Kept a H H'->At H' C a l bs q.2->Q (.str q.1) H'
 |none=>∀ H',Kept a H H'->E (.ref cT) none H'
def yq (C cT:Addr):Sp:=fun vs H Q E=>∃ a c,vs=[.ref a,.int ((c:Nat):Int)]/\spG C cT (fun bs p c=>lT bs c p c (tx [])) vs H Q E a c
theorem Ao {T:Tb}{c:Nat}{acc:Str}{o3 o4:Option D}(h:acc.length<=lim):ev T cF0 (ji [none,some (.int (c:Int)),some (.str acc),o3,o4]) = .ok (.bl (decide ((acc.length:Int)<(c:Int))),.mv []):=by
 have e:ev T (.blt .len (.cons (.var 2) .nil)) (ji [none,some (.int (c:Int)),some (.str acc),o3,o4]) = .ok (.int (acc.length:Int),.mv []):=by
  have h2:fE .len [.str acc]=some (.int (acc.length:Int)):=if_pos h;unfold ev bE;show ((Rs.ok [(D.str acc,Rt.mv [])]).bind fun l=>(fT (fE .len (l.map (·.1)))).bind fun d=>.ok (d,dQ d (aS (l.map (·.2)))))=_;show ((fT (fE .len [.str acc])).bind fun d=>.ok (d,dQ d _))=_;rw[h2];rfl
 unfold cF0 ev;rw[e];rfl
theorem Ba {T:Tb}(hg:rf T){c r:Nat}{acc:Str}{o3 o4:Option D}(h:acc.length<=lim)(hr:acc.length+r=c):ev T cF1 (ji [none,some (.int (c:Int)),some (.str acc),o3,o4]) = .ok (.int (ft r:Nat),.mv []):=by
 have e:ev T (.blt .len (.cons (.var 2) .nil)) (ji [none,some (.int (c:Int)),some (.str acc),o3,o4]) = .ok (.int (acc.length:Int),.mv []):=by
  have h2:fE .len [.str acc]=some (.int (acc.length:Int)):=if_pos h;unfold ev bE;show ((fT (fE .len [.str acc])).bind fun d=>.ok (d,dQ d _))=_;rw[h2];rfl
 have e2:ev T (.bin .Sub (.var 1) (.blt .len (.cons (.var 2) .nil))) (ji [none,some (.int (c:Int)),some (.str acc),o3,o4]) = .ok (.int (r:Int),.mv []):=by
  unfold ev;rw[e];show Rs.ok (D.int ((c:Int) - (acc.length:Int)),_)=_;rw[show (c:Int) - (acc.length:Int)=(r:Int) from by omega];rfl
 have e3:ev T (.glb 8) (ji [none,some (.int (c:Int)),some (.str acc),o3,o4]) = .ok (.int 3,.mv []):=by
  unfold ev;rw[hg 8 (by decide)];rfl
 have e4:oE [.int 3,.int (r:Int)]=some (.int (ft r:Nat)):=by
  show some (D.int (if (r:Int)<3 then (r:Int) else 3))=_;unfold ft;by_cases z:r<3
  ·rw[if_pos (by omega),if_pos z]
  ·rw[if_neg (by omega),if_neg z];rfl
 unfold cF1;rw[ev,bE,e3,aA,bE,e2,aA,bE,aA,aA,aA];show ((fT (oE [.int 3,.int (r:Int)])).bind fun d=>.ok (d,dQ d _))=_;rw[e4];rfl
theorem zO {T:Tb}(hg:rf T){c:Nat}{acc:Str}{o4:Option D}:∀{m:Nat},1<=m->m<=3->ev T cF2 (ji [none,some (.int (c:Int)),some (.str acc),some (.int (m:Int)),o4]) = .ok (.int (fb m:Nat),.mv []):=by
 intro m h1 h3;unfold cF2 ev;rw[show ev T (.glb 6) _=Rs.ok (T.gl 6,Rt.mv []) from by unfold ev;rw[hg 6 (by decide)],hg 6 (by decide)]
 match m,h1,h3 with
 |1,_,_=>rfl
 |2,_,_=>rfl
 |3,_,_=>rfl
theorem By {T:Tb}(hg:rf T){c:Nat}{acc:Str}{n:Int}:∀{m:Nat},1<=m->m<=3->ev T cF3 (ji [none,some (.int (c:Int)),some (.str acc),some (.int (m:Int)),some (.int n)]) = .ok (.bl (decide (gm m<n)),.mv []):=by
 intro m h1 h3;have e:ev T (.ix (.glb 7) (.var 3)) (ji [none,some (.int (c:Int)),some (.str acc),some (.int (m:Int)),some (.int n)]) = .ok (.int (gm m),.mv []):=by
  unfold ev;rw[show ev T (.glb 7) _=Rs.ok (T.gl 7,Rt.mv []) from by unfold ev;rw[hg 7 (by decide)],hg 7 (by decide)]
  match m,h1,h3 with
  |1,_,_=>rfl
  |2,_,_=>rfl
  |3,_,_=>rfl
 unfold cF3 ev;rw[e];rfl
theorem wb {f C fI fN cT:Addr}{fd fdI fdN:FuncData}{a b:Nat}{T:Tb}(k:BM K mg C fI fN fdI fdN cT)(F:L2.kL K "read_figures" "read_figures" (st 17) f fd) (S:bV ["reader","count","signs","together","number"] ["reader","count"] (aC (st 17)))
  (FN:cR P w K mg base (kM P w) (gJ a b) fN fdN ["self","count"] (spN C cT)) (hC:∀ cdv A outer s H E,gJ (a+1) (b+3) A->kT (dR (kM P w) P w K mg base ["reader","count","signs","together","number"] "read_figures" (aC (st 17)) f cdv A outer s H E).nox scF T) (hg:rf T) (hs:mg "str" = none) :
  cR P w K mg base (kM P w) (gJ (a+1) (b+3)) f fd ["reader","count"] (yq C cT):=by
 refine jZ F S (fun A r=>r.ok) (fun vs H Q E ⟨a,c,e,_⟩=>by rw[e];rfl) fun cdv A outer s H vs Q E hr1 hsp=>?_
 obtain⟨r,c,rfl,l,bs,p,hat,h10,h01,hc,q⟩:=hsp;dsimp only at q;have Cx:=hC cdv A outer s H E hr1;refine⟨_,aQ (cB (i:=2) S.nd rfl (.inl rfl) hV) (aQ (jy PassesOwn.leaving (PT.nox (bX 60 Cx.c _ cF0 (by kernel_rfl)).2)
  (aQ (cB (i:=3) S.nd rfl (.inl rfl) (PE.nox (bX 60 Cx.c _ cF1 (by kernel_rfl)).1))
  (aQ (cB (i:=4) S.nd rfl (.inl rfl) (fX (E:=fun C _ H'=>E C none H') (pv 0) k.cl k.mt FN (hr1.deeper _) k.bN dJ (aP (PE.nox (bX 60 Cx.c _ cF2 (by kernel_rfl)).1) bL)))
  (aQ (qD (PT.nox (bX 60 Cx.c _ cF3 (by kernel_rfl)).2)
   (cO (jJ (C:=cT) (W:=fun H'=>E (.ref cT) none H') rfl rfl k.mT (mZ k.qT) f6 (aP hV bL) (fun pins σ H1 s1 h' a us hW I hx=>gy I hx hW) (fun σ H Q h=>⟨(show (1:Nat)<=sizeLine by decide),h⟩) rfl rfl rfl)) jr)
  (cO (cB (i:=2) S.nd rfl (.inl rfl) (nV kf (pv 2) (kB gp PySem.F.slot_str_zfill PySem.F.type_str_zfill vY (lD oz rfl hs rfl (aP (pv 4) bL)) (aP (pv 3) bL)))))))))
  (cO (jR (pv 2)))),?_⟩
 have hlim:∀{s:Str},s.length<=c->s.length<=lim:=fun h=>be (be h hc) (by decide)
 refine⟨fun m σ H'=>∃ acc p' o3 o4,σ=[some (.ref r),some (.int ((c:Nat):Int)),some (.str acc),o3,o4]/\Kept r H H'/\At H' C r l bs p'/\acc.length+m=c/\∃ f,m<=f/\lT bs f p' m acc=lT bs c p c (tx []),⟨c,_,p,_,_,rfl,Kept.refl,hat,dw _,c,av _,rfl⟩,?_⟩;rintro m σ H1 ⟨acc,p',o3,o4,rfl,kp,at1,hm,f,hf,hrd⟩;rw[<-hrd] at q;refine iX (.skip (.val (fun H=>.int _) (.val (fun H=>.str _) (.skip (.skip .nil))))) (Ao (o3:=none) (o4:=none) (hlim (by omega))) fun H2 s2=>?_
 cases m with
 |zero =>
  rw[az (by omega)];show if false=true then _ else _
  rw[if_neg ao];have e:lT bs f p' 0 acc=some (acc,p'):=by cases f<;>rfl
  rw[e] at q;exact⟨.str acc,rfl,q H2 (kp.trans (Kept.same s2)) (at1.same s2)⟩
 |succ m =>
  rw[bj (by omega)];show if true=true then _ else _
  rw[if_pos rfl];obtain⟨b1,b3,br⟩:=B1 (show 0<m+1 from Nat.succ_pos m);refine⟨_,fun σ' H' h=>h,?_⟩;refine gI (.skip (.val (fun H=>.int _) (.val (fun H=>.str _) (.skip (.skip .nil))))) (Ba hg (o3:=none) (o4:=none) (r:=m+1) (hlim (by omega)) (by omega)) fun H3 s3=>?_
  have at3:=(at1.same s2).same s3;obtain⟨dx,hx,_⟩:=at3;refine⟨.ref r,rfl,r,dx,_,rfl,hx,rfl,?_⟩;refine gI (.skip (.val (fun H=>.int _) (.val (fun H=>.str _) (.val (fun H=>.int _) (.skip .nil))))) (zO hg (o4:=none) b1 b3) fun H4 s4=>?_
  have k4:Kept r H H4:=kp.trans (Kept.same ((s2.trans s3).trans s4));refine⟨r,l,bs,p',fb (ft (m+1)),rfl,at1.same ((s2.trans s3).trans s4),h10,?_⟩;cases f with
  |zero=>omega
  |succ f =>
  have er:lT bs (f+1) p' (m+1) acc=(fO bs p' (fb (ft (m+1)))).bind fun n=>if gm (ft (m+1))<n then none else lT bs f (p'+fb (ft (m+1))) (m+1 - ft (m+1)) (acc++zf (ft (m+1)) n):=rfl
  cases hn:fO bs p' (fb (ft (m+1))) with
  |none =>
   rw[er,hn] at q;exact fun H5 k5=>q H5 (k4.trans k5)
  |some n =>
   obtain⟨n1,n2,n3⟩:=nH h01 hn;intro H5 k5 at5;have er2:lT bs (f+1) p' (m+1) acc=if gm (ft (m+1))<n then none else lT bs f (p'+fb (ft (m+1))) (m+1 - ft (m+1)) (acc++zf (ft (m+1)) n):=by rw[er,hn];rfl
   refine iX (.skip (.val (fun H=>.int _) (.val (fun H=>.str _) (.val (fun H=>.int _) (.val (fun H=>.int _) .nil))))) (By hg b1 b3) fun H6 s6=>?_
   have k6:Kept r H H6:=(k4.trans k5).trans (Kept.same s6);by_cases hgt:gm (ft (m+1))<n
   ·rw[er2,if_pos hgt] at q;rw[bj hgt];show if true=true then _ else _
    rw[if_pos rfl];exact q H6 k6
   ·rw[az hgt];show if false=true then _ else _
    rw[if_neg ao];have hz:=AR b1 b3 n2 (by omega:n<=gm (ft (m+1)));have hgm:gm (ft (m+1))<=999:=by unfold gm;split<;>(try split)<;>(try split)<;>omega
    have hla:(acc++zf (ft (m+1)) n).length=acc.length+ft (m+1):=by have:=Str.length_append acc (zf (ft (m+1)) n);rw[hz] at this;exact this
    refine⟨.str acc,rfl,.int n,rfl,n,rfl,by omega,rfl,.int _,rfl,_,_,rfl,rfl,?_,_,_,rfl,rfl,?_,?_⟩
    ·have:∀ j:Nat,j<=3->PadOk (j:Int)=true:=by decide +kernel
     exact this _ b3
    ·have:(Txt.zfill (Str.ofString (toString n)) ((ft (m+1):Nat):Int)).length=ft (m+1):=hz;rw[this,sizeLine_eq];omega
    ·refine⟨m+1 - ft (m+1),by omega,acc++zf (ft (m+1)) n,p'+fb (ft (m+1)),_,_,rfl,k6,at5.same s6,by rw[hla];omega,f,by omega,?_⟩;rw[<-hrd,er2,if_neg hgt]
noncomputable def cS0:Ex:=.cmp .Lt (.blt .len (.cons (.var 3) .nil)) (.var 2)
noncomputable def cS1:Ex:=.ix (.glb 3) (.var 1)
noncomputable def cS2:Ex:=.cmp .GtE (.var 4) (.blt .len (.cons (.ix (.glb 2) (.var 1)) .nil))
noncomputable def cS3:Ex:=.bin .Add (.var 3) (.ix (.ix (.glb 2) (.var 1)) (.var 4))
noncomputable def scS:Sc:=⟨["reader","kind","count","signs","number"],aC (st 18),zu,zK,uH⟩
noncomputable def zi (k c:Nat)(acc:Str)(o:Option D):List (Option D):=[none,some (.int (k:Int)),some (.int (c:Int)),some (.str acc),o]
theorem z0 {T:Tb}{k c:Nat}{acc:Str}{o:Option D}(h:acc.length<=lim):ev T cS0 (ji (zi k c acc o)) = .ok (.bl (decide ((acc.length:Int)<(c:Int))),.mv []):=by
 have e:ev T (.blt .len (.cons (.var 3) .nil)) (ji (zi k c acc o)) = .ok (.int (acc.length:Int),.mv []):=by
  have h2:fE .len [.str acc]=some (.int (acc.length:Int)):=if_pos h;unfold ev bE;show ((fT (fE .len [.str acc])).bind fun d=>.ok (d,dQ d _))=_;rw[h2];rfl
 unfold cS0 ev;rw[e];rfl
theorem AS {T:Tb}(hg:rf T){k c:Nat}{acc:Str}{o:Option D}(hk:k=2\/k=3):ev T cS1 (ji (zi k c acc o)) = .ok (.int (sb k:Nat),.mv []):=by
 unfold cS1 ev;rw[show ev T (.glb 3) _=Rs.ok (T.gl 3,Rt.mv []) from by unfold ev;rw[hg 3 (by decide)],hg 3 (by decide)];rcases hk with rfl | rfl<;>rfl
theorem y0 {T:Tb}(hg:rf T){k c:Nat}{acc:Str}{o:Option D}(hk:k=2\/k=3):ev T (.ix (.glb 2) (.var 1)) (ji (zi k c acc o)) = .ok (.str (KS k),.mv []):=by
 unfold ev;rw[show ev T (.glb 2) _=Rs.ok (T.gl 2,Rt.mv []) from by unfold ev;rw[hg 2 (by decide)],hg 2 (by decide)];rcases hk with rfl | rfl<;>rfl
theorem uV {k:Nat}(hk:k=2\/k=3):(kn k).length<=94/\(KS k).length=(kn k).length:=by
 rcases hk with rfl | rfl
 ·exact⟨by rw[pZ.2.1];decide,rfl⟩
 ·exact⟨by rw[pZ.2.2];decide,rfl⟩
theorem Au {T:Tb}(hg:rf T){k c:Nat}{acc:Str}{n:Int}(hk:k=2\/k=3):ev T cS2 (ji (zi k c acc (some (.int n)))) = .ok (.bl (decide (((kn k).length:Int)<=n)),.mv []):=by
 obtain⟨h1,h2⟩:=uV hk;have e:ev T (.blt .len (.cons (.ix (.glb 2) (.var 1)) .nil)) (ji (zi k c acc (some (.int n)))) = .ok (.int ((kn k).length:Int),.mv []):=by
  have h3:fE .len [.str (KS k)]=some (.int ((kn k).length:Int)):=by
   show (if (KS k).length<=lim then some (D.int ((KS k).length:Int)) else none)=_;rw[h2,if_pos (be h1 (by decide))]
  rw[ev,bE,y0 hg hk,aA,bE,aA,aA];show ((fT (fE .len [.str (KS k)])).bind fun d=>.ok (d,dQ d _))=_;rw[h3];rfl
 unfold cS2 ev;rw[e];rfl
theorem BJ {T:Tb}(hg:rf T){k c:Nat}{acc:Str}{n x:Nat}(hk:k=2\/k=3)(hx:(kn k)[n]? = some x)(hl:acc.length<=1000):ev T cS3 (ji (zi k c acc (some (.int (n:Int))))) = .ok (.str (acc++tx [x]),.mv []):=by
 obtain⟨h1,h2⟩:=uV hk;have hn:n<(kn k).length:=(List.getElem?_eq_some_iff.mp hx).1;have e:AY (.str (KS k)) (.int (n:Int))=some (.str (tx [x])):=by
  show (if (KS k).length<=lim then ((Pc.iF (kn k).length (n:Int)).bind fun j=>(kn k)[j]?).map (fun c=>D.str ⟨#[c]⟩) else none)=_;rw[h2,if_pos (be h1 (by decide)),pK hn];show ((kn k)[n]?).map _=_;rw[hx];rfl
 have e1:ev T (.ix (.ix (.glb 2) (.var 1)) (.var 4)) (ji (zi k c acc (some (.int (n:Int))))) = .ok (.str (tx [x]),.mv []):=by
  rw[ev,y0 hg hk,aA];show ((fT (AY (.str (KS k)) (.int (n:Int)))).bind fun d=>.ok (d,mo d _))=_;rw[e];rfl
 unfold cS3;rw[ev,e1];show ((fT (ck (acc.length+(tx [x]).length) (.str (acc++tx [x])))).bind fun d=>.ok (d,dQ d _))=_;have:ck (acc.length+(tx [x]).length) (.str (acc++tx [x]))=some (.str (acc++tx [x])):=if_pos (be (show acc.length+1<=1001 by omega) (by decide));rw[this];rfl
def yj (C cT:Addr):Sp:=fun vs H Q E=>∃ a k c,vs=[.ref a,.int ((k:Nat):Int),.int ((c:Nat):Int)]/\(k=2\/k=3)/\spG C cT (fun bs p c=>kQ bs k c p (tx [])) vs H Q E a c
theorem wg {f C fI fN cT:Addr}{fd fdI fdN:FuncData}{a b:Nat}{T:Tb}(k:BM K mg C fI fN fdI fdN cT)(F:L2.kL K "read_signs" "read_signs" (st 18) f fd) (S:bV ["reader","kind","count","signs","number"] ["reader","kind","count"] (aC (st 18)))
  (FN:cR P w K mg base (kM P w) (gJ a b) fN fdN ["self","count"] (spN C cT)) (hC:∀ cdv A outer s H E,gJ (a+1) (b+3) A->kT (dR (kM P w) P w K mg base ["reader","kind","count","signs","number"] "read_signs" (aC (st 18)) f cdv A outer s H E).nox scS T) (hg:rf T) :
  cR P w K mg base (kM P w) (gJ (a+1) (b+3)) f fd ["reader","kind","count"] (yj C cT):=by
 refine jZ F S (fun A r=>r.ok) (fun vs H Q E ⟨a,k,c,e,_⟩=>by rw[e];rfl) fun cdv A outer s H vs Q E hr1 hsp=>?_
 obtain⟨r,kd,c,rfl,hk,l,bs,p,hat,h10,h01,hc,q⟩:=hsp;dsimp only at q;have Cx:=hC cdv A outer s H E hr1;refine⟨_,aQ (cB (i:=3) S.nd rfl (.inl rfl) hV) (aQ (jy PassesOwn.leaving (PT.nox (bX 60 Cx.c _ cS0 (by kernel_rfl)).2)
  (aQ (cB (i:=4) S.nd rfl (.inl rfl) (fX (E:=fun C _ H'=>E C none H') (pv 0) k.cl k.mt FN (hr1.deeper _) k.bN dJ (aP (PE.nox (bX 60 Cx.c _ cS1 (by kernel_rfl)).1) bL)))
  (aQ (qD (PT.nox (bX 60 Cx.c _ cS2 (by kernel_rfl)).2)
   (cO (jJ (C:=cT) (W:=fun H'=>E (.ref cT) none H') rfl rfl k.mT (mZ k.qT) f6 (aP hV bL) (fun pins σ H1 s1 h' a us hW I hx=>gy I hx hW) (fun σ H Q h=>⟨(show (1:Nat)<=sizeLine by decide),h⟩) rfl rfl rfl)) jr)
  (cO (cB (i:=3) S.nd rfl (.inl rfl) (PE.nox (bX 60 Cx.c _ cS3 (by kernel_rfl)).1))))))
  (cO (jR (pv 3)))),?_⟩
 have hlim:∀{s:Str},s.length<=c->s.length<=lim:=fun h=>be (be h hc) (by decide)
 refine⟨fun m σ H'=>∃ acc p' o,σ=[some (.ref r),some (.int ((kd:Nat):Int)),some (.int ((c:Nat):Int)),some (.str acc),o]/\Kept r H H'/\At H' C r l bs p'/\acc.length+m=c/\kQ bs kd m p' acc=kQ bs kd c p (tx []),⟨c,_,p,_,rfl,Kept.refl,hat,dw _,rfl⟩,?_⟩;rintro m σ H1 ⟨acc,p',o,rfl,kp,at1,hm,hrd⟩;rw[<-hrd] at q;refine iX (.skip (.val (fun H=>.int _) (.val (fun H=>.int _) (.val (fun H=>.str _) (.skip .nil))))) (z0 (o:=none) (hlim (by omega))) fun H2 s2=>?_
 cases m with
 |zero =>
  rw[az (by omega)];show if false=true then _ else _
  rw[if_neg ao];exact⟨.str acc,rfl,q H2 (kp.trans (Kept.same s2)) (at1.same s2)⟩
 |succ m =>
  rw[bj (by omega)];show if true=true then _ else _
  rw[if_pos rfl];refine⟨_,fun σ' H' h=>h,?_⟩;obtain⟨dx,hx,_⟩:=at1.same s2;refine⟨.ref r,rfl,r,dx,_,rfl,hx,rfl,?_⟩;refine gI (.skip (.val (fun H=>.int _) (.val (fun H=>.int _) (.val (fun H=>.str _) (.skip .nil))))) (AS hg (o:=none) hk) fun H4 s4=>?_
  have k4:Kept r H H4:=kp.trans (Kept.same (s2.trans s4));refine⟨r,l,bs,p',sb kd,rfl,at1.same (s2.trans s4),h10,?_⟩;have er:kQ bs kd (m+1) p' acc=(fO bs p' (sb kd)).bind fun n=>match (kn kd)[n.toNat]? with
   |some c=>kQ bs kd m (p'+sb kd) (acc++tx [c])
   |none=>none:=rfl
  cases hn:fO bs p' (sb kd) with
  |none =>
   rw[er,hn] at q;exact fun H5 k5=>q H5 (k4.trans k5)
  |some n0 =>
   obtain⟨n1,n2,n3⟩:=nH h01 hn;obtain⟨n,rfl⟩:=c9 n2;intro H5 k5 at5;refine iX (.skip (.val (fun H=>.int _) (.val (fun H=>.int _) (.val (fun H=>.str _) (.val (fun H=>.int _) .nil))))) (Au hg hk) fun H6 s6=>?_
   have k6:Kept r H H6:=(k4.trans k5).trans (Kept.same s6);cases hx:(kn kd)[n]? with
   |none =>
    have er2:kQ bs kd (m+1) p' acc=none:=by
     rw[er,hn];show (match (kn kd)[n]? with | some c=>kQ bs kd m (p'+sb kd) (acc++tx [c]) | none=>none)=_;rw[hx]
    rw[er2] at q;have:(kn kd).length<=n:=by
     rw[List.getElem?_eq_none_iff] at hx;exact hx
    rw[bj (by omega)];show if true=true then _ else _
    rw[if_pos rfl];exact q H6 k6
   |some x =>
    have er2:kQ bs kd (m+1) p' acc=kQ bs kd m (p'+sb kd) (acc++tx [x]):=by
     rw[er,hn];show (match (kn kd)[n]? with | some c=>kQ bs kd m (p'+sb kd) (acc++tx [c]) | none=>none)=_;rw[hx]
    have:n<(kn kd).length:=(List.getElem?_eq_some_iff.mp hx).1;rw[az (by omega)];show if false=true then _ else _
    rw[if_neg ao];have hla:(acc++tx [x]).length=acc.length+1:=Str.length_append acc (tx [x]);refine x9 (.skip (.val (fun H=>.int _) (.val (fun H=>.int _) (.val (fun H=>.str _) (.val (fun H=>.int _) .nil))))) (BJ hg hk hx (by omega)) fun H7 s7=>?_
    exact⟨m,du _,acc++tx [x],p'+sb kd,_,rfl,k6.trans (Kept.same s7),(at5.same s6).same s7,by rw[hla];omega,by rw[<-hrd,er2]⟩
noncomputable def scP:Sc:=⟨["bits","reader","pieces","kind","count","signs"],aC (st 16),zu,zK,uH⟩
noncomputable def cP0:Ex:=.cmp .NotEq (.var 3) (.glb 0)
noncomputable def BN:Ex:=.cmp .Eq (.var 3) (.glb 1)
noncomputable def enP (k:Nat):List (Option D):=[none,none,none,some (.int (k:Int)),none,none]
theorem jE {T:Tb}(hg:rf T){j:Nat}{n:Int}(hj:j<9)(h:G3 j = .int n)(env:En):ev T (.glb j) env = .ok (.int n,.mv []):=by
 unfold ev;rw[hg j hj,h]
theorem Bt {T:Tb}(hg:rf T){k:Nat}:ev T cP0 (ji (enP k)) = .ok (.bl (!decide (k=0)),.mv []):=by
 unfold cP0 ev;rw[jE hg (by decide) rfl];show Rs.ok (D.bl (!((k:Int)==0)),_)=_;have:((k:Int)==0)=decide (k=0):=by cases k<;>rfl
 rw[this]
theorem AA {T:Tb}(hg:rf T){k:Nat}:ev T BN (ji (enP k)) = .ok (.bl (decide (k=1)),.mv []):=by
 unfold BN ev;rw[jE hg (by decide) rfl];show Rs.ok (D.bl ((k:Int)==1),_)=_;have:((k:Int)==1)=decide (k=1):=by
  by_cases h:k=1
  ·subst h;rfl
  ·rw[az h,beq_eq_false_iff_ne];omega
 rw[this]
theorem Kept.tq {r b:Addr}{H H':Hp}{o:HO}{vs:List V}(x:Kept r H H')(hr:H r=some o)(ho:∀ vs,o≠.tup vs)(h:je K H b vs):je K H' b vs:=by
 rcases h with h | h
 ·exact .inl (x _ _ (fun z=>by subst z;rw[hr] at h;exact ho _ (cj h)) h)
 ·exact .inr h
theorem Kept.fz {r:Addr}{H H':Hp}{o:HO}(x:Kept r H H')(hr:H r=some o)(ho:∀ a b,o≠.frz a b):BR H H':=fun b p u h=>x _ _ (fun z=>by subst z;rw[hr] at h;exact ho _ _ (cj h)) h
theorem Kept.reps {r:Addr}{H H':Hp}{o:HO}{ds:List D}{vs:List V}(x:Kept r H H')(hr:H r=some o)(ho:∀ vs,o≠.tup vs)(hz:∀ a b,o≠.frz a b)(h:aD K H ds vs []):aD K H' ds vs [] :=
 h.keep (fun _ _=>x.tq hr ho) (x.fz hr hz) fun _ z=>(nomatch z)
theorem Kept.stay {r:Addr}{H H1 H':Hp}(x:Kept r H1 H')(s:aE H H1)(hr:H r=none):aE H H':=fun b o h=>x b o (fun z=>by subst z;rw[hr] at h;cases h) (s b o h)
theorem Kept.upd {r:Addr}{H:Hp}{o:HO}:Kept r H (upd H r o):=fun b u n h=>by rw[aL n];exact h
def spR (K:Frag)(cT:Addr):Sp:=fun vs H Q E=>∃ l bs,vs=[.ref l]/\Rd H l (.lst (bs.map .int))/\bs.length<=10000/\sZ bs=true/\match xu bs with
 |some q=>∀ v H' G',aE H H'->Rep K H' (outD q) v G'->(∀ a∈G',H a=none/\∃ vs:ML,H' a=some vs.o)->G'.Nodup->Q v H'
 |none=>∀ H',aE H H'->E (.ref cT) none H'
theorem nT {C cT a:Addr}{c:Nat}{out:List Int->Nat->Nat->Option (Str×Nat)}{vs:List V}{H:Hp}{Q1 Q0:VK}{E:XK}(hm:∀ x H',Q1 x H'->Q0 x H')(h:spG C cT out vs H Q1 E a c):spG C cT out vs H Q0 E a c:=by
 obtain⟨l,bs,p,h1,h2,h3,h4,h5⟩:=h;refine⟨l,bs,p,h1,h2,h3,h4,?_⟩;cases e:out bs p c with
 |none=>rw[e] at h5;exact h5
 |some q=>rw[e] at h5;exact fun H' kp at'=>hm _ _ (h5 H' kp at')
theorem tX {T:Tb}{C cT:Addr}{E':XK}{σ:L2.St}{H:Hp}{Q1 Q0:VK}(hm:∀ x H',Q1 x H'->Q0 x H')
  (h:tIf (kJ K T BN) (fun σ H Q=>eW (jk 1) (eW (jk 4) oS) σ H fun vs H1=>yq C cT vs H1 Q E') (fun σ H Q=>eW (jk 1) (eW (jk 3) (eW (jk 4) oS)) σ H fun vs H1=>yj C cT vs H1 Q E') σ H Q1) :
  tIf (kJ K T BN) (fun σ H Q=>eW (jk 1) (eW (jk 4) oS) σ H fun vs H1=>yq C cT vs H1 Q E') (fun σ H Q=>eW (jk 1) (eW (jk 3) (eW (jk 4) oS)) σ H fun vs H1=>yj C cT vs H1 Q E') σ H Q0:=by
 obtain⟨P,env,F,re,p,b,h1,h2,k⟩:=h;refine⟨P,env,F,re,p,b,h1,h2,fun H' s=>?_⟩;have:=k H' s;cases b with
 |true =>
  obtain⟨v1,e1,v4,e4,a,c,e,g⟩:=this;exact⟨v1,e1,v4,e4,a,c,e,nT hm g⟩
 |false =>
  obtain⟨v1,e1,v3,e3,v4,e4,a,kd,c,e,hk,g⟩:=this;exact⟨v1,e1,v3,e3,v4,e4,a,kd,c,e,hk,nT hm g⟩
theorem rA {f C fI fN fF fS cT:Addr}{fd fdI fdN fdF fdS:FuncData}{a b:Nat}{T:Tb}(ha6:6<=a)(hb6:203<=b)(k:BM K mg C fI fN fdI fdN cT)(F:L2.kL K "read_pieces" "read_pieces" (st 16) f fd) (S:bV ["bits","reader","pieces","kind","count","signs"] ["bits"] (aC (st 16)))
  (FI:cR P w K mg base (kM P w) (gJ 1 3) fI fdI ["self","bits"] (sp0 C))
  (FN:cR P w K mg base (kM P w) (gJ a b) fN fdN ["self","count"] (spN C cT))
  (FF:cR P w K mg base (kM P w) (gJ (a+1) (b+3)) fF fdF ["reader","count"] (yq C cT)) (kF:PySem.W.keepIn K (.ref fF)=true) (bF:Binds K fdF ["reader","count"] []) (mF:mg "read_figures" = some (.ref fF))
  (FS:cR P w K mg base (kM P w) (gJ (a+1) (b+3)) fS fdS ["reader","kind","count"] (yj C cT)) (kS:PySem.W.keepIn K (.ref fS)=true) (bS:Binds K fdS ["reader","kind","count"] []) (mS:mg "read_signs" = some (.ref fS))
  (hC:∀ cdv A outer s H E,gJ (a+2) (b+6) A->kT (dR (kM P w) P w K mg base ["bits","reader","pieces","kind","count","signs"] "read_pieces" (aC (st 16)) f cdv A outer s H E).nox scP T) (hg:rf T) :
  cR P w K mg base (kM P w) (gJ (a+2) (b+6)) f fd ["bits"] (spR K cT):=by
 refine jZ F S (fun A r=>r.ok) (fun vs H Q E ⟨l,bs,e,_⟩=>by rw[e];rfl) fun cdv A outer s H vs Q E hr1 hsp=>?_
 obtain⟨l,bs,rfl,hl,h10,h01,q⟩:=hsp;have Cx:=hC cdv A outer s H E hr1;have rN:∀{env:Env},gJ a b (A.deeper env):=fun {env}=>(gJ.deeper (a:=a+1) (b:=b+3) hr1 env).mono (by omega) (by omega)
 have rI:∀{env:Env}(us:List Value),gJ 1 3 ((A.deeper env).under (.builtin "type.__call__" ⟨.ref C::us,[]⟩)):=fun {env} us=>⟨hr1.hd,by have:=hr1.dp;rw[oF];show A.depth+1+1+1<_;omega,by have:=hr1.un;rw[pj];show A.units+3+1+3<_;omega⟩
 refine⟨_,aQ (cB (i:=1) S.nd rfl (.inl rfl) (vq (E:=fun C _ H'=>E C none H') k.mc FI rI rfl k.mC k.bI dJ (aP (pv 0) bL)))
  (aQ (cB (i:=2) S.nd rfl (.inl rfl) (pU bL))
  (aQ (cB (i:=3) S.nd rfl (.inl rfl) (fX (E:=fun C _ H'=>E C none H') (pv 1) k.cl k.mt FN rN k.bN dJ (aP (PE.nox (bX 60 Cx.c _ (.glb 4) (by kernel_rfl)).1) bL)))
  (aQ (jy PassesOwn.leaving (PT.nox (bX 60 Cx.c _ cP0 (by kernel_rfl)).2)
   (aQ (cB (i:=4) S.nd rfl (.inl rfl) (nV oX (fX (E:=fun C _ H'=>E C none H') (pv 1) k.cl k.mt FN rN k.bN dJ (aP (PE.nox (bX 60 Cx.c _ (.glb 5) (by kernel_rfl)).1) bL)) jG))
   (aQ (cB (i:=5) S.nd rfl (.inl rfl) (nh (PT.nox (bX 60 Cx.c _ BN (by kernel_rfl)).2)
    (jM (E:=fun C _ H'=>E C none H') FF (hr1.deeper _) rfl mF kF bF dJ (aP (pv 1) (aP (pv 4) bL)))
    (jM (E:=fun C _ H'=>E C none H') FS (hr1.deeper _) rfl mS kS bS dJ (aP (pv 1) (aP (pv 3) (aP (pv 4) bL))))))
   (aQ (iu (kB dr PySem.F.slot_list_append PySem.F.type_list_append iM (pv 2) (aP (qb (aP (pv 3) (aP (pv 5) bL))) bL)))
   (cO (cB (i:=3) S.nd rfl (.inl rfl) (fX (E:=fun C _ H'=>E C none H') (pv 1) k.cl k.mt FN rN k.bN dJ (aP (PE.nox (bX 60 Cx.c _ (.glb 4) (by kernel_rfl)).1) bL))))))))
  (cO (jR (qb (aP (pv 2) (aP (j8 (pv 1) rfl) bL)))))))),?_⟩
 refine⟨.ref l,rfl,fun r dx hr hdx hne=>?_⟩;refine⟨r,dx,.ref l,rfl,aI,rfl,(show (0:Nat)<=sizeLine by decide),fun lp hlp=>?_⟩;have hll:H l≠none:=Rd.ne_none hl;have nlr:l≠r:=fun z=>hll (by rw[z];exact hr)
 have nldx:l≠dx:=fun z=>hll (by rw[z];exact hdx)
 have nlp:lp≠r:=fun z=>by rw[z,aI] at hlp;cases hlp
 have sm0:aE H (upd (upd (upd (upd (upd H dx (.own r)) r (.ins C dx [])) r (.ins C dx [("bits",.ref l)])) r (.ins C dx [("bits",.ref l),("place",.int 0)])) lp (.lst [])):=fun b o hb=>by
  have n1:b≠r:=fun z=>by rw[z,hr] at hb;cases hb
  have n2:b≠dx:=fun z=>by rw[z,hdx] at hb;cases hb
  have e:(upd (upd (upd (upd H dx (.own r)) r (.ins C dx [])) r (.ins C dx [("bits",.ref l)])) r (.ins C dx [("bits",.ref l),("place",.int 0)])) b=some o:=by
   rw[aL n1,aL n1,aL n1,aL n2];exact hb
  exact aE.new hlp _ _ e
 generalize hH0:upd (upd (upd (upd (upd H dx (.own r)) r (.ins C dx [])) r (.ins C dx [("bits",.ref l)])) r (.ins C dx [("bits",.ref l),("place",.int 0)])) lp (.lst [])=H0 at sm0;have at0:At H0 C r l bs 0:=⟨dx,by rw[<-hH0,aL (cu nlp)];exact aI,aE.rd sm0 hl⟩;have lp0:H0 lp=some (.lst []):=by rw[<-hH0];exact aI
 have hlpn:H lp=none:=by
  cases e:H lp with
  |none=>rfl
  |some o =>
   exfalso;have n2:lp≠dx:=fun z=>by rw[z,hdx] at e;cases e
   have n1:lp≠r:=nlp;rw[show (upd (upd (upd (upd H dx (.own r)) r (.ins C dx [])) r (.ins C dx [("bits",.ref l)])) r (.ins C dx [("bits",.ref l),("place",.int 0)])) lp=some o from by rw[aL n1,aL n1,aL n1,aL n2];exact e] at hlp;cases hlp
 obtain⟨dx1,hx1,_⟩:=id at0;refine⟨.ref r,rfl,r,dx1,_,rfl,hx1,rfl,?_⟩;refine gI (.skip (.skip (.skip (.skip (.skip (.skip .nil)))))) (jE hg (n:=2) (by decide) rfl _) fun H1 s1=>?_
 refine⟨r,l,bs,0,2,rfl,at0.same s1,h10,?_⟩;have eP:xu bs=(fO bs 0 2).bind fun k=>oA bs bs.length k.toNat 2 []:=rfl
 cases hk0:fO bs 0 2 with
 |none =>
  rw[eP,hk0] at q;exact fun H2 k2=>q H2 (k2.stay (sm0.trans s1) hr)
 |some n0 =>
 obtain⟨b1,b2,b3⟩:=nH h01 hk0;obtain⟨k0,rfl⟩:=c9 b2;have eP2:xu bs=oA bs bs.length k0 2 []:=by rw[eP,hk0];rfl
 rw[eP2] at q;intro H2 k2 at2;have nins:∀{o:HO}{fs:List (Str×V)}{d:Addr},o = .ins C d fs->(∀ vs,o≠.tup vs)/\∀ a b,o≠.frz a b:=fun e=>by subst e;exact⟨fun _ z=>(by cases z),fun _ _ z=>(by cases z)⟩
 refine⟨fun m σ H'=>∃(kd p':Nat) (acc:List (Nat×Str)) (vs:List V) (o4 o5:Option V),σ=[some (.ref l),some (.ref r),some (.ref lp),some (.int (kd:Int)),o4,o5]/\kd<4/\aE H H'/\At H' C r l bs p'/\H' lp=some (.lst vs)/\aD K H' (acc.map Ah) vs []/\acc.length+m=bs.length/\acc.length+2<=p'/\p'<=bs.length/\oA bs m kd p' acc=oA bs bs.length k0 2 [],
  ⟨bs.length,k0,2,[],[],_,_,rfl,by omega,k2.stay (sm0.trans s1) hr,at2,k2 _ _ nlp (s1 _ _ lp0),.nil,dw _,av _,b1,rfl⟩,?_⟩
 rintro m σ H3 ⟨kd,p',acc,vs,o4,o5,rfl,hkd,sm3,at3,lp3,rs3,hm,hp1,hp2,hrd⟩;rw[<-hrd] at q;refine iX (.skip (.skip (.skip (.val (fun H=>.int _) (.skip (.skip .nil)))))) (Bt hg) fun H4 s4=>?_
 cases kd with
 |zero =>
  show if false=true then _ else _
  rw[if_neg ao];have e:oA bs m 0 p' acc=some (acc,p'):=by cases m<;>rfl
  rw[e] at q;obtain⟨dx4,hx4,_⟩:=at3.same s4;refine⟨.ref lp,rfl,.ref r,rfl,r,C,dx4,_,.int (p':Int),rfl,hx4,k.cl,k.n2,rfl,(show (2:Nat)<=sizeLine by decide),fun tp htp=>?_⟩;refine q (.ref tp) _ [lp] ((sm3.trans s4).trans (aE.new htp)) (.tup (.inl aI) (.cons (G:=[lp]) (G':=[]) (.lst (.inl (aE.new htp _ _ (s4 _ _ lp3))) (rs3.same (s4.trans (aE.new htp)))) (.cons (G:=[]) (.int _) .nil))) (fun x hx=>?_) (by simp);rw[eg] at hx;subst hx;exact⟨hlpn,.l vs,aE.new htp _ _ (s4 _ _ lp3)⟩
 |succ kd =>
  show if true=true then _ else _
  rw[if_pos rfl];refine⟨_,fun σ' H' h=>h,?_⟩;obtain⟨dx4,hx4,_⟩:=at3.same s4;refine⟨.ref r,rfl,r,dx4,_,rfl,hx4,rfl,?_⟩;refine gI (.skip (.skip (.skip (.skip (.skip (.skip .nil)))))) (jE hg (n:=6) (by decide) rfl _) fun H5 s5=>?_
  have sm5:aE H H5:=(sm3.trans s4).trans s5;refine⟨r,l,bs,p',6,rfl,at3.same (s4.trans s5),h10,?_⟩;cases m with
  |zero=>omega
  |succ m =>
  have er:oA bs (m+1) (kd+1) p' acc=(fO bs p' 6).bind fun c=>(if kd=0 then lT bs (c.toNat+1) (p'+6) (c.toNat+1) (tx []) else kQ bs (kd+1) (c.toNat+1) (p'+6) (tx [])).bind fun q =>
   (fO bs q.2 2).bind fun k'=>oA bs m k'.toNat (q.2+2) (acc ++ [(kd+1,q.1)]):=rfl
  cases hn:fO bs p' 6 with
  |none =>
   rw[er,hn] at q;exact fun H6 k6=>q H6 (k6.stay sm5 hr)
  |some c0 =>
  obtain⟨c1,c2,c3⟩:=nH h01 hn;obtain⟨c,rfl⟩:=c9 c2;intro H6 k6 at6;refine⟨(c:Int),1,rfl,rfl,?_⟩;have sm6:aE H H6:=k6.stay sm5 hr;have x5:H5 r=some (.ins C dx4 _):=s5 _ _ hx4;have rs6:aD K H6 (acc.map Ah) vs []:=k6.reps x5 (nins rfl).1 (nins rfl).2 ((rs3.same s4).same s5);have lp6:H6 lp=some (.lst vs):=k6 _ _ nlp (s5 _ _ (s4 _ _ lp3));have hcc:(c:Int)+1=((c+1:Nat):Int):=by omega
  have ck7:c+1<=64:=by omega
  have er2:oA bs (m+1) (kd+1) p' acc=(if kd=0 then lT bs (c+1) (p'+6) (c+1) (tx []) else kQ bs (kd+1) (c+1) (p'+6) (tx [])).bind fun q =>
   (fO bs q.2 2).bind fun k'=>oA bs m k'.toNat (q.2+2) (acc ++ [(kd+1,q.1)]):=by rw[er,hn];rfl
  refine tX (Q1:=fun x H8=>∃ sg p2,x = .str sg/\Kept r H6 H8/\At H8 C r l bs p2/\p'+6<=p2/\p2<=bs.length/\oA bs (m+1) (kd+1) p' acc=(fO bs p2 2).bind fun k'=>oA bs m k'.toNat (p2+2) (acc ++ [(kd+1,sg)])) (fun x H8 hx8=>?_) ?_
  ·obtain⟨sg,p2,rfl,k8,at8,g1,g2,er3⟩:=hx8;rw[er3] at q;have sm8:aE H H8:=k8.stay sm6 hr;obtain⟨dx6,x6,_⟩:=id at6;have rs8:aD K H8 (acc.map Ah) vs []:=k8.reps x6 (nins rfl).1 (nins rfl).2 rs6;have lp8:H8 lp=some (.lst vs):=k8 _ _ nlp lp6;refine⟨.ref lp,rfl,.inl ⟨rfl,_,.inl (.inl lp8)⟩,.int ((kd+1:Nat):Int),rfl,.str sg,rfl,(show (2:Nat)<=sizeLine by decide),fun tp htp=>?_⟩;have hvl:vs.length=acc.length:=by rw[<-rs8.len,au]
   refine⟨lp,vs,.ref tp,rfl,rfl,aE.new htp _ _ lp8,by rw[hvl,sizeLine_eq];omega,?_⟩;have s9:aE H8 (upd H8 tp (.tup [.int ((kd+1:Nat):Int),.str sg])):=aE.new htp;generalize hH9:upd H8 tp (.tup [.int ((kd+1:Nat):Int),.str sg])=H9 at s9;have t9:H9 tp=some (.tup [.int ((kd+1:Nat):Int),.str sg]):=by rw[<-hH9];exact aI
   have k10:Kept lp H9 (upd H9 lp (.lst (vs ++ [.ref tp]))):=Kept.upd;have lp9:H9 lp=some (.lst vs):=s9 _ _ lp8;have ntp:tp≠lp:=fun z=>by rw[z,lp9] at t9;cases t9
   have at10:At (upd H9 lp (.lst (vs ++ [.ref tp]))) C r l bs p2:=by
    obtain⟨d8,x8,y8⟩:=at8.same s9;refine⟨d8,k10 _ _ (cu nlp) x8,k10.rd (fun z=>?_) y8⟩;exact hll (by rw[z];exact hlpn)
   have rs10:aD K (upd H9 lp (.lst (vs ++ [.ref tp]))) ((acc ++ [(kd+1,sg)]).map Ah) (vs ++ [.ref tp]) []:=by
    have a1:aD K (upd H9 lp (.lst (vs ++ [.ref tp]))) (acc.map Ah) vs []:=k10.reps lp9 (fun _ z=>(by cases z)) (fun _ _ z=>(by cases z)) (rs8.same s9);rw[fm];exact a1.append (G':=[]) (.cons (G:=[]) (.tup (.inl (k10 _ _ ntp t9)) (.cons (G:=[]) (.int _) (.cons (G:=[]) (.str _) .nil))) .nil)
   have sm10:aE H (upd H9 lp (.lst (vs ++ [.ref tp]))):=k10.stay (sm8.trans s9) hlpn;have lp10:(upd H9 lp (.lst (vs ++ [.ref tp]))) lp=some (.lst (vs ++ [.ref tp])):=aI;generalize upd H9 lp (.lst (vs ++ [.ref tp]))=H10 at at10 rs10 sm10 lp10;obtain⟨dx10,hx10,_⟩:=id at10;refine⟨.ref r,rfl,r,dx10,_,rfl,hx10,rfl,?_⟩;refine gI (.skip (.skip (.skip (.skip (.skip (.skip .nil)))))) (jE hg (n:=2) (by decide) rfl _) fun H11 s11=>?_
   refine⟨r,l,bs,p2,2,rfl,at10.same s11,h10,?_⟩;cases hk2:fO bs p2 2 with
   |none =>
    rw[hk2] at q;exact fun H12 k12=>q H12 (k12.stay (sm10.trans s11) hr)
   |some n2 =>
    obtain⟨u1,u2,u3⟩:=nH h01 hk2;obtain⟨k3,rfl⟩:=c9 u2;intro H12 k12 at12;refine⟨m,du _,k3,p2+2,acc ++ [(kd+1,sg)],vs ++ [.ref tp],_,_,rfl,by omega,k12.stay (sm10.trans s11) hr,at12,k12 _ _ nlp (s11 _ _ lp10),k12.reps (s11 _ _ hx10) (nins rfl).1 (nins rfl).2 (rs10.same s11),?_,?_,u1,?_⟩
    ·rw[ag];show acc.length+1+m=_;omega
    ·rw[ag];show acc.length+1+2<=_;omega
    ·rw[<-hrd,er3,hk2];rfl
  ·refine iX (.skip (.skip (.skip (.val (fun H=>.int _) (.skip (.skip .nil)))))) (AA hg) fun H7 s7=>?_
   have at7:=at6.same s7;by_cases h1:kd=0
   ·subst h1;show if true=true then _ else _
    rw[if_pos rfl];refine⟨.ref r,rfl,.int ((c:Int)+1),rfl,r,c+1,by rw[hcc],l,bs,p'+6,at7,h10,h01,ck7,?_⟩;dsimp only;rw[if_pos rfl] at er2;cases hf:lT bs (c+1) (p'+6) (c+1) (tx []) with
    |none =>
     rw[er2,hf] at q;exact fun H8 k8=>q H8 (k8.stay (sm6.trans s7) hr)
    |some w =>
     rw[hf] at er2;obtain⟨g1,g2⟩:=y6 (c+1) (p'+6) (c+1) (tx []) w c1 hf;exact fun H8 k8 at8=>⟨w.1,w.2,rfl,(Kept.same s7).trans k8,at8,g1,g2,er2⟩
   ·rw[az (by omega)];show if false=true then _ else _
    rw[if_neg ao];refine⟨.ref r,rfl,.int ((kd+1:Nat):Int),rfl,.int ((c:Int)+1),rfl,r,kd+1,c+1,by rw[hcc],by omega,l,bs,p'+6,at7,h10,h01,ck7,?_⟩;dsimp only;rw[if_neg h1] at er2;cases hf:kQ bs (kd+1) (c+1) (p'+6) (tx []) with
    |none =>
     rw[er2,hf] at q;exact fun H8 k8=>q H8 (k8.stay (sm6.trans s7) hr)
    |some w =>
     rw[hf] at er2;obtain⟨g1,g2⟩:=y4 (kd+1) (c+1) (p'+6) (tx []) w c1 hf;exact fun H8 k8 at8=>⟨w.1,w.2,rfl,(Kept.same s7).trans k8,at8,g1,g2,er2⟩
end
end K03
end
section
namespace Pc.Gn
open PySem Pc Pc.Sm Pc.Lw Pc.Gr Pc.Nw Pc.Ct
open Pc.Fr (iD)
noncomputable def qo (k:Nat)(cs:List Nat):List (Int×Nat):=cs.map fun c=>(eB k c,2*k+1)
noncomputable def ch:Nat->List Nat->List (List Nat)
 |0,_=>[]
 |m+1,cs=>cs.take 3::ch m (cs.drop 3)
noncomputable def jg (cs:List Nat):Nat:=(cs.length+2) / 3
noncomputable def il (m:Nat)(cs:List Nat):List (Int×Nat):=(ch m cs).map fun g=>(ju g,fb g.length)
theorem Cf (n:Nat):(Builtin.Range.rangeSize 0 (n:Int) 3).toNat=(n+2) / 3:=by
 unfold Builtin.Range.rangeSize;rw[if_pos (by decide)];by_cases h:(0:Int)<(n:Int)
 ·rw[if_pos h];omega
 ·rw[if_neg h];omega
theorem xY (T:Tb)(env:En)(e1 e2:Ex)(n:Nat)(hn:n<=1000){R:Rt}(h1:ev T e1 env = .ok (.int (n:Int),R)){R2:Rt}(h2:ev T e2 env = .ok (.int 3,R2)):gY T (.rng3 (.cst (.int (0))) e1 e2) env = .ok (bA 0 3 ((n+2) / 3),[]):=by
 rw[gY,aJ,aA,h1,aA,h2,aA];dsimp only;have a1:fP 0=true:=by decide
 have a2:=zj hn;have a3:((3:Int) != 0)=true:=by decide
 have a4:decide ((3:Int).natAbs<1073741824)=true:=by decide
 rw[a1,a2,a3,a4,Cf];rfl
theorem ux (cs:List Nat)(s:Nat)(h:s<=cs.length)(hl:cs.length<=1000):slD (.str (tx cs)) (some (s:Int)) (some ((s:Int)+3))=some (.str (tx ((cs.drop s).take 3))):=by
 show (if (tx cs).length<=lim then some (D.str ⟨(cut cs (some (s:Int)) (some ((s:Int)+3))).toArray⟩) else none)=_;rw[if_pos (xp hl)];have:cut cs (some (s:Int)) (some ((s:Int)+3))=(cs.drop s).take 3:=by
  unfold cut;have h1:aU cs.length 0 (some (s:Int))=s:=by
   unfold aU;dsimp only;rw[if_neg (by omega),c5];omega
  have h2:aU cs.length cs.length (some ((s:Int)+3))=min (s+3) cs.length:=by
   unfold aU;dsimp only;rw[if_neg (by omega),show ((s:Int)+3).toNat=s+3 by omega]
  dsimp only;rw[h1,h2];by_cases hc:s+3<=cs.length
  ·rw[Nat.min_eq_left hc,show s+3 - s=3 by omega]
  ·rw[Nat.min_eq_right (by omega),eo (by rw[cn];omega),eo (by rw[cn];omega)]
 rw[this];rfl
theorem xV {T:Tb}{env:En}{e:Ex}{g:List Nat}(h0:0<g.length)(h3:g.length<=3)(hg:∀ c∈g,c∈kn 1)(h:ev T e env = .ok (.str (tx g),.mv [])):ev T (.blt .int (.cons e .nil)) env = .ok (.int (ju g),.mv []):=by
 obtain⟨a,_,_⟩:=qI h0 h3 hg;rw[ev,bE,bE,h,aA,aA,aA,mm];have:fE .int [.str (tx g)]=some (.int (ju g)):=by
  show (if (tx g).length<=640 then (PySem.intText? (tx g)).map D.int else none)=_;rw[if_pos (by rw[iV];omega),a];rfl
 dsimp only;rw[this,cV,aA,gH]
theorem qK {m:Nat}(h:m<=3):fb m<=10:=by
 unfold fb;split<;>omega
theorem ints3 (s m:Nat):bA (s:Int) 3 (m+1) = .int (s:Int)::bA ((s+3:Nat):Int) 3 m:=by
 rw[bA,show (s:Int)+3=((s+3:Nat):Int) by omega]
noncomputable def kI (k:Nat)(cs:List Nat):List (Int×Nat):=if k=1 then il (jg cs) cs else qo k cs
noncomputable def gG (k:Nat)(cs:List Nat):List (Int×Nat):=[((k:Int),2),((cs.length:Int) - 1,6)]++kI k cs
theorem gM {T:Tb}{env:En}{a b:Ex}{x y:List Int}{R R':Rt}(h:ev T a env = .ok (.lst (iD x),R))(h':ev T b env = .ok (.lst (iD y),R'))(hl:x.length+y.length<=20000):ev T (.bin .Add a b) env = .ok (.lst (iD (x++y)),.mv []):=by
 rw[ev,h,aA,h',aA];have:pY .Add (.lst (iD x)) (.lst (iD y))=some (.lst (iD (x++y))):=by
  show ck ((iD x).length+(iD y).length) (.lst (iD x++iD y))=_;unfold ck;rw[if_pos (by rw[iN,iN];exact limB hl),t7]
 rw[this,cV,aA,eY]
theorem tU:∀(G:List (Int×Nat)),(∀ q∈G,q.2<=10)->(pb G).length<=10*G.length
 |[],_=>de _
 | q::G,h=>by
  have:=tU G fun x hx=>h x (ai _ hx)
  have hq:=h q aq;show (aM q.1 q.2++pb G).length<=_;rw[ag,aK,ak];omega
theorem pB:∀(m:Nat) (cs:List Nat),(ch m cs).length=m
 |0,_=>rfl
 |m+1,cs=>by rw[ch,ak,pB m]
theorem yQ:∀(m:Nat) (cs:List Nat),∀ g∈ch m cs,g.length<=3
 | m+1,cs,g,hg=>by
  rcases gd.mp hg with rfl | hg
  ·rw[bt];omega
  ·exact yQ m _ g hg
theorem CH {k:Nat}(hk:k=1\/k=2\/k=3){cs:List Nat}(hl:cs.length<=64):(kI k cs).length<=64/\∀ q∈kI k cs,q.2<=10:=by
 unfold kI;split
 ·constructor
  ·unfold il jg;rw[au,pB];omega
  ·intro q hq;obtain⟨g,_,rfl⟩:=List.mem_map.mp hq;exact qK (yQ _ _ g ‹_›)
 ·constructor
  ·unfold qo;rw[au];exact hl
  ·intro q hq;obtain⟨c,_,rfl⟩:=List.mem_map.mp hq;show 2*k+1<=10;omega
noncomputable def PB (p:Pe):List Int:=pb (gG p.1 p.2)
theorem nk {k c:Nat}(h:uS k c=true):c∈kn k:=by
 unfold uS at h;exact List.contains_iff_mem.mp h
theorem Bq {p:Pe}(h:Piece p):(PB p).length<=18*p.2.length:=by
 have hk:p.1=1\/p.1=2\/p.1=3:=by have:=h.k1;have:=h.k3;omega
 have gb:=CH hk h.c64;have c1:=h.c1;have e:(kI p.1 p.2).length<=p.2.length:=by
  unfold kI;split
  ·unfold il jg;rw[au,pB];omega
  ·unfold qo;rw[au];omega
 have:=tU (kI p.1 p.2) gb.2;have hh:(PB p).length=8+(pb (kI p.1 p.2)).length:=by
  show (aM (p.1:Int) 2++(aM ((p.2.length:Int) - 1) 6++pb (kI p.1 p.2))).length=_;rw[ag,ag,aK,aK];omega
 omega
noncomputable def dZ (P:List Pe):List Int:=(P.map PB).flatten
theorem my:∀(P:List Pe),(∀ p∈P,Piece p)->(dZ P).length<=18*((P.map (·.2)).flatten).length
 |[],_=>de _
 | p::P,h=>by
  have a:=Bq (h p aq);have b:=my P fun q hq=>h q (ai _ hq)
  show (PB p++dZ P).length<=18*(p.2++(P.map (·.2)).flatten).length;rw[ag,ag];omega
end Pc.Gn
end
section
namespace Pc.Rd
open PySem Pc Pc.Ct Pc.Gn
theorem ig {pre post:List Int}{x:Int}{c:Nat}(h0:0<=x)(h1:x<2 ^ c):fO (pre++(aM x c++post)) pre.length c=some x:=by
 unfold fO;rw[if_pos (by rw[ag,ag,aK];omega),List.drop_left,List.take_left' (aK x c)];exact fv some (rL h0 h1)
theorem jn (q:Int×Nat)(G:List (Int×Nat)):pb (q::G)=aM q.1 q.2++pb G:=rfl
noncomputable def uR (g:List Nat):Bool:=decide ((zf g.length (ju g)).cps.toList=g)&&decide (ju g<=gm g.length)
theorem cZ1:(kn 1).all (fun a=>uR [a])=true:=by decide +kernel
theorem cZ2:(kn 1).all (fun a=>(kn 1).all fun b=>uR [a,b])=true:=by decide +kernel
theorem cZ3:(kn 1).all (fun a=>(kn 1).all fun b=>(kn 1).all fun c=>uR [a,b,c])=true:=by decide +kernel
theorem zv {g:List Nat}(h0:0<g.length)(h3:g.length<=3)(hg:∀ c∈g,c∈kn 1):zf g.length (ju g)=tx g/\ju g<=gm g.length:=by
 have h:uR g=true:=by
  match g,h0,h3,hg with
  |[a],_,_,hg=>exact List.all_eq_true.mp cZ1 a (hg a (by simp))
  |[a,b],_,_,hg=>exact List.all_eq_true.mp (List.all_eq_true.mp cZ2 a (hg a (by simp))) b (hg b (by simp))
  |[a,b,c],_,_,hg=>exact List.all_eq_true.mp (List.all_eq_true.mp (List.all_eq_true.mp cZ3 a (hg a (by simp))) b (hg b (by simp))) c (hg c (by simp))
 unfold uR at h;rw[aj] at h;exact⟨mD (cw h.1),cw h.2⟩
theorem xw (cs:List Nat):(cs.take 3).length=ft cs.length:=by
 rw[bt];unfold ft;split<;>omega
theorem vw {bs post:List Int}:∀(m f:Nat) (pre:List Int) (cs a:List Nat),3*m<cs.length+3->cs.length<=3*m->m<=f->(∀ c∈cs,c∈kn 1)->bs=pre++(pb (il m cs)++post) ->
  lT bs f pre.length cs.length (tx a)=some (tx (a++cs),pre.length+(pb (il m cs)).length)
 | 0,f,pre,cs,a,_,h2,_,_,_=>by
  obtain rfl:cs=[]:=List.length_eq_zero_iff.mp (by omega);rw[ba];cases f<;>rfl
 |m+1,0,pre,cs,a,_,_,h,_,_=>by omega
 | m+1,f+1,pre,cs,a,h1,h2,h3,hc,hb=>by
  obtain⟨r,hr⟩:∃ r,cs.length=r+1:=⟨cs.length - 1,by omega⟩;have hl:=xw cs;have hft:=B1 (show 0<r+1 by omega);rw[hr] at hl;have hg:∀ c∈cs.take 3,c∈kn 1:=fun c h=>hc c (List.mem_of_mem_take h)
  obtain⟨_,v1,v2⟩:=qI (g:=cs.take 3) (by omega) (by omega) hg;obtain⟨z1,z2⟩:=zv (g:=cs.take 3) (by omega) (by omega) hg;rw[hl] at v2 z1 z2;have hG:il (m+1) cs=(ju (cs.take 3),fb (ft (r+1)))::il m (cs.drop 3):=by
   show (ju (cs.take 3),fb (cs.take 3).length)::il m (cs.drop 3)=_;rw[hl]
  rw[hG,jn,ax] at hb;have e1:fO bs pre.length (fb (ft (r+1)))=some (ju (cs.take 3)):=by rw[hb];exact ig v1 v2
  have ih:=vw (bs:=bs) (post:=post) m f (pre++aM (ju (cs.take 3)) (fb (ft (r+1)))) (cs.drop 3) (a++cs.take 3) (by rw[cn];omega) (by rw[cn];omega) (by omega) (fun c h=>hc c (List.mem_of_mem_drop h)) (by rw[hb,ax]);rw[hr];show ((fO bs pre.length (fb (ft (r+1)))).bind fun n=>if gm (ft (r+1))<n then none else lT bs f (pre.length+fb (ft (r+1))) (r+1 - ft (r+1)) (tx a++zf (ft (r+1)) n))=_;rw[e1,dt,if_neg (by omega),z1,oN];rw[ag,aK,cn,ax,List.take_append_drop] at ih;have hd:r+1 - ft (r+1)=cs.length - 3:=by
   have:ft (r+1)=min 3 (r+1):=by rw[<-hl,bt,hr]
   omega
  rw[hd,ih,hG,jn,ag,aK];congr 2;omega
theorem cI2:(kn 2).all (fun c=>decide ((kn 2)[(eB 2 c).toNat]? = some c))=true:=by decide +kernel
theorem cI3:(kn 3).all (fun c=>decide ((kn 3)[(eB 3 c).toNat]? = some c))=true:=by decide +kernel
theorem Bg {k c:Nat}(hk:k=2\/k=3)(hc:c∈kn k):(kn k)[(eB k c).toNat]? = some c:=by
 rcases hk with rfl | rfl
 ·exact cw (bw.mp cI2 c hc)
 ·exact cw (bw.mp cI3 c hc)
theorem zm {k:Nat}(hk:k=2\/k=3):sb k=2*k+1:=by rcases hk with rfl | rfl<;>rfl
theorem uJ {bs post:List Int}{k:Nat}(hk:k=2\/k=3):∀(cs:List Nat) (pre:List Int) (a:List Nat),(∀ c∈cs,c∈kn k)->bs=pre++(pb (qo k cs)++post) ->
  kQ bs k cs.length pre.length (tx a)=some (tx (a++cs),pre.length+(pb (qo k cs)).length)
 |[],pre,a,_,_=>by rw[ba];rfl
 | c::cs,pre,a,hc,hb=>by
  have hm:=hc c aq;obtain⟨_,_,v1,v2⟩:=qS hk hm;have hG:qo k (c::cs)=(eB k c,2*k+1)::qo k cs:=rfl;rw[hG,jn,ax] at hb;have e1:fO bs pre.length (sb k)=some (eB k c):=by rw[hb,zm hk];exact ig v1 v2
  have ih:=uJ (bs:=bs) (post:=post) hk cs (pre++aM (eB k c) (2*k+1)) (a ++ [c]) (fun x h=>hc x (ai _ h)) (by rw[hb,ax]);show ((fO bs pre.length (sb k)).bind fun n=>match (kn k)[n.toNat]? with
   |some c=>kQ bs k cs.length (pre.length+sb k) (tx a++tx [c])
   |none=>none)=_
  rw[e1,dt,Bg hk hm];dsimp only;rw[oN,zm hk];rw[ag,aK,ax] at ih;rw[ih,hG,jn,ag,aK];congr 2;show pre.length+(2*k+1)+_=pre.length+(2*k+1+_);omega
noncomputable def pT (p:Pe):Nat×Str:=(p.1,tx p.2)
theorem uL {bs tail:List Int}:∀(P:List Pe) (f:Nat) (pre:List Int) (acc:List (Nat×Str)),P.length<=f->(∀ p∈P,Piece p)->bs=pre++(dZ P++([0,0]++tail)) ->
  ((fO bs pre.length 2).bind fun k=>oA bs f k.toNat (pre.length+2) acc)=some (acc++P.map pT,pre.length+(dZ P).length+2)
 | [],f,pre,acc,_,_,hb=>by
  have e:fO bs pre.length 2=some 0:=by rw[hb];exact ig (x:=0) (c:=2) (by decide) (by decide)
  rw[e,fu,ba];cases f<;>rfl
 |p::P,0,pre,acc,h,_,_=>by cases h
 | p::P,f+1,pre,acc,h,hP,hb=>by
  have hp:=hP p aq;obtain⟨k,cs⟩:=p;obtain⟨k1,k3,c1,c64,hall⟩:=hp;dsimp only at k1 k3 c1 c64 hall;have hc:∀ c∈cs,c∈kn k:=fun c h=>nk (hall c h)
  obtain⟨j,rfl⟩:∃ j,k=j+1:=⟨k - 1,by omega⟩;have hB:dZ ((j+1,cs)::P)=aM ((j+1:Nat):Int) 2++(aM ((cs.length:Int) - 1) 6++(pb (kI (j+1) cs)++dZ P)):=by
   show pb (gG (j+1) cs)++dZ P=_;show (aM ((j+1:Nat):Int) 2++(aM ((cs.length:Int) - 1) 6++pb (kI (j+1) cs)))++dZ P=_;rw[ax,ax]
  rw[hB,ax,ax,ax] at hb;have e1:fO bs pre.length 2=some ((j+1:Nat):Int):=by rw[hb];exact ig (by omega) (by show _<(4:Int);omega)
  have e2:fO bs (pre.length+2) 6=some ((cs.length:Int) - 1):=by
   have:=ig (pre:=pre++aM ((j+1:Nat):Int) 2) (post:=pb (kI (j+1) cs)++(dZ P++([0,0]++tail))) (x:=(cs.length:Int) - 1) (c:=6) (by omega) (by show _<(64:Int);omega);rw[ag,aK,ax] at this;rw[hb];exact this
  have hcn:((cs.length:Int) - 1).toNat+1=cs.length:=by omega
  have e3:(if j=0 then lT bs (((cs.length:Int) - 1).toNat+1) (pre.length+2+6) (((cs.length:Int) - 1).toNat+1) (tx []) else kQ bs (j+1) (((cs.length:Int) - 1).toNat+1) (pre.length+2+6) (tx []))=some (tx cs,pre.length+2+6+(pb (kI (j+1) cs)).length):=by
   rw[hcn];have hb2:bs=(pre++aM ((j+1:Nat):Int) 2++aM ((cs.length:Int) - 1) 6)++(pb (kI (j+1) cs)++(dZ P++([0,0]++tail))):=by rw[hb,ax,ax]
   have hl:(pre++aM ((j+1:Nat):Int) 2++aM ((cs.length:Int) - 1) 6).length=pre.length+2+6:=by rw[ag,ag,aK,aK]
   by_cases hj:j=0
   ·subst hj;rw[if_pos rfl];have:=vw (jg cs) cs.length (pre++aM ((0+1:Nat):Int) 2++aM ((cs.length:Int) - 1) 6) cs [] (by unfold jg;omega) (by unfold jg;omega) (by unfold jg;omega) hc hb2;rw[hl] at this;exact this
   ·rw[if_neg hj];have hg:kI (j+1) cs=qo (j+1) cs:=if_neg (by omega);rw[hg] at hb2 ⊢;have:=uJ (k:=j+1) (by omega) cs (pre++aM ((j+1:Nat):Int) 2++aM ((cs.length:Int) - 1) 6) [] hc hb2;rw[hl] at this;exact this
  rw[e1,dt];show ((fO bs (pre.length+2) 6).bind fun c=>(if j=0 then lT bs (c.toNat+1) (pre.length+2+6) (c.toNat+1) (tx []) else kQ bs (j+1) (c.toNat+1) (pre.length+2+6) (tx [])).bind fun q =>
   (fO bs q.2 2).bind fun k'=>oA bs f k'.toNat (q.2+2) (acc ++ [(j+1,q.1)]))=_
  rw[e2,dt,e3,dt];dsimp only;have ih:=uL (bs:=bs) (tail:=tail) P f (pre++aM ((j+1:Nat):Int) 2++aM ((cs.length:Int) - 1) 6++pb (kI (j+1) cs)) (acc ++ [(j+1,tx cs)]) (Nat.le_of_succ_le_succ h) (fun q hq=>hP q (ai _ hq)) (by rw[hb,ax,ax,ax]);have hl:(pre++aM ((j+1:Nat):Int) 2++aM ((cs.length:Int) - 1) 6++pb (kI (j+1) cs)).length=pre.length+2+6+(pb (kI (j+1) cs)).length:=by rw[ag,ag,ag,aK,aK]
  rw[hl] at ih;rw[ih,hB,ag,ag,ag,aK,aK,ax];congr 2;omega
theorem Bb {P:List Pe}{tail:List Int}(hP:∀ p∈P,Piece p)(hl:P.length<=(dZ P).length):xu (dZ P++([0,0]++tail))=some (P.map pT,(dZ P).length+2):=by
 have:=uL (bs:=dZ P++([0,0]++tail)) (tail:=tail) P (dZ P++([0,0]++tail)).length [] [] (by rw[ag];omega) hP rfl;rw[bu,dw,gu,dw] at this;exact this
end Pc.Rd
end
section
namespace K03
open PySem Pc
noncomputable def b0:cM:=(.cons (.asg (.nm 1) (.cst (.int (0))) false)
  (.cons (.forr (.nm 2) (.seq (.var 0)) (.cons (.asg (.nm 1) (.bin .Add (.bin .Mult (.cst (.int (2))) (.var 1)) (.var 2)) false)
  .nil))
  (.cons (.ret (.var 1))
  .nil)))
noncomputable def b1:cM:=(.cons (.expr (.call 0 (.cons (.lst .nil) .nil)))
  (.cons (.ret (.app Pc.Rd.gP (.cons (.var 0) .nil)))
  .nil))
noncomputable def b2:cM:=(.cons (.ret (.bin .Mod (.bin .Mult (.bin .Add (.bin .Add (.var 0) (.bin .Mult (.var 1) (.var 1))) (.cst (.int (1)))) (.var 2)) (.cst (.int (2305843009213693951)))))
  .nil)
noncomputable def b3:cM:=(.cons (.asg (.nm 0) (.cst (.str (" !\"#$&'()*+,-./0123456789:;<=>?@ABCDEFGHIJKLMNOPQRSTUVWXYZ[\\]^_`" : PySem.Str))) false)
  (.cons (.ret (.bin .Add (.var 0) (.cst (.str ("abcdefghijklmnopqrstuvwxyz{|}~" : PySem.Str)))))
  .nil))
noncomputable def b4:cM:=(.cons (.ite (.cmp .Eq (.var 0) (.cst (.int (1)))) (.cons (.ret (.cst (.str ("0123456789" : PySem.Str))))
  .nil) .nil)
  (.cons (.ite (.cmp .Eq (.var 0) (.cst (.int (2)))) (.cons (.ret (.cst (.str (" ABCDEFGHIJKLMNOPQRSTUVWXYZ.,-:/" : PySem.Str))))
  .nil) .nil)
  (.cons (.ret (.call 3 .nil))
  .nil)))
noncomputable def b5:cM:=(.cons (.asg (.nm 3) (.call 4 (.cons (.var 0) .nil)) false)
  (.cons (.asg (.nm 4) (.cst (.str ("" : PySem.Str))) false)
  (.cons (.forr (.nm 5) (.rng1 (.var 2)) (.cons (.asg (.nm 1) (.bin .Mod (.bin .Mult (.bin .Add (.var 1) (.var 5)) (.cst (.int (40692)))) (.cst (.int (2147483399)))) false)
  (.cons (.asg (.nm 4) (.bin .Add (.var 4) (.ix (.var 3) (.bin .Mod (.bin .FloorDiv (.var 1) (.cst (.int (7)))) (.blt .len (.cons (.var 3) .nil))))) false)
  .nil)))
  (.cons (.ret (.var 4))
  .nil))))
noncomputable def b6:cM:=(.cons (.asg (.nm 2) (.lst .nil) false)
  (.cons (.forr (.nm 3) (.rng1 (.var 1)) (.cons (.mut 2 .none .insert (.cons (.cst (.int (0))) (.cons (.bin .Mod (.var 0) (.cst (.int (2)))) .nil)))
  (.cons (.asg (.nm 0) (.bin .FloorDiv (.var 0) (.cst (.int (2)))) false)
  .nil)))
  (.cons (.ret (.var 2))
  .nil)))
noncomputable def b7:cM:=(.cons (.asg (.nm 2) (.bin .Add (.call 6 (.cons (.var 0) (.cons (.cst (.int (2))) .nil))) (.call 6 (.cons (.bin .Sub (.blt .len (.cons (.var 1) .nil)) (.cst (.int (1)))) (.cons (.cst (.int (6))) .nil)))) false)
  (.cons (.ite (.cmp .Gt (.var 0) (.cst (.int (1)))) (.cons (.forr (.nm 3) (.seq (.var 1)) (.cons (.asg (.nm 2) (.bin .Add (.var 2) (.call 6 (.cons (.mth .sfind (.call 4 (.cons (.var 0) .nil)) (.cons (.var 3) .nil)) (.cons (.bin .Add (.bin .Mult (.cst (.int (2))) (.var 0)) (.cst (.int (1)))) .nil)))) false)
  .nil))
  (.cons (.ret (.var 2))
  .nil)) .nil)
  (.cons (.forr (.nm 4) (.rng3 (.cst (.int (0))) (.blt .len (.cons (.var 1) .nil)) (.cst (.int (3)))) (.cons (.asg (.nm 5) (.sl (.var 1) (.some (.var 4)) (.some (.bin .Add (.var 4) (.cst (.int (3)))))) false)
  (.cons (.asg (.nm 2) (.bin .Add (.var 2) (.call 6 (.cons (.blt .int (.cons (.var 5) .nil)) (.cons (.ix (.lst (.cons (.cst (.int (0))) (.cons (.cst (.int (4))) (.cons (.cst (.int (7))) (.cons (.cst (.int (10))) .nil))))) (.blt .len (.cons (.var 5) .nil))) .nil)))) false)
  .nil)))
  (.cons (.ret (.var 2))
  .nil))))
noncomputable def b8:cM:=(.cons (.asg (.nm 1) (.lst .nil) false)
  (.cons (.asg (.nm 2) (.cst (.int (0))) false)
  (.cons (.forr (.nm 3) (.rng1 (.blt .len (.cons (.var 0) .nil))) (.cons (.asg (.nm 4) (.call 2 (.cons (.ix (.var 0) (.var 3)) (.cons (.var 3) (.cons (.cst (.int (1234567890123456789))) .nil)))) false)
  (.cons (.asg (.nm 5) (.bin .Add (.cst (.int (1))) (.bin .Mod (.bin .FloorDiv (.var 4) (.cst (.int (3)))) (.cst (.int (7))))) false)
  (.cons (.ite (.cmp .Eq (.bin .Mod (.bin .FloorDiv (.var 4) (.cst (.int (21)))) (.cst (.int (9)))) (.cst (.int (1)))) (.cons (.asg (.nm 5) (.bin .Add (.cst (.int (1))) (.bin .Mod (.bin .FloorDiv (.var 4) (.cst (.int (189)))) (.cst (.int (64))))) false)
  .nil) .nil)
  (.cons (.ite (.cmp .LtE (.bin .Add (.var 2) (.var 5)) (.cst (.int (200)))) (.cons (.mut 1 .none .append (.cons (.tup (.cons (.bin .Add (.cst (.int (1))) (.bin .Mod (.var 4) (.cst (.int (3))))) (.cons (.call 5 (.cons (.bin .Add (.cst (.int (1))) (.bin .Mod (.var 4) (.cst (.int (3))))) (.cons (.bin .Mod (.bin .FloorDiv (.var 4) (.cst (.int (12096)))) (.cst (.int (2147483399)))) (.cons (.var 5) .nil)))) .nil))) .nil))
  (.cons (.asg (.nm 2) (.bin .Add (.var 2) (.var 5)) false)
  .nil)) .nil)
  .nil)))))
  (.cons (.ret (.var 1))
  .nil))))
noncomputable def b9:cM:=(.cons (.ret (.and (.blt (.isi "int") (.cons (.var 0) .nil)) (.not (.blt (.isi "bool") (.cons (.var 0) .nil)))))
  .nil)
noncomputable def b10:cM:=(.cons (.asg (.nm 1) (.lst .nil) false)
  (.cons (.forr (.nm 2) (.rng1 (.bin .Mod (.var 0) (.cst (.int (71))))) (.cons (.asg (.nm 0) (.bin .Mod (.bin .Mult (.bin .Add (.var 0) (.var 2)) (.cst (.int (40692)))) (.cst (.int (2147483399)))) false)
  (.cons (.mut 1 .none .append (.cons (.bin .Mod (.bin .FloorDiv (.var 0) (.cst (.int (5)))) (.cst (.int (2)))) .nil))
  .nil)))
  (.cons (.ret (.var 1))
  .nil)))
noncomputable def Cy:cM:=(.cons (.asg (.nm 1) (.call 8 (.cons (.sl (.var 0) .none (.some (.cst (.int (63))))) .nil)) false)
  (.cons (.asg (.nm 2) (.lst .nil) false)
  (.cons (.forr (.tp [3,4]) (.seq (.var 1)) (.cons (.asg (.nm 2) (.bin .Add (.var 2) (.call 7 (.cons (.var 3) (.cons (.var 4) .nil)))) false)
  .nil))
  (.cons (.asg (.nm 5) (.call 2 (.cons (.blt .sum (.cons (.comp 1 [] (.nm 0) (.seq (.sl (.var 0) .none (.some (.cst (.int (63)))))) .none (.bin .Mod (.var 0) (.cst (.int (1000003))))) .nil)) (.cons (.bin .Mod (.blt .len (.cons (.var 0) .nil)) (.cst (.int (64)))) (.cons (.cst (.int (987654321987654321))) .nil)))) false)
  (.cons (.asg (.nm 6) (.bin .Add (.bin .Add (.var 2) (.lst (.cons (.cst (.int (0))) (.cons (.cst (.int (0))) .nil)))) (.call 10 (.cons (.bin .Mod (.var 5) (.cst (.int (2147483399)))) .nil))) false)
  (.cons (.asg (.nm 7) (.blt .list (.cons (.var 6) .nil)) false)
  (.cons (.asg (.nm 8) (.call 1 (.cons (.var 6) .nil)) false)
  (.cons (.ite (.or (.not (.blt (.isi "tuple") (.cons (.var 8) .nil))) (.or (.cmp .NotEq (.blt .len (.cons (.var 8) .nil)) (.cst (.int (2)))) (.cmp .NotEq (.var 6) (.var 7)))) (.cons (.ret (.cst (.bl false)))
  .nil) .nil)
  (.cons (.ite (.or (.not (.blt (.isi "list") (.cons (.ix (.var 8) (.cst (.int (0)))) .nil))) (.or (.cmp .NotEq (.ix (.var 8) (.cst (.int (0)))) (.var 1)) (.not (.call 9 (.cons (.ix (.var 8) (.cst (.int (1)))) .nil))))) (.cons (.ret (.cst (.bl false)))
  .nil) .nil)
  (.cons (.ret (.and (.cmp .Eq (.ix (.var 8) (.cst (.int (1)))) (.bin .Add (.blt .len (.cons (.var 2) .nil)) (.cst (.int (2))))) (.blt .all (.cons (.comp 1 [] (.nm 0) (.seq (.ix (.var 8) (.cst (.int (0))))) .none (.call 9 (.cons (.ix (.var 0) (.cst (.int (0)))) .nil))) .nil))))
  .nil))))))))))
noncomputable def fns:List Fn:=[⟨1,3,b0⟩,⟨1,6,b1⟩,⟨3,3,b2⟩,⟨0,1,b3⟩,⟨1,1,b4⟩,⟨3,6,b5⟩,⟨2,4,b6⟩,⟨2,6,b7⟩,⟨1,6,b8⟩,⟨1,1,b9⟩,⟨1,3,b10⟩,⟨1,9,Cy⟩]
noncomputable def gl:Nat->D
 |0=>.int 0
 |1=>.int 1
 |2=>.tup [.str ("" : PySem.Str),.str ("0123456789" : PySem.Str),.str (" ABCDEFGHIJKLMNOPQRSTUVWXYZ.,-:/" : PySem.Str),.str (" !\"#$&'()*+,-./0123456789:;<=>?@ABCDEFGHIJKLMNOPQRSTUVWXYZ[\\]^_`abcdefghijklmnopqrstuvwxyz{|}~" : PySem.Str)]
 |3=>.tup [.int 0,.int 0,.int 5,.int 7]
 |4=>.int 2
 |5=>.int 6
 |6=>.tup [.int 0,.int 4,.int 7,.int 10]
 |7=>.tup [.int 0,.int 9,.int 99,.int 999]
 |8=>.int 3
 |_=>.non
noncomputable abbrev T (n:Nat):Tb:=⟨Pc.run fns gl 1000 n,gl,1000⟩
theorem v9 (n:Nat):(T n).cl=Pc.run fns gl 1000 n:=rfl
end K03
end
section
namespace K03
open PySem Pc Pc.Sm Pc.Lw Pc.Gr Pc.Nw Pc.Ct Pc.Gn Pc.Rd
open Pc.Fr (iD gZ)
def rQ (T:Tb):Prop:=∀(c:Int) (k:Nat) (f:Int),k<=64->small f=true->∃ r:Int,0<=r/\T.cl 2 [.int c,.int (k:Int),.int f] = .ok (.int r,true)
theorem mx (n:Nat):rQ (T (n+1)):=fun c k f hk hf=>by
 have hst:aR [.int c,.int (k:Int),.int f] 3=[sI c,sI (k:Int),sI f]:=rfl;have v0:ev (T n) (.var 0) [sI c,sI (k:Int),sI f] = .ok (.int c,.mv []):=aG rfl rfl;have v1:ev (T n) (.var 1) [sI c,sI (k:Int),sI f] = .ok (.int (k:Int),.mv []):=aG rfl rfl;have v2:ev (T n) (.var 2) [sI c,sI (k:Int),sI f] = .ok (.int f,.mv []):=aG rfl rfl;have hs:small (k:Int)=true:=by unfold small;exact bj ⟨by omega,by omega⟩
 have e:=dA (by decide:(0:Int)<2305843009213693951) (Fr.jC (by rw[hf,Bool.or_true]) (dX (dX v0 (Fr.jC (by rw[hs];rfl) v1 v1)) (aJ (.int 1))) v2) (aJ (.int 2305843009213693951));refine⟨(c+(k:Int)*(k:Int)+1)*f%2305843009213693951,gw _ (by decide),?_⟩;rw[v9,dC (F:=⟨3,3,b2⟩) rfl rfl];dsimp only;rw[hst];exact kE e
def xb (T:Tb):Prop:=∀ k:Nat,1<=k->k<=3->T.cl 4 [.int (k:Int)] = .ok (.str (KS k),true)
theorem kno (n:Nat):xb (T (n+2)):=fun k h1 h3=>by
 rw[v9,dC (F:=⟨1,1,b4⟩) rfl rfl];have:k=1\/k=2\/k=3:=by omega
 rcases this with rfl | rfl | rfl
 ·rfl
 ·rfl
 ·rfl
noncomputable def xR:cM:=(.cons (.asg (.nm 1) (.bin .Mod (.bin .Mult (.bin .Add (.var 1) (.var 5)) (.cst (.int (40692)))) (.cst (.int (2147483399)))) false)
  (.cons (.asg (.nm 4) (.bin .Add (.var 4) (.ix (.var 3) (.bin .Mod (.bin .FloorDiv (.var 1) (.cst (.int (7)))) (.blt .len (.cons (.var 3) .nil))))) false)
  .nil))
theorem B6:b5=(.cons (.asg (.nm 3) (.call 4 (.cons (.var 0) .nil)) false)
  (.cons (.asg (.nm 4) (.cst (.str ("" : PySem.Str))) false)
  (.cons (.forr (.nm 5) (.rng1 (.var 2)) xR)
  (.cons (.ret (.var 4))
  .nil)))):=rfl
noncomputable abbrev ES (k m n:Int)(S cs:List Nat)(a:Slot):En:=[sI k,sI m,sI n,sT S,sT cs,a]
theorem m4 {k m n:Int}{S cs:List Nat}{a:Slot}(h:bG a):Tame (ES k m n S cs a):=.cons (aB _) (.cons (aB _) (.cons (aB _) (.cons (aB _) (.cons (aB _) (.cons h .nil)))))
theorem Cd {T:Tb}{k m n j:Int}{S cs:List Nat}(hS:S.length<=100)(hS0:0<S.length)(hcs:cs.length<=200):∃ m',∃ c∈S,aH T xR (ES k m n S cs (sI j)) = .nx (ES k m' n S (cs ++ [c]) (sI j)):=by
 have e1:=dA (by decide:(0:Int)<2147483399) (Fr.jC (by rw[show small 40692=true by decide,Bool.or_true]) (dX (aG (T:=T) (env:=ES k m n S cs (sI j)) (i:=1) (d:=.int m) (t:=.own) rfl rfl) (aG (i:=5) (d:=.int j) (t:=.own) rfl rfl)) (aJ (.int 40692))) (aJ (.int 2147483399));have g1:=aX (i:=1) (m4 (k:=k) (m:=m) (n:=n) (S:=S) (cs:=cs) (aB (.int j))) (show (1:Nat)<6 by decide) e1;have g1:bZ T (.asg (.nm 1) (.bin .Mod (.bin .Mult (.bin .Add (.var 1) (.var 5)) (.cst (.int (40692)))) (.cst (.int (2147483399)))) false) (ES k m n S cs (sI j)) = .nx (ES k ((m+j)*40692%2147483399) n S cs (sI j)):=g1;generalize (m+j)*40692%2147483399=m' at g1;have v3:ev T (.var 3) (ES k m' n S cs (sI j)) = .ok (.str (tx S),.mv []):=aG rfl rfl;have e2:=dA (show (0:Int)<(S.length:Int) by omega) (gS (by decide) (by decide) (aG (T:=T) (env:=ES k m' n S cs (sI j)) (i:=1) (d:=.int m') (t:=.own) rfl rfl) (aJ (.int 7))) (m8 (by omega) v3);obtain⟨c,hc,e3⟩:=Bh (by omega) (gw _ (by omega)) (Int.emod_lt_of_pos _ (show (0:Int)<(S.length:Int) by omega)) v3 e2;have e4:=Ct.wX (aG (T:=T) (env:=ES k m' n S cs (sI j)) (i:=4) (d:=.str (tx cs)) (t:=.own) rfl rfl) e3 (by rw[dh];omega);have g2:=aX (i:=4) (m4 (k:=k) (m:=m') (n:=n) (S:=S) (cs:=cs) (aB (.int j))) (show (4:Nat)<6 by decide) e4;refine⟨m',c,hc,?_⟩;unfold xR;rw[aH,g1,aF,aH,g2,aF,aH];rfl
theorem qy {T:Tb}{k n:Int}{S:List Nat}(hS:S.length<=100)(hS0:0<S.length):∀(l:List Int) (m:Int) (cs:List Nat) (a:Slot),bG a->cs.length+l.length<=100->(∀ c∈cs,c∈S)->∃ m' cs' a',bG a'/\cs'.length=cs.length+l.length/\(∀ c∈cs',c∈S)/\cA (.nm 5) [] (aH T xR) (l.map D.int) (ES k m n S cs a) = .nx (ES k m' n S cs' a')
 |[],m,cs,a,h,_,hc=>⟨m,cs,a,h,rfl,hc,rfl⟩
 | j::l,m,cs,a,h,hl,hc=>by
  rw[ak] at hl;obtain⟨m1,c,hcS,st⟩:=Cd (T:=T) (k:=k) (m:=m) (n:=n) (j:=j) (cs:=cs) hS hS0 (by omega);obtain⟨m',cs',a',t',q1,q2,q⟩:=qy (T:=T) (k:=k) (n:=n) hS hS0 l m1 (cs ++ [c]) (sI j) (aB _) (by rw[ag,dh];omega) (fun x hx=>by
   rcases List.mem_append.mp hx with hx | hx
   ·exact hc x hx
   ·rw[eg.mp hx];exact hcS)
  refine⟨m',cs',a',t',by rw[q1,ag,dh,ak];omega,q2,?_⟩;have hb:bR [] (.nm 5) (.int j) (ES k m n S cs a)=some (ES k m n S cs (sI j)):=eF (m4 h) (show (5:Nat)<6 by decide);rw[ay,dM hb st];exact q
def Ak (T:Tb):Prop:=∀(k:Nat) (m:Int) (n:Nat),1<=k->k<=3->n<=64->∃ cs:List Nat,cs.length=n/\(∀ c∈cs,c∈kn k)/\T.cl 5 [.int (k:Int),.int m,.int (n:Int)] = .ok (.str (tx cs),true)
theorem sn (n:Nat):Ak (T (n+3)):=fun k m c h1 h3 hc=>by
 obtain⟨hb1,hb2⟩:=kn_b h1 h3;have hst:aR [.int (k:Int),.int m,.int (c:Int)] 6=[sI (k:Int),sI m,sI (c:Int),none,none,none]:=rfl;have tn:=cH;have ec:=i9 (aG (T:=T (n+2)) (env:=[sI (k:Int),sI m,sI (c:Int),none,none,none]) (i:=0) (d:=.int (k:Int)) (t:=.own) rfl rfl) (kno n k h1 h3);rw[Du] at ec;have g1:bZ (T (n+2)) (.asg (.nm 3) (.call 4 (.cons (.var 0) .nil)) false) [sI (k:Int),sI m,sI (c:Int),none,none,none] = .nx [sI (k:Int),sI m,sI (c:Int),sT (kn k),none,none]:=aX (.cons (aB _) (.cons (aB _) (.cons (aB _) (.cons tn (.cons tn (.cons tn .nil)))))) (show (3:Nat)<6 by decide) ec;have g2:bZ (T (n+2)) (.asg (.nm 4) (.cst (.str ("" : PySem.Str))) false) [sI (k:Int),sI m,sI (c:Int),sT (kn k),none,none] = .nx (ES (k:Int) m (c:Int) (kn k) [] none):=by
  generalize kn k=S;rfl
 obtain⟨m',cs,a',t',q1,q2,q⟩:=qy (T:=T (n+2)) (k:=(k:Int)) (n:=(c:Int)) hb1 hb2 ((List.range c).map fun j=>((0+j:Nat):Int)) m [] none tn (by rw[au,dn];show 0+c<=100;omega) (fun _ h=>(nomatch h));have hit:gY (T (n+2)) (.rng1 (.var 2)) (ES (k:Int) m (c:Int) (kn k) [] none) = .ok (((List.range c).map fun j=>((0+j:Nat):Int)).map D.int,[]):=by
  rw[xh (m:=c) (aG rfl rfl) (by omega),dY,dm];rfl
 have g3:=fM hit q;refine⟨cs,by rw[q1,bu,au,dn];omega,q2,?_⟩;rw[v9,dC (F:=⟨3,6,b5⟩) rfl rfl];dsimp only;rw[hst,B6,aH,g1,aF,aH,g2,aF,aH,g3,aF];exact kE (aG rfl rfl)
noncomputable def yk:cM:=(.cons (.mut 2 .none .insert (.cons (.cst (.int (0))) (.cons (.bin .Mod (.var 0) (.cst (.int (2)))) .nil)))
  (.cons (.asg (.nm 0) (.bin .FloorDiv (.var 0) (.cst (.int (2)))) false)
  .nil))
theorem Cj:b6=(.cons (.asg (.nm 2) (.lst .nil) false)
  (.cons (.forr (.nm 3) (.rng1 (.var 1)) yk)
  (.cons (.ret (.var 2))
  .nil))):=rfl
noncomputable abbrev EL (x w:Int)(L:List Int)(a:Slot):En:=[sI x,sI w,oI L,a]
theorem mX {x w:Int}{L:List Int}{a:Slot}(h:bG a):Tame (EL x w L a):=.cons (aB _) (.cons (aB _) (.cons (aB _) (.cons h .nil)))
theorem CT {T:Tb}{x w j:Int}{L:List Int}(hL:L.length<=100):aH T yk (EL x w L (sI j)) = .nx (EL (x / 2) w (x%2::L) (sI j)):=by
 have e1:=dA (by decide:(0:Int)<2) (aG (T:=T) (env:=EL x w L (sI j)) (i:=0) (d:=.int x) (t:=.own) rfl rfl) (aJ (.int 2));have g1:=xH (x:=2) (mX (x:=x) (w:=w) (L:=L) (aB (.int j))) rfl e1 (by rw[iN];exact be (Nat.succ_le_succ hL) (by decide));have g1:bZ T (.mut 2 .none .insert (.cons (.cst (.int (0))) (.cons (.bin .Mod (.var 0) (.cst (.int (2)))) .nil))) (EL x w L (sI j)) = .nx (EL x w (x%2::L) (sI j)):=g1;have e2:=gS (by decide:(0:Int)<2) (by decide) (aG (T:=T) (env:=EL x w (x%2::L) (sI j)) (i:=0) (d:=.int x) (t:=.own) rfl rfl) (aJ (.int 2));have g2:=aX (i:=0) (mX (x:=x) (w:=w) (L:=x%2::L) (aB (.int j))) (show (0:Nat)<4 by decide) e2;unfold yk;rw[aH,g1,aF,aH,g2,aF,aH];rfl
theorem qi {T:Tb}{x w:Int}:∀(l:List Int) (k:Nat) (a:Slot),bG a->k+l.length<=60->∃ a',cA (.nm 3) [] (aH T yk) (l.map D.int) (EL (x / 2 ^ k) w (aM x k) a) = .nx (EL (x / 2 ^ (k+l.length)) w (aM x (k+l.length)) a')
 |[],k,a,h,_=>⟨a,rfl⟩
 | j::l,k,a,h,hl=>by
  rw[ak] at hl;have st:=CT (T:=T) (x:=x / 2 ^ k) (w:=w) (j:=j) (L:=aM x k) (by rw[aK];omega);have e1:x / 2 ^ k / 2=x / 2 ^ (k+1):=by rw[Int.pow_succ,Int.ediv_ediv_of_nonneg (Int.pow_nonneg (by decide))]
  have e2:x / 2 ^ k%2::aM x k=aM x (k+1):=rfl;rw[e1,e2] at st;obtain⟨a',q⟩:=qi (T:=T) (x:=x) (w:=w) l (k+1) (sI j) (aB _) (by omega);have hb:bR [] (.nm 3) (.int j) (EL (x / 2 ^ k) w (aM x k) a)=some (EL (x / 2 ^ k) w (aM x k) (sI j)):=eF (mX h) (show (3:Nat)<4 by decide);refine⟨a',?_⟩;rw[ay,dM hb st,q,ak,show k+1+l.length=k+(l.length+1) by omega]
def rJ (T:Tb):Prop:=∀(x:Int) (c:Nat),c<=60->T.cl 6 [.int x,.int (c:Int)] = .ok (.lst (iD (aM x c)),true)
theorem lb (n:Nat):rJ (T (n+1)):=fun x c hc=>by
 have hst:aR [.int x,.int (c:Int)] 4=[sI x,sI (c:Int),none,none]:=rfl;have g1:bZ (T n) (.asg (.nm 2) (.lst .nil) false) [sI x,sI (c:Int),none,none] = .nx (EL x (c:Int) [] none):=rfl;obtain⟨a',q⟩:=qi (T:=T n) (x:=x) (w:=(c:Int)) ((List.range c).map fun j=>((0+j:Nat):Int)) 0 none cH (by rw[au,dn];omega);rw[Int.pow_zero,Int.ediv_one,au,dn,dw] at q;have hit:gY (T n) (.rng1 (.var 1)) (EL x (c:Int) [] none) = .ok (((List.range c).map fun j=>((0+j:Nat):Int)).map D.int,[]):=by
  rw[xh (m:=c) (aG rfl rfl) (by omega),dY,dm];rfl
 have g2:=fM hit q;rw[v9,dC (F:=⟨2,4,b6⟩) rfl rfl];dsimp only;generalize aM x c=B at *;rw[hst,Cj,aH,g1,aF,aH,g2,aF];have v2:ev (T n) (.var 2) (EL (x / 2 ^ c) (c:Int) B a') = .ok (.lst (iD B),.mv [2]):=bP rfl rfl;rw[aH,bZ,v2,bM];rfl
noncomputable def xM:cM:=(.cons (.asg (.nm 2) (.bin .Add (.var 2) (.call 6 (.cons (.mth .sfind (.call 4 (.cons (.var 0) .nil)) (.cons (.var 3) .nil)) (.cons (.bin .Add (.bin .Mult (.cst (.int (2))) (.var 0)) (.cst (.int (1)))) .nil)))) false)
  .nil)
noncomputable def ym:cM:=(.cons (.asg (.nm 5) (.sl (.var 1) (.some (.var 4)) (.some (.bin .Add (.var 4) (.cst (.int (3)))))) false)
  (.cons (.asg (.nm 2) (.bin .Add (.var 2) (.call 6 (.cons (.blt .int (.cons (.var 5) .nil)) (.cons (.ix (.lst (.cons (.cst (.int (0))) (.cons (.cst (.int (4))) (.cons (.cst (.int (7))) (.cons (.cst (.int (10))) .nil))))) (.blt .len (.cons (.var 5) .nil))) .nil)))) false)
  .nil))
theorem DF:b7=(.cons (.asg (.nm 2) (.bin .Add (.call 6 (.cons (.var 0) (.cons (.cst (.int (2))) .nil))) (.call 6 (.cons (.bin .Sub (.blt .len (.cons (.var 1) .nil)) (.cst (.int (1)))) (.cons (.cst (.int (6))) .nil)))) false)
  (.cons (.ite (.cmp .Gt (.var 0) (.cst (.int (1)))) (.cons (.forr (.nm 3) (.seq (.var 1)) xM)
  (.cons (.ret (.var 2))
  .nil)) .nil)
  (.cons (.forr (.nm 4) (.rng3 (.cst (.int (0))) (.blt .len (.cons (.var 1) .nil)) (.cst (.int (3)))) ym)
  (.cons (.ret (.var 2))
  .nil)))):=rfl
noncomputable abbrev EB (k:Nat)(cs:List Nat)(L:List Int)(a3 a4 a5:Slot):En:=[sN k,sT cs,oI L,a3,a4,a5]
theorem iC {k:Nat}{cs:List Nat}{L:List Int}{a3 a4 a5:Slot}(h3:bG a3)(h4:bG a4)(h5:bG a5):Tame (EB k cs L a3 a4 a5):=.cons (aB _) (.cons (aB _) (.cons (aB _) (.cons h3 (.cons h4 (.cons h5 .nil)))))
theorem yo {T:Tb}{env:En}{a b:Ex}{k c:Nat}{R R':Rt}(hk:k=2\/k=3)(hc:c∈kn k)(ha:ev T a env = .ok (.str (KS k),R))(hb:ev T b env = .ok (.str (tx [c]),R')):ev T (.mth .sfind a (.cons b .nil)) env = .ok (.int (eB k c),.mv []):=by
 rw[ev,ha,aA,bE,hb,aA,bE,aA,aA];show (fT (mP .sfind (.str (KS k)) [.str (tx [c])])).bind _=_;rw[(qS hk hc).2.1];rfl
theorem Cv {T:Tb}(hB:rJ T)(hK:xb T){k:Nat}(hk:k=2\/k=3){cs:List Nat}{L:List Int}{c:Nat}{a4 a5:Slot}(h4:bG a4)(h5:bG a5)(hc:c∈kn k)(hL:L.length<=2000):aH T xM (EB k cs L (sT [c]) a4 a5) = .nx (EB k cs (L++aM (eB k c) (2*k+1)) (sT [c]) a4 a5):=by
 have v0:ev T (.var 0) (EB k cs L (sT [c]) a4 a5) = .ok (.int (k:Int),.mv []):=aG rfl rfl;have ef:=yo hk hc (i9 v0 (hK k (by omega) (by omega))) (aG (T:=T) (env:=EB k cs L (sT [c]) a4 a5) (i:=3) (d:=.str (tx [c])) (t:=.own) rfl rfl);have hs:small 2=true:=by decide
 have ew:=dX (Fr.jC (by rw[hs];rfl) (aJ (.int 2)) v0) (aJ (.int 1));rw[show (2:Int)*(k:Int)+1=((2*k+1:Nat):Int) by omega] at ew;have ec:=oo ef ew (hB (eB k c) (2*k+1) (by omega));have hl:(aM (eB k c) (2*k+1)).length=2*k+1:=aK _ _;generalize aM (eB k c) (2*k+1)=B at *;obtain⟨R,v2⟩:∃ R,ev T (.var 2) (EB k cs L (sT [c]) a4 a5) = .ok (.lst (iD L),R):=⟨_,bP rfl rfl⟩;have e:=gM v2 ec (by omega);have g:=aX (i:=2) (iC (k:=k) (cs:=cs) (L:=L) (aB (.str (tx [c]))) h4 h5) (show (2:Nat)<6 by decide) e;unfold xM;rw[aH,g,aF,aH];rfl
theorem qA {T:Tb}(hB:rJ T)(hK:xb T){k:Nat}(hk:k=2\/k=3){cs0:List Nat}{a4 a5:Slot}(h4:bG a4)(h5:bG a5):∀(cs:List Nat) (L:List Int) (a:Slot),bG a->(∀ c∈cs,c∈kn k)->L.length+7*cs.length<=2000->∃ a',cA (.nm 3) [] (aH T xM) (cs.map fun c=>D.str (tx [c])) (EB k cs0 L a a4 a5) = .nx (EB k cs0 (L++pb (qo k cs)) a' a4 a5)
 |[],L,a,_,_,_=>⟨a,by rw[show pb (qo k [])=[] from rfl,ba];rfl⟩
 | c::cs,L,a,h,hc,hl=>by
  rw[ak] at hl;have st:=Cv hB hK hk (cs:=cs0) (L:=L) h4 h5 (hc c aq) (by omega);have hlb:(L++aM (eB k c) (2*k+1)).length=L.length+(2*k+1):=by rw[ag,aK]
  obtain⟨a',q⟩:=qA hB hK hk (cs0:=cs0) h4 h5 cs (L++aM (eB k c) (2*k+1)) (sT [c]) (aB _) (fun x hx=>hc x (ai _ hx)) (by rw[hlb];omega);have hb:bR [] (.nm 3) (.str (tx [c])) (EB k cs0 L a a4 a5)=some (EB k cs0 L (sT [c]) a4 a5):=eF (iC h h4 h5) (show (3:Nat)<6 by decide);refine⟨a',?_⟩;rw[ay,dM hb st,q,show pb (qo k (c::cs))=aM (eB k c) (2*k+1)++pb (qo k cs) from rfl,ax]
theorem Aa {T:Tb}{env:En}{e:Ex}{m:Nat}{R:Rt}(h1:1<=m)(h3:m<=3)(h:ev T e env = .ok (.int (m:Int),R)):ev T (.ix (.lst (.cons (.cst (.int (0))) (.cons (.cst (.int (4))) (.cons (.cst (.int (7))) (.cons (.cst (.int (10))) .nil))))) e) env = .ok (.int (fb m:Nat),.mv []):=by
 have el:ev T (.lst (.cons (.cst (.int (0))) (.cons (.cst (.int (4))) (.cons (.cst (.int (7))) (.cons (.cst (.int (10))) .nil))))) env = .ok (.lst [.int 0,.int 4,.int 7,.int 10],.mv []):=by
  rw[ev,bE,aJ,aA,bE,aJ,aA,bE,aJ,aA,bE,aJ,aA,bE];rfl
 rw[ev,el,aA,h,aA]
 match m,h1,h3 with
 |1,_,_=>rfl
 |2,_,_=>rfl
 |3,_,_=>rfl
theorem DB {T:Tb}(hB:rJ T){k:Nat}{cs:List Nat}(hcs:cs.length<=64)(hk:∀ c∈cs,c∈kn 1){L:List Int}{s:Nat}(hs:s<cs.length){a3 a5:Slot}(h3:bG a3)(h5:bG a5)(hL:L.length<=2000) :
  aH T ym (EB k cs L a3 (sN s) a5) = .nx (EB k cs (L++aM (ju ((cs.drop s).take 3)) (fb ((cs.drop s).take 3).length)) a3 (sN s) (sT ((cs.drop s).take 3))):=by
 have hg0:0<((cs.drop s).take 3).length:=by rw[bt,cn];omega
 have hg3:((cs.drop s).take 3).length<=3:=by rw[bt];omega
 have hgk:∀ c∈(cs.drop s).take 3,c∈kn 1:=fun c h=>hk c (List.mem_of_mem_drop (List.mem_of_mem_take h))
 have e1:ev T (.sl (.var 1) (.some (.var 4)) (.some (.bin .Add (.var 4) (.cst (.int (3)))))) (EB k cs L a3 (sN s) a5) = .ok (.str (tx ((cs.drop s).take 3)),.mv []):=by
  have v1:ev T (.var 1) (EB k cs L a3 (sN s) a5) = .ok (.str (tx cs),.mv []):=aG rfl rfl;have v4:ev T (.var 4) (EB k cs L a3 (sN s) a5) = .ok (.int (s:Int),.mv []):=aG rfl rfl;have ea:=dX v4 (aJ (.int 3));rw[ev,v1,aA,jA,v4,aA];dsimp only;rw[aA,jA,ea,aA];dsimp only;rw[aA,ux cs s (by omega) (by omega)];rfl
 generalize hg:(cs.drop s).take 3=g at *;have g1:=aX (i:=5) (iC (k:=k) (cs:=cs) (L:=L) h3 (aB (.int (s:Int))) h5) (show (5:Nat)<6 by decide) e1;have g1:bZ T (.asg (.nm 5) (.sl (.var 1) (.some (.var 4)) (.some (.bin .Add (.var 4) (.cst (.int (3)))))) false) (EB k cs L a3 (sN s) a5) = .nx (EB k cs L a3 (sN s) (sT g)):=g1;have v5:ev T (.var 5) (EB k cs L a3 (sN s) (sT g)) = .ok (.str (tx g),.mv []):=aG rfl rfl;have ec:=oo (xV hg0 hg3 hgk v5) (Aa (by omega) hg3 (m8 (by omega) v5)) (hB (ju g) (fb g.length) (be (qK hg3) (by decide)));have hl:(aM (ju g) (fb g.length)).length<=10:=by rw[aK];exact qK hg3
 generalize aM (ju g) (fb g.length)=B at *;obtain⟨R,v2⟩:∃ R,ev T (.var 2) (EB k cs L a3 (sN s) (sT g)) = .ok (.lst (iD L),R):=⟨_,bP rfl rfl⟩;have e:=gM v2 ec (by omega);have g2:=aX (i:=2) (iC (k:=k) (cs:=cs) (L:=L) h3 (aB (.int (s:Int))) (aB (.str (tx g)))) (show (2:Nat)<6 by decide) e;unfold ym;rw[aH,g1,aF,aH,g2,aF,aH];rfl
theorem qp {T:Tb}(hB:rJ T){k:Nat}{cs:List Nat}(hcs:cs.length<=64)(hk:∀ c∈cs,c∈kn 1){a3:Slot}(h3:bG a3):∀(m s:Nat) (L:List Int) (a4 a5:Slot),bG a4->bG a5->s+3*m<cs.length+3->L.length+10*m<=2000 ->
  ∃ a4' a5',cA (.nm 4) [] (aH T ym) (bA (s:Int) 3 m) (EB k cs L a3 a4 a5) = .nx (EB k cs (L++pb (il m (cs.drop s))) a3 a4' a5')
 |0,s,L,a4,a5,_,_,_,_=>⟨a4,a5,by rw[show pb (il 0 (cs.drop s))=[] from rfl,ba];rfl⟩
 | m+1,s,L,a4,a5,h4,h5,hm,hl=>by
  have st:=DB hB (k:=k) hcs hk (L:=L) (s:=s) (by omega) h3 h5 (by omega);have hlb:(L++aM (ju ((cs.drop s).take 3)) (fb ((cs.drop s).take 3).length)).length<=L.length+10:=by
   rw[ag,aK];have:=qK (m:=((cs.drop s).take 3).length) (by rw[bt];omega);omega
  obtain⟨a4',a5',q⟩:=qp hB (k:=k) hcs hk h3 m (s+3) (L++aM (ju ((cs.drop s).take 3)) (fb ((cs.drop s).take 3).length)) (sN s) (sT ((cs.drop s).take 3)) (aB _) (aB _) (by omega) (by omega);have hb:bR [] (.nm 4) (.int (s:Int)) (EB k cs L a3 a4 a5)=some (EB k cs L a3 (sN s) a5):=eF (iC h3 h4 h5) (show (4:Nat)<6 by decide);refine⟨a4',a5',?_⟩;rw[ints3,dM hb st,q,show pb (il (m+1) (cs.drop s))=aM (ju ((cs.drop s).take 3)) (fb ((cs.drop s).take 3).length)++pb (il m ((cs.drop s).drop 3)) from rfl,List.drop_drop,ax]
open Pc.Fr (iD gZ)
def CW (T:Tb):Prop:=∀ p:Pe,Piece p->T.cl 7 [.int (p.1:Int),.str (tx p.2)] = .ok (.lst (iD (PB p)),true)
theorem lp (n:Nat):CW (T (n+3)):=fun p hp=>by
 obtain⟨k,cs⟩:=p;obtain⟨k1,k3,c1,c64,hall⟩:=hp;dsimp only at k1 k3 c1 c64 hall;have hc:∀ c∈cs,c∈kn k:=fun c h=>nk (hall c h)
 have tn:=cH;have hB:rJ (T (n+2)):=lb (n+1);have hK:xb (T (n+2)):=kno n;have hst:aR [.int (k:Int),.str (tx cs)] 6=[sN k,sT cs,none,none,none,none]:=rfl;have v0:ev (T (n+2)) (.var 0) [sN k,sT cs,none,none,none,none] = .ok (.int (k:Int),.mv []):=aG rfl rfl;have e1:=oo v0 (aJ (.int 2)) (hB (k:Int) 2 (by decide));have em:=vG (m8 (by omega) (aG (T:=T (n+2)) (env:=[sN k,sT cs,none,none,none,none]) (i:=1) (d:=.str (tx cs)) (t:=.own) rfl rfl)) (aJ (.int 1));have e2:=oo em (aJ (.int 6)) (hB ((cs.length:Int) - 1) 6 (by decide));have e3:=gM e1 e2 (by rw[aK,aK];decide);have hPB:PB (k,cs)=(aM (k:Int) 2++aM ((cs.length:Int) - 1) 6)++pb (kI k cs):=by
  show aM (k:Int) 2++(aM ((cs.length:Int) - 1) 6++pb (kI k cs))=_;rw[ax]
 have hl8:(aM (k:Int) 2++aM ((cs.length:Int) - 1) 6).length=8:=by rw[ag,aK,aK]
 rw[hPB];generalize aM (k:Int) 2++aM ((cs.length:Int) - 1) 6=H at *;have g1:bZ (T (n+2)) (.asg (.nm 2) (.bin .Add (.call 6 (.cons (.var 0) (.cons (.cst (.int (2))) .nil))) (.call 6 (.cons (.bin .Sub (.blt .len (.cons (.var 1) .nil)) (.cst (.int (1)))) (.cons (.cst (.int (6))) .nil)))) false) [sN k,sT cs,none,none,none,none] = .nx (EB k cs H none none none) :=
  aX (.cons (aB _) (.cons (aB _) (.cons tn (.cons tn (.cons tn (.cons tn .nil)))))) (show (2:Nat)<6 by decide) e3
 have ec:=AO (y:=1) (aG (T:=T (n+2)) (env:=EB k cs H none none none) (i:=0) (d:=.int (k:Int)) (t:=.own) rfl rfl) (aJ (.int 1));have v1:ev (T (n+2)) (.var 1) (EB k cs H none none none) = .ok (.str (tx cs),.mv []):=aG rfl rfl;rw[v9,dC (F:=⟨2,6,b7⟩) rfl rfl];dsimp only;rw[hst,DF,aH,g1,aF,aH,vP ec];by_cases h1:1<k
 ·rw[if_pos h1];obtain⟨a',q⟩:=qA hB hK (k:=k) (by omega) (cs0:=cs) tn tn cs H none tn hc (by omega);have g2:=fM (Ct.vb (by omega) v1) q;have hg:kI k cs=qo k cs:=if_neg (by omega);rw[hg];generalize pb (qo k cs)=B at *;rw[aH,g2,aF];have v2:ev (T (n+2)) (.var 2) (EB k cs (H++B) a' none none) = .ok (.lst (iD (H++B)),.mv [2]):=bP rfl rfl;rw[aH,bZ,v2,bM];rfl
 ·rw[if_neg h1];obtain rfl:k=1:=by omega
  obtain⟨a4,a5,q⟩:=qp hB (k:=1) (cs:=cs) c64 hc tn (jg cs) 0 H none none tn tn (by unfold jg;omega) (by unfold jg;omega);have hit:=xY (T (n+2)) (EB 1 cs H none none none) (.blt .len (.cons (.var 1) .nil)) (.cst (.int 3)) cs.length (by omega) (m8 (by omega) v1) (aJ (.int 3));have g2:=fM hit q;have hg:kI 1 cs=il (jg cs) cs:=if_pos rfl;rw[hg];rw[List.drop_zero] at g2;generalize pb (il (jg cs) cs)=B at *;rw[show aH (T (n+2)) .nil (EB 1 cs H none none none) = .nx (EB 1 cs H none none none) from by rw[aH],aF,aH,g2,aF];have v2:ev (T (n+2)) (.var 2) (EB 1 cs (H++B) none a4 a5) = .ok (.lst (iD (H++B)),.mv [2]):=bP rfl rfl;rw[aH,bZ,v2,bM];rfl
noncomputable def sA (P:List Pe):Nat:=(P.map fun p=>p.2.length).sum
noncomputable def cNW:Ex:=(.cmp .Eq (.bin .Mod (.bin .FloorDiv (.var 4) (.cst (.int (21)))) (.cst (.int (9)))) (.cst (.int (1))))
noncomputable def cLE:Ex:=(.cmp .LtE (.bin .Add (.var 2) (.var 5)) (.cst (.int (200))))
noncomputable def Ds:Ex:=(.bin .Add (.cst (.int (1))) (.bin .Mod (.var 4) (.cst (.int (3)))))
noncomputable def xk:cM:=(.cons (.asg (.nm 4) (.call 2 (.cons (.ix (.var 0) (.var 3)) (.cons (.var 3) (.cons (.cst (.int (1234567890123456789))) .nil)))) false)
  (.cons (.asg (.nm 5) (.bin .Add (.cst (.int (1))) (.bin .Mod (.bin .FloorDiv (.var 4) (.cst (.int (3)))) (.cst (.int (7))))) false)
  (.cons (.ite cNW (.cons (.asg (.nm 5) (.bin .Add (.cst (.int (1))) (.bin .Mod (.bin .FloorDiv (.var 4) (.cst (.int (189)))) (.cst (.int (64))))) false)
  .nil) .nil)
  (.cons (.ite cLE (.cons (.mut 1 .none .append (.cons (.tup (.cons Ds (.cons (.call 5 (.cons Ds (.cons (.bin .Mod (.bin .FloorDiv (.var 4) (.cst (.int (12096)))) (.cst (.int (2147483399)))) (.cons (.var 5) .nil)))) .nil))) .nil))
  (.cons (.asg (.nm 2) (.bin .Add (.var 2) (.var 5)) false)
  .nil)) .nil)
  .nil))))
theorem CO:b8=(.cons (.asg (.nm 1) (.lst .nil) false)
  (.cons (.asg (.nm 2) (.cst (.int (0))) false)
  (.cons (.forr (.nm 3) (.rng1 (.blt .len (.cons (.var 0) .nil))) xk)
  (.cons (.ret (.var 1))
  .nil)))):=rfl
noncomputable abbrev oP (P:List Pe):Slot:=some (.lst (P.map pD),.own)
noncomputable abbrev sL (ns:List Int):Slot:=some (.lst (iD ns),.sh [])
noncomputable abbrev EC (ns:List Int)(P:List Pe)(t:Nat)(a3 a4 a5:Slot):En:=[sL ns,oP P,sN t,a3,a4,a5]
theorem gF {ns:List Int}{P:List Pe}{t:Nat}{a3 a4 a5:Slot}(h3:bG a3)(h4:bG a4)(h5:bG a5):Tame (EC ns P t a3 a4 a5):=.cons (iE _) (.cons (aB _) (.cons (aB _) (.cons h3 (.cons h4 (.cons h5 .nil)))))
theorem w9 {T:Tb}{env:En}{a b:Ex}{x y:Nat}{R R':Rt}(h:ev T a env = .ok (.int (x:Int),R))(h':ev T b env = .ok (.int (y:Int),R')):ev T (.cmp .LtE a b) env = .ok (.bl (decide (x<=y)),.mv []):=by
 rw[ev,h,aA,h',aA];have:decide ((x:Int)<=(y:Int))=decide (x<=y):=by
  by_cases z:x<=y
  ·rw[bj z,bj (by omega)]
  ·rw[az z,az (by omega)]
 rw[<-this];rfl
theorem uU {T:Tb}{env:En}{a:Ex}{x d m:Nat}{R:Rt}(hd:0<d)(hd':d<1073741824)(hm:0<m)(h:ev T a env = .ok (.int (x:Int),R)):ev T (.bin .Add (.cst (.int (1))) (.bin .Mod (.bin .FloorDiv a (.cst (.int (d:Int)))) (.cst (.int (m:Int))))) env = .ok (.int ((1+x / d%m:Nat):Int),.mv []):=by
 have e:=dX (aJ (.int 1)) (dA (show (0:Int)<(m:Int) by omega) (gS (show (0:Int)<(d:Int) by omega) (by omega) h (aJ (.int (d:Int)))) (aJ (.int (m:Int))));rw[e];rfl
theorem BY {T:Tb}(hM:rQ T)(hS:Ak T){ns:List Int}{P:List Pe}{t j:Nat}{a4 a5:Slot}(h4:bG a4)(h5:bG a5)(hj:j<ns.length)(hj':j<=64)(hP:∀ p∈P,Piece p)(ht:sA P=t)(ht2:t<=200)(hPl:P.length<=100) :
  ∃ P' t' a4' a5',bG a4'/\bG a5'/\(∀ p∈P',Piece p)/\sA P'=t'/\t'<=200/\P'.length<=P.length+1/\aH T xk (EC ns P t (sN j) a4 a5) = .nx (EC ns P' t' (sN j) a4' a5'):=by
 obtain⟨r,r0,hr⟩:=hM ns[j] j 1234567890123456789 hj' (by decide);obtain⟨x,rfl⟩:=c9 r0;have v3:∀{a4 a5:Slot},ev T (.var 3) (EC ns P t (sN j) a4 a5) = .ok (.int (j:Int),.mv []):=fun {a4 a5}=>aG rfl rfl
 obtain⟨R0,v0⟩:∃ R,ev T (.var 0) (EC ns P t (sN j) a4 a5) = .ok (.lst (iD ns),R):=⟨_,rfl⟩;have e1:=tw (Fr.BC (i:=(j:Int)) (v:=ns[j]) (by omega) (by rw[c5];exact List.getElem?_eq_getElem hj) v0 v3) v3 (aJ (.int 1234567890123456789)) hr;have g1:=aX (i:=4) (gF (ns:=ns) (P:=P) (t:=t) (aB (.int (j:Int))) h4 h5) (show (4:Nat)<6 by decide) e1;have g1:bZ T (.asg (.nm 4) (.call 2 (.cons (.ix (.var 0) (.var 3)) (.cons (.var 3) (.cons (.cst (.int (1234567890123456789))) .nil)))) false) (EC ns P t (sN j) a4 a5) = .nx (EC ns P t (sN j) (sN x) a5):=g1;have v4:∀{P:List Pe}{t:Nat}{a5:Slot},ev T (.var 4) (EC ns P t (sN j) (sN x) a5) = .ok (.int (x:Int),.mv []):=fun {_ _ _}=>aG rfl rfl
 have g2:=aX (i:=5) (gF (ns:=ns) (P:=P) (t:=t) (aB (.int (j:Int))) (aB (.int (x:Int))) h5) (show (5:Nat)<6 by decide) (uU (d:=3) (m:=7) (by decide) (by decide) (by decide) v4);have g2:bZ T (.asg (.nm 5) (.bin .Add (.cst (.int (1))) (.bin .Mod (.bin .FloorDiv (.var 4) (.cst (.int (3)))) (.cst (.int (7))))) false) (EC ns P t (sN j) (sN x) a5) = .nx (EC ns P t (sN j) (sN x) (sN (1+x / 3%7))):=g2;have ew:∀{a5:Slot},ev T cNW (EC ns P t (sN j) (sN x) a5) = .ok (.bl (decide (x / 21%9=1)),.mv []):=fun {a5} =>
  uM (x:=x / 21%9) (y:=1) (dA (by decide:(0:Int)<9) (gS (by decide:(0:Int)<21) (by decide) v4 (aJ (.int 21))) (aJ (.int 9))) (aJ (.int 1))
 have g3:∃ c,1<=c/\c<=64/\bZ T (.ite cNW (.cons (.asg (.nm 5) (.bin .Add (.cst (.int (1))) (.bin .Mod (.bin .FloorDiv (.var 4) (.cst (.int (189)))) (.cst (.int (64))))) false) .nil) .nil) (EC ns P t (sN j) (sN x) (sN (1+x / 3%7))) = .nx (EC ns P t (sN j) (sN x) (sN c)):=by
  rw[vP ew];by_cases z:x / 21%9=1
  ·refine⟨1+x / 189%64,by omega,by omega,?_⟩;rw[if_pos z];have g:=aX (i:=5) (gF (ns:=ns) (P:=P) (t:=t) (aB (.int (j:Int))) (aB (.int (x:Int))) (aB (.int ((1+x / 3%7:Nat):Int)))) (show (5:Nat)<6 by decide) (uU (d:=189) (m:=64) (by decide) (by decide) (by decide) v4);have g:bZ T (.asg (.nm 5) (.bin .Add (.cst (.int (1))) (.bin .Mod (.bin .FloorDiv (.var 4) (.cst (.int (189)))) (.cst (.int (64))))) false) (EC ns P t (sN j) (sN x) (sN (1+x / 3%7))) = .nx (EC ns P t (sN j) (sN x) (sN (1+x / 189%64))):=g;rw[aH,g,aF,aH]
  ·exact⟨1+x / 3%7,by omega,by omega,by rw[if_neg z,aH]⟩
 obtain⟨c,c1,c64,g3⟩:=g3;have v5:∀{P:List Pe},ev T (.var 5) (EC ns P t (sN j) (sN x) (sN c)) = .ok (.int (c:Int),.mv []):=fun {_}=>aG rfl rfl
 have v2:∀{P:List Pe},ev T (.var 2) (EC ns P t (sN j) (sN x) (sN c)) = .ok (.int (t:Int),.mv []):=fun {_}=>aG rfl rfl
 have el:ev T cLE (EC ns P t (sN j) (sN x) (sN c)) = .ok (.bl (decide (t+c<=200)),.mv []):=w9 (y:=200) (jT v2 v5) (aJ (.int 200));unfold xk;rw[aH,g1,aF,aH,g2,aF,aH,g3,aF,aH,vP el];by_cases z:t+c<=200
 ·rw[if_pos z];have ek:ev T Ds (EC ns P t (sN j) (sN x) (sN c)) = .ok (.int ((1+x%3:Nat):Int),.mv []):=by
   have e:=dX (aJ (.int 1)) (dA (by decide:(0:Int)<3) (v4 (P:=P) (t:=t) (a5:=sN c)) (aJ (.int 3)));exact e
  obtain⟨cs,hcl,hck,hcs⟩:=hS (1+x%3) ((x:Int) / 12096%2147483399) c (by omega) (by omega) c64;have ec:=tw ek (dA (by decide:(0:Int)<2147483399) (gS (by decide:(0:Int)<12096) (by decide) (v4 (P:=P) (t:=t) (a5:=sN c)) (aJ (.int 12096))) (aJ (.int 2147483399))) v5 hcs;have et:=uf ek ec;have ga:=qk (x:=1) (gF (ns:=ns) (P:=P) (t:=t) (aB (.int (j:Int))) (aB (.int (x:Int))) (aB (.int (c:Int)))) rfl et (by rw[au];exact be (Nat.succ_le_succ hPl) (by decide));have ga:bZ T (.mut 1 .none .append (.cons (.tup (.cons Ds (.cons (.call 5 (.cons Ds (.cons (.bin .Mod (.bin .FloorDiv (.var 4) (.cst (.int (12096)))) (.cst (.int (2147483399)))) (.cons (.var 5) .nil)))) .nil))) .nil)) (EC ns P t (sN j) (sN x) (sN c)) = .nx (EC ns (P ++ [(1+x%3,cs)]) t (sN j) (sN x) (sN c)):=by
   rw[ga];show Fl.nx [sL ns,some (.lst (P.map pD ++ [pD (1+x%3,cs)]),.own),sN t,sN j,sN x,sN c]=_;rw[EC,oP,fm];rfl
  have gb:=aX (i:=2) (gF (ns:=ns) (P:=P ++ [(1+x%3,cs)]) (t:=t) (aB (.int (j:Int))) (aB (.int (x:Int))) (aB (.int (c:Int)))) (show (2:Nat)<6 by decide) (jT (v2 (P:=P ++ [(1+x%3,cs)])) (v5 (P:=P ++ [(1+x%3,cs)])));have gb:bZ T (.asg (.nm 2) (.bin .Add (.var 2) (.var 5)) false) (EC ns (P ++ [(1+x%3,cs)]) t (sN j) (sN x) (sN c)) = .nx (EC ns (P ++ [(1+x%3,cs)]) (t+c) (sN j) (sN x) (sN c)):=gb;refine⟨P ++ [(1+x%3,cs)],t+c,sN x,sN c,aB _,aB _,fun p hp=>?_,?_,z,by rw[ag];exact av _,?_⟩
  ·rcases List.mem_append.mp hp with hp | hp
   ·exact hP p hp
   ·rw[eg.mp hp];refine⟨by show 1<=1+x%3;omega,by show 1+x%3<=3;omega,by show 1<=cs.length;omega,by show cs.length<=64;omega,fun d hd=>?_⟩;unfold uS;exact List.contains_iff_mem.mpr (hck d hd)
  ·unfold sA at ht ⊢;rw[fm,List.sum_append,ht];show t+(cs.length+0)=_;omega
  ·rw[aH,ga,aF,aH,gb,aF,aH,aF,aH]
 ·rw[if_neg z];refine⟨P,t,sN x,sN c,aB _,aB _,hP,ht,ht2,Nat.le_succ _,?_⟩;rw[aH,aF,aH]
theorem qx {T:Tb}(hM:rQ T)(hS:Ak T){ns:List Int}(hn:ns.length<=63):∀(l:List Nat) (P:List Pe) (t:Nat) (a3 a4 a5:Slot),bG a3->bG a4->bG a5->(∀ j∈l,j<ns.length)->(∀ p∈P,Piece p)->sA P=t->t<=200->P.length+l.length<=64 ->
  ∃ P' t' a3' a4' a5',(∀ p∈P',Piece p)/\sA P'=t'/\t'<=200/\P'.length<=64/\cA (.nm 3) [] (aH T xk) (l.map fun j=>D.int ((j:Nat):Int)) (EC ns P t a3 a4 a5) = .nx (EC ns P' t' a3' a4' a5')
 |[],P,t,a3,a4,a5,_,_,_,_,hP,ht,ht2,hl=>⟨P,t,a3,a4,a5,hP,ht,ht2,by simpa using hl,rfl⟩
 | j::l,P,t,a3,a4,a5,h3,h4,h5,hj,hP,ht,ht2,hl=>by
  rw[ak] at hl;obtain⟨P1,t1,b4,b5,t4,t5,q1,q2,q3,q4,st⟩:=BY hM hS (ns:=ns) (P:=P) (t:=t) (j:=j) h4 h5 (hj j aq) (by have:=hj j aq;omega) hP ht ht2 (by omega);obtain⟨P',t',a3',a4',a5',u1,u2,u3,u4,q⟩:=qx hM hS hn l P1 t1 (sN j) b4 b5 (aB _) t4 t5 (fun i hi=>hj i (ai _ hi)) q1 q2 q3 (by omega);have hb:bR [] (.nm 3) (.int (j:Int)) (EC ns P t a3 a4 a5)=some (EC ns P t (sN j) a4 a5):=eF (gF h3 h4 h5) (show (3:Nat)<6 by decide);refine⟨P',t',a3',a4',a5',u1,u2,u3,u4,?_⟩;rw[ay,dM hb st];exact q
def PCok (T:Tb):Prop:=∀ ns:List Int,ns.length<=63->∃ P:List Pe,(∀ p∈P,Piece p)/\sA P<=200/\P.length<=64/\T.cl 8 [.lst (iD ns)] = .ok (.lst (P.map pD),true)
theorem pcs (n:Nat):PCok (T (n+4)):=fun ns hn=>by
 have hst:aR [.lst (iD ns)] 6=[sL ns,none,none,none,none,none]:=rfl;have tn:=cH;have g1:bZ (T (n+3)) (.asg (.nm 1) (.lst .nil) false) [sL ns,none,none,none,none,none] = .nx [sL ns,oP [],none,none,none,none]:=rfl;have g2:bZ (T (n+3)) (.asg (.nm 2) (.cst (.int (0))) false) [sL ns,oP [],none,none,none,none] = .nx (EC ns [] 0 none none none):=rfl;obtain⟨P,t,a3,a4,a5,q1,q2,q3,q4,q⟩:=qx (T:=T (n+3)) (mx (n+2)) (sn n) hn (List.range ns.length) [] 0 none none none tn tn tn (fun j hj=>List.mem_range.mp hj) (fun _ h=>(nomatch h)) rfl (by decide) (by rw[dn,bu];omega);obtain⟨R0,v0⟩:∃ R,ev (T (n+3)) (.var 0) (EC ns [] 0 none none none) = .ok (.lst (iD ns),R):=⟨_,rfl⟩;have el:=mh v0;rw[iN] at el;have hit:gY (T (n+3)) (.rng1 (.blt .len (.cons (.var 0) .nil))) (EC ns [] 0 none none none) = .ok ((List.range ns.length).map fun j=>D.int ((j:Nat):Int),[]):=by
  rw[xh (m:=ns.length) el (by omega),dY];simp only[Nat.zero_add]
 have g3:=fM hit q;refine⟨P,q1,by rw[q2];exact q3,q4,?_⟩;rw[v9,dC (F:=⟨1,6,b8⟩) rfl rfl];dsimp only;rw[hst,CO,aH,g1,aF,aH,g2,aF,aH,g3,aF];have v1:ev (T (n+3)) (.var 1) (EC ns P t a3 a4 a5) = .ok (.lst (P.map pD),.mv [1]):=bP rfl rfl;rw[aH,bZ,v1,bM];rfl
open Pc.Fr (iD gZ)
def Dv (T:Tb):Prop:=∀ i:Int,T.cl 9 [.int i] = .ok (.bl true,true)
theorem wh (n:Nat):Dv (T (n+1)):=fun i=>by
 rw[v9,dC (F:=⟨1,1,b9⟩) rfl rfl];rfl
noncomputable def wY:cM:=(.cons (.asg (.nm 0) (.bin .Mod (.bin .Mult (.bin .Add (.var 0) (.var 2)) (.cst (.int (40692)))) (.cst (.int (2147483399)))) false)
  (.cons (.mut 1 .none .append (.cons (.bin .Mod (.bin .FloorDiv (.var 0) (.cst (.int (5)))) (.cst (.int (2)))) .nil))
  .nil))
theorem Ax:b10=(.cons (.asg (.nm 1) (.lst .nil) false)
  (.cons (.forr (.nm 2) (.rng1 (.bin .Mod (.var 0) (.cst (.int (71))))) wY)
  (.cons (.ret (.var 1))
  .nil))):=rfl
noncomputable abbrev ET (m:Int)(L:List Int)(a:Slot):En:=[sI m,oI L,a]
theorem mL {m:Int}{L:List Int}{a:Slot}(h:bG a):Tame (ET m L a):=.cons (aB _) (.cons (aB _) (.cons h .nil))
theorem C5 {T:Tb}{m j:Int}{L:List Int}(hL:L.length<=100):∃ m' b,0<=b/\b<=1/\aH T wY (ET m L (sI j)) = .nx (ET m' (L ++ [b]) (sI j)):=by
 have e1:=dA (by decide:(0:Int)<2147483399) (Fr.jC (by rw[show small 40692=true by decide,Bool.or_true]) (dX (aG (T:=T) (env:=ET m L (sI j)) (i:=0) (d:=.int m) (t:=.own) rfl rfl) (aG (i:=2) (d:=.int j) (t:=.own) rfl rfl)) (aJ (.int 40692))) (aJ (.int 2147483399));have g1:=aX (i:=0) (mL (m:=m) (L:=L) (aB (.int j))) (show (0:Nat)<3 by decide) e1;have g1:bZ T (.asg (.nm 0) (.bin .Mod (.bin .Mult (.bin .Add (.var 0) (.var 2)) (.cst (.int (40692)))) (.cst (.int (2147483399)))) false) (ET m L (sI j)) = .nx (ET ((m+j)*40692%2147483399) L (sI j)):=g1;generalize (m+j)*40692%2147483399=m' at g1;have e2:=dA (by decide:(0:Int)<2) (gS (by decide:(0:Int)<5) (by decide) (aG (T:=T) (env:=ET m' L (sI j)) (i:=0) (d:=.int m') (t:=.own) rfl rfl) (aJ (.int 5))) (aJ (.int 2));have g2:=qk (x:=1) (mL (m:=m') (L:=L) (aB (.int j))) rfl e2 (by rw[iN];exact be (Nat.succ_le_succ hL) (by decide));refine⟨m',m' / 5%2,by omega,by omega,?_⟩;unfold wY;rw[aH,g1,aF,aH,g2,aF,aH];show Fl.nx [sI m',some (.lst (iD L ++ [.int (m' / 5%2)]),.own),sI j]=_;rw[ET,oI,t7];rfl
theorem qU {T:Tb}:∀(l:List Int) (m:Int) (L:List Int) (a:Slot),bG a->L.length+l.length<=100->(∀ b∈L,0<=b/\b<=1)->∃ m' L' a',L'.length<=100/\(∀ b∈L',0<=b/\b<=1)/\cA (.nm 2) [] (aH T wY) (l.map D.int) (ET m L a) = .nx (ET m' L' a')
 |[],m,L,a,h,hl,hb=>⟨m,L,a,by simpa using hl,hb,rfl⟩
 | j::l,m,L,a,h,hl,hb=>by
  rw[ak] at hl;obtain⟨m1,b,b0,b1,st⟩:=C5 (T:=T) (m:=m) (j:=j) (L:=L) (by omega);obtain⟨m',L',a',q1,q2,q⟩:=qU (T:=T) l m1 (L ++ [b]) (sI j) (aB _) (by rw[ag,dh];omega) (fun x hx=>by
   rcases List.mem_append.mp hx with hx | hx
   ·exact hb x hx
   ·rw[eg.mp hx];exact⟨b0,b1⟩)
  refine⟨m',L',a',q1,q2,?_⟩;have hb':bR [] (.nm 2) (.int j) (ET m L a)=some (ET m L (sI j)):=eF (mL h) (show (2:Nat)<3 by decide);rw[ay,dM hb' st];exact q
def TLok (T:Tb):Prop:=∀ m:Int,∃ L:List Int,L.length<=100/\(∀ b∈L,0<=b/\b<=1)/\T.cl 10 [.int m] = .ok (.lst (iD L),true)
theorem tl (n:Nat):TLok (T (n+1)):=fun m=>by
 have hst:aR [.int m] 3=[sI m,none,none]:=rfl;have g1:bZ (T n) (.asg (.nm 1) (.lst .nil) false) [sI m,none,none] = .nx (ET m [] none):=rfl;have em:=dA (by decide:(0:Int)<71) (aG (T:=T n) (env:=ET m [] none) (i:=0) (d:=.int m) (t:=.own) rfl rfl) (aJ (.int 71));obtain⟨c,hc,hc2⟩:=jL (gw m (show (71:Int)≠0 by decide)) (Int.emod_lt_of_pos m (show (0:Int)<71 by decide));rw[hc] at em;obtain⟨m',L,a',q1,q2,q⟩:=qU (T:=T n) ((List.range c).map fun j=>((0+j:Nat):Int)) m [] none cH (by rw[au,dn,bu];omega) (fun _ h=>(nomatch h));have hit:gY (T n) (.rng1 (.bin .Mod (.var 0) (.cst (.int (71))))) (ET m [] none) = .ok (((List.range c).map fun j=>((0+j:Nat):Int)).map D.int,[]):=by
  rw[xh (m:=c) em (by omega),dY,dm];rfl
 have g2:=fM hit q;refine⟨L,q1,q2,?_⟩;rw[v9,dC (F:=⟨1,3,b10⟩) rfl rfl];dsimp only;rw[hst,Ax,aH,g1,aF,aH,g2,aF];have v1:ev (T n) (.var 1) (ET m' L a') = .ok (.lst (iD L),.mv [1]):=bP rfl rfl;rw[aH,bZ,v1,bM];rfl
def Dy (T:Tb):Prop:=∀(P:List Pe) (B:List Int),(∀ p∈P,Piece p)->sA P<=200->B.length<=100->(∀ b∈B,0<=b/\b<=1)->T.cl 1 [.lst (iD (dZ P++([0,0]++B)))] = .ok (.tup [.lst (P.map pD),.int (((dZ P).length+2:Nat):Int)],true)
theorem nu:∀(G:List (Int×Nat)),∀ b∈pb G,0<=b/\b<=1
 |[],b,h=>by cases h
 | q::G,b,h=>by
  rcases List.mem_append.mp (show b∈aM q.1 q.2++pb G from h) with h | h
  ·exact nN q.1 q.2 b h
  ·exact nu G b h
theorem tL:∀(P:List Pe),∀ b∈dZ P,0<=b/\b<=1
 |[],b,h=>by cases h
 | p::P,b,h=>by
  rcases List.mem_append.mp (show b∈PB p++dZ P from h) with h | h
  ·exact nu _ b h
  ·exact tL P b h
theorem jX:∀ P:List Pe,((P.map (·.2)).flatten).length=sA P
 |[]=>rfl
 | p::P=>by
  rw[ay,cy,ag,jX P];rfl
theorem vU:∀ P:List Pe,P.length<=(dZ P).length
 |[]=>av _
 | p::P=>by
  have:=vU P;show P.length+1<=(PB p++dZ P).length;rw[ag];have:2<=(PB p).length:=by
   show 2<=(aM (p.1:Int) 2++_).length;rw[ag,aK];omega
  omega
theorem xX (l:List Int):eQ (iD l)=some l:=by
 induction l with
 |nil=>rfl
 |cons a l ih =>
  show (eQ (iD l)).map (a :: ·)=_;rw[ih];rfl
theorem rp (n:Nat):Dy (T (n+2)):=fun P B hP ht hB h01=>by
 have hl:=my P hP;rw[jX] at hl;have hr:=Bb (P:=P) (tail:=B) hP (vU P);have h1:sZ (dZ P++([0,0]++B))=true:=by
  unfold sZ;rw[bw];intro b hb;refine bj ?_;rcases List.mem_append.mp hb with hb | hb
  ·exact tL P b hb
  ·rcases List.mem_append.mp hb with hb | hb
   ·have:∀ b∈([0,0]:List Int),0<=b/\b<=1:=by decide
    exact this b hb
   ·exact h01 b hb
 have h2:(dZ P++([0,0]++B)).length<=10000:=by
  rw[ag,ag];show _+(2+_)<=_;omega
 have hg:gP [.lst (iD (dZ P++([0,0]++B)))]=some (.tup [.lst (P.map pD),.int (((dZ P).length+2:Nat):Int)]):=by
  show (match eQ (iD (dZ P++([0,0]++B))) with
   |some bs=>if sZ bs&&decide (bs.length<=10000) then (xu bs).map outD else none
   |none=>none)=_
  rw[xX];dsimp only;rw[h1,bj h2,Bool.and_self,if_pos rfl,hr];show some (D.tup [.lst ((P.map pT).map Ah),.int (((dZ P).length+2:Nat):Int)])=_;rw[dm];rfl
 generalize dZ P++([0,0]++B)=W at *;generalize D.tup [.lst (P.map pD),.int (((dZ P).length+2:Nat):Int)]=O at *;rw[v9,dC (F:=⟨1,6,b1⟩) rfl rfl];have hst:aR [.lst (iD W)] 6=[sL W,none,none,none,none,none]:=rfl;dsimp only;rw[hst];have n0:(T (n+1)).cl 0 [.lst []] = .ok (.int 0,true):=by
  rw[v9,dC (F:=⟨1,3,b0⟩) rfl rfl];exact yN []
 have el:ev (T (n+1)) (.lst .nil) [sL W,none,none,none,none,none] = .ok (.lst [],.mv []):=by rw[ev,bE];rfl
 have g1:bZ (T (n+1)) (.expr (.call 0 (.cons (.lst .nil) .nil))) [sL W,none,none,none,none,none] = .nx [sL W,none,none,none,none,none]:=by
  rw[bZ,i9 el n0,bM]
 obtain⟨R0,v0⟩:∃ R,ev (T (n+1)) (.var 0) [sL W,none,none,none,none,none] = .ok (.lst (iD W),R):=⟨_,rfl⟩;have e2:ev (T (n+1)) (.app Pc.Rd.gP (.cons (.var 0) .nil)) [sL W,none,none,none,none,none] = .ok (O,.mv []):=by
  rw[ev,bE,v0,aA,bE,aA,aA,mm,hg];rfl
 unfold b1;rw[aH,g1,aF];exact kE e2
open Pc.Fr (iD gZ)
noncomputable def C9:cM:=(.cons (.asg (.nm 2) (.bin .Add (.var 2) (.call 7 (.cons (.var 3) (.cons (.var 4) .nil)))) false)
  .nil)
noncomputable def cl1:Ex:=(.or (.not (.blt (.isi "tuple") (.cons (.var 8) .nil))) (.or (.cmp .NotEq (.blt .len (.cons (.var 8) .nil)) (.cst (.int (2)))) (.cmp .NotEq (.var 6) (.var 7))))
noncomputable def f0:Ex:=.ix (.var 8) (.cst (.int (0)))
noncomputable def f1:Ex:=.ix (.var 8) (.cst (.int (1)))
noncomputable def cl2:Ex:=(.or (.not (.blt (.isi "list") (.cons f0 .nil))) (.or (.cmp .NotEq f0 (.var 1)) (.not (.call 9 (.cons f1 .nil)))))
noncomputable def eM:Ex:=(.call 2 (.cons (.blt .sum (.cons (.comp 1 [] (.nm 0) (.seq (.sl (.var 0) .none (.some (.cst (.int (63)))))) .none (.bin .Mod (.var 0) (.cst (.int (1000003))))) .nil)) (.cons (.bin .Mod (.blt .len (.cons (.var 0) .nil)) (.cst (.int (64)))) (.cons (.cst (.int (987654321987654321))) .nil))))
noncomputable def eAl:Ex:=(.blt .all (.cons (.comp 1 [] (.nm 0) (.seq f0) .none (.call 9 (.cons (.ix (.var 0) (.cst (.int (0)))) .nil))) .nil))
noncomputable def Dg:cM:=(.cons (.asg (.nm 7) (.blt .list (.cons (.var 6) .nil)) false)
  (.cons (.asg (.nm 8) (.call 1 (.cons (.var 6) .nil)) false)
  (.cons (.ite cl1 (.cons (.ret (.cst (.bl false))) .nil) .nil)
  (.cons (.ite cl2 (.cons (.ret (.cst (.bl false))) .nil) .nil)
  (.cons (.ret (.and (.cmp .Eq f1 (.bin .Add (.blt .len (.cons (.var 2) .nil)) (.cst (.int (2))))) eAl))
  .nil)))))
theorem A2:Cy=(.cons (.asg (.nm 1) (.call 8 (.cons (.sl (.var 0) .none (.some (.cst (.int (63))))) .nil)) false)
  (.cons (.asg (.nm 2) (.lst .nil) false)
  (.cons (.forr (.tp [3,4]) (.seq (.var 1)) C9)
  (.cons (.asg (.nm 5) eM false)
  (.cons (.asg (.nm 6) (.bin .Add (.bin .Add (.var 2) (.lst (.cons (.cst (.int (0))) (.cons (.cst (.int (0))) .nil)))) (.call 10 (.cons (.bin .Mod (.var 5) (.cst (.int (2147483399)))) .nil))) false)
  Dg))))):=rfl
noncomputable abbrev EK (S:List D)(P:List Pe)(tg:Tg)(L:List Int)(a3 a4 a5 a6 a7 a8:Slot):En:=[some (.lst S,.sh []),some (.lst (P.map pD),tg),oI L,a3,a4,a5,a6,a7,a8]
theorem gQ {S:List D}{P:List Pe}{L:List Int}{a1 a3 a4 a5 a6 a7 a8:Slot}(h1:bG a1)(h3:bG a3)(h4:bG a4)(h5:bG a5)(h6:bG a6)(h7:bG a7)(h8:bG a8):Tame [some (.lst S,.sh []),a1,oI L,a3,a4,a5,a6,a7,a8]:=.cons (iE _) (.cons h1 (.cons (aB _) (.cons h3 (.cons h4 (.cons h5 (.cons h6 (.cons h7 (.cons h8 .nil))))))))
theorem vF {T:Tb}(hL:CW T){S:List D}{P0:List Pe}:∀(P:List Pe) (L:List Int) (a3 a4:Slot),bG a3->bG a4->(∀ p∈P,Piece p)->L.length+(dZ P).length<=10000->∃ a3' a4',bG a3'/\bG a4'/\cA (.tp [3,4]) [1] (aH T C9) (P.map pD) (EK S P0 .lk L a3 a4 none none none none) = .nx (EK S P0 .lk (L++dZ P) a3' a4' none none none none)
 |[],L,a3,a4,h3,h4,_,_=>⟨a3,a4,h3,h4,by rw[show dZ []=[] from rfl,ba];rfl⟩
 | p::P,L,a3,a4,h3,h4,hP,hl=>by
  have tn:=cH;have hB:dZ (p::P)=PB p++dZ P:=rfl;rw[hB,ag] at hl;have hp:=hP p aq;obtain⟨a3',a4',t3,t4,q⟩:=vF hL (S:=S) (P0:=P0) P (L++PB p) (sN p.1) (sT p.2) (aB _) (aB _) (fun x hx=>hP x (ai _ hx)) (by rw[ag];omega);refine⟨a3',a4',t3,t4,?_⟩;have hb:bR [1] (.tp [3,4]) (pD p) (EK S P0 .lk L a3 a4 none none none none)=some (EK S P0 .lk L (sN p.1) (sT p.2) none none none none) :=
   rH (gQ (P:=P0) (qM _) h3 h4 tn tn tn tn) (show (3:Nat)<9 by decide) (show (4:Nat)<9 by decide) rfl rfl
  have st:aH T C9 (EK S P0 .lk L (sN p.1) (sT p.2) none none none none) = .nx (EK S P0 .lk (L++PB p) (sN p.1) (sT p.2) none none none none):=by
   have ec:=oo (aG (T:=T) (env:=EK S P0 .lk L (sN p.1) (sT p.2) none none none none) (i:=3) (d:=.int (p.1:Int)) (t:=.own) rfl rfl) (aG (i:=4) (d:=.str (tx p.2)) (t:=.own) rfl rfl) (hL p hp);obtain⟨R,v2⟩:∃ R,ev T (.var 2) (EK S P0 .lk L (sN p.1) (sT p.2) none none none none) = .ok (.lst (iD L),R):=⟨_,bP rfl rfl⟩;generalize PB p=B at *;have e:=gM v2 ec (by omega);have g:=aX (i:=2) (gQ (S:=S) (P:=P0) (L:=L) (qM (.lst (P0.map pD))) (aB (.int (p.1:Int))) (aB (.str (tx p.2))) tn tn tn tn) (show (2:Nat)<9 by decide) e;unfold C9;rw[aH,g,aF,aH];rfl
  rw[ay,dM hb st,q,hB,ax]
theorem C1 {T:Tb}(hM:rQ T){ns:List Int}(hl:ns.length<=63){r:En}:∃ X:Int,0<=X/\ev T eM (some (.lst (ns.map D.int),.sh [])::r) = .ok (.int X,.mv []):=by
 have v0:ev T (.var 0) (some (.lst (ns.map D.int),.sh [])::r) = .ok (.lst (ns.map D.int),.sh []):=rfl;have e1:ev T (.sl (.var 0) .none (.some (.cst (.int (63))))) (some (.lst (ns.map D.int),.sh [])::r) = .ok (.lst (iD ns),.mv []):=by
  rw[ev,v0,aA,jA,aA,jA,aJ,aA];dsimp only;rw[aA,DD (ns.map D.int) 63 (by rw[au];exact hl) 63 rfl,cV,aA,eY]
 have hit:gY T (.seq (.sl (.var 0) .none (.some (.cst (.int (63)))))) (some (.lst (ns.map D.int),.sh [])::r) = .ok (ns.map D.int,[]):=by
  rw[gY,e1,aA];rfl
 have he:ev T (.comp 1 [] (.nm 0) (.seq (.sl (.var 0) .none (.some (.cst (.int (63)))))) .none (.bin .Mod (.var 0) (.cst (.int (1000003))))) (some (.lst (ns.map D.int),.sh [])::r) = .ok (.lst ((ns.map fun c=>c%1000003).map D.int),.mv []):=by
  rw[xA (g:=fun d=>match d with | .int c=>(.int (c%1000003),.mv []) | _=>(.non,.mv [])) hit (by rw[au];exact q5 (by omega)) (fun d hd=>?_) (fun d hd=>?_)]
  ·rw[dm,dm];rfl
  ·obtain⟨c,_,rfl⟩:=List.mem_map.mp hd;rfl
  ·obtain⟨c,_,rfl⟩:=List.mem_map.mp hd;rfl
 have hs:fE .sum [.lst ((ns.map fun c=>c%1000003).map D.int)]=some (.int (0+(ns.map fun c=>c%1000003).sum)):=by
  show (qc 0 ((ns.map fun c=>c%1000003).map D.int)).map D.int=_;rw[sum_ints];rfl
 have e2:ev T (.blt .sum (.cons (.comp 1 [] (.nm 0) (.seq (.sl (.var 0) .none (.some (.cst (.int (63)))))) .none (.bin .Mod (.var 0) (.cst (.int (1000003))))) .nil)) (some (.lst (ns.map D.int),.sh [])::r) = .ok (.int (0+(ns.map fun c=>c%1000003).sum),.mv []):=by
  rw[ev,bE,he,aA,bE,aA,aA,mm,hs];rfl
 have el:=mh v0;have e3:=dA (by decide:(0:Int)<64) el (aJ (.int 64));obtain⟨c,hc,hc2⟩:=jL (gw ((ns.map D.int).length:Int) (show (64:Int)≠0 by decide)) (Int.emod_lt_of_pos ((ns.map D.int).length:Int) (show (0:Int)<64 by decide));rw[hc] at e3;obtain⟨X,h0,hX⟩:=hM (0+(ns.map fun c=>c%1000003).sum) c 987654321987654321 (by omega) (by decide);exact⟨X,h0,tw e2 e3 (aJ (.int 987654321987654321)) hX⟩
theorem law (ns:List Int)(hl:ns.length<=63):∃ fr,Pc.run fns gl 1000 6 11 [.lst (ns.map D.int)] = .ok (.bl true,fr):=by
 refine⟨true,?_⟩;rw[dC (F:=⟨1,9,Cy⟩) rfl rfl];show ret (aH (T 5) Cy (aR [.lst (ns.map D.int)] 9))=_;have hst:aR [.lst (ns.map D.int)] 9=[some (.lst (ns.map D.int),.sh []),none,none,none,none,none,none,none,none]:=rfl;have tn:=cH;have v0:ev (T 5) (.var 0) [some (.lst (ns.map D.int),.sh []),none,none,none,none,none,none,none,none] = .ok (.lst (ns.map D.int),.sh []):=rfl;have e1:ev (T 5) (.sl (.var 0) .none (.some (.cst (.int (63))))) [some (.lst (ns.map D.int),.sh []),none,none,none,none,none,none,none,none] = .ok (.lst (iD ns),.mv []):=by
  rw[ev,v0,aA,jA,aA,jA,aJ,aA];dsimp only;rw[aA,DD (ns.map D.int) 63 (by rw[au];exact hl) 63 rfl,cV,aA,eY]
 obtain⟨P,hP,ht,hPl,hcl⟩:=pcs 1 ns hl;have g1:bZ (T 5) (.asg (.nm 1) (.call 8 (.cons (.sl (.var 0) .none (.some (.cst (.int (63))))) .nil)) false) [some (.lst (ns.map D.int),.sh []),none,none,none,none,none,none,none,none] = .nx [some (.lst (ns.map D.int),.sh []),some (.lst (P.map pD),.own),none,none,none,none,none,none,none] :=
  aX (.cons (iE _) (.cons tn (.cons tn (.cons tn (.cons tn (.cons tn (.cons tn (.cons tn (.cons tn .nil))))))))) (show (1:Nat)<9 by decide) (i9 e1 hcl)
 have hlen:=my P hP;rw[jX] at hlen;have g2:bZ (T 5) (.asg (.nm 2) (.lst .nil) false) [some (.lst (ns.map D.int),.sh []),some (.lst (P.map pD),.own),none,none,none,none,none,none,none] = .nx (EK (ns.map D.int) P .own [] none none none none none none) :=
  aX (.cons (iE _) (.cons (aB _) (.cons tn (.cons tn (.cons tn (.cons tn (.cons tn (.cons tn (.cons tn .nil))))))))) (show (2:Nat)<9 by decide) (by rw[ev,bE];rfl)
 have hit:gY (T 5) (.seq (.var 1)) (EK (ns.map D.int) P .own [] none none none none none none) = .ok (P.map pD,[1]):=rfl;obtain⟨a3,a4,t3,t4,q⟩:=vF (T:=T 5) (lp 2) (S:=ns.map D.int) (P0:=P) P [] none none tn tn hP (by rw[bu];omega);have g3:=xB (T:=T 5) (x:=1) (d:=.lst (P.map pD)) (d':=.lst (P.map pD)) (env:=EK (ns.map D.int) P .own [] none none none none none none) rfl hit q rfl;have g3:bZ (T 5) (.forr (.tp [3,4]) (.seq (.var 1)) C9) (EK (ns.map D.int) P .own [] none none none none none none) = .nx (EK (ns.map D.int) P .own (dZ P) a3 a4 none none none none):=g3;obtain⟨X,hX0,hX⟩:=C1 (T:=T 5) (mx 4) hl (r:=[some (.lst (P.map pD),.own),oI (dZ P),a3,a4,none,none,none,none]);have g4:=aX (i:=5) (gQ (S:=ns.map D.int) (P:=P) (L:=dZ P) (aB (.lst (P.map pD))) t3 t4 tn tn tn tn) (show (5:Nat)<9 by decide) hX;have g4:bZ (T 5) (.asg (.nm 5) eM false) (EK (ns.map D.int) P .own (dZ P) a3 a4 none none none none) = .nx (EK (ns.map D.int) P .own (dZ P) a3 a4 (sI X) none none none):=g4;obtain⟨B,hB,h01,hcB⟩:=tl 4 (X%2147483399);have hrp:=rp 3 P B hP ht hB h01;have e6:ev (T 5) (.bin .Add (.bin .Add (.var 2) (.lst (.cons (.cst (.int (0))) (.cons (.cst (.int (0))) .nil)))) (.call 10 (.cons (.bin .Mod (.var 5) (.cst (.int (2147483399)))) .nil))) (EK (ns.map D.int) P .own (dZ P) a3 a4 (sI X) none none none) = .ok (.lst (iD (dZ P++([0,0]++B))),.mv []):=by
  have em:=dA (by decide:(0:Int)<2147483399) (aG (T:=T 5) (env:=EK (ns.map D.int) P .own (dZ P) a3 a4 (sI X) none none none) (i:=5) (d:=.int X) (t:=.own) rfl rfl) (aJ (.int 2147483399));obtain⟨R,v2⟩:∃ R,ev (T 5) (.var 2) (EK (ns.map D.int) P .own (dZ P) a3 a4 (sI X) none none none) = .ok (.lst (iD (dZ P)),R):=⟨_,bP rfl rfl⟩;have ez:ev (T 5) (.lst (.cons (.cst (.int (0))) (.cons (.cst (.int (0))) .nil))) (EK (ns.map D.int) P .own (dZ P) a3 a4 (sI X) none none none) = .ok (.lst (iD [0,0]),.mv []):=by
   rw[ev,bE,aJ,aA,bE,aJ,aA,bE];rfl
  have ea:=gM (gM v2 ez (by show _+2<=_;omega)) (i9 em hcB) (by rw[ag];show _+2+_<=_;omega);rw[ax] at ea;exact ea
 have hW:(dZ P++([0,0]++B)).length<=20000:=by
  rw[ag,ag];show _+(2+_)<=_;omega
 generalize dZ P++([0,0]++B)=W at *;generalize dZ P=V at *;generalize ns.map D.int=S at *;have g5:=aX (i:=6) (gQ (S:=S) (P:=P) (L:=V) (aB (.lst (P.map pD))) t3 t4 (aB (.int X)) tn tn tn) (show (6:Nat)<9 by decide) e6;have g5:bZ (T 5) (.asg (.nm 6) (.bin .Add (.bin .Add (.var 2) (.lst (.cons (.cst (.int (0))) (.cons (.cst (.int (0))) .nil)))) (.call 10 (.cons (.bin .Mod (.var 5) (.cst (.int (2147483399)))) .nil))) false) (EK S P .own V a3 a4 (sI X) none none none) = .nx (EK S P .own V a3 a4 (sI X) (oI W) none none):=g5;rw[hst,A2,aH,g1,aF,aH,g2,aF,aH,g3,aF,aH,g4,aF,aH,g5,aF];have v6:∀{a7 a8:Slot},ev (T 5) (.var 6) (EK S P .own V a3 a4 (sI X) (oI W) a7 a8) = .ok (.lst (iD W),.mv [6]):=fun {_ _}=>bP rfl rfl
 have e7:ev (T 5) (.blt .list (.cons (.var 6) .nil)) (EK S P .own V a3 a4 (sI X) (oI W) none none) = .ok (.lst (iD W),.mv []):=by
  rw[ev,bE,v6,aA,bE,aA,aA,mm];show (fT (some (D.lst (iD W)))).bind _=_;rw[cV,aA,eY]
 have g7:=aX (i:=7) (gQ (S:=S) (P:=P) (L:=V) (aB (.lst (P.map pD))) t3 t4 (aB (.int X)) (aB (.lst (iD W))) tn tn) (show (7:Nat)<9 by decide) e7;have g7:bZ (T 5) (.asg (.nm 7) (.blt .list (.cons (.var 6) .nil)) false) (EK S P .own V a3 a4 (sI X) (oI W) none none) = .nx (EK S P .own V a3 a4 (sI X) (oI W) (oI W) none):=g7;have g8:=aX (i:=8) (gQ (S:=S) (P:=P) (L:=V) (aB (.lst (P.map pD))) t3 t4 (aB (.int X)) (aB (.lst (iD W))) (aB (.lst (iD W))) tn) (show (8:Nat)<9 by decide) (i9 (v6 (a7:=oI W) (a8:=none)) hrp);have g8:bZ (T 5) (.asg (.nm 8) (.call 1 (.cons (.var 6) .nil)) false) (EK S P .own V a3 a4 (sI X) (oI W) (oI W) none) = .nx (EK S P .own V a3 a4 (sI X) (oI W) (oI W) (some (.tup [.lst (P.map pD),.int ((V.length+2:Nat):Int)],.own))):=g8;generalize hEe:EK S P .own V a3 a4 (sI X) (oI W) (oI W) (some (.tup [.lst (P.map pD),.int ((V.length+2:Nat):Int)],.own))=Ee at g8;have v8:ev (T 5) (.var 8) Ee = .ok (.tup [.lst (P.map pD),.int ((V.length+2:Nat):Int)],.mv [8]):=by rw[<-hEe];exact bP rfl rfl
 have v6':ev (T 5) (.var 6) Ee = .ok (.lst (iD W),.mv [6]):=by rw[<-hEe];exact bP rfl rfl
 have v7':ev (T 5) (.var 7) Ee = .ok (.lst (iD W),.mv [7]):=by rw[<-hEe];exact bP rfl rfl
 have v1':ev (T 5) (.var 1) Ee = .ok (.lst (P.map pD),.mv [1]):=by rw[<-hEe];exact bP rfl rfl
 have v2':ev (T 5) (.var 2) Ee = .ok (.lst (iD V),.mv [2]):=by rw[<-hEe];exact bP rfl rfl
 have x1:ev (T 5) f1 Ee = .ok (.int ((V.length+2:Nat):Int),.mv []):=uo (i:=1) v8 (aJ _) rfl rfl;obtain⟨R0,x0⟩:∃ R,ev (T 5) f0 Ee = .ok (.lst (P.map pD),R):=by
  unfold f0;rw[ev,v8,aA,aJ,aA];exact⟨_,rfl⟩
 have el2:ev (T 5) (.blt .len (.cons (.var 8) .nil)) Ee = .ok (.int 2,.mv []):=by
  rw[ev,bE,v8,aA,bE,aA,aA];rfl
 have hWW:D.eqf 40 (.lst (iD W)) (.lst (iD W))=some true:=by
  have:=wK 38 W W;rw[cq] at this;exact this
 have c1:ev (T 5) cl1 Ee = .ok (.bl false,.mv []):=rm (vM (gZ (n:="tuple") (b:=true) v8 rfl)) (rm (ka (d:=.int 2) el2 (aJ _) rfl) (ka v6' v7' hWW));have ew:ev (T 5) (.call 9 (.cons f1 .nil)) Ee = .ok (.bl true,.mv []):=i9 x1 (wh 4 _);have c2:ev (T 5) cl2 Ee = .ok (.bl false,.mv []):=rm (vM (gZ (n:="list") (b:=true) x0 rfl)) (rm (ka x0 v1' (Dc P)) (vM ew));have elv:=mh v2';rw[iN] at elv;have c3:=uM x1 (jT (y:=2) elv (aJ (.int 2)));rw[bj rfl] at c3;have hit0:∃ R,gY (T 5) (.seq f0) Ee = .ok (P.map pD,R):=by
  rw[gY,x0,aA];exact⟨_,rfl⟩
 obtain⟨R1,hit0⟩:=hit0;have ec:=tB (own:=1) (pick:=[]) (t:=.nm 0) (e:=.call 9 (.cons (.ix (.var 0) (.cst (.int (0)))) .nil)) (r:=fun _=>D.bl true) hit0 (by omega) (fun p hp=>by
  have hb:bR [] (.nm 0) (pD p) (cN Ee 1 [])=some [some (pD p,.own)]:=rfl;rw[hb];refine DG ?_;exact i9 (uo (i:=0) (aG (T:=T 5) (env:=[some (pD p,.own)]) (i:=0) (d:=pD p) (t:=.own) rfl rfl) (aJ _) rfl rfl) (wh 4 _))
 have ea:ev (T 5) eAl Ee = .ok (.bl true,.mv []):=wF ec;have er:ev (T 5) (.and (.cmp .Eq f1 (.bin .Add (.blt .len (.cons (.var 2) .nil)) (.cst (.int (2))))) eAl) Ee = .ok (.bl true,.mv []):=by
  rw[ev,c3,aA];exact ea
 unfold Dg;rw[aH,g7,aF,aH,g8,aF,aH,ite_ff c1,aF,aH,ite_ff c2,aF];exact kE er
end K03
end
section
namespace K03
open PySem PySem.Spec PyProof.Rows L2 Pc Pc.Ct Pc.Gn Pc.Rd
section
variable {P:Program}{w:World}{K:Frag}{mg:Str->Option Value}{base:Heap}
theorem t8 {T:Tb}{d0:D}{r:D×Bool}(h:ret (aH T b1 (aR [d0] 6)) = .ok r):(∃ q,T.cl 0 [.lst []] = .ok q)/\gP [d0]=some r.1:=by
 have hst:aR [d0] 6=[some (d0,bH d0 []),none,none,none,none,none]:=rfl;rw[hst] at h;have el:ev T (.lst .nil) [some (d0,bH d0 []),none,none,none,none,none] = .ok (.lst [],.mv []):=by rw[ev,bE];rfl
 unfold b1 at h;cases hq:T.cl 0 [.lst []] with
 |ok q =>
  refine⟨⟨q,rfl⟩,?_⟩;have ec:∃ R,ev T (.call 0 (.cons (.lst .nil) .nil)) [some (d0,bH d0 []),none,none,none,none,none] = .ok (q.1,R):=by
   rw[ev,bE,el,aA,bE,aA,aA];show ∃ R,(T.cl 0 [.lst []]).bind _=_;rw[hq];exact⟨_,rfl⟩
  obtain⟨R,ec⟩:=ec;have g1:bZ T (.expr (.call 0 (.cons (.lst .nil) .nil))) [some (d0,bH d0 []),none,none,none,none,none] = .nx [some (d0,bH d0 []),none,none,none,none,none]:=by
   rw[bZ,ec,bM]
  obtain⟨R0,v0⟩:∃ R,ev T (.var 0) [some (d0,bH d0 []),none,none,none,none,none] = .ok (d0,R):=by
   unfold ev bH;dsimp only[List.getElem?_cons_zero];split<;>exact⟨_,rfl⟩
  rw[aH,g1,aF,aH] at h;cases hg:gP [d0] with
  |none =>
   have e2:ev T (.app gP (.cons (.var 0) .nil)) [some (d0,bH d0 []),none,none,none,none,none] = .bad:=by
    rw[ev,bE,v0,aA,bE,aA,aA];show (fT (gP [d0])).bind _=_;rw[hg];rfl
   rw[bZ,e2] at h;cases h
  |some d =>
   have e2:ev T (.app gP (.cons (.var 0) .nil)) [some (d0,bH d0 []),none,none,none,none,none] = .ok (d,.mv []):=by
    rw[ev,bE,v0,aA,bE,aA,aA];show (fT (gP [d0])).bind _=_;rw[hg];rfl
   rw[bZ,e2,bM] at h;cases h;rfl
 |bad =>
  have ec:ev T (.call 0 (.cons (.lst .nil) .nil)) [some (d0,bH d0 []),none,none,none,none,none] = .bad:=by
   rw[ev,bE,el,aA,bE,aA,aA];show (T.cl 0 [.lst []]).bind _=_;rw[hq];rfl
  rw[aH,bZ,ec] at h;cases h
 |exc e =>
  have ec:ev T (.call 0 (.cons (.lst .nil) .nil)) [some (d0,bH d0 []),none,none,none,none,none] = .exc e:=by
   rw[ev,bE,el,aA,bE,aA,aA];show (T.cl 0 [.lst []]).bind _=_;rw[hq];rfl
  rw[aH,bZ,ec] at h;cases h
theorem A5 {d0 d:D}(h:gP [d0]=some d):∃ bs q,d0 = .lst (bs.map .int)/\sZ bs=true/\bs.length<=10000/\xu bs=some q/\d=outD q:=by
 cases d0 with
 |lst xs =>
  have h:(match eQ xs with
   |some bs=>if sZ bs&&decide (bs.length<=10000) then (xu bs).map outD else none
   |none=>none)=some d:=h
  cases hk:eQ xs with
  |none=>rw[hk] at h;cases h
  |some bs =>
   rw[hk] at h;dsimp only at h;by_cases hc:(sZ bs&&decide (bs.length<=10000))=true
   ·rw[if_pos hc,aa] at h;obtain⟨q,hq,rfl⟩:=h;rw[aj] at hc;exact⟨bs,q,by rw[cZ hk],hc.1,cw hc.2,hq,rfl⟩
   ·rw[if_neg hc] at h;cases h
 |_=>cases h
theorem lP {H:Hp}:∀{bs:List Int}{vs:List V}{G:List Addr},aD K H (bs.map D.int) vs G->vs=bs.map V.int
 |[],vs,G,h=>by cases h;rfl
 | b::bs,vs,G,h=>by
  cases h with
  |cons h r =>
   obtain⟨rfl,_⟩:=h.int_inv;rw[lP r];rfl
theorem xE {RP:Around->Prop}{n k:Nat}{f:Addr}{fd:FuncData}{ps:List Str}{sp:Sp}{r:List D->Rs (D×Bool)}(F:cR P w K mg base (kM P w) RP f fd ps sp)(hr:∀ A,eT n A->RP A)(h:∀ vs H Q E,ti K k r vs H Q E->sp vs H Q fun _ _ _=>False)(hk:ps.length=k):jh P w K mg base uO n f fd ps (ti K k r):=by
 refine⟨fun vs H Q E hs=>by rw[hk];exact ir hs,fun A outer s H args us vs Q E hA he hb hv hs=>?_⟩;refine codeAny_mono (F.run A outer s H args us vs Q _ (hr A hA) he hb hv (h vs H Q E hs)) fun r s' hq=>?_
 cases r with
 |error e =>
  obtain⟨_,_,_,_,_,_,_,_,_,_,_,_,z⟩:=hq;exact z.elim
 |ok fl =>
  cases fl with
  |ret u=>exact hq
  |next=>exact False.elim hq
  |brk=>exact False.elim hq
  |cont=>exact False.elim hq
end
end K03
end
section
namespace K03
open PySem PySem.Spec PyProof.Rows L2 Pc
noncomputable def fH:List Str:=["range","len","isinstance","int","bool","list","tuple","min","str","all","sum"]
noncomputable def pN:List Str:=["END","FIGURES","KIND_SIGNS","SIGN_BITS","KIND_BITS","COUNT_BITS","FIGURE_BITS","FIGURE_GREATEST","MOST_FIGURES"]
noncomputable def df0:Df:=⟨"number_of",st 1,["bits"],["bits","number","bit"],b0⟩
noncomputable def df1:Df:=⟨"read_pieces",st 16,["bits"],["bits","reader","pieces","kind","count","signs"],b1⟩
noncomputable def df2:Df:=⟨"_law_mix",st 20,["_law_cell","_law_k","_law_factor"],["_law_cell","_law_k","_law_factor"],b2⟩
noncomputable def df3:Df:=⟨"_law_all",st 21,[],["_law_some"],b3⟩
noncomputable def df4:Df:=⟨"_law_known",st 22,["_law_kind"],["_law_kind"],b4⟩
noncomputable def df5:Df:=⟨"_law_signs",st 23,["_law_kind","_law_m","_law_count"],["_law_kind","_law_m","_law_count","_law_some","_law_signs_here","_law_k"],b5⟩
noncomputable def df6:Df:=⟨"_law_bits",st 24,["_law_number","_law_width"],["_law_number","_law_width","_law_bits_here","_law_k"],b6⟩
noncomputable def df7:Df:=⟨"_law_piece_bits",st 25,["_law_kind","_law_signs_here"],["_law_kind","_law_signs_here","_law_bits_here","_law_sign","_law_k","_law_group"],b7⟩
noncomputable def df8:Df:=⟨"_law_pieces",st 26,["_law_cells"],["_law_cells","_law_pieces_here","_law_signs_here","_law_k","_law_m","_law_count"],b8⟩
noncomputable def df9:Df:=⟨"_law_whole",st 27,["_law_thing"],["_law_thing"],b9⟩
noncomputable def df10:Df:=⟨"_law_tail",st 28,["_law_m"],["_law_m","_law_bits_here","_law_k"],b10⟩
noncomputable def Cs:Df:=⟨"law",st 29,["_law_script"],["_law_script","_law_pieces_here","_law_bits_here","_law_kind","_law_signs_here","_law_m","_law_handed","_law_kept","_law_found"],Cy⟩
noncomputable def p:Pg:=⟨[df0,df1,df2,df3,df4,df5,df6,df7,df8,df9,df10,Cs],pN,fH,gl,1000⟩
noncomputable def fgn:List Str:=["read_pieces"]
theorem ok:r9 (Df.OkX p fgn) p.dfs:=by
 refine⟨?a0,?a1,?a2,?a3,?a4,?a5,?a6,?a7,?a8,?a9,?a10,?a11,trivial⟩
 case a0 | a4 | a8 | a9 | a10 | a11=>exact .inl (Df.ok_of (n:=60) (by decide +kernel) rfl (fun _ _ _ _ _ _ us hl=>@Av (fun us=>bindArgs _ ⟨us,[]⟩=pure (List.zip _ us)) us hl (fun _=>rfl)))
 case a1=>exact .inr ⟨(fun _ _ _ _ _ _ us hl=>@Av (fun us=>bindArgs _ ⟨us,[]⟩=pure (List.zip _ us)) us hl (fun _=>rfl)),.head _⟩
 case a2 | a5=>exact .inl (Df.ok_of (n:=60) (by decide +kernel) rfl (fun _ _ _ _ _ _ us hl=>@BV (fun us=>bindArgs _ ⟨us,[]⟩=pure (List.zip _ us)) us hl (fun _ _ _=>rfl)))
 case a3=>exact .inl (Df.ok_of (n:=60) (by decide +kernel) rfl (fun _ _ _ _ _ _ us hl=>@len0 (fun us=>bindArgs _ ⟨us,[]⟩=pure (List.zip _ us)) us hl rfl))
 case a6 | a7=>exact .inl (Df.ok_of (n:=60) (by decide +kernel) rfl (fun _ _ _ _ _ _ us hl=>@uq (fun us=>bindArgs _ ⟨us,[]⟩=pure (List.zip _ us)) us hl (fun _ _=>rfl)))
theorem plaw (ns:List Int)(hl:ns.length<=63):∃ fr,p.run 6 11 [.lst (ns.map D.int)] = .ok (.bl true,fr):=law ns hl
noncomputable def dF:Df:=⟨"read_figures",st 17,["reader","count"],["reader","count","signs","together","number"],.nil⟩
noncomputable def dS:Df:=⟨"read_signs",st 18,["reader","kind","count"],["reader","kind","count","signs","number"],.nil⟩
section
open Pc.Gn Pc.Rd
variable {P:Program}{w:World}{K:Frag}{mg:Str->Option Value}{base h:Heap}
theorem g3p (c:Nat->List D->Rs (D×Bool)):rf ⟨c,p.gl,p.fuel⟩:=fun i hi=>by
 match i,hi with
 |0,_=>rfl
 |1,_=>rfl
 |2,_=>rfl
 |3,_=>rfl
 |4,_=>rfl
 |5,_=>rfl
 |6,_=>rfl
 |7,_=>rfl
 |8,_=>rfl
theorem Bw:qz p P w K mg base 0:=by
 intro i d hd f fd F;refine⟨fun vs H Q E h=>ir h,fun A outer s H args us vs Q E hr he hb hv hs=>?_⟩;obtain⟨ds,G,_,_,r,h,_⟩:=hs;cases h
structure Rds (K:Frag)(mg:Str->Option Value)(C fI fN fF fS cT:Addr)(fdI fdN fdF fdS:FuncData):Prop where
 k:BM K mg C fI fN fdI fdN cT
 FF:L2.kL K "read_figures" "read_figures" (st 17) fF fdF
 mF:mg "read_figures" = some (.ref fF)
 bF:Binds K fdF ["reader","count"] []
 FS:L2.kL K "read_signs" "read_signs" (st 18) fS fdS
 mS:mg "read_signs" = some (.ref fS)
 bS:Binds K fdS ["reader","kind","count"] []
theorem foreign (I:p.In K mg)(hH:sY w K)(hh:∃ C fI fN fF fS cT fdI fdN fdF fdS,Rds K mg C fI fN fF fS cT fdI fdN fdF fdS):mG p fgn P w K mg base:=by
 obtain⟨C,fI,fN,fF,fS,cT,fdI,fdN,fdF,fdS,hh⟩:=hh;intro n i d hd hn ih f fd F;have e1:∀ j,j<12->j≠1->(p.dfs[j]?.all fun e=>e.nm != ("read_pieces" : Str))=true:=by decide +kernel
 have hi:i=1:=Classical.byContradiction fun z=>by
  have:=e1 i (List.getElem?_eq_some_iff.mp hd).1 z;rw[hd] at this;have hn:=eg.mp hn;rw[Option.all_some,hn] at this;exact absurd this (by decide)
 subst hi;cases hd;have inv:∀{m:Nat}{ds:List D}{r:D×Bool},ds.length=1->p.run (m+1) 1 ds = .ok r->(∃ q,p.run m 0 [.lst []] = .ok q)/\∃ bs q,ds=[.lst (bs.map .int)]/\sZ bs=true/\bs.length<=10000/\xu bs=some q/\r.1=outD q:=fun {m ds r} hl hrun=>by
  match ds,hl with
  |[d0],_ =>
   obtain⟨h1,h2⟩:=t8 ((dC (F:=⟨1,6,b1⟩) rfl rfl).symm.trans hrun);obtain⟨bs,q,rfl,a1,a2,a3,a4⟩:=A5 h2;exact⟨h1,bs,q,rfl,a1,a2,a3,a4⟩
 cases n with
 |zero =>
  refine⟨fun vs H Q E h=>ir h,fun A outer s H args us vs Q E hr he hb hv hs=>?_⟩;obtain⟨ds,G,hl,_,r,hrun,_⟩:=hs;obtain⟨⟨q,hq⟩,_⟩:=inv hl hrun;cases hq
 |succ n =>
  obtain⟨f0,fd0,F0,M0⟩:=I.fn 0 df0 rfl;have B0:=F0.binds (cW ok df0 (List.mem_of_getElem? (i:=0) rfl)).bd;have FI:=wx (P:=P) (w:=w) (base:=base) hh.k (fY (p:=p) (d:=⟨"__init__",stM 0,["self","bits"],["self","bits"],.nil⟩) (n:=60) (by decide +kernel));have FN:=BG (P:=P) (w:=w) (base:=base) (r:=p.run (n+1) 0) hh.k (fY (p:=p) (d:=⟨"read_number",stM 1,["self","count"],["self","count","end","number"],.nil⟩) (n:=60) (by decide +kernel)) (ih 0 df0 rfl f0 fd0 F0) F0.kp B0 M0 (fun l=>(dC (F:=⟨1,3,b0⟩) rfl rfl).trans (yN l)) (I.blt "len" (by decide));have SF:=fY (p:=p) (d:=dF) (n:=60) (by decide +kernel);have SS:=fY (p:=p) (d:=dS) (n:=60) (by decide +kernel);have SP:=fY (p:=p) (d:=df1) (n:=60) (by decide +kernel);have FF:=wb hh.k hh.FF SF FN (fun cdv A outer s H E r=>pM (n:=0) (p:=p) (cW ok) I hH Bw SF (gJ.room ((gJ.mono r (a':=6) (b':=203) (by omega) (by omega)).deeper _))) (g3p _) (I.blt "str" (by decide));have FS:=wg hh.k hh.FS SS FN (fun cdv A outer s H E r=>pM (n:=0) (p:=p) (cW ok) I hH Bw SS (gJ.room ((gJ.mono r (a':=6) (b':=203) (by omega) (by omega)).deeper _))) (g3p _);have FP:=rA (by omega) (by omega) hh.k F SP FI FN FF hh.FF.kp hh.bF hh.mF FS hh.FS.kp hh.bS hh.mS (fun cdv A outer s H E r=>pM (n:=0) (p:=p) (cW ok) I hH Bw SP (gJ.room ((gJ.mono r (a':=6) (b':=203) (by omega) (by omega)).deeper _))) (g3p _);refine xE FP (fun A r=>⟨r.hd,by have:=r.dp;omega,by have:=r.un;omega⟩) (fun vs H Q E hs=>?_) rfl;obtain⟨ds,G,hl,rs,r,hrun,kk⟩:=hs;obtain⟨_,bs,q,rfl,a1,a2,a3,a4⟩:=inv hl hrun;obtain⟨v,rfl,rp⟩:=rs.of1;obtain⟨l,vs,g,rfl,rfl,h1,h2⟩:=rp.lst_inv;rw[lP h2] at h1;refine⟨l,bs,rfl,h1,a2,a1,?_⟩;rw[a3];exact fun v H' G' sm rp hG nd=>kk v H' G' sm (by rw[a4];exact rp) (fun a ha=>.inl (hG a ha).1) (fun _=>⟨nd,hG⟩)
end
theorem bdI (kV doc pm:Value)(an:Option Addr)(cdv ct:Value)(us:List Value)(hl:us.length=2):bindArgs (PySem.W.fnOf "__init__" "BitReader.__init__" (bU (stM 0)) (aY (stM 0)) (aC (stM 0)) .none kV doc pm an cdv ct) ⟨us,[]⟩=pure ([("self" : Str),"bits"].zip us) :=
 @uq (fun us=>bindArgs _ ⟨us,[]⟩=pure (List.zip _ us)) us hl (fun _ _=>rfl)
theorem bdN (kV doc pm:Value)(an:Option Addr)(cdv ct:Value)(us:List Value)(hl:us.length=2):bindArgs (PySem.W.fnOf "read_number" "BitReader.read_number" (bU (stM 1)) (aY (stM 1)) (aC (stM 1)) .none kV doc pm an cdv ct) ⟨us,[]⟩=pure ([("self" : Str),"count"].zip us) :=
 @uq (fun us=>bindArgs _ ⟨us,[]⟩=pure (List.zip _ us)) us hl (fun _ _=>rfl)
theorem bdF (kV doc pm:Value)(an:Option Addr)(cdv ct:Value)(us:List Value)(hl:us.length=2):bindArgs (PySem.W.fnOf "read_figures" "read_figures" (bU (st 17)) (aY (st 17)) (aC (st 17)) .none kV doc pm an cdv ct) ⟨us,[]⟩=pure ([("reader" : Str),"count"].zip us) :=
 @uq (fun us=>bindArgs _ ⟨us,[]⟩=pure (List.zip _ us)) us hl (fun _ _=>rfl)
theorem bdS (kV doc pm:Value)(an:Option Addr)(cdv ct:Value)(us:List Value)(hl:us.length=3):bindArgs (PySem.W.fnOf "read_signs" "read_signs" (bU (st 18)) (aY (st 18)) (aC (st 18)) .none kV doc pm an cdv ct) ⟨us,[]⟩=pure ([("reader" : Str),"kind","count"].zip us) :=
 @BV (fun us=>bindArgs _ ⟨us,[]⟩=pure (List.zip _ us)) us hl (fun _ _ _=>rfl)
end K03
namespace K03
open PySem PySem.W Pc.Hd
noncomputable def K (P:Params):Frag:=[(2,{ cls:=Value.none,data:=Data.dict #[] }),
 di 3 #[kv P "__name__" 165 (sv "law_patchsquare_k03_pieces_read" 340),kv P "__doc__" 166 .none,kv P "__package__" 167 .none,kv P "__loader__" 168 (.builtin "__main__.__loader__#opaque"),kv P "__spec__" 169 .none,kv P "__annotations__" 170 (.ref 6),kv P "__builtins__" 171 (.ref 4),kv P "__file__" 173 (sv "/claim/cut.py" 172),kv P "__cached__" 174 .none,kv P "number_of" 197 (.ref 21),kv P "SquareError" 217 (.ref 31),kv P "NoText" 233 (.ref 44),kv P "END" 237 (.int 0 236),kv P "FIGURES" 239 (.int 1 238),kv P "KIND_SIGNS" 244 (.ref 47),kv P "SIGN_BITS" 249 (.ref 48),kv P "KIND_BITS" 251 (.int 2 250),kv P "COUNT_BITS" 253 (.int 6 252),kv P "FIGURE_BITS" 258 (.ref 49),kv P "FIGURE_GREATEST" 263 (.ref 50),kv P "MOST_FIGURES" 265 (.int 3 264),kv P "BitReader" 305 (.ref 74),kv P "read_pieces" 317 (.ref 85),kv P "read_figures" 328 (.ref 92),kv P "read_signs" 339 (.ref 99),kv P "_law_mix" 350 (.ref 106),kv P "_law_all" 357 (.ref 113),kv P "_law_known" 364 (.ref 120),kv P "_law_signs" 376 (.ref 127),kv P "_law_bits" 386 (.ref 134),kv P "_law_piece_bits" 398 (.ref 141),kv P "_law_pieces" 410 (.ref 148),kv P "_law_whole" 417 (.ref 155),kv P "_law_tail" 426 (.ref 162),kv P "law" 432 (.ref 167)] 35,
 di 6 #[] 0,
 co 20 #[(sv "number_of" 189),(sv "number_of" 190),(sv "/claim/cut.py" 191),(.int 2 0),(.int 1 0),(.int 0 0),(.int 0 0),(.int 3 0),(.ref 15),(.bool true),(.int 181 0),(.ref 16),.none,(.ref 17),(.ref 18),(.ref 19),(.int 195 0),(.int 2 0),(sv "/claim/cut.py" 196)],
 fo 21 (st 1) (sv "patchsquare.bits" 187) (.ref 20),
 tu 22 #[(.type "ValueError")],
 tu 29 #[],
 di 30 #[kv P "__module__" 207 (sv "patchsquare.errors" 198),kv P "__firstlineno__" 211 (.int 8 210),kv P "__static_attributes__" 212 (.ref 29),kv P "__weakref__" 214 (.ref 32),kv P "__doc__" 215 .none] 3,
 (31,{ cls:=Value.type "type",data:=Data.cls { name:=Str.ofString "SquareError",bases:=[Value.type "ValueError"],mro:=[Value.ref 31,Value.type "ValueError",Value.type "Exception",Value.type "BaseException",Value.type "object"],ns:=30,qualname:=Str.ofString "SquareError",subclasses:=[Value.ref 44] },slots:=#[some (Value.ref 22),none,some (Value.str (Str.ofString "SquareError") 200),some (Value.str (Str.ofString "SquareError") 208),some (Value.builtin "ValueError.__new__"),some (Value.bool true)] }),
 (32,{ cls:=Value.type "getset_descriptor",data:=Data.fields #[Value.str (Str.ofString "__weakref__") 213,Value.ref 31,Value.builtin "ExceptionGroup.__weakref__",Value.none] }),
 tu 35 #[(.ref 31)],
 tu 42 #[],
 di 43 #[kv P "__module__" 225 (sv "patchsquare.errors" 198),kv P "__firstlineno__" 229 (.int 10 228),kv P "__static_attributes__" 230 (.ref 42),kv P "__doc__" 231 .none] 2,
 (44,{ cls:=Value.type "type",data:=Data.cls { name:=Str.ofString "NoText",bases:=[Value.ref 31],mro:=[Value.ref 44,Value.ref 31,Value.type "ValueError",Value.type "Exception",Value.type "BaseException",Value.type "object"],ns:=43,qualname:=Str.ofString "NoText" },slots:=#[some (Value.ref 35),none,some (Value.str (Str.ofString "NoText") 218),some (Value.str (Str.ofString "NoText") 226),some (Value.builtin "ValueError.__new__"),some (Value.bool true)] }),
 tu 47 #[(sv "" 240),(sv "0123456789" 241),(sv " ABCDEFGHIJKLMNOPQRSTUVWXYZ.,-:/" 242),(sv " !\"#$&'()*+,-./0123456789:;<=>?@ABCDEFGHIJKLMNOPQRSTUVWXYZ[\\]^_`abcdefghijklmnopqrstuvwxyz{|}~" 243)],
 tu 48 #[(.int 0 245),(.int 0 246),(.int 5 247),(.int 7 248)],
 tu 49 #[(.int 0 254),(.int 4 255),(.int 7 256),(.int 10 257)],
 tu 50 #[(.int 0 259),(.int 9 260),(.int 99 261),(.int 999 262)],
 co 63 #[(sv "__init__" 278),(sv "BitReader.__init__" 279),(sv "/claim/cut.py" 280),(.int 24 0),(.int 2 0),(.int 0 0),(.int 0 0),(.int 3 0),(.ref 58),(.bool true),(.int 181 0),(.ref 59),.none,(.ref 60),(.ref 61),(.ref 62),(.int 283 0),(.int 24 0),(sv "/claim/cut.py" 284)],
 (64,{ cls:=Value.type "function",data:=Data.func { name:=Str.ofString "__init__",qualname:=Str.ofString "BitReader.__init__",params:={ posonlyargs:=[],args:=[{ arg:=Str.ofString "self",annotation:=none,pos:={ line:=24,col:=17,endLine:=24,endCol:=21 } },{ arg:=Str.ofString "bits",annotation:=none,pos:={ line:=24,col:=23,endLine:=24,endCol:=27 } }],vararg:=none,kwonlyargs:=[],kw_defaults:=[],kwarg:=none,defaults:=[] },body:=FuncBody.stmts [Stmt.Assign [(Expr.Name (Str.ofString "self") { line:=25,col:=8,endLine:=25,endCol:=12 }).Attribute (Str.ofString "bits") { line:=25,col:=8,endLine:=25,endCol:=17 }] (Expr.Name (Str.ofString "bits") { line:=25,col:=20,endLine:=25,endCol:=24 }) { line:=25,col:=8,endLine:=25,endCol:=24 },Stmt.Assign [(Expr.Name (Str.ofString "self") { line:=26,col:=8,endLine:=26,endCol:=12 }).Attribute (Str.ofString "place") { line:=26,col:=8,endLine:=26,endCol:=18 }] (Expr.Constant (Const.int 0) 0 { line:=26,col:=21,endLine:=26,endCol:=22 }) { line:=26,col:=8,endLine:=26,endCol:=22 }],scope:={ kind:=ScopeKind.function,names:=[(Str.ofString "self",NameKind.local),(Str.ofString "bits",NameKind.local)],isGenerator:=false,isCoroutine:=false },globals:=3,closure:=[],defaults:=Value.none,kwdefaults:=Value.none,pyModule:=Value.str (Str.ofString "patchsquare.pieces") 234,code:=Value.ref 63 } }),
 co 70 #[(sv "read_number" 286),(sv "BitReader.read_number" 287),(sv "/claim/cut.py" 288),(.int 28 0),(.int 2 0),(.int 0 0),(.int 0 0),(.int 3 0),(.ref 65),(.bool true),(.int 181 0),(.ref 66),.none,(.ref 67),(.ref 68),(.ref 69),(.int 293 0),(.int 28 0),(sv "/claim/cut.py" 294)],
 (71,{ cls:=Value.type "function",data:=Data.func { name:=Str.ofString "read_number",qualname:=Str.ofString "BitReader.read_number",params:={ posonlyargs:=[],args:=[{ arg:=Str.ofString "self",annotation:=none,pos:={ line:=28,col:=20,endLine:=28,endCol:=24 } },{ arg:=Str.ofString "count",annotation:=none,pos:={ line:=28,col:=26,endLine:=28,endCol:=31 } }],vararg:=none,kwonlyargs:=[],kw_defaults:=[],kwarg:=none,defaults:=[] },body:=FuncBody.stmts [Stmt.Assign [Expr.Name (Str.ofString "end") { line:=29,col:=8,endLine:=29,endCol:=11 }] (((Expr.Name (Str.ofString "self") { line:=29,col:=14,endLine:=29,endCol:=18 }).Attribute (Str.ofString "place") { line:=29,col:=14,endLine:=29,endCol:=24 }).BinOp Operator.Add (Expr.Name (Str.ofString "count") { line:=29,col:=27,endLine:=29,endCol:=32 }) { line:=29,col:=14,endLine:=29,endCol:=32 }) { line:=29,col:=8,endLine:=29,endCol:=32 },Stmt.If ((Expr.Name (Str.ofString "end") { line:=30,col:=11,endLine:=30,endCol:=14 }).Compare [CmpOp.Gt] [(Expr.Name (Str.ofString "len") { line:=30,col:=17,endLine:=30,endCol:=20 }).Call [(Expr.Name (Str.ofString "self") { line:=30,col:=21,endLine:=30,endCol:=25 }).Attribute (Str.ofString "bits") { line:=30,col:=21,endLine:=30,endCol:=30 }] [] { line:=30,col:=17,endLine:=30,endCol:=31 }] { line:=30,col:=11,endLine:=30,endCol:=31 }) [Stmt.Raise (some ((Expr.Name (Str.ofString "NoText") { line:=31,col:=18,endLine:=31,endCol:=24 }).Call [Expr.Constant (Const.str (Str.ofString "bits are lacking ahead of the end")) 0 { line:=31,col:=25,endLine:=31,endCol:=60 }] [] { line:=31,col:=18,endLine:=31,endCol:=61 })) none { line:=31,col:=12,endLine:=31,endCol:=61 }] [] { line:=30,col:=8,endLine:=31,endCol:=61 },Stmt.Assign [Expr.Name (Str.ofString "number") { line:=32,col:=8,endLine:=32,endCol:=14 }] ((Expr.Name (Str.ofString "number_of") { line:=32,col:=17,endLine:=32,endCol:=26 }).Call [((Expr.Name (Str.ofString "self") { line:=32,col:=27,endLine:=32,endCol:=31 }).Attribute (Str.ofString "bits") { line:=32,col:=27,endLine:=32,endCol:=36 }).Subscript (Expr.Slice (some ((Expr.Name (Str.ofString "self") { line:=32,col:=37,endLine:=32,endCol:=41 }).Attribute (Str.ofString "place") { line:=32,col:=37,endLine:=32,endCol:=47 })) (some (Expr.Name (Str.ofString "end") { line:=32,col:=48,endLine:=32,endCol:=51 })) none { line:=32,col:=37,endLine:=32,endCol:=51 }) { line:=32,col:=27,endLine:=32,endCol:=52 }] [] { line:=32,col:=17,endLine:=32,endCol:=53 }) { line:=32,col:=8,endLine:=32,endCol:=53 },Stmt.Assign [(Expr.Name (Str.ofString "self") { line:=33,col:=8,endLine:=33,endCol:=12 }).Attribute (Str.ofString "place") { line:=33,col:=8,endLine:=33,endCol:=18 }] (Expr.Name (Str.ofString "end") { line:=33,col:=21,endLine:=33,endCol:=24 }) { line:=33,col:=8,endLine:=33,endCol:=24 },Stmt.Return (some (Expr.Name (Str.ofString "number") { line:=34,col:=15,endLine:=34,endCol:=21 })) { line:=34,col:=8,endLine:=34,endCol:=21 }],scope:={ kind:=ScopeKind.function,names:=[(Str.ofString "self",NameKind.local),(Str.ofString "count",NameKind.local),(Str.ofString "end",NameKind.local),(Str.ofString "number",NameKind.local),(Str.ofString "len",NameKind.globalImplicit),(Str.ofString "NoText",NameKind.globalImplicit),(Str.ofString "number_of",NameKind.globalImplicit)],isGenerator:=false,isCoroutine:=false },globals:=3,closure:=[],defaults:=Value.none,kwdefaults:=Value.none,pyModule:=Value.str (Str.ofString "patchsquare.pieces") 234,code:=Value.ref 70 } }),
 tu 72 #[(sv "bits" 296),(sv "place" 297)],
 di 73 #[kv P "__module__" 273 (sv "patchsquare.pieces" 234),kv P "__firstlineno__" 277 (.int 22 276),kv P "__init__" 285 (.ref 64),kv P "read_number" 295 (.ref 71),kv P "__static_attributes__" 298 (.ref 72),kv P "__dict__" 300 (.ref 75),kv P "__weakref__" 302 (.ref 76),kv P "__doc__" 303 .none] 4,
 (74,{ cls:=Value.type "type",data:=Data.cls { name:=Str.ofString "BitReader",bases:=[Value.type "object"],mro:=[Value.ref 74,Value.type "object"],ns:=73,qualname:=Str.ofString "BitReader" },slots:=#[none,none,some (Value.str (Str.ofString "BitReader") 266),some (Value.str (Str.ofString "BitReader") 274),some (Value.builtin "object.__new__"),some (Value.bool true)] }),
 (75,{ cls:=Value.type "getset_descriptor",data:=Data.fields #[Value.str (Str.ofString "__dict__") 299,Value.ref 74,Value.builtin "function.__dict__",Value.builtin "function.__dict__#set"] }),
 (76,{ cls:=Value.type "getset_descriptor",data:=Data.fields #[Value.str (Str.ofString "__weakref__") 301,Value.ref 74,Value.builtin "ExceptionGroup.__weakref__",Value.none] }),
 co 84 #[(sv "read_pieces" 306),(sv "read_pieces" 307),(sv "/claim/cut.py" 308),(.int 35 0),(.int 1 0),(.int 0 0),(.int 0 0),(.int 3 0),(.ref 79),(.bool true),(.int 181 0),(.ref 80),.none,(.ref 81),(.ref 82),(.ref 83),(.int 315 0),(.int 35 0),(sv "/claim/cut.py" 316)],
 fo 85 (st 16) (sv "patchsquare.pieces" 234) (.ref 84),
 co 91 #[(sv "read_figures" 318),(sv "read_figures" 319),(sv "/claim/cut.py" 320),(.int 45 0),(.int 2 0),(.int 0 0),(.int 0 0),(.int 3 0),(.ref 86),(.bool true),(.int 181 0),(.ref 87),.none,(.ref 88),(.ref 89),(.ref 90),(.int 326 0),(.int 45 0),(sv "/claim/cut.py" 327)],
 fo 92 (st 17) (sv "patchsquare.pieces" 234) (.ref 91),
 co 98 #[(sv "read_signs" 329),(sv "read_signs" 330),(sv "/claim/cut.py" 331),(.int 54 0),(.int 3 0),(.int 0 0),(.int 0 0),(.int 3 0),(.ref 93),(.bool true),(.int 181 0),(.ref 94),.none,(.ref 95),(.ref 96),(.ref 97),(.int 337 0),(.int 54 0),(sv "/claim/cut.py" 338)],
 fo 99 (st 18) (sv "patchsquare.pieces" 234) (.ref 98),
 co 105 #[(sv "_law_mix" 342),(sv "_law_mix" 343),(sv "/claim/cut.py" 344),(.int 63 0),(.int 3 0),(.int 0 0),(.int 0 0),(.int 3 0),(.ref 100),(.bool true),(.int 181 0),(.ref 101),.none,(.ref 102),(.ref 103),(.ref 104),(.int 348 0),(.int 63 0),(sv "/claim/cut.py" 349)],
 fo 106 (st 20) (sv "law_patchsquare_k03_pieces_read" 340) (.ref 105),
 co 112 #[(sv "_law_all" 351),(sv "_law_all" 352),(sv "/claim/cut.py" 353),(.int 65 0),(.int 0 0),(.int 0 0),(.int 0 0),(.int 3 0),(.ref 107),(.bool true),(.int 181 0),(.ref 108),.none,(.ref 109),(.ref 110),(.ref 111),(.int 355 0),(.int 65 0),(sv "/claim/cut.py" 356)],
 fo 113 (st 21) (sv "law_patchsquare_k03_pieces_read" 340) (.ref 112),
 co 119 #[(sv "_law_known" 358),(sv "_law_known" 359),(sv "/claim/cut.py" 360),(.int 68 0),(.int 1 0),(.int 0 0),(.int 0 0),(.int 3 0),(.ref 114),(.bool true),(.int 181 0),(.ref 115),.none,(.ref 116),(.ref 117),(.ref 118),(.int 362 0),(.int 68 0),(sv "/claim/cut.py" 363)],
 fo 120 (st 22) (sv "law_patchsquare_k03_pieces_read" 340) (.ref 119),
 co 126 #[(sv "_law_signs" 365),(sv "_law_signs" 366),(sv "/claim/cut.py" 367),(.int 74 0),(.int 3 0),(.int 0 0),(.int 0 0),(.int 3 0),(.ref 121),(.bool true),(.int 181 0),(.ref 122),.none,(.ref 123),(.ref 124),(.ref 125),(.int 374 0),(.int 74 0),(sv "/claim/cut.py" 375)],
 fo 127 (st 23) (sv "law_patchsquare_k03_pieces_read" 340) (.ref 126),
 co 133 #[(sv "_law_bits" 377),(sv "_law_bits" 378),(sv "/claim/cut.py" 379),(.int 81 0),(.int 2 0),(.int 0 0),(.int 0 0),(.int 3 0),(.ref 128),(.bool true),(.int 181 0),(.ref 129),.none,(.ref 130),(.ref 131),(.ref 132),(.int 384 0),(.int 81 0),(sv "/claim/cut.py" 385)],
 fo 134 (st 24) (sv "law_patchsquare_k03_pieces_read" 340) (.ref 133),
 co 140 #[(sv "_law_piece_bits" 387),(sv "_law_piece_bits" 388),(sv "/claim/cut.py" 389),(.int 87 0),(.int 2 0),(.int 0 0),(.int 0 0),(.int 3 0),(.ref 135),(.bool true),(.int 181 0),(.ref 136),.none,(.ref 137),(.ref 138),(.ref 139),(.int 396 0),(.int 87 0),(sv "/claim/cut.py" 397)],
 fo 141 (st 25) (sv "law_patchsquare_k03_pieces_read" 340) (.ref 140),
 co 147 #[(sv "_law_pieces" 399),(sv "_law_pieces" 400),(sv "/claim/cut.py" 401),(.int 97 0),(.int 1 0),(.int 0 0),(.int 0 0),(.int 3 0),(.ref 142),(.bool true),(.int 181 0),(.ref 143),.none,(.ref 144),(.ref 145),(.ref 146),(.int 408 0),(.int 97 0),(sv "/claim/cut.py" 409)],
 fo 148 (st 26) (sv "law_patchsquare_k03_pieces_read" 340) (.ref 147),
 co 154 #[(sv "_law_whole" 411),(sv "_law_whole" 412),(sv "/claim/cut.py" 413),(.int 109 0),(.int 1 0),(.int 0 0),(.int 0 0),(.int 3 0),(.ref 149),(.bool true),(.int 181 0),(.ref 150),.none,(.ref 151),(.ref 152),(.ref 153),(.int 415 0),(.int 109 0),(sv "/claim/cut.py" 416)],
 fo 155 (st 27) (sv "law_patchsquare_k03_pieces_read" 340) (.ref 154),
 co 161 #[(sv "_law_tail" 418),(sv "_law_tail" 419),(sv "/claim/cut.py" 420),(.int 111 0),(.int 1 0),(.int 0 0),(.int 0 0),(.int 3 0),(.ref 156),(.bool true),(.int 181 0),(.ref 157),.none,(.ref 158),(.ref 159),(.ref 160),(.int 424 0),(.int 111 0),(sv "/claim/cut.py" 425)],
 fo 162 (st 28) (sv "law_patchsquare_k03_pieces_read" 340) (.ref 161),
 co 166 #[(sv "law" 427),(sv "law" 428),(sv "/claim/cut.py" 429),(.int 117 0),(.int 1 0),(.int 0 0),(.int 0 0),(.int 3 0),(.ref 163),(.bool true),(.int 181 0),(.ref 164),.none,.none,.none,(.ref 165),(.int 430 0),(.int 117 0),(sv "/claim/cut.py" 431)],
 fo 167 (st 29) (sv "law_patchsquare_k03_pieces_read" 340) (.ref 166)]
noncomputable def as:List Addr:=[2,3,6,20,21,22,29,30,31,32,35,42,43,44,47,48,49,50,63,64,70,71,72,73,74,75,76,84,85,91,92,98,99,105,106,112,113,119,120,126,127,133,134,140,141,147,148,154,155,161,162,166,167]
noncomputable def Q:Program:={ PySem.Challenge.pw_patchsquare_k03_pieces_read with main:={ PySem.Challenge.pw_patchsquare_k03_pieces_read.main with body:=[st 1,st 3,st 4,st 6,st 7,st 8,st 9,st 10,st 11,st 12,st 13,st 14,st 15,st 16,st 17,st 18,st 20,st 21,st 22,st 23,st 24,st 25,st 26,st 27,st 28,st 29] } }
noncomputable def H:Hook:=kHook K as (fun _=>rfl)
end K03
open PySem PySem.W PyProof.Rows
theorem K03.left:LeftO PySem.Challenge.pw_patchsquare_k03_pieces_read K03.Q [] (fun s=>xlAt K03.Q [] s&&recOk (RowW.records PySem.Challenge.rw_patchsquare_k03_pieces_read.row.toRowW) s) (Hook.obs K03.H) (Hook.val K03.H) 2592:=by
 intro w
 kernel_rfl
theorem PySem.Challenge.cw_patchsquare_k03_pieces_read_holds : PySem.Challenge.rw_patchsquare_k03_pieces_read.Holds := by
 refine holds_law (by decide +kernel) fun said=>?_
 refine holds_open (q:=K03.Q) (loose:=[]) (XP:=XL K03.Q []) (YP:=Hook.says K03.H) K03.left (Hook.of K03.H) (Hook.keeps K03.H) (fun s e=>xl_of s (Bool.and_eq_true_iff.mp e).1) XL.keeps (by rfl) (by rfl) (by rfl) (fun s e=>recFacts_of (Bool.and_eq_true_iff.mp e).2) (by rfl) said (by decide +kernel) ⟨rfl,rfl,rfl,rfl,rfl,by decide +kernel⟩ ?hw ?hc
 case hw=>w_witness2
 refine Pc.B3 (l:=PySem.Challenge.rw_patchsquare_k03_pieces_read) K03.p K03.fgn 6 11 "_law_script" K03.Cs rfl rfl (fun w h Y=>PySem.W.kIn_of Y) rfl rfl rfl ⟨rfl,by decide,by decide⟩ K03.ok ?st ?nl ?hh ?hf K03.plaw
 case nl=>intro w;rfl
 case hh=>intro w;exact Pc.yX rfl
 case hf =>
  intro w mg h base KX G I;have FI:L2.kL (K03.K w.params) "__init__" "BitReader.__init__" (K03.stM 0) 64 _:=⟨⟨_,_,_,_,_,_,_,_,_,rfl,rfl,rfl⟩,rfl⟩;have FN:L2.kL (K03.K w.params) "read_number" "BitReader.read_number" (K03.stM 1) 71 _:=⟨⟨_,_,_,_,_,_,_,_,_,rfl,rfl,rfl⟩,rfl⟩;have FF:L2.kL (K03.K w.params) "read_figures" "read_figures" (K03.st 17) 92 _:=⟨⟨_,_,_,_,_,_,_,_,_,rfl,rfl,rfl⟩,rfl⟩;have FS:L2.kL (K03.K w.params) "read_signs" "read_signs" (K03.st 18) 99 _:=⟨⟨_,_,_,_,_,_,_,_,_,rfl,rfl,rfl⟩,rfl⟩;exact K03.foreign I (Pc.yX rfl) ⟨74,64,71,92,99,44,_,_,_,_,⟨⟨by kernel_rfl,by kernel_rfl,by kernel_rfl,by kernel_rfl⟩,by unfold L2.eR;kernel_rfl,by unfold L2.eR;kernel_rfl,⟨by kernel_rfl,by kernel_rfl,by kernel_rfl,by kernel_rfl⟩,⟨by kernel_rfl,by kernel_rfl,by kernel_rfl⟩,fk KX G rfl,FI,FN,FI.binds K03.bdI,FN.binds K03.bdN,fk KX G rfl,by kernel_rfl⟩,FF,fk KX G rfl,FF.binds K03.bdF,FS,fk KX G rfl,FS.binds K03.bdS⟩
 case st =>
  intro w;refine⟨⟨?d0,?d1,?d2,?d3,?d4,?d5,?d6,?d7,?d8,?d9,?d10,?d11,trivial⟩,Pc.wo ⟨?glb0,?glb1,?glb2,?glb3,?glb4,?glb5,?glb6,?glb7,?glb8,trivial⟩,⟨?e0,?e1,?e2,?e3,?e4,?e5,?e6,?e7,?e8,?e9,?e10,trivial⟩⟩
  case d0 | d1 | d2 | d3 | d4 | d5 | d6 | d7 | d8 | d9 | d10 | d11=>refine' Pc.AE ?a ?l ?c ?k;(case a=>rfl);(case l=>rfl);(case c=>rfl);(case k=>rfl)
  case glb0=>refine' Pc.gl_int (i:=0) ?ga0;(case ga0=>rfl)
  case glb1=>refine' Pc.gl_int (i:=1) ?ga1;(case ga1=>rfl)
  case glb2=>refine' Pc.me (ds:=[.str ("" : PySem.Str),.str ("0123456789" : PySem.Str),.str (" ABCDEFGHIJKLMNOPQRSTUVWXYZ.,-:/" : PySem.Str),.str (" !\"#$&'()*+,-./0123456789:;<=>?@ABCDEFGHIJKLMNOPQRSTUVWXYZ[\\]^_`abcdefghijklmnopqrstuvwxyz{|}~" : PySem.Str)]) (vs:=[.str ("" : PySem.Str),.str ("0123456789" : PySem.Str),.str (" ABCDEFGHIJKLMNOPQRSTUVWXYZ.,-:/" : PySem.Str),.str (" !\"#$&'()*+,-./0123456789:;<=>?@ABCDEFGHIJKLMNOPQRSTUVWXYZ[\\]^_`abcdefghijklmnopqrstuvwxyz{|}~" : PySem.Str)]) ?ga2 ?gl2 ?gc2 ?gz2 ?gv2 ?gr2;(case ga2=>rfl);(case gl2=>rfl);(case gc2=>rfl);(case gz2=>decide);(case gv2=>exact (.cons ⟨_,rfl⟩ (.cons ⟨_,rfl⟩ (.cons ⟨_,rfl⟩ (.cons ⟨_,rfl⟩ .nil)))));(case gr2=>exact fun H=>(.cons (.str _) (.cons (.str _) (.cons (.str _) (.cons (.str _) .nil)))))
  case glb3=>refine' Pc.me (ds:=[.int 0,.int 0,.int 5,.int 7]) (vs:=[.int 0,.int 0,.int 5,.int 7]) ?ga3 ?gl3 ?gc3 ?gz3 ?gv3 ?gr3;(case ga3=>rfl);(case gl3=>rfl);(case gc3=>rfl);(case gz3=>decide);(case gv3=>exact (.cons ⟨_,rfl⟩ (.cons ⟨_,rfl⟩ (.cons ⟨_,rfl⟩ (.cons ⟨_,rfl⟩ .nil)))));(case gr3=>exact fun H=>(.cons (.int _) (.cons (.int _) (.cons (.int _) (.cons (.int _) .nil)))))
  case glb4=>refine' Pc.gl_int (i:=2) ?ga4;(case ga4=>rfl)
  case glb5=>refine' Pc.gl_int (i:=6) ?ga5;(case ga5=>rfl)
  case glb6=>refine' Pc.me (ds:=[.int 0,.int 4,.int 7,.int 10]) (vs:=[.int 0,.int 4,.int 7,.int 10]) ?ga6 ?gl6 ?gc6 ?gz6 ?gv6 ?gr6;(case ga6=>rfl);(case gl6=>rfl);(case gc6=>rfl);(case gz6=>decide);(case gv6=>exact (.cons ⟨_,rfl⟩ (.cons ⟨_,rfl⟩ (.cons ⟨_,rfl⟩ (.cons ⟨_,rfl⟩ .nil)))));(case gr6=>exact fun H=>(.cons (.int _) (.cons (.int _) (.cons (.int _) (.cons (.int _) .nil)))))
  case glb7=>refine' Pc.me (ds:=[.int 0,.int 9,.int 99,.int 999]) (vs:=[.int 0,.int 9,.int 99,.int 999]) ?ga7 ?gl7 ?gc7 ?gz7 ?gv7 ?gr7;(case ga7=>rfl);(case gl7=>rfl);(case gc7=>rfl);(case gz7=>decide);(case gv7=>exact (.cons ⟨_,rfl⟩ (.cons ⟨_,rfl⟩ (.cons ⟨_,rfl⟩ (.cons ⟨_,rfl⟩ .nil)))));(case gr7=>exact fun H=>(.cons (.int _) (.cons (.int _) (.cons (.int _) (.cons (.int _) .nil)))))
  case glb8=>refine' Pc.gl_int (i:=3) ?ga8;(case ga8=>rfl)
  case e0 | e1 | e2 | e3 | e4 | e5 | e6 | e7 | e8 | e9 | e10=>dsimp only;rfl
end
