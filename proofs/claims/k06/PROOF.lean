import PyProof.Rows.All
import Wide.All
import OpenK.AllK
import Wide.FinOn
import Lean
import PyProof.EqAt
import PyProof.EqKinds
import PyProof.TupleCall
import PySem.Syntax
import PySem.Str
import PySem.Sem
import PySem.Builtin.Int.W1All
import PySem.Builtin.Str.Common
import PySem.Builtin.Range.Common
import KE.IntText
import KE.KSortAsk
import PyProof.IsRules
import PyProof.NeKinds
import PyProof.DictWalks
import PyProof.EnumMake
import PyProof.EnumFor
import PyProof.ZipIter
import PyProof.Rows.EnumRows
import PyProof.Rows.FactsT2
import KE.KRevIter
import PyProof.CompFree
import PyProof.CompUse
import PyProof.Cells
import PyProof.ConsumeWalk
import PyProof.IsInstanceH
import PyProof.IsiNone
import PyProof.SumWalkG
import PyProof.Rows.SumGenD
import KE.KDictList
import KE.KSortTup
import KE.KSorted
import KE.KSort
import PyProof.Draws
import PyProof.ListRange
import PyProof.MinMaxWalk
import PyProof.WalkInts
import PyProof.Conv_int_bool
import PyProof.Rows.CallKwBuiltin
import KE.KIntText
import PyProof.Rows.SeqMore
import PyProof.Rows.StrJoin2
import PyProof.Rows.StrSplitAre
import PyProof.Rows.StrSplitJoin
import PySem.Challenge.RW_patchsquare_k06_the_least_cut
set_option Elab.async false
set_option linter.all false
set_option maxRecDepth 100000
set_option maxHeartbeats 0
abbrev aa:=@Option.map_eq_some_iff
abbrev ab:=@Option.bind_eq_some_iff
abbrev ae:=@List.size_toArray
abbrev ag:=@List.length_cons
abbrev ah:=@Bool.and_eq_true
abbrev ai:=@List.mem_append_right
abbrev aj:=@List.length_map
abbrev ak:=@List.mem_cons_of_mem
abbrev ao:=@List.mem_cons_self
abbrev aq:=@Nat.le_refl
abbrev au:=@List.length_append
abbrev av:=@decide_eq_false
abbrev aw:=@List.map_cons
abbrev ax:=@Bool.false_ne_true
abbrev ay:=@List.mem_append_left
abbrev az:=@Nat.lt_of_lt_of_le
abbrev ba:=@List.append_nil
abbrev bf:=@decide_eq_true_iff
abbrev bg:=@decide_eq_true
abbrev bh:=@List.length_nil
abbrev bj:=@Nat.le_trans
abbrev bo:=@Option.map_some
abbrev bp:=@List.flatten_cons
abbrev bq:=@List.length_replicate
abbrev br:=@decide_eq_false_iff_not
abbrev bt:=@PySem.mem_of_lookup
abbrev bu:=@Option.some.inj
abbrev bw:=@List.length_take
abbrev bz:=@List.length_drop
abbrev cf:=@Option.some.injEq
abbrev cg:=@Nat.ne_of_lt
abbrev cj:=@List.nodup_nil
abbrev cm:=@List.lookup_cons
abbrev cn:=@Array.length_toList
abbrev cq:=@Bool.false_eq_true
abbrev cv:=@List.mem_of_getElem
abbrev cw:=@Nat.zero_le
abbrev cx:=@List.length_singleton
abbrev cy:=@if_true
abbrev cz:=@Ne.symm
abbrev da:=@Nat.lt_irrefl
abbrev de:=@decide_eq_true_eq
abbrev df:=@List.drop_eq_getElem_cons
abbrev dg:=@List.length_range
abbrev dh:=@Int.toNat_natCast
abbrev dk:=@Nat.min_eq_left
abbrev dm:=@List.replicate_succ
abbrev dn:=@List.map_congr_left
abbrev dq:=@List.all_cons
abbrev dt:=@beq_self_eq_true
abbrev du:=@if_false
abbrev dw:=@Int.emod_lt_of_pos
abbrev dz:=@List.nodup_append
abbrev ef:=@List.append_assoc
abbrev eh:=@List.any_cons
abbrev eo:=@Option.bind_some
abbrev e9:=@List.ext_getElem
abbrev fe:=@List.all_eq_true
abbrev fh:=@List.nil_append
abbrev fi:=@List.map_append
abbrev fk:=@Int.emod_nonneg
abbrev fm:=@congrArg
abbrev fq:=@List.getElem_mem
abbrev ft:=@Bool.or_eq_true
abbrev fu:=@List.lookup_append
abbrev fv:=@List.range_succ_eq_map
abbrev fw:=@List.map_nil
abbrev f6:=@List.nil_sublist
abbrev f7:=@List.drop_length
abbrev f9:=@List.length_set
abbrev gb:=@List.drop_succ_cons
abbrev gc:=@PyProof.Rows.callWith_type1
abbrev gd:=@List.map_map
abbrev gg:=@List.zip_cons_cons
abbrev gh:=@List.mem_singleton
abbrev gj:=@Option.isSome_map
abbrev gn:=@Nat.lt_succ_of_lt
abbrev gp:=@List.mem_cons
abbrev gq:=@PySem.F.plainAttrs_list
abbrev gr:=@Nat.le_of_not_lt
abbrev gu:=@List.not_mem_nil
abbrev gv:=@Nat.succ.inj
abbrev gx:=@List.take_of_length_le
section
namespace L2
open PySem PySem.Spec PyProof.Rows
noncomputable abbrev Key:=Sum Int Str
noncomputable def jh:Key->Value->Bool
 |.inl k,v=>Value.isInt k v
 |.inr x,v=>Value.isStrOf x v
noncomputable def keyH (w:World):Key->Int
 |.inl k=>hashInt k
 |.inr x=>hashStr w x
theorem aU:∀{k:Key}{v:Value},jh k v=true->(∃ i t,k=Sum.inl i/\v=Value.int i t)\/(∃ x t,k=Sum.inr x/\v=Value.str x t)
 | .inl i,v,h=>by
  obtain⟨t,e⟩:=Value.isInt_shape (k:=i) (v:=v) h;exact .inl ⟨i,t,rfl,e⟩
 | .inr x,v,h=>by
  obtain⟨t,e⟩:=Value.isStrOf_shape (x:=x) (v:=v) h;exact .inr ⟨x,t,rfl,e⟩
theorem qy (i:Int)(t:Tok):jh (.inl i) (.int i t)=true:=by simp[jh,Value.isInt]
theorem qr (x:Str)(t:Tok):jh (.inr x) (.str x t)=true:=by simp[jh,Value.isStrOf]
theorem AU (a b:Int):decide ((Sum.inl a:Key)=Sum.inl b)=(a==b):=by
 by_cases e:a=b
 ·subst e;simp
 ·have h:¬ (Sum.inl a:Key)=Sum.inl b:=fun q=>e (Sum.inl.inj q)
  rw[av h];exact (beq_eq_false_iff_ne.mpr e).symm
theorem AI (a b:Str):decide ((Sum.inr a:Key)=Sum.inr b)=decide (a=b):=by
 by_cases e:a=b
 ·subst e;simp
 ·have h:¬ (Sum.inr a:Key)=Sum.inr b:=fun q=>e (Sum.inr.inj q)
  rw[av h,av e]
theorem Az (a:Int)(b:Str):decide ((Sum.inl a:Key)=Sum.inr b)=false:=av (fun q=>nomatch q)
theorem zQ (a:Str)(b:Int):decide ((Sum.inr a:Key)=Sum.inl b)=false:=av (fun q=>nomatch q)
noncomputable def aN (prog:Program)(w:World):PySem.KeyKind prog w Key where
 is:=jh
 hash:=keyH w
 inj:=fun v a b ha hb=>by
  rcases aU ha with ⟨i,t,rfl,rfl⟩ | ⟨x,t,rfl,rfl⟩
  ·rcases aU hb with ⟨j,u,rfl,e⟩ | ⟨y,u,rfl,e⟩
   ·injection e with e1 _;rw[e1]
   ·exact nomatch e
  ·rcases aU hb with ⟨j,u,rfl,e⟩ | ⟨y,u,rfl,e⟩
   ·exact nomatch e
   ·injection e with e1 _;rw[e1]
 byValue:=fun k v h=>by
  rcases aU h with ⟨i,t,rfl,rfl⟩ | ⟨x,t,rfl,rfl⟩<;>rfl
 pyHash:=fun hv h=>by
  rcases aU hv with ⟨i,t,rfl,rfl⟩ | ⟨x,t,rfl,rfl⟩
  ·exact wpAny_pyHash_int h
  ·exact wpAny_pyHash_str h
 eqBool:=fun hu hv h=>by
  rcases aU hu with ⟨i,t,rfl,rfl⟩ | ⟨x,t,rfl,rfl⟩
  ·rcases aU hv with ⟨j,u,rfl,rfl⟩ | ⟨y,u,rfl,rfl⟩
   ·rw[AU] at h;exact wpAny_eqBool_int h
   ·rw[Az] at h;exact SeqAt.EqAt.int_str i t y u _ _ _ _ h
  ·rcases aU hv with ⟨j,u,rfl,rfl⟩ | ⟨y,u,rfl,rfl⟩
   ·rw[zQ] at h;exact SeqAt.EqAt.str_int x t j u _ _ _ _ h
   ·rw[AI] at h;exact wpAny_eqBool_str h
 «strs»:=fun k x t v h=>by
  rcases aU h with ⟨i,u,rfl,e⟩ | ⟨y,u,rfl,e⟩
  ·exact nomatch e
  ·injection e with e1 _
   subst e1;cases v<;>rfl
theorem dC (prog:Program)(w:World)(i:Int)(t:Tok):(aN prog w).is (.inl i) (.int i t)=true:=qy i t
theorem cO (prog:Program)(w:World)(x:Str)(t:Tok):(aN prog w).is (.inr x) (.str x t)=true:=qr x t
end L2
namespace L2
open PySem PySem.Spec PyProof.Rows
inductive V where
 | non | bl (b:Bool) | int (i:Int) | str (x:Str) | byt (b:Array UInt8) | flt (b:UInt64) | ref (a:Addr) | ty (n:String)
 deriving DecidableEq
noncomputable def RelV:V->Value->Prop
 |.non,u=>u=Value.none
 |.bl b,u=>u=Value.bool b
 |.int i,u=>∃ t,u=Value.int i t
 |.str x,u=>∃ t,u=Value.str x t
 |.byt b,u=>∃ t,u=Value.bytes b t
 |.flt b,u=>∃ t,u=Value.float b t
 |.ref a,u=>u=Value.ref a
 |.ty n,u=>u=Value.type n
noncomputable abbrev aL:List V->List Value->Prop:=Paired RelV
theorem aL.length {xs:List V}{us:List Value}(r:aL xs us):xs.length=us.length:=Paired.length r
theorem aL.get:∀{xs:List V}{us:List Value}{i:Nat}{x:V},aL xs us->xs[i]? = some x->∃ u,us[i]? = some u/\RelV x u
 |_,_,_,_,.nil,e=>by simp at e
 |_,_,0,_,.cons r _,e=>by simp at e;subst e;exact⟨_,rfl,r⟩
 | _,_,i+1,x,.cons _ t,e=>by
  obtain⟨u,h1,h2⟩:=aL.get (i:=i) (x:=x) t (by simpa using e);exact⟨u,by simpa using h1,h2⟩
theorem aL.set {x:V}{u:Value}(r:RelV x u):∀{xs:List V}{us:List Value}(i:Nat),aL xs us->aL (xs.set i x) (us.set i u)
 |_,_,_,.nil=>.nil
 |_,_,0,.cons _ t=>.cons r t
 |_,_,i+1,.cons q t=>.cons q (aL.set r i t)
theorem aL.append:∀{xs ys:List V}{us ws:List Value},aL xs us->aL ys ws->aL (xs++ys) (us++ws)
 |_,_,_,_,.nil,s=>s
 |_,_,_,_,.cons r t,s=>.cons r (aL.append t s)
theorem aL.take:∀{xs:List V}{us:List Value}(n:Nat),aL xs us->aL (xs.take n) (us.take n)
 |_,_,0,_=>.nil
 |_,_,_+1,.nil=>.nil
 |_,_,n+1,.cons r t=>.cons r (aL.take n t)
theorem aL.drop:∀{xs:List V}{us:List Value}(n:Nat),aL xs us->aL (xs.drop n) (us.drop n)
 |_,_,0,r=>r
 |_,_,_+1,.nil=>.nil
 |_,_,n+1,.cons _ t=>aL.drop n t
noncomputable def qK:Option V->Option Value->Prop
 |some v,some u=>RelV v u
 |none,none=>True
 |_,_=>False
def KV {κ:Type}:List (κ×V)->List (κ×Value)->Prop:=Paired fun (p:κ×V) (q:κ×Value)=>p.1=q.1/\RelV p.2 q.2
noncomputable def kV:Key->V
 |.inl i=>.int i
 |.inr x=>.str x
inductive HO where
 | lst (xs:List V)
 | tup (xs:List V)
 | dK (kvs:List (Key×V)) | dT (kvs:List (List Key×V))
 | set (S:Int->Bool) (n:Nat)
 | ins (C dx:Addr) (fs:List (Str×V))
 | own (x:Addr)
 | xd (fs:List (Str×V))
 | met (f x:Addr)
 | rng (lo hi:Int)
 | frz (o:Obj) (u:HO)
 | tbl (ps:Array Value)
 | ext (φ:Heap->Prop)
noncomputable abbrev Hp:=Addr->Option HO
noncomputable def upd (H:Hp)(a:Addr)(o:HO):Hp:=fun b=>if b=a then some o else H b
theorem aM {H:Hp}{a:Addr}{o:HO}:upd H a o a=some o:=by unfold upd;rw[if_pos rfl]
theorem aJ {H:Hp}{a b:Addr}{o:HO}(h:b≠a):upd H a o b=H b:=by unfold upd;rw[if_neg h]
theorem A9 {H:Hp}{a b:Addr}{o u:HO}(h:H a=some o)(h':H b=some u)(d:o≠u):a≠b:=by
 intro e;subst e;rw[h] at h';exact d (bu h')
theorem dU {H:Hp}{a b:Addr}{o:HO}(h:H a=some o)(h':H b=none):a≠b:=by
 intro e;subst e;rw[h] at h';cases h'
section
variable (P:Program)(w:World)
noncomputable def cN (H:Hp)(h:Heap)(a:Addr):HO->Prop
 |.lst xs=>xs.length<=sizeLine/\∃(its:List Value) (n:Nat),aL xs its/\h.get? a=some { cls:=.type "list",data:=.seq its.toArray n }
 |.tup xs=>xs.length<=sizeLine/\∃ its:List Value,aL xs its/\IsTup h a its.toArray
 |.dK kvs=>kvs.length<=sizeLine/\(a==sysModules)=false/\∃ vs,KV kvs vs/\h.DictOf (aN P w) a vs
 | .dT kvs=>kvs.length<=sizeLine/\(a==sysModules)=false/\∃ xs:List (List Key×Addr×Value),
   Paired (fun (p:List Key×V) (q:List Key×Addr×Value)=>p.1=q.1/\H q.2.1=some (.tup (p.1.map kV))/\RelV p.2 q.2.2) kvs xs /\
   ∃ o es ep,h.get? a=some o/\o.ExactDict/\o.data = .dict es ep/\es.toList=xs.map (entryOfKey (tupleKind (aN P w)))/\(xs.map (·.1)).Nodup
 |.set S n=>h.SetOf (intKind P w) a S n
 | .ins C dx fs=>H dx=some (.own a)/\fs.length<=1000/\dx≠a/\h.get? a=some (PySem.W.instObj C dx) /\
   ∃ mA,h.Ns1 dx mA/\(∀ f,qK (fs.lookup f) (mA f))/\PySem.Within mA (fs.map (·.1))
 |.own _=>∃ o,h.get? a=some o
 |.xd fs=>∃ mA,h.Ns1 a mA/\∀ f,qK (fs.lookup f) (mA f)
 |.rng lo hi=>∃ t u v,h.get? a=some { cls:=.type "range",data:=.fields #[.int lo t,.int hi u,.int 1 v] }
 |.frz o u=>h.get? a=some o/\cN H h a u
 |.tbl ps=>h.get? a=some { cls:=.none,data:=.fields ps }
 |.met f x=>h.get? a=some (PySem.W.methodObj (.ref f) (.ref x))
 |.ext φ=>φ h/\(∃ o,h.get? a=some o)/\∀ h1 h2:Heap,φ h1->(∀ o,h1.get? a=some o->h2.get? a=some o)->φ h2
def iA (H:Hp)(h:Heap):Prop:=∀ a o,H a=some o->cN P w H h a o
end
section
variable {P:Program}{w:World}{H H':Hp}{h h':Heap}{a:Addr}{o:HO}
theorem cN.lt (x:cN P w H h a o):a<h.objs.size:=by
 cases o with
 |lst xs=>obtain⟨_,_,_,_,e⟩:=x;exact Heap.lt_size e
 |tup xs=>obtain⟨_,_,_,p⟩:=x;exact p.lt
 |dK kvs=>obtain⟨_,_,_,_,o,_,_,e,_⟩:=x;exact Heap.lt_size e
 |dT kvs=>obtain⟨_,_,_,_,o,_,_,e,_⟩:=x;exact Heap.lt_size e
 |set S n=>obtain⟨o,_,_,_,e,_⟩:=x;exact Heap.lt_size e
 |ins C dx fs=>obtain⟨_,_,_,e,_⟩:=x;exact Heap.lt_size e
 |own y=>obtain⟨_,e⟩:=x;exact Heap.lt_size e
 |xd fs=>obtain⟨_,⟨_,_,_,e,_⟩,_⟩:=x;exact Heap.lt_size e
 |rng lo hi=>obtain⟨_,_,_,e⟩:=x;exact Heap.lt_size e
 |frz ob u=>obtain⟨e,_⟩:=x;exact Heap.lt_size e
 |tbl ps=>exact Heap.lt_size (show h.get? a=some _ from x)
 |met f y=>exact Heap.lt_size (show h.get? a=some _ from x)
 |ext φ=>obtain⟨_,⟨_,e⟩,_⟩:=x;exact Heap.lt_size e
theorem Paired.mapP {α β:Type}{F G:α->β->Prop}:∀{l₁:List α}{l₂:List β},Paired F l₁ l₂->(∀ a b,F a b->G a b)->Paired G l₁ l₂
 |_,_,.nil,_=>.nil
 |_,_,.cons r t,f=>.cons (f _ _ r) (Paired.mapP t f)
theorem cN.stay (x:cN P w H h a o)(k:∀ b u,(b=a\/H b=some (.own a))->h.get? b=some u->h'.get? b=some u)
  (ho:∀ b,H b=some (.own a)->H' b=some (.own a)) (ht:∀ b xs,H b=some (.tup xs)->H' b=some (.tup xs)):cN P w H' h' a o:=by
 induction o with
 |lst xs=>obtain⟨z,its,n,r,e⟩:=x;exact⟨z,its,n,r,k _ _ (.inl rfl) e⟩
 |tup xs=>obtain⟨z,its,r,ob,e,c⟩:=x;exact⟨z,its,r,ob,k _ _ (.inl rfl) e,c⟩
 |dK kvs=>obtain⟨z,y,vs,r,ob,es,ep,e,c⟩:=x;exact⟨z,y,vs,r,ob,es,ep,k _ _ (.inl rfl) e,c⟩
 |dT kvs =>
  obtain⟨z,y,xs,r,ob,es,ep,e,c⟩:=x;exact⟨z,y,xs,Paired.mapP r fun p q z=>⟨z.1,ht _ _ z.2.1,z.2.2⟩,ob,es,ep,k _ _ (.inl rfl) e,c⟩
 |set S n=>obtain⟨ob,es,ep,t,e,c⟩:=x;exact⟨ob,es,ep,t,k _ _ (.inl rfl) e,c⟩
 |ins C dx fs =>
  obtain⟨d,z,ne,e,mA,⟨od,es,ep,e2,c⟩,r⟩:=x;exact⟨ho _ d,z,ne,k _ _ (.inl rfl) e,mA,⟨od,es,ep,k _ _ (.inr d) e2,c⟩,r⟩
 |own y=>obtain⟨ob,e⟩:=x;exact⟨ob,k _ _ (.inl rfl) e⟩
 |xd fs=>obtain⟨mA,⟨od,es,ep,e,c⟩,r⟩:=x;exact⟨mA,⟨od,es,ep,k _ _ (.inl rfl) e,c⟩,r⟩
 |rng lo hi=>obtain⟨t,u,v,e⟩:=x;exact⟨t,u,v,k _ _ (.inl rfl) e⟩
 |frz ob u ih=>obtain⟨e,q⟩:=x;exact⟨k _ _ (.inl rfl) e,ih q⟩
 |tbl ps =>
  have e:h.get? a=some { cls:=.none,data:=.fields ps }:=x;show h'.get? a=some { cls:=.none,data:=.fields ps };exact k a _ (.inl rfl) e
 |met f y =>
  have e:h.get? a=some (PySem.W.methodObj (.ref f) (.ref y)):=x;show h'.get? a=some (PySem.W.methodObj (.ref f) (.ref y));exact k a _ (.inl rfl) e
 |ext φ=>obtain⟨p,⟨o,e⟩,st⟩:=x;exact⟨st _ _ p fun o q=>k _ _ (.inl rfl) q,⟨o,k _ _ (.inl rfl) e⟩,st⟩
theorem iA.lt (x:iA P w H h)(e:H a=some o):a<h.objs.size:=(x a o e).lt
theorem iA.fresh (x:iA P w H h)(e:h.objs.size<=a):H a=none:=by
 cases q:H a with
 |none=>rfl
 |some u=>exact absurd (az (x.lt q) e) (da _)
theorem iA.kept (x:iA P w H h)(k:∀ b u,h.get? b=some u->h'.get? b=some u):iA P w H h':=fun a o e =>
 (x a o e).stay (fun b u _ q=>k b u q) (fun _ q=>q) fun _ _ q=>q
theorem iA.laid (x:iA P w H h)(k:∀ b u,h.get? b=some u->h'.get? b=some u)(hp:h.objs.size<=a)(new:cN P w (upd H a o) h' a o):iA P w (upd H a o) h':=fun b u e=>by
 have hn:=x.fresh hp;by_cases hb:b=a
 ·subst hb;rw[aM] at e;cases e;exact new
 ·rw[aJ hb] at e;exact (x b u e).stay (fun c v _ q=>k c v q) (fun c q=>by rw[aJ (dU q hn)];exact q) fun c xs q=>by rw[aJ (dU q hn)];exact q
end
def Rd (H:Hp)(a:Addr)(u:HO):Prop:=H a=some u\/∃ o,H a=some (.frz o u)
theorem Rd.ok {P:Program}{w:World}{H:Hp}{h:Heap}{a:Addr}{u:HO}(r:Rd H a u)(x:iA P w H h):cN P w H h a u:=by
 rcases r with r | ⟨o,r⟩
 ·exact x a u r
 ·obtain⟨_,q⟩:=x a _ r;exact q
noncomputable def mO:Option HO->Prop
 | some (.lst _)=>True
 | some (.dK _)=>True
 | some (.dT _)=>True
 | some (.set _ _)=>True
 | some (.ins _ _ _)=>True
 | some (.ext _)=>True
 |_=>False
section
variable {P:Program}{w:World}{H:Hp}{h h':Heap}{x e:Addr}{o':HO}
theorem iA.write (ok:iA P w H h)(mu:mO (H x))(he:e=x\/H e=some (.own x))(k:∀ b u,b≠e->h.get? b=some u->h'.get? b=some u)(heo:∃ u,h'.get? e=some u)
  (new:cN P w (upd H x o') h' x o'):iA P w (upd H x o') h':=fun b u q=>by
 have nown:∀ c y,H c=some (.own y)->c≠x:=fun c y r z=>by subst z;rw[r] at mu;exact mu
 have ntup:∀ c xs,H c=some (.tup xs)->c≠x:=fun c xs r z=>by subst z;rw[r] at mu;exact mu
 by_cases hb:b=x
 ·subst hb;rw[aM] at q;cases q;exact new
 ·rw[aJ hb] at q;by_cases hbe:b=e
  ·have q':H b=some (.own x):=by
    rcases he with z | z
    ·exact absurd (hbe.trans z) hb
    ·rw[hbe];exact z
   rw[q] at q';cases q';obtain⟨v,hv⟩:=heo;exact⟨v,by rw[hbe];exact hv⟩
  ·refine (ok b u q).stay (fun c v hc r=>k c v ?_ r) (fun c r=>by rw[aJ (nown c b r)];exact r) fun c xs r=>by rw[aJ (ntup c xs r)];exact r
   rcases hc with rfl | hc
   ·exact hbe
   ·rintro rfl;rcases he with z | z
    ·exact nown c b hc z
    ·rw[hc] at z;cases z;exact hb rfl
end
structure Un (fs ex:List Addr)(H H':Hp)(h h':Heap):Prop where
 keep:∀ b o,h.get? b=some o->H b=none->b∉fs->b∉ex->h'.get? b=some o
 slot:∀ b o,h.get? b=some o->H b=none->b∈fs->b∉ex->∃ sl,h'.get? b=some { o with slots:=sl }
 free:∀ b o,h.get? b=some o->H b=none->b∉ex->H' b=none
 there:∀ b o,h.get? b=some o->b∉ex->∃ o',h'.get? b=some o'
 tups:∀ b xs,H b=some (.tup xs)->H' b=some (.tup xs)
 frzs:∀ b o u,H b=some (.frz o u)->H' b=some (.frz o u)
 tbls:∀ b ps,H b=some (.tbl ps)->∃ more,H' b=some (.tbl (ps++more))
section
variable {fs fs' ex ex':List Addr}{H H1 H2:Hp}{h h1 h2 h':Heap}{a x e:Addr}{o:HO}
theorem Un.any (u:Un fs ex H H1 h h1){b:Addr}{ob:Obj}(q:h.get? b=some ob)(n:H b=none)(hx:b∉ex):∃ sl,h1.get? b=some { ob with slots:=sl }:=by
 by_cases hb:b∈fs
 ·exact u.slot b ob q n hb hx
 ·exact⟨ob.slots,u.keep b ob q n hb hx⟩
theorem Un.kept (k:∀ b u,h.get? b=some u->h'.get? b=some u):Un fs ex H H h h' :=
 ⟨fun b ob q _ _ _=>k b ob q,fun b ob q _ _ _=>⟨ob.slots,k b ob q⟩,fun _ _ _ n _=>n,fun b ob q _=>⟨ob,k b ob q⟩,fun _ _ q=>q,fun _ _ _ q=>q,fun _ ps q=>⟨#[],by rw[q];simp⟩⟩
theorem Un.refl:Un fs ex H H h h:=Un.kept fun _ _ q=>q
theorem Un.laid (k:∀ b u,h.get? b=some u->h'.get? b=some u)(hp:h.objs.size<=a)(hn:H a=none):Un fs ex H (upd H a o) h h' where
 keep:=fun b u q _ _ _=>k b u q
 slot:=fun b u q _ _ _=>⟨u.slots,k b u q⟩
 free:=fun b u q n _=>by rw[aJ (cg (az (Heap.lt_size q) hp))];exact n
 there:=fun b u q _=>⟨u,k b u q⟩
 tups:=fun b xs q=>by rw[aJ (dU q hn)];exact q
 frzs:=fun b u xs q=>by rw[aJ (dU q hn)];exact q
 tbls:=fun b ps q=>⟨#[],by rw[aJ (dU q hn),q];simp⟩
theorem Un.write (mu:mO (H x))(he:e=x\/H e=some (.own x))(k:∀ b u,b≠e->h.get? b=some u->h'.get? b=some u)(heo:∃ u,h'.get? e=some u):Un fs ex H (upd H x o) h h':=by
 have hx:∀ b,H b=none->b≠x:=fun b n z=>by subst z;rw[n] at mu;exact mu
 have hb:∀ b,H b=none->b≠e:=fun b n z=>by
  subst z;rcases he with r | r
  ·exact hx b n r
  ·rw[n] at r;cases r
 have hm:∀ b u,H b=some u->¬ mO (some u)->b≠x:=fun b u q nm z=>by subst z;rw[q] at mu;exact nm mu
 refine⟨fun b u q n _ _=>k b u (hb b n) q,fun b u q n _ _=>⟨u.slots,k b u (hb b n) q⟩,fun b u q n _=>by rw[aJ (hx b n)];exact n,fun b u q _=>?_,
  fun b xs q=>by rw[aJ (hm b _ q fun z=>z)];exact q,fun b u xs q=>by rw[aJ (hm b _ q fun z=>z)];exact q,fun b ps q=>⟨#[],by rw[aJ (hm b _ q fun z=>z),q];simp⟩⟩
 by_cases hbe:b=e
 ·subst hbe;exact heo
 ·exact⟨u,k b u hbe q⟩
end
noncomputable def trk (h:Heap)(H:Hp):List Addr:=(List.range h.objs.size).filter fun a=>(H a).isSome
noncomputable def lP (h:Heap)(H:Hp):Heap:=PySem.W.hideAll h (trk h H)
theorem rD (h:Heap)(H:Hp):(lP h H).objs.size=h.objs.size:=PySem.W.hideAll_size _ _
theorem tV {h:Heap}{H:Hp}{b:Addr}{o:Obj}(e:h.get? b=some o)(n:H b=none):(lP h H).get? b=some o :=
 PySem.W.hideAll_get _ e fun hm=>by
  have q:(H b).isSome=true:=(List.mem_filter.mp hm).2;rw[n] at q;simp at q
theorem xE {h:Heap}{H:Hp}{b:Addr}{o:Obj}(e:(lP h H).get? b=some o):h.get? b=some o/\H b=none:=by
 have e':h.get? b=some o:=PySem.W.of_hideAll (trk h H) e;refine⟨e',?_⟩;cases q:H b with
 |none=>rfl
 |some x =>
  have hm:b∈trk h H:=List.mem_filter.mpr ⟨List.mem_range.mpr (Heap.lt_size e'),by simp[q]⟩;have z:(lP h H).get? b=none:=PySem.W.hideAll_none (trk h H) hm;rw[z] at e;cases e
noncomputable def wG (g h:Heap)(L:Addr):List (Addr×Obj):=(List.range h.objs.size).filterMap fun a=>if a=L\/(g.get? a).isSome=true then none else (h.get? a).map fun o=>(a,o)
noncomputable def rest (g h:Heap)(L d:Addr):List (Addr×Obj):=(wG g h L).filter fun p=>decide (p.1≠d)
end L2
namespace L2
open PySem PySem.Spec PyProof.Rows
structure Mod (K:PySem.W.Frag)(mg:Str->Option Value)(base:Heap):Prop where
 kin:K.In base
 glob:base.Ns mainGlobals mg
 blt:∃ mb,base.Ns builtinsNs mb/\∀ x:Str,x≠"__name__"->mb x=bootBuiltins x
 nolimit:base.NoLimit
structure Cx where
 prog:Program
 w:World
 K:PySem.W.Frag
 mg:Str->Option Value
 base:Heap
 A:Around
 N:List Str
 s₀:Shared
 H₀:Hp
 env:Env
 outer:List Env
 stack:List Env
 ex:List Addr
 fn:Str->Bool
 calm:Bool
 pn:List (Addr×Obj)
 xe:Value->Shared->Prop
noncomputable def uv (l:List Env):List Addr:=l.filterMap (·.frame)
noncomputable abbrev Cx.fs (X:Cx):List Addr:=uv X.outer
def Av (sc:Scope)(x:Str):Prop:=sc.names.lookup x=some .local\/sc.names.lookup x=some .cell\/sc.names.lookup x=some .free
def Loc (sc:Scope)(x:Str):Prop:=sc.names.lookup x=some .local\/sc.names.lookup x=some .cell
noncomputable def Look (env:Env)(h:Heap)(m:Str->Option Value)(x:Str)(u:Value):Prop :=
 (env.kindOf x=some .local/\m x=some u)\/((env.kindOf x=some .cell\/env.kindOf x=some .free)/\∃ c,env.cells.lookup x=some c/\h.IsCell c (some u))
structure Cx.Ok (X:Cx):Prop where
 mod:Mod X.K X.mg X.base
 kind:X.env.scope.kind = .function
 glob:X.env.globals=mainGlobals
 blt:X.env.builtins=builtinsNs
 above:X.s₀.heap.objs.size<=X.env.locals
 inj:∀ x y c,X.env.cells.lookup x=some c->X.env.cells.lookup y=some c->x=y
 has:∀ x,(X.env.kindOf x=some .cell\/X.env.kindOf x=some .free)->∃ c,X.env.cells.lookup x=some c
 cab:∀ x c,X.fn x=true->X.env.cells.lookup x=some c->X.s₀.heap.objs.size<=c
 hd:X.calm=true->X.A.handled=none
 frames:X.A.frames=some X.stack
 stk:X.stack=X.outer\/(X.stack=X.env::X.outer/\X.env.frame=some X.env.locals)
 exf:∀ b∈X.ex,b≠X.env.locals/\∀ x c,X.env.cells.lookup x=some c->c≠b
 bs:∀ b o,X.base.get? b=some o->X.s₀.heap.get? b=some o/\X.H₀ b=none
 bsz:X.base.objs.size<=X.s₀.heap.objs.size
 noex:∀ b o,X.base.get? b=some o->b∉X.ex
 exfs:∀ b∈X.ex,b∉X.fs
 funs:X.s₀.heap.FunFrames X.base X.outer
 frf:∀ b∈X.fs,X.H₀ b=none
structure Inv (X:Cx)(pins:List (Addr×Obj))(σ:List (Option V))(H:Hp)(s:Shared):Prop where
 ok:X.Ok
 os:s.os=X.s₀.os
 bare:AllBare s.gens
 base:Un X.fs X.ex X.H₀ H X.s₀.heap s.heap
 loc:∃ m,s.heap.Ns X.env.locals m/\∀(i:Nat) (x:Str) (v:V),X.N[i]? = some x->σ[i]? = some (some v)->Av X.env.scope x->∃ u,RelV v u/\Look X.env s.heap m x u
 cell:∀ x c,X.env.cells.lookup x=some c->∃ v,s.heap.IsCell c v
 free:H X.env.locals=none
 freeC:∀ x c,X.env.cells.lookup x=some c->H c=none
 pin:∀ p∈X.pn++pins,s.heap.get? p.1=some p.2/\H p.1=none/\p.1≠X.env.locals/\p.1∉X.fs/\∀ v,p.2.data≠.cell v
 hok:iA X.prog X.w H s.heap
 len:σ.length=X.N.length
section
variable {X:Cx}{pins:List (Addr×Obj)}{σ:List (Option V)}{H H':Hp}{s:Shared}{h':Heap}
theorem Cx.Ok.nofr (ok:X.Ok){b:Addr}{o:Obj}(e:X.base.get? b=some o):b∉X.fs:=fun hb=>by
 have:=(ok.funs.mem hb).1;rw[e] at this;cases this
theorem Inv.bs (I:Inv X pins σ H s):∀ b o,X.base.get? b=some o->s.heap.get? b=some o/\H b=none:=fun b o e =>
 ⟨I.base.keep b o (I.ok.bs b o e).1 (I.ok.bs b o e).2 (I.ok.nofr e) (I.ok.noex b o e),I.base.free b o (I.ok.bs b o e).1 (I.ok.bs b o e).2 (I.ok.noex b o e)⟩
theorem Inv.bk (I:Inv X pins σ H s):∀ b o,X.base.get? b=some o->s.heap.get? b=some o:=fun b o e=>(I.bs b o e).1
theorem Inv.mod (I:Inv X pins σ H s):Mod X.K X.mg X.base:=I.ok.mod
theorem Inv.kIn (I:Inv X pins σ H s):X.K.In s.heap:=I.ok.mod.kin.keeps I.bk
theorem Inv.lt (I:Inv X pins σ H s):X.env.locals<s.heap.objs.size:=let ⟨_,hn,_⟩:=I.loc;hn.lt
theorem Inv.sz (I:Inv X pins σ H s):X.s₀.heap.objs.size<=s.heap.objs.size:=bj I.ok.above (Nat.le_of_lt I.lt)
theorem Inv.nofs (I:Inv X pins σ H s){a:Addr}(h:s.heap.objs.size<=a):a∉X.fs:=fun hb=>by
 obtain⟨_,o,ho,_⟩:=I.ok.funs.mem hb;exact absurd (az (Heap.lt_size ho) (bj I.sz h)) (da _)
theorem Inv.cne (I:Inv X pins σ H s):∀ x c,X.env.cells.lookup x=some c->c≠X.env.locals:=fun x c e z=>by
 obtain⟨v,o,ho,hd⟩:=I.cell x c e;obtain⟨m,⟨o',es,ep,ho',hd',_⟩,_⟩:=I.loc;rw[z,ho'] at ho;cases ho;rw[hd'] at hd;cases hd
theorem Inv.funs (I:Inv X pins σ H s):s.heap.FunFrames X.base X.outer:=by
 have all:∀(l:List Env),(∀ b∈uv l,b∈X.fs)->X.s₀.heap.FunFrames X.base l->s.heap.FunFrames X.base l:=by
  intro l
  induction l with
  |nil=>intro _ _;trivial
  |cons env r ih =>
   intro hs hl;obtain⟨hk,⟨L,o,hf,hn,ho,hd⟩,hr⟩:=hl;have hL:L∈X.fs:=hs L (by unfold uv;rw[List.filterMap_cons,hf];exact ao);obtain⟨sl,e⟩:=I.base.slot L o ho (I.ok.frf L hL) hL fun z=>I.ok.exfs L z hL
   exact⟨hk,⟨L,_,hf,hn,e,hd⟩,ih (fun b hb=>hs b (by unfold uv;rw[List.filterMap_cons,hf];exact ak _ hb)) hr⟩
 exact all X.outer (fun _ hb=>hb) I.ok.funs
theorem Inv.stack (I:Inv X pins σ H s):s.heap.FunFrames X.base X.stack:=by
 rcases I.ok.stk with e | ⟨e,hf⟩
 ·rw[e];exact I.funs
 ·rw[e];obtain⟨m,hn,_⟩:=I.loc;refine .cons (by rw[I.ok.kind];decide) hf hn ?_ I.funs;exact Heap.get?_none_of_le (bj I.ok.bsz I.ok.above)
theorem Inv.stkSub (I:Inv X pins σ H s):∀ b∈uv X.stack,b∈X.env.locals::X.fs:=fun b hb=>by
 rcases I.ok.stk with e | ⟨e,hf⟩
 ·rw[e] at hb;exact ak _ hb
 ·rw[e] at hb;unfold uv at hb;rw[List.filterMap_cons,hf] at hb;exact hb
theorem Inv.stkFree (I:Inv X pins σ H s):∀ b∈uv X.stack,H b=none:=fun b hb=>by
 rcases gp.mp (I.stkSub b hb) with e | hb
 ·rw[e];exact I.free
 ·obtain⟨_,o,ho,_⟩:=I.ok.funs.mem hb;exact I.base.free b o ho (I.ok.frf b hb) fun z=>I.ok.exfs b z hb
theorem Inv.step {g':Array GenState}{t':Nat}{d':Drawn}{ch:List Addr}(I:Inv X pins σ H s)
  (hch:∀ b∈ch,(b∈X.ex\/X.s₀.heap.objs.size<=b)/\b≠X.env.locals/\(∀ x c,X.env.cells.lookup x=some c->c≠b)/\∀ p∈X.pn++pins,p.1≠b)
  (keep:∀ b o,b≠X.env.locals->b∉X.fs->b∉ch->s.heap.get? b=some o->H b=none->h'.get? b=some o)
  (slot:∀ b o,b≠X.env.locals->b∈X.fs->b∉ch->s.heap.get? b=some o->H b=none->∃ sl,h'.get? b=some { o with slots:=sl }) (free:∀ b o,b∉ch->s.heap.get? b=some o->H b=none->H' b=none)
  (there:∀ b o,b∉ch->s.heap.get? b=some o->∃ o',h'.get? b=some o')
  (tups:∀ b xs,H b=some (.tup xs)->H' b=some (.tup xs)) (frzs:∀ b o u,H b=some (.frz o u)->H' b=some (.frz o u)) (tbls:∀ b ps,H b=some (.tbl ps)->∃ more,H' b=some (.tbl (ps++more)))
  (ns:∀ m,s.heap.Ns X.env.locals m->h'.Ns X.env.locals m) (hok:iA X.prog X.w H' h') (hg:AllBare g') :
  Inv X pins σ H' { s with heap:=h',gens:=g',drawn:=d',toks:=t' }:=by
 have neL:∀ b o,X.s₀.heap.get? b=some o->b≠X.env.locals:=fun b o e=>cg (az (Heap.lt_size e) I.ok.above)
 have neC:∀ b o,X.s₀.heap.get? b=some o->b∉X.ex->b∉ch:=fun b o e hx hb=>by
  rcases (hch b hb).1 with z | z
  ·exact hx z
  ·exact absurd (az (Heap.lt_size e) z) (da _)
 have cellK:∀ x c,X.env.cells.lookup x=some c->∀ v,s.heap.IsCell c v->h'.IsCell c v:=fun x c e v ⟨o,ho,hd⟩=>by
  have nch:c∉ch:=fun z=>(hch c z).2.2.1 x c e rfl
  by_cases hc:c∈X.fs
  ·obtain⟨sl,q⟩:=slot c o (I.cne x c e) hc nch ho (I.freeC x c e);exact⟨_,q,hd⟩
  ·exact⟨o,keep c o (I.cne x c e) hc nch ho (I.freeC x c e),hd⟩
 refine⟨I.ok,I.os,hg,⟨fun b o e n hb hx=>?_,fun b o e n hb hx=>?_,fun b o e n hx=>?_,fun b o e hx=>?_,fun b xs e=>tups b xs (I.base.tups b xs e),fun b o xs e=>frzs b o xs (I.base.frzs b o xs e),fun b ps e=>?_⟩,?_,fun x c e=>?_,?_,fun x c e=>?_,fun p hp=>?_,hok,I.len⟩
 ·exact keep b o (neL b o e) hb (neC b o e hx) (I.base.keep b o e n hb hx) (I.base.free b o e n hx)
 ·obtain⟨sl,e1⟩:=I.base.slot b o e n hb hx;obtain⟨sl',e2⟩:=slot b _ (neL b o e) hb (neC b o e hx) e1 (I.base.free b o e n hx);exact⟨sl',e2⟩
 ·obtain⟨o',e1⟩:=I.base.there b o e hx;exact free b o' (neC b o e hx) e1 (I.base.free b o e n hx)
 ·obtain⟨o',e1⟩:=I.base.there b o e hx;exact there b o' (neC b o e hx) e1
 ·obtain⟨m1,e1⟩:=I.base.tbls b ps e;obtain⟨m2,e2⟩:=tbls b _ e1;exact⟨m1++m2,by rw[e2,Array.append_assoc]⟩
 ·obtain⟨m,hn,hl⟩:=I.loc;refine⟨m,ns m hn,fun i x v e1 e2 e3=>?_⟩;obtain⟨u,r,l⟩:=hl i x v e1 e2 e3;refine⟨u,r,?_⟩;rcases l with l | ⟨k,c,e,z⟩
  ·exact .inl l
  ·exact .inr ⟨k,c,e,cellK x c e _ z⟩
 ·obtain⟨v,z⟩:=I.cell x c e;exact⟨v,cellK x c e v z⟩
 ·obtain⟨m,⟨o,_,_,ho,_⟩,_⟩:=I.loc;exact free _ o (fun z=>(hch _ z).2.1 rfl) ho I.free
 ·obtain⟨v,o,ho,hd⟩:=I.cell x c e;exact free c o (fun z=>(hch c z).2.2.1 x c e rfl) ho (I.freeC x c e)
 ·obtain⟨e,n,ne,nf,d⟩:=I.pin p hp;have nch:p.1∉ch:=fun z=>(hch p.1 z).2.2.2 p hp rfl
  exact⟨keep p.1 p.2 ne nf nch e n,free p.1 p.2 nch e n,ne,nf,d⟩
theorem Inv.un {t':Nat}(I:Inv X pins σ H s)(u:Un X.fs [] H H' s.heap h')(hok:iA X.prog X.w H' h'):Inv X pins σ H' { s with heap:=h',toks:=t' }:=by
 obtain⟨m,⟨o,es,ep,ho,r⟩,_⟩:=id I.loc;obtain⟨sl,hL⟩:=u.any ho I.free (by simp);exact I.step (g':=s.gens) (d':=s.drawn) (ch:=[]) (fun _ z=>nomatch z) (fun b o _ hb _ e n=>u.keep b o e n hb (by simp)) (fun b o _ hb _ e n=>u.slot b o e n hb (by simp)) (fun b o _ e n=>u.free b o e n (by simp)) (fun b o _ e=>u.there b o e (by simp)) u.tups u.frzs u.tbls (fun m' hm=>by
  obtain⟨o',es',ep',ho',r'⟩:=hm;rw[ho] at ho';cases ho';exact⟨_,es',ep',hL,r'⟩) hok I.bare
theorem Inv.call {g':Array GenState}{t':Nat}{d':Drawn}{ch:List Addr}(I:Inv X pins σ H s)(u:Un (uv X.stack) ch H H' s.heap h')(hok:iA X.prog X.w H' h')(hg:AllBare g')
  (hch:∀ b∈ch,(b∈X.ex\/X.s₀.heap.objs.size<=b)/\b≠X.env.locals/\(∀ x c,X.env.cells.lookup x=some c->c≠b)/\∀ p∈X.pn++pins,p.1≠b) :
  Inv X pins σ H' { s with heap:=h',gens:=g',drawn:=d',toks:=t' }:=by
 obtain⟨m,⟨o,es,ep,ho,r⟩,_⟩:=id I.loc;obtain⟨sl,hL⟩:=u.any ho I.free fun z=>(hch _ z).2.1 rfl
 exact I.step (ch:=ch) hch (fun b o hL hb hc e n=>u.keep b o e n (fun z=>(gp.mp (I.stkSub b z)).elim hL hb) hc) (fun b o _ _ hc e n=>u.any e n hc) (fun b o hc e n=>u.free b o e n hc) (fun b o hc e=>u.there b o e hc) u.tups u.frzs u.tbls (fun m' hm=>by
  obtain⟨o',es',ep',ho',r'⟩:=hm;rw[ho] at ho';cases ho';exact⟨_,es',ep',hL,r'⟩) hok hg
theorem Inv.turned {t':Nat}{it:Addr}(I:Inv X pins σ H s)(k:∀ b o,b≠it->s.heap.get? b=some o->h'.get? b=some o)(hn:H it=none)(hL:it≠X.env.locals)
  (h1:it∈X.ex\/X.s₀.heap.objs.size<=it) (h2:∀ x c,X.env.cells.lookup x=some c->c≠it) (h3:∀ p∈X.pn++pins,p.1≠it):Inv X pins σ H { s with heap:=h',toks:=t' }:=by
 have nit:∀ b u,H b=some u->b≠it:=fun b u e z=>by rw[z,hn] at e;cases e
 refine I.step (g':=s.gens) (d':=s.drawn) (ch:=[it]) (fun b hb=>?_) (fun b o _ _ hc e _=>k b o (fun z=>hc (by simp[z])) e) (fun b o _ _ hc e _=>⟨o.slots,k b o (fun z=>hc (by simp[z])) e⟩) (fun _ _ _ _ n=>n)
  (fun b o hc e=>⟨o,k b o (fun z=>hc (by simp[z])) e⟩) (fun _ _ e=>e) (fun _ _ _ e=>e) (fun b ps e=>⟨#[],by rw[e];simp⟩) (fun m hm=>?_) (fun b u e=>?_) I.bare
 ·have e:b=it:=by simpa using hb
  subst e;exact⟨h1,hL,h2,h3⟩
 ·obtain⟨o,es,ep,ho,r⟩:=hm;exact⟨o,es,ep,k _ o (cz hL) ho,r⟩
 ·refine (I.hok b u e).stay (fun c v hc q=>k c v ?_ q) (fun _ q=>q) fun _ _ q=>q
  rcases hc with z | z
  ·rw[z];exact nit b u e
  ·exact nit c _ z
theorem Inv.tok (I:Inv X pins σ H s)(t:Nat):Inv X pins σ H { s with toks:=t }:=I.un (h':=s.heap) (t':=t) Un.refl I.hok
theorem Inv.kept {t':Nat}(I:Inv X pins σ H s)(k:∀ b u,s.heap.get? b=some u->h'.get? b=some u):Inv X pins σ H { s with heap:=h',toks:=t' }:=I.un (Un.kept k) (I.hok.kept k)
theorem Inv.laid {a:Addr}{o:HO}{t':Nat}(I:Inv X pins σ H s)(k:∀ b u,s.heap.get? b=some u->h'.get? b=some u)(hp:s.heap.objs.size<=a)(new:cN X.prog X.w (upd H a o) h' a o) :
  Inv X pins σ (upd H a o) { s with heap:=h',toks:=t' }:=I.un (Un.laid k hp (I.hok.fresh hp)) (I.hok.laid k hp new)
theorem Inv.write {x e:Addr}{o:HO}{t':Nat}(I:Inv X pins σ H s)(mu:mO (H x))(he:e=x\/H e=some (.own x))(k:∀ b u,b≠e->s.heap.get? b=some u->h'.get? b=some u)(heo:∃ u,h'.get? e=some u)
  (new:cN X.prog X.w (upd H x o) h' x o):Inv X pins σ (upd H x o) { s with heap:=h',toks:=t' }:=I.un (Un.write mu he k heo) (I.hok.write mu he k heo new)
theorem Inv.weak {σ':List (Option V)}(I:Inv X pins σ H s)(hl:σ'.length=σ.length)(w:∀(i:Nat) v,σ'[i]? = some (some v)->σ[i]? = some (some v)):Inv X pins σ' H s :=
 ⟨I.ok,I.os,I.bare,I.base,let ⟨m,hn,hl'⟩:=I.loc;⟨m,hn,fun i x v e1 e2 e3=>hl' i x v e1 (w i v e2) e3⟩,I.cell,I.free,I.freeC,I.pin,I.hok,hl.trans I.len⟩
theorem Inv.pins_of {pins':List (Addr×Obj)}(I:Inv X pins σ H s)(h:∀ p∈pins',s.heap.get? p.1=some p.2/\H p.1=none/\p.1≠X.env.locals/\p.1∉X.fs/\∀ v,p.2.data≠.cell v):Inv X pins' σ H s :=
 ⟨I.ok,I.os,I.bare,I.base,I.loc,I.cell,I.free,I.freeC,fun p hp=>(List.mem_append.mp hp).elim (fun z=>I.pin p (ay _ z)) (h p),I.hok,I.len⟩
theorem m8 {N:List Str}(hN:N.Nodup){i j:Nat}{x:Str}(a:N[i]? = some x)(b:N[j]? = some x):i=j:=by
 obtain⟨h1,e1⟩:=List.getElem?_eq_some_iff.mp a;obtain⟨h2,e2⟩:=List.getElem?_eq_some_iff.mp b;exact (List.getElem_inj hN).mp (e1.trans e2.symm)
theorem rz {M:Model}{A:Around}{E:Value->Shared->Prop}{i:Nat}{x:Str}{v:V}{u:Value}{Q:Unit->Shared->Prop}(I:Inv X pins σ H s)(hN:X.N.Nodup)(hi:X.N[i]? = some x)(hx:Loc X.env.scope x)(r:RelV v u)
  (h:∀ s',Inv X pins (σ.set i (some v)) H s'->(∃ a,Heap.SameBut a s.heap s'.heap/\(a=X.env.locals\/X.env.cells.lookup x=some a))->Q () s') (hf:X.fn x=true\/X.env.scope.names.lookup x=some .local:=by first | exact .inl rfl | exact .inr rfl | assumption):wpAny M A (storeName X.env x u) Q E s:=by
 obtain⟨m,hn,hl⟩:=id I.loc;have hcls:(X.env.scope.kind == .class || (X.env.scope.kind == .module&&X.env.locals != X.env.globals))=false:=by rw[I.ok.kind];rfl
 have hiσ:i<σ.length:=by rw[I.len];exact (List.getElem?_eq_some_iff.mp hi).1
 have cne:=I.cne;have tracked:∀{a:Addr}{h':Heap},(∃ o,s.heap.get? a=some o/\H a=none)->Heap.SameBut a s.heap h'->iA X.prog X.w H h':=fun {a h'} ha hs b ob e=>by
  obtain⟨_,_,hfree⟩:=ha;refine (I.hok b ob e).stay (fun c w' hc q=>(hs.2 c ?_).trans q) (fun _ q=>q) fun _ _ q=>q
  rintro rfl;rcases hc with rfl | hc
  ·rw[hfree] at e;cases e
  ·rw[hfree] at hc;cases hc
 rcases hx with hk | hk
 ·refine wpAny_storeName_local hk hn (fun h' hn' hs=>?_) hcls;obtain⟨oL,_,_,hoL,_⟩:=id hn;refine h _ ⟨I.ok,I.os,I.bare,⟨fun b o e n hb hx=>?_,fun b o e n hb hx=>?_,I.base.free,fun b o e hx=>?_,I.base.tups,I.base.frzs,I.base.tbls⟩,⟨_,hn',fun j y v' e1 e2 e3=>?_⟩,fun y c e=>?_,I.free,I.freeC,fun p hp=>?_,tracked ⟨oL,hoL,I.free⟩ hs,by simpa using I.len⟩ ⟨_,hs,.inl rfl⟩
  ·exact (hs.2 b (cg (az (Heap.lt_size e) I.ok.above))).trans (I.base.keep b o e n hb hx)
  ·obtain⟨sl,e1⟩:=I.base.slot b o e n hb hx;exact⟨sl,(hs.2 b (cg (az (Heap.lt_size e) I.ok.above))).trans e1⟩
  ·obtain⟨o',e1⟩:=I.base.there b o e hx;exact⟨o',(hs.2 b (cg (az (Heap.lt_size e) I.ok.above))).trans e1⟩
  ·by_cases hj:j=i
   ·subst hj;rw[hi] at e1;cases e1;rw[List.getElem?_set_self hiσ] at e2;cases e2;exact⟨u,r,.inl ⟨hk,by simp⟩⟩
   ·rw[List.getElem?_set_ne (cz hj)] at e2;obtain⟨u',r',q⟩:=hl j y v' e1 e2 e3;refine⟨u',r',?_⟩;rcases q with ⟨k,e⟩ | ⟨k,c,e,z⟩
    ·refine .inl ⟨k,?_⟩;have:y≠x:=fun e=>hj (m8 hN e1 (e ▸ hi))
     simp[this,e]
    ·exact .inr ⟨k,c,e,z.sameBut hs (cne y c e)⟩
  ·obtain⟨w',z⟩:=I.cell y c e;exact⟨w',z.sameBut hs (cne y c e)⟩
  ·obtain⟨e,n,ne,nf,d⟩:=I.pin p hp;exact⟨(hs.2 p.1 ne).trans e,n,ne,nf,d⟩
 ·have hfn:X.fn x=true:=by
   rcases hf with z | z
   ·exact z
   ·rw[z] at hk;cases hk
  obtain⟨c,hc⟩:=I.ok.has x (.inl hk);obtain⟨w',z⟩:=I.cell x c hc;refine wpAny_storeName_cell I.ok.kind hk hc z (fun h' hc' hs=>?_);obtain⟨oc,hoc,hocd⟩:=id z;refine h { s with heap:=h' } ⟨I.ok,I.os,I.bare,⟨fun b o e n hb hx=>?_,fun b o e n hb hx=>?_,I.base.free,fun b o e hx=>?_,I.base.tups,I.base.frzs,I.base.tbls⟩,⟨m,hn.sameBut hs (Ne.symm (cne x c hc)),fun j y v' e1 e2 e3=>?_⟩,fun y c' e=>?_,I.free,I.freeC,fun p hp=>?_,tracked ⟨oc,hoc,I.freeC x c hc⟩ hs,by simpa using I.len⟩ ⟨c,hs,.inr hc⟩
  ·exact (hs.2 b (cg (az (Heap.lt_size e) (I.ok.cab x c hfn hc)))).trans (I.base.keep b o e n hb hx)
  ·obtain⟨sl,e1⟩:=I.base.slot b o e n hb hx;exact⟨sl,(hs.2 b (cg (az (Heap.lt_size e) (I.ok.cab x c hfn hc)))).trans e1⟩
  ·obtain⟨o',e1⟩:=I.base.there b o e hx;exact⟨o',(hs.2 b (cg (az (Heap.lt_size e) (I.ok.cab x c hfn hc)))).trans e1⟩
  ·by_cases hj:j=i
   ·subst hj;rw[hi] at e1;cases e1;rw[List.getElem?_set_self hiσ] at e2;cases e2;exact⟨u,r,.inr ⟨.inl hk,c,hc,hc'⟩⟩
   ·rw[List.getElem?_set_ne (cz hj)] at e2;obtain⟨u',r',q⟩:=hl j y v' e1 e2 e3;refine⟨u',r',?_⟩;rcases q with q | ⟨k,c',e,z'⟩
    ·exact .inl q
    ·refine .inr ⟨k,c',e,z'.sameBut hs ?_⟩;rintro rfl;exact hj (m8 hN e1 (I.ok.inj _ _ _ e hc ▸ hi))
  ·by_cases hcc:c'=c
   ·subst hcc;exact⟨_,hc'⟩
   ·obtain⟨w2,z2⟩:=I.cell y c' e;exact⟨w2,z2.sameBut hs hcc⟩
  ·obtain⟨e,n,ne,nf,d⟩:=I.pin p hp;refine⟨(hs.2 p.1 ?_).trans e,n,ne,nf,d⟩;intro q;rw[q,hoc] at e;have q':oc=p.2:=bu e;exact d w' (by rw[<-q'];exact hocd)
theorem jU {M:Model}{A:Around}{E:Value->Shared->Prop}{i:Nat}{x:Str}{v:V}{u:Value}{Q:Unit->Shared->Prop}(I:Inv X pins σ H s)(hN:X.N.Nodup)(hi:X.N[i]? = some x)(hx:Loc X.env.scope x)(r:RelV v u)
  (h:∀ s',Inv X pins (σ.set i (some v)) H s'->Q () s') (hf:X.fn x=true\/X.env.scope.names.lookup x=some .local:=by first | exact .inl rfl | exact .inr rfl | assumption):wpAny M A (storeName X.env x u) Q E s :=
 rz I hN hi hx r (fun s' I' _=>h s' I') hf
theorem Inv.call' {s':Shared}{ch:List Addr}(I:Inv X pins σ H s)(ho:s'.os=s.os)(u:Un (uv X.stack) ch H H' s.heap s'.heap)(hok:iA X.prog X.w H' s'.heap)(hg:AllBare s'.gens)
  (hch:∀ b∈ch,(b∈X.ex\/X.s₀.heap.objs.size<=b)/\b≠X.env.locals/\(∀ x c,X.env.cells.lookup x=some c->c≠b)/\∀ p∈X.pn++pins,p.1≠b):Inv X pins σ H' s':=by
 obtain⟨h',g',d',t',o'⟩:=s';have e:o'=s.os:=ho;subst e;exact I.call (g':=g') (t':=t') (d':=d') u hok hg hch
end
noncomputable abbrev XK:=Value->Option Addr->Hp->Prop
noncomputable abbrev St:=List (Option V)
noncomputable abbrev VK:=V->Hp->Prop
noncomputable abbrev TE:=St->Hp->VK->Prop
noncomputable abbrev TT:=St->Hp->(Bool->Hp->Prop)->Prop
noncomputable abbrev TA:=St->Hp->(List V->Hp->Prop)->Prop
structure Ends where
 nx:St->Hp->Prop
 rt:VK
 bk:St->Hp->Prop:=fun _ _=>False
 ct:St->Hp->Prop:=fun _ _=>False
noncomputable abbrev TS:=Ends->St->Hp->Prop
def EP (X:Cx)(pins:List (Addr×Obj))(σ:St)(Q:VK)(u:Value)(s':Shared):Prop:=∃ v H',Inv X pins σ H' s'/\RelV v u/\Q v H'
def TP (X:Cx)(pins:List (Addr×Obj))(σ:St)(Q:Bool->Hp->Prop)(b:Bool)(s':Shared):Prop:=∃ H',Inv X pins σ H' s'/\Q b H'
def AP (X:Cx)(pins:List (Addr×Obj))(σ:St)(Q:List V->Hp->Prop)(us:List Value)(s':Shared):Prop:=∃ vs H',Inv X pins σ H' s'/\aL vs us/\Q vs H'
noncomputable def SP (X:Cx)(pins:List (Addr×Obj))(D:Ends)(f:Flow)(s':Shared):Prop :=
 match f with
 |.next=>∃ σ' H',Inv X pins σ' H' s'/\D.nx σ' H'
 |.brk=>∃ σ' H',Inv X pins σ' H' s'/\D.bk σ' H'
 |.cont=>∃ σ' H',Inv X pins σ' H' s'/\D.ct σ' H'
 |.ret u=>∃ v σ' H',Inv X pins σ' H' s'/\RelV v u/\D.rt v H'
noncomputable def PE (X:Cx)(e:Expr)(t:TE):Prop :=
 ∀(pins:List (Addr×Obj)) (s:Shared) (σ:St) (H:Hp) (Q:VK),Inv X pins σ H s->t σ H Q->wpAny (model X.prog X.w) X.A (eval e X.env) (EP X pins σ Q) X.xe s
noncomputable def PT (X:Cx)(e:Expr)(t:TT):Prop :=
 ∀(pins:List (Addr×Obj)) (s:Shared) (σ:St) (H:Hp) (Q:Bool->Hp->Prop),Inv X pins σ H s->t σ H Q->wpAny (model X.prog X.w) X.A (isTrue e X.env (eval e X.env)) (TP X pins σ Q) X.xe s
noncomputable def PW (X:Cx)(e:Expr)(t:TT):Prop :=
 ∀(whole:Sem Value) (pins:List (Addr×Obj)) (s:Shared) (σ:St) (H:Hp) (Q:Bool->Hp->Prop),Inv X pins σ H s->t σ H Q->wpAny (model X.prog X.w) X.A (isTrue e X.env whole) (TP X pins σ Q) X.xe s
theorem PW.pt {X:Cx}{e:Expr}{t:TT}(h:PW X e t):PT X e t:=h _
noncomputable def PA (X:Cx)(es:List Expr)(t:TA):Prop :=
 ∀(pos:Pos) (pins:List (Addr×Obj)) (s:Shared) (σ:St) (H:Hp) (Q:List V->Hp->Prop),Inv X pins σ H s->t σ H Q->wpAny (model X.prog X.w) X.A (spliced (backTo pos (starEach es X.env))) (AP X pins σ Q) X.xe s
noncomputable def PS (X:Cx)(st:Stmt)(t:TS):Prop :=
 ∀(pins:List (Addr×Obj)) (s:Shared) (σ:St) (H:Hp) (D:Ends),Inv X pins σ H s->t D σ H->wpAny (model X.prog X.w) X.A (exec st X.env) (SP X pins D) X.xe s
noncomputable def km (X:Cx)(st:List Stmt)(t:TS):Prop :=
 ∀(pins:List (Addr×Obj)) (s:Shared) (σ:St) (H:Hp) (D:Ends),Inv X pins σ H s->t D σ H->wpAny (model X.prog X.w) X.A (execs st X.env) (SP X pins D) X.xe s
theorem bV {α:Type}{t:Sem α}{Q Q':α->Shared->Prop}{M:Model}{A:Around}{E:Value->Shared->Prop}{s:Shared}(h:wpAny M A t Q E s)(hQ:∀ a s,Q a s->Q' a s):wpAny M A t Q' E s:=wpAny_mono h hQ fun _ _ x=>x
end L2
namespace L2
open PySem PySem.Spec PyProof.Rows
section
variable {X:Cx}
def tVar (i:Nat):TE:=fun σ H Q=>∃ v,σ[i]? = some (some v)/\Q v H
def tC (v:V):TE:=fun _ H Q=>Q v H
theorem uY {i:Nat}{x:Str}{pos:Pos}(hN:X.N[i]? = some x)(hv:Av X.env.scope x)(hd:(x==("__debug__" : Str))=false:=by decide) (hcd:(x==("__classdict__" : Str))=false:=by decide):PE X (.Name x pos) (tVar i):=by
 intro pins s σ H Q I h;obtain⟨v,e,h⟩:=h;obtain⟨m,hn,hl⟩:=I.loc;obtain⟨u,r,l⟩:=hl i x v hN e hv;have fin:EP X pins σ Q u s:=⟨v,H,I,r,h⟩;rcases l with ⟨hk,hm⟩ | ⟨hk,c,hc,hcell⟩
 ·exact wpAny_Name (wpAny_loadName_local I.ok.kind hk hn hm fin) hd
 ·rcases hk with hk | hk
  ·exact wpAny_Name (wpAny_loadName_cell I.ok.kind hk hc hcell fin) hd
  ·exact wpAny_Name (wpAny_loadName_free I.ok.kind hk hc hcell fin hcd) hd
theorem nP {i j pos}:PE X (.Constant (.int i) j pos) (tC (.int i)):=fun _ _ _ H _ I h=>wpAny_Constant_int ⟨.int i,H,I.tok _,⟨_,rfl⟩,h⟩
theorem xW {b j pos}:PE X (.Constant (.bool b) j pos) (tC (.bl b)):=fun _ _ _ H _ I h=>Constant_bool ⟨.bl b,H,I,rfl,h⟩
theorem vi {j pos}:PE X (.Constant .none j pos) (tC .non):=fun _ _ _ H _ I h=>Constant_none ⟨.non,H,I,rfl,h⟩
theorem tw {x j pos}:PE X (.Constant (.str x) j pos) (tC (.str x)):=fun _ _ _ H _ I h=>Calls.Constant_str ⟨.str x,H,I.tok _,⟨_,rfl⟩,h⟩
def Gl (X:Cx)(x:Str):Prop:=X.env.kindOf x=some .globalImplicit
theorem lK {E:Value->Shared->Prop}{pins:List (Addr×Obj)}{s:Shared}{σ:St}{H:Hp}{x:Str}{u:Value}{pos:Pos}{Q:Value->Shared->Prop}(I:Inv X pins σ H s)(hg:Gl X x)(hm:X.mg x=some u)(h:Q u s)
  (hd:(x==("__debug__" : Str))=false:=by decide):wpAny (model X.prog X.w) X.A (eval (.Name x pos) X.env) Q E s :=
 Calls.Name_function_global I.ok.kind hg (Calls.loadGlobal_global (by rw[I.ok.glob];exact I.mod.glob.keeps I.bk) hm h) hd
theorem j8 {E:Value->Shared->Prop}{pins:List (Addr×Obj)}{s:Shared}{σ:St}{H:Hp}{x:Str}{u:Value}{pos:Pos}{Q:Value->Shared->Prop}(I:Inv X pins σ H s)(hg:Gl X x)(hm:X.mg x=none)(hv:bootBuiltins x=some u)(h:Q u s)
  (hn:x≠"__name__":=by decide) (hd:(x==("__debug__" : Str))=false:=by decide):wpAny (model X.prog X.w) X.A (eval (.Name x pos) X.env) Q E s:=by
 obtain⟨mb,h1,h2⟩:=I.mod.blt;exact Calls.Name_function_global I.ok.kind hg (Calls.loadGlobal_builtin (by rw[I.ok.glob];exact I.mod.glob.keeps I.bk) hm (by rw[I.ok.blt];exact h1.keeps I.bk) ((h2 x hn).trans hv) h) hd
theorem pI {x:Str}{v:V}{u:Value}{pos:Pos}(hg:Gl X x)(hm:X.mg x=some u)(r:RelV v u)(hd:(x==("__debug__" : Str))=false:=by decide):PE X (.Name x pos) (tC v) :=
 fun _ _ _ H _ I h=>lK I hg hm ⟨v,H,I,r,h⟩ hd
theorem wH {x:Str}{v:V}{u:Value}{pos:Pos}(hg:Gl X x)(hm:X.mg x=none)(hv:bootBuiltins x=some u)(r:RelV v u)(hn:x≠"__name__":=by decide) (hd:(x==("__debug__" : Str))=false:=by decide):PE X (.Name x pos) (tC v) :=
 fun _ _ _ H _ I h=>j8 I hg hm hv ⟨v,H,I,r,h⟩ hn hd
variable {a b:Expr}{ta tb:TE}{pos:Pos}
variable {tA tB':TT}{rest:List Expr}
def tAnd (t u:TT):TT:=fun σ H Q=>t σ H fun c H1=>if c=true then u σ H1 Q else Q false H1
def tOr (t u:TT):TT:=fun σ H Q=>t σ H fun c H1=>if c=true then Q true H1 else u σ H1 Q
def tNot (t:TT):TT:=fun σ H Q=>t σ H fun c H1=>Q (!c) H1
theorem wb (ha:PT X a tA):PW X (.BoolOp .And [a] pos) tA:=by
 intro wh pins s σ H Q I h;refine isTrue_and (bV (ha pins s σ H Q I h) fun c s1 e=>?_);cases c with
 |true=>exact isTrue_and_nil e
 |false=>exact e
theorem AF (ha:PT X a tA):PW X (.BoolOp .Or [a] pos) tA:=by
 intro wh pins s σ H Q I h;refine isTrue_or (bV (ha pins s σ H Q I h) fun c s1 e=>?_);cases c with
 |false=>exact isTrue_or_nil e
 |true=>exact e
theorem yL (ha:PT X a tA)(hb:PW X (.BoolOp .And (b::rest) pos) tB'):PW X (.BoolOp .And (a::b::rest) pos) (tAnd tA tB'):=by
 intro wh pins s σ H Q I h;refine isTrue_and (bV (ha pins s σ H _ I h) fun c s1 ⟨H1,I1,q1⟩=>?_);cases c with
 |true=>exact hb wh pins s1 σ H1 Q I1 q1
 |false=>exact⟨H1,I1,q1⟩
theorem BN (ha:PT X a tA)(hb:PW X (.BoolOp .Or (b::rest) pos) tB'):PW X (.BoolOp .Or (a::b::rest) pos) (tOr tA tB'):=by
 intro wh pins s σ H Q I h;refine isTrue_or (bV (ha pins s σ H _ I h) fun c s1 ⟨H1,I1,q1⟩=>?_);cases c with
 |true=>exact⟨H1,I1,q1⟩
 |false=>exact hb wh pins s1 σ H1 Q I1 q1
theorem AH (ha:PT X a tA):PT X (.UnaryOp .Not a pos) (tNot tA):=by
 intro pins s σ H Q I h;exact isTrue_not (ha pins s σ H (fun c H1=>Q (!c) H1) I h)
def A8 (ta tb:TE):TE:=fun σ H Q=>ta σ H fun x H1=>∃ c,x = .bl c/\if c=true then tb σ H1 Q else Q (.bl false) H1
def tOrV (ta tb:TE):TE:=fun σ H Q=>ta σ H fun x H1=>∃ c,x = .bl c/\if c=true then Q (.bl true) H1 else tb σ H1 Q
def Cg (ta:TE):TE:=fun σ H Q=>ta σ H fun x H1=>∃ c,x = .bl c/\Q (.bl (!c)) H1
theorem zk {op}{t:TE}(h:PE X a t):PE X (.BoolOp op [a] pos) t:=fun pins s σ H Q I hw=>BoolOp_one (h pins s σ H Q I hw)
theorem Aq (ha:PE X a ta)(hb:PE X (.BoolOp .And (b::rest) pos) tb):PE X (.BoolOp .And (a::b::rest) pos) (A8 ta tb):=by
 intro pins s σ H Q I h;refine BoolOp_and (bV (ha pins s σ H _ I h) fun v s1 ⟨x,H1,I1,r1,q1⟩=>?_);obtain⟨c,rfl,q1⟩:=q1;cases r1;refine wpAny_truthy_bool ?_;cases c with
 |true=>exact hb pins s1 σ H1 Q I1 q1
 |false=>exact⟨.bl false,H1,I1,rfl,q1⟩
theorem Cv (ha:PE X a ta)(hb:PE X (.BoolOp .Or (b::rest) pos) tb):PE X (.BoolOp .Or (a::b::rest) pos) (tOrV ta tb):=by
 intro pins s σ H Q I h;refine BoolOp_or (bV (ha pins s σ H _ I h) fun v s1 ⟨x,H1,I1,r1,q1⟩=>?_);obtain⟨c,rfl,q1⟩:=q1;cases r1;refine wpAny_truthy_bool ?_;cases c with
 |false=>exact hb pins s1 σ H1 Q I1 q1
 |true=>exact⟨.bl true,H1,I1,rfl,q1⟩
theorem zL (ha:PE X a ta):PE X (.UnaryOp .Not a pos) (Cg ta):=by
 intro pins s σ H Q I h;refine UnaryOp_ (bV (ha pins s σ H _ I h) fun v s1 ⟨x,H1,I1,r1,q1⟩=>?_);obtain⟨c,rfl,q1⟩:=q1;cases r1;exact not_of (wpAny_truthy_bool ⟨.bl (!c),H1,I1,rfl,q1⟩)
def tIf (t:TT)(ta tb:TE):TE:=fun σ H Q=>t σ H fun c H1=>if c=true then ta σ H1 Q else tb σ H1 Q
theorem vb {c:Expr}(hc:PT X c tA)(ha:PE X a ta)(hb:PE X b tb):PE X (.IfExp c a b pos) (tIf tA ta tb):=by
 intro pins s σ H Q I h;refine wpAny_IfExp (bV (hc pins s σ H _ I h) fun d s1 ⟨H1,I1,q1⟩=>?_);cases d with
 |true=>exact ha pins s1 σ H1 Q I1 q1
 |false=>exact hb pins s1 σ H1 Q I1 q1
end
end L2
namespace L2
open PySem PySem.Spec PyProof.Rows
noncomputable def ko (K:PySem.W.Frag)(H:Hp)(a:Addr)(xs:List V):Prop :=
 Rd H a (.lst xs) \/
  ∃(o:Obj) (its:Array Value) (n:Nat),K.lookup a=some o/\o.cls = .type "list"/\o.dict=none/\o.data = .seq its n/\its.size<=sizeLine/\aL xs its.toList
noncomputable def iq (K:PySem.W.Frag)(H:Hp)(a:Addr)(xs:List V):Prop :=
 Rd H a (.tup xs) \/
  ∃(o:Obj) (its:Array Value) (n:Nat),K.lookup a=some o/\o.cls = .type "tuple"/\o.data = .seq its n/\its.size<=sizeLine/\aL xs its.toList
noncomputable def absV:Value->Option V
 |.none=>some .non
 |.bool b=>some (.bl b)
 |.int i _=>some (.int i)
 |.str x _=>some (.str x)
 |.bytes b _=>some (.byt b)
 |.float b _=>some (.flt b)
 |.ref a=>some (.ref a)
 |.type n=>some (.ty n)
 |_=>none
theorem RelV.abs {x:V}{u:Value}(r:RelV x u):absV u=some x:=by
 cases x with
 |non=>cases r;rfl
 |bl _=>cases r;rfl
 |int _=>obtain⟨t,rfl⟩:=r;rfl
 |str _=>obtain⟨t,rfl⟩:=r;rfl
 |byt _=>obtain⟨t,rfl⟩:=r;rfl
 |flt _=>obtain⟨t,rfl⟩:=r;rfl
 |ref _=>cases r;rfl
 |ty _=>cases r;rfl
theorem RelV.inj {x y:V}{u:Value}(r:RelV x u)(q:RelV y u):x=y:=bu (r.abs.symm.trans q.abs)
theorem aL.inj:∀{xs ys:List V}{us:List Value},aL xs us->aL ys us->xs=ys
 |_,_,_,.nil,.nil=>rfl
 |_,_,_,.cons r t,.cons r' t'=>by rw[r.inj r',aL.inj t t']
section
variable {X:Cx}{pins:List (Addr×Obj)}{σ:St}{H:Hp}{s:Shared}{a:Addr}{xs ys:List V}
theorem Inv.list (I:Inv X pins σ H s)(h:ko X.K H a xs):∃ its:List Value,aL xs its/\PlainL s.heap a its.toArray/\xs.length<=sizeLine:=by
 rcases h with h | ⟨o,its,n,hk,hc,hd,hs,hz,r⟩
 ·obtain⟨z,its,n,r,e⟩:=h.ok I.hok;exact⟨its,r,⟨_,n,e,rfl,rfl,rfl⟩,z⟩
 ·refine⟨its.toList,r,⟨o,n,I.kIn a o hk,hc,hd,by simpa using hs⟩,?_⟩;have e:=r.length;simp only[Array.length_toList] at e;omega
theorem Inv.tuple (I:Inv X pins σ H s)(h:iq X.K H a xs):∃ its:List Value,aL xs its/\IsTup s.heap a its.toArray/\xs.length<=sizeLine:=by
 rcases h with h | ⟨o,its,n,hk,hc,hs,hz,r⟩
 ·obtain⟨z,its,r,p⟩:=h.ok I.hok;exact⟨its,r,p,z⟩
 ·refine⟨its.toList,r,⟨o,I.kIn a o hk,hc,n,by simpa using hs⟩,?_⟩;have e:=r.length;simp only[Array.length_toList] at e;omega
theorem Inv.list_inj (I:Inv X pins σ H s)(h:ko X.K H a xs)(h':ko X.K H a ys):xs=ys:=by
 obtain⟨its,r,⟨o,n,e,_,_,d⟩,_⟩:=I.list h;obtain⟨its',r',⟨o',n',e',_,_,d'⟩,_⟩:=I.list h';rw[e] at e';cases e';rw[d] at d';injection d' with d1 _
 have:its=its':=by simpa using congrArg Array.toList d1
 subst this;exact r.inj r'
theorem Inv.tuple_inj (I:Inv X pins σ H s)(h:iq X.K H a xs)(h':iq X.K H a ys):xs=ys:=by
 obtain⟨its,r,⟨o,e,_,n,d⟩,_⟩:=I.tuple h;obtain⟨its',r',⟨o',e',_,n',d'⟩,_⟩:=I.tuple h';rw[e] at e';cases e';rw[d] at d';injection d' with d1 _
 have:its=its':=by simpa using congrArg Array.toList d1
 subst this;exact r.inj r'
end
noncomputable abbrev Cx.wish (X:Cx)(E:Value->Shared->Prop):Cx:={ X with xe:=E }
noncomputable abbrev Cx.nox (X:Cx):Cx:=X.wish fun _ _=>False
theorem Cx.Ok.wish {X:Cx}(ok:X.Ok)(E:Value->Shared->Prop):(X.wish E).Ok :=
 ⟨ok.mod,ok.kind,ok.glob,ok.blt,ok.above,ok.inj,ok.has,ok.cab,ok.hd,ok.frames,ok.stk,ok.exf,ok.bs,ok.bsz,ok.noex,ok.exfs,ok.funs,ok.frf⟩
theorem Cx.Ok.unwish {X:Cx}{E:Value->Shared->Prop}(ok:(X.wish E).Ok):X.Ok :=
 ⟨ok.mod,ok.kind,ok.glob,ok.blt,ok.above,ok.inj,ok.has,ok.cab,ok.hd,ok.frames,ok.stk,ok.exf,ok.bs,ok.bsz,ok.noex,ok.exfs,ok.funs,ok.frf⟩
section
variable {X:Cx}{pins:List (Addr×Obj)}{σ:St}{H:Hp}{s:Shared}{E:Value->Shared->Prop}
theorem Inv.wish (I:Inv X pins σ H s)(E:Value->Shared->Prop):Inv (X.wish E) pins σ H s:=⟨I.ok.wish E,I.os,I.bare,I.base,I.loc,I.cell,I.free,I.freeC,I.pin,I.hok,I.len⟩
theorem Inv.unwish (I:Inv (X.wish E) pins σ H s):Inv X pins σ H s:=⟨I.ok.unwish,I.os,I.bare,I.base,I.loc,I.cell,I.free,I.freeC,I.pin,I.hok,I.len⟩
theorem SP.unwish {D:Ends}{f:Flow}{s':Shared}(h:SP (X.wish E) pins D f s'):SP X pins D f s':=by
 cases f with
 |next=>obtain⟨σ',H',I,q⟩:=h;exact⟨σ',H',I.unwish,q⟩
 |brk=>obtain⟨σ',H',I,q⟩:=h;exact⟨σ',H',I.unwish,q⟩
 |cont=>obtain⟨σ',H',I,q⟩:=h;exact⟨σ',H',I.unwish,q⟩
 |ret u=>obtain⟨v,σ',H',I,r,q⟩:=h;exact⟨v,σ',H',I.unwish,r,q⟩
theorem km.nox {st:List Stmt}{t:TS}(h:km X.nox st t):km X st t:=fun pins s σ H D I hw =>
 wpAny_mono (h pins s σ H D (I.wish _) hw) (fun _ _ q=>q.unwish) fun _ _ z=>False.elim z
end
section
variable {X:Cx}{st:Stmt}{rest:List Stmt}{t u:TS}{e:Expr}{te:TE}{pos:Pos}
def ue:TS:=fun D σ H=>D.nx σ H
def tSeq (t u:TS):TS:=fun D σ H=>t { D with nx:=u D } σ H
theorem xp:km X [] ue:=fun _ _ σ H _ I h=>wpAny_execs_nil ⟨σ,H,I,h⟩
theorem sQ (h1:PS X st t)(h2:km X rest u):km X (st::rest) (tSeq t u):=by
 intro pins s σ H D I h;refine wpAny_execs_cons (bV (h1 pins s σ H { D with nx:=u D } I h) fun f s1 q=>?_);cases f with
 |next =>
  obtain⟨σ',H',I',q⟩:=q;exact h2 pins s1 σ' H' D I' q
 |ret v=>exact q
 |brk=>exact q
 |cont=>exact q
theorem xC:PS X (.Pass pos) ue:=fun _ _ σ H _ I h=>wpAny_Pass ⟨σ,H,I,h⟩
theorem Inv.quiet {pins:List (Addr×Obj)}{σ:St}{H:Hp}{s:Shared}(I:Inv X pins σ H s):interactive X.env=false:=by simp[interactive,I.ok.kind]
theorem zu {x j pos pos'}:PS X (.Expr (.Constant (.str x) j pos) pos') ue:=fun _ s σ H _ I h=>wpAny_Expr (Calls.Constant_str (show SP X _ _ .next { s with toks:=s.toks+1 } from ⟨σ,H,I.tok _,h⟩)) I.quiet
def uJ (te:TE):TS:=fun D σ H=>te σ H fun _ H1=>D.nx σ H1
theorem jr (he:PE X e te)(hs:swapsWith e none pos.line X.env=pure false:=by rfl):PS X (.Expr e pos) (uJ te):=by
 intro pins s σ H D I h;exact wpAny_Expr_any (bV (he pins s σ H _ I h) fun v s1 ⟨x,H1,I1,r1,q1⟩=>⟨σ,H1,I1,q1⟩) I.quiet hs
def tRet (te:TE):TS:=fun D σ H=>te σ H D.rt
theorem yy (he:PE X e te):PS X (.Return (some e) pos) (tRet te):=by
 intro pins s σ H D I h;exact wpAny_Return_some (bV (he pins s σ H _ I h) fun v s1 ⟨x,H1,I1,r1,q1⟩=>⟨x,σ,H1,I1,r1,q1⟩)
def Cf:TS:=fun D _ H=>D.rt .non H
theorem xn:PS X (.Return none pos) Cf:=fun _ _ σ H _ I h=>wpAny_Return_none ⟨.non,σ,H,I,rfl,h⟩
def tIfS (c:TT)(t u:TS):TS:=fun D σ H=>c σ H fun b H1=>if b=true then t D σ H1 else u D σ H1
theorem Cn {c:Expr}{a b:List Stmt}{tc:TT}(hc:PT X c tc)(ha:km X a t)(hb:km X b u):PS X (.If c a b pos) (tIfS tc t u):=by
 intro pins s σ H D I h;refine wpAny_If (bV (hc pins s σ H _ I h) fun d s1 ⟨H1,I1,q1⟩=>?_);cases d with
 |true=>exact ha pins s1 σ H1 D I1 q1
 |false=>exact hb pins s1 σ H1 D I1 q1
end
noncomputable abbrev TG:=V->St->Hp->(St->Hp->Prop)->Prop
noncomputable abbrev ym:=List V->St->Hp->(St->Hp->Prop)->Prop
noncomputable def PG (X:Cx)(target:Expr)(t:TG):Prop :=
 ∀(pins:List (Addr×Obj)) (s:Shared) (σ:St) (H:Hp) (v:V) (u:Value) (Q:St->Hp->Prop),Inv X pins σ H s->RelV v u->t v σ H Q ->
  wpAny (model X.prog X.w) X.A (assign target X.env u) (fun _ s'=>∃ σ' H',Inv X pins σ' H' s'/\Q σ' H') X.xe s
noncomputable def Bg (X:Cx)(ts:List Expr)(t:ym):Prop :=
 ∀(pins:List (Addr×Obj)) (s:Shared) (σ:St) (H:Hp) (vs:List V) (us:List Value) (Q:St->Hp->Prop),Inv X pins σ H s->aL vs us->t vs σ H Q ->
  wpAny (model X.prog X.w) X.A (assignInOrder ((assignEach ts X.env).map (·.2)) us) (fun _ s'=>∃ σ' H',Inv X pins σ' H' s'/\Q σ' H') X.xe s
noncomputable abbrev yM:=V->V->V->Hp->(Hp->Prop)->Prop
noncomputable def CI (X:Cx)(t:yM):Prop :=
 ∀(pins:List (Addr×Obj)) (s:Shared) (σ:St) (H:Hp) (o i v:V) (ov iv u:Value) (Q:Hp->Prop),Inv X pins σ H s->RelV o ov->RelV i iv->RelV v u->t o i v H Q ->
  wpAny (model X.prog X.w) X.A (setItem ov iv u) (fun _ s'=>∃ H',Inv X pins σ H' s'/\Q H') X.xe s
section
variable {X:Cx}{pos:Pos}
noncomputable def kP (i:Nat):TG:=fun v σ H Q=>Q (σ.set i (some v)) H
theorem pS {i:Nat}{x:Str}(hN:X.N.Nodup)(hi:X.N[i]? = some x)(hx:Loc X.env.scope x)(hf:X.fn x=true\/X.env.scope.names.lookup x=some .local:=by first | exact .inl rfl | exact .inr rfl | assumption):PG X (.Name x pos) (kP i):=by
 intro pins s σ H v u Q I r h;exact wpAny_assign_Name (jU I hN hi hx r (fun s' I'=>⟨_,H,I',h⟩) hf)
noncomputable def Bp:ym:=fun vs σ H Q=>vs=[]/\Q σ H
noncomputable def yf (t:TG)(u:ym):ym:=fun vs σ H Q=>∃ v r,vs=v::r/\t v σ H fun σ' H'=>u r σ' H' Q
theorem wX:Bg X [] Bp:=by
 intro pins s σ H vs us Q I r h;obtain⟨e,h⟩:=h;subst e;cases r;exact assignInOrder_nil ⟨σ,H,I,h⟩
theorem uM {e:Expr}{es:List Expr}{t:TG}{u:ym}(h1:PG X e t)(h2:Bg X es u)
  (hs:(assignEach (e::es) X.env).map (·.2)=assign e X.env::(assignEach es X.env).map (·.2):=by rfl):Bg X (e::es) (yf t u):=by
 intro pins s σ H vs us Q I r h;obtain⟨v,vr,e1,h⟩:=h;subst e1;cases r with
 |cons r rr =>
  rw[hs];refine assignInOrder_cons (bV (h1 pins s σ H _ _ _ I r h) fun _ s1 ⟨σ1,H1,I1,q1⟩=>?_);exact h2 pins s1 σ1 H1 _ _ Q I1 rr q1
noncomputable def ui (K:PySem.W.Frag)(n:Nat)(t:ym):TG:=fun v σ H Q=>∃ a xs,v = .ref a/\iq K H a xs/\xs.length=n/\t xs σ H Q
theorem um {es:List Expr}{k:Nat}{t:ym}{n:Nat}(hc:X.calm=true)(h:Bg X es t)
  (hn:(assignEach es X.env).length=n:=by rfl) (hst:(assignEach es X.env).findIdx? (·.1)=none:=by rfl):PG X (.Tuple es k pos) (ui X.K n t):=by
 intro pins s σ H v u Q I r hw;obtain⟨a,xs,e1,hq,hl,hw⟩:=hw;subst e1;cases r;obtain⟨its,rv,ht,hz⟩:=I.tuple hq;refine assign_Tuple_tuple (I.ok.hd hc) ht (by simp[hn,<-hl,rv.length]) hst fun h' hx=>?_
 have I1:Inv X pins σ H { s with heap:=h' }:=I.kept (t':=s.toks) fun b o e=>hx b o (cg (Heap.lt_size e)) e
 exact h pins _ σ H xs _ Q I1 (by simpa using rv) hw
noncomputable def BR (to ti:TE)(t:yM):TG:=fun v σ H Q=>to σ H fun o H1=>ti σ H1 fun i H2=>t o i v H2 fun H3=>Q σ H3
theorem yZ {o i:Expr}{to ti:TE}{t:yM}(ho:PE X o to)(hi:PE X i ti)(hs:CI X t)
  (ha:∀ v,assign (.Subscript o i pos) X.env v=(do
   let ov <- holding [v] (eval o X.env);let iv <- holding [v,ov] (eval i X.env)
   standAt pos
   holding [v,ov,iv] (setItem ov iv v)
   release [v,ov,iv] []):=by intro _;rfl):PG X (.Subscript o i pos) (BR to ti t):=by
 intro pins s σ H v u Q I r h;rw[ha];refine wpAny_bind (wpAny_holding (bV (ho pins s σ H _ I h) fun ov s1 ⟨x,H1,I1,r1,q1⟩=>?_));refine wpAny_bind (wpAny_holding (bV (hi pins s1 σ H1 _ I1 q1) fun iv s2 ⟨y,H2,I2,r2,q2⟩=>?_));refine wpAny_bind (wpAny_standAt (wpAny_bind (wpAny_holding (bV (hs pins s2 σ H2 x y v ov iv u _ I2 r1 r2 r q2) fun _ s3 ⟨H3,I3,q3⟩=>?_))));exact wpAny_release ⟨σ,H3,I3,q3⟩
def vI (te:TE)(g:TG):TS:=fun D σ H=>te σ H fun x H1=>g x σ H1 D.nx
theorem tZ {tg e:Expr}{te:TE}{g:TG}(he:PE X e te)(hg:PG X tg g)(hs:swapsWithSole [tg] e pos.line X.env=pure false:=by rfl)(hw:swappedStores [tg] e X.env=pure none:=by rfl)
  (h1:(assignEach [tg] X.env).map (·.2)=[assign tg X.env]:=by rfl):PS X (.Assign [tg] e pos) (vI te g):=by
 intro pins s σ H D I h;refine wpAny_Assign_stores (bV (he pins s σ H _ I h) fun v s1 ⟨x,H1,I1,r1,q1⟩=>?_) hs hw;rw[h1];exact bV (hg pins s1 σ H1 x v _ I1 r1 q1) fun _ s2 q=>q
theorem zh {i:Nat}{x:Str}{e:Expr}{te:TE}{pos':Pos}(hN:X.N.Nodup)(hi:X.N[i]? = some x)(hx:Loc X.env.scope x)(he:PE X e te)(hs:swapsWith e (some (.Name x pos')) pos.line X.env=pure false:=by rfl)(hf:X.fn x=true\/X.env.scope.names.lookup x=some .local:=by first | exact .inl rfl | exact .inr rfl | assumption) :
  PS X (.Assign [.Name x pos'] e pos) (vI te (kP i)):=by
 intro pins s σ H D I h;refine wpAny_Assign_Name (bV (he pins s σ H _ I h) fun v s1 ⟨y,H1,I1,r1,q1⟩=>?_) hs;exact jU I1 hN hi hx r1 (fun s2 I2=>⟨_,H1,I2,q1⟩) hf
end
section
variable {X:Cx}{pos:Pos}
def yo (c:TT)(tb:TS):TS:=fun D σ H=>∃ W:Nat->St->Hp->Prop,(∃ m,W m σ H)/\∀ m σ H,W m σ H ->
 c σ H fun b H1=>if b=true then ∃ N:St->Hp->Prop,(∀ σ' H',N σ' H'->∃ m',m'<m/\W m' σ' H')/\tb { D with nx:=N,ct:=N,bk:=D.nx } σ H1 else D.nx σ H1
theorem tP {c:Expr}{body:List Stmt}{tc:TT}{tb:TS}(hp:PassesOwn (model X.prog X.w) X.A X.env X.xe)(hc:PT X c tc)(hb:km X body tb):PS X (.While c body [] pos) (yo tc tb):=by
 intro pins s σ H D I h;obtain⟨W,⟨m0,w0⟩,turn⟩:=h;refine wpAny_While (codeAny_whileLoop (fun n s'=>∃ σ' H',Inv X pins σ' H' s'/\W n σ' H') ?_ m0 ⟨σ,H,I,w0⟩);rintro n s1 ⟨σ1,H1,I1,w1⟩;refine wpAny_passesOwn hp (bV (hc pins s1 σ1 H1 _ I1 (turn n σ1 H1 w1)) fun b s2 ⟨H2,I2,q2⟩=>?_);cases b with
 |true =>
  obtain⟨N,hN,q2⟩:=q2;rw[if_pos rfl];refine wpAny_passesOwn hp (bV (hb pins s2 σ1 H2 _ I2 q2) fun f s3 q3=>?_);cases f with
  |next =>
   obtain⟨σ3,H3,I3,n3⟩:=q3;obtain⟨m',hm,w3⟩:=hN σ3 H3 n3;exact⟨m',hm,σ3,H3,I3,w3⟩
  |cont =>
   obtain⟨σ3,H3,I3,n3⟩:=q3;obtain⟨m',hm,w3⟩:=hN σ3 H3 n3;exact⟨m',hm,σ3,H3,I3,w3⟩
  |brk=>exact q3
  |ret v=>exact q3
 |false =>
  rw[if_neg ax];exact wpAny_execs_nil ⟨σ1,H2,I2,q2⟩
end
structure It where
 go:Nat->Hp->Prop
 yld:Nat->Hp->V->Hp->Prop
 stop:Nat->Hp->Prop
noncomputable def hJ (X:Cx)(pins:List (Addr×Obj))(H:Hp)(b:Addr):Prop :=
 H b=none/\b≠X.env.locals/\b∉X.fs/\(b∈X.ex\/X.s₀.heap.objs.size<=b)/\(∀ x c,X.env.cells.lookup x=some c->c≠b)/\∀ p∈X.pn++pins,p.1≠b
theorem Inv.fpOk {X:Cx}{pins:List (Addr×Obj)}{σ:St}{H H':Hp}{s:Shared}{b:Addr}(I:Inv X pins σ H s)(hb:s.heap.objs.size<=b)(hn:H' b=none):hJ X pins H' b:=by
 refine⟨hn,Nat.ne_of_gt (az I.lt hb),I.nofs hb,.inr (bj I.sz hb),fun x c e z=>?_,fun p hp z=>?_⟩
 ·obtain⟨v,q⟩:=I.cell x c e;exact absurd (az q.lt (by rw[z];exact hb)) (da _)
 ·exact absurd (az (Heap.lt_size (I.pin p hp).1) (by rw[z];exact hb)) (da _)
structure Turn (P:Program)(w:World)(K:PySem.W.Frag)(tg:Expr)(J:It)(fp:List Addr)(it:Addr)(tn:Nat->Heap->Prop):Prop where
 mem:it∈fp
 obj:∀ i h,tn i h->∀ b∈fp,∃ o,h.get? b=some o/\∀ v,o.data≠.cell v
 keep:∀ i h h',tn i h->(∀ b∈fp,∀ o,h.get? b=some o->h'.get? b=some o)->tn i h'
 item:∀(X:Cx),X.prog=P->X.w=w->X.K=K->X.calm=true->∀(i:Nat) (pins:List (Addr×Obj)) (s:Shared) (σ:St) (H:Hp) (E:Value->Shared->Prop),Inv X pins σ H s->(∀ b∈fp,hJ X pins H b)->tn i s.heap->J.go i H ->
  wpAny (model P w) X.A (pyNext (.ref it)) (fun r s1=>∃ u,r=some u /\
   wpAny (model P w) X.A (letOwnedTupleGo tg (.ref it) u) (fun _ s2=>∃ x H',Inv X pins σ H' s2/\RelV x u/\J.yld i H x H'/\tn (i+1) s2.heap/\∀ b∈fp,H' b=none) E s1) E s
 done:∀(X:Cx),X.prog=P->X.w=w->X.K=K->X.calm=true->∀(i:Nat) (pins:List (Addr×Obj)) (s:Shared) (σ:St) (H:Hp) (E:Value->Shared->Prop),Inv X pins σ H s->(∀ b∈fp,hJ X pins H b)->tn i s.heap->J.stop i H ->
  wpAny (model P w) X.A (pyNext (.ref it)) (fun r s1=>r=none/\Inv X pins σ H s1) E s
 self:∀(A:Around) (i:Nat) (s:Shared) (Q:Value->Shared->Prop) (E:Value->Shared->Prop),tn i s.heap->Q (.ref it) s->wpAny (model P w) A (pyIter (.ref it)) Q E s
noncomputable abbrev TI:=St->Hp->(It->Hp->Prop)->Prop
noncomputable def zH (X:Cx)(pins:List (Addr×Obj))(σ:St)(tg:Expr)(R:It->Hp->Prop)(itv:Value)(s2:Shared):Prop :=
 ∃(it:Addr) (fp:List Addr) (tn:Nat->Heap->Prop) (J:It) (H':Hp),itv = .ref it/\Inv X pins σ H' s2/\Turn X.prog X.w X.K tg J fp it tn/\tn 0 s2.heap/\(∀ b∈fp,hJ X pins H' b)/\R J H'
noncomputable def PI (X:Cx)(tg iter:Expr)(wi:TI):Prop :=
 ∀(pins:List (Addr×Obj)) (s:Shared) (σ:St) (H:Hp) (R:It->Hp->Prop),Inv X pins σ H s->wi σ H R ->
  wpAny (model X.prog X.w) X.A (eval iter X.env) (fun v s1=>wpAny (model X.prog X.w) X.A (pyIter v) (zH X pins σ tg R) X.xe s1) X.xe s
theorem p8 {M:Model}{A:Around}{E:Value->Shared->Prop}{s:Shared}{tg:Expr}{it:Addr}{u:Value}{o:Obj}{n:String}{vs:Array Value}{Q:Unit->Shared->Prop}(ho:s.heap.get? it=some o)(hc:o.cls = .type n)(hd:o.data = .fields vs)
  (hn:["enumerate","zip","dict_itemiterator","dict_reverseitemiterator","odict_iterator","itertools.zip_longest","itertools.pairwise"].contains n=false) (hQ:Q () s):wpAny M A (letOwnedTupleGo tg (.ref it) u) Q E s:=by
 unfold letOwnedTupleGo;cases tg<;>first
  | exact wpAny_pure hQ
  | (cases u<;>first
    | exact wpAny_pure hQ
    | (refine wpAny_bind (wpAny_load ho ?_)
       rw[hc,hd];show wpAny M A (if (["enumerate","zip","dict_itemiterator","dict_reverseitemiterator","odict_iterator","itertools.zip_longest","itertools.pairwise"].contains n&&vs[0]?==some (rawInt _))=true then _ else _) Q E s;rw[if_neg (by intro h;rw[hn,Bool.false_and] at h;cases h)];exact wpAny_pure hQ))
noncomputable def Itl (K:PySem.W.Frag)(a:Addr):It :=
 ⟨fun i H=>∃ xs x,ko K H a xs/\xs[i]? = some x,fun i H x H'=>H'=H/\∀ xs,ko K H a xs->xs[i]? = some x,fun i H=>∃ xs,ko K H a xs/\xs.length<=i⟩
noncomputable def Itt (K:PySem.W.Frag)(a:Addr):It :=
 ⟨fun i H=>∃ xs x,iq K H a xs/\xs[i]? = some x,fun i H x H'=>H'=H/\∀ xs,iq K H a xs->xs[i]? = some x,fun i H=>∃ xs,iq K H a xs/\xs.length<=i⟩
theorem rh {P:Program}{w:World}{K:PySem.W.Frag}{tg:Expr}(a it:Addr):Turn P w K tg (Itl K a) [it] it (fun i h=>h.IsListIter it a i) where
 mem:=by simp
 obj:=fun i h st b hb=>by
  have e:b=it:=by simpa using hb
  subst e;obtain⟨o,e,c,d⟩:=st;exact⟨o,e,fun v z=>by rw[d] at z;cases z⟩
 keep:=fun i h h' st k=>st.at fun o e=>k it (by simp) o e
 item:=by
  intro X hP hw hK hc i pins s σ H E I hf st hg;subst hP hw hK;obtain⟨xs,x,hq,hx⟩:=hg;obtain⟨its,rv,p,hz⟩:=I.list hq;obtain⟨u,hu,ru⟩:=rv.get hx;obtain⟨f0,f1,f2,f3,f4,f5⟩:=hf it (by simp);refine wpAny_pyNext_list_item st p.isList (x:=u) (by simpa using hu) fun h' st' sb=>?_
  have I1:Inv X pins σ H { s with heap:=h' }:=I.turned (t':=s.toks) (fun b o hb e=>(sb.2 b hb).trans e) f0 f1 f3 f4 f5;obtain⟨o,e,c,d⟩:=id st';exact⟨u,rfl,p8 (s:={ s with heap:=h' }) e c d (by decide) ⟨x,H,I1,ru,⟨rfl,fun ys hy=>by rw[I.list_inj hy hq];exact hx⟩,st',fun b hb=>(hf b hb).1⟩⟩
 done:=by
  intro X hP hw hK hc i pins s σ H E I hf st hg;subst hP hw hK;obtain⟨xs,hq,hx⟩:=hg;obtain⟨its,rv,p,hz⟩:=I.list hq;obtain⟨f0,f1,f2,f3,f4,f5⟩:=hf it (by simp);have hl:=rv.length;exact wpAny_pyNext_list_end (I.ok.hd hc) st p.isList (by simp;omega) fun h' eb=>⟨rfl,I.turned (t':=s.toks) (fun b o hb e=>eb b o hb e) f0 f1 f3 f4 f5⟩
 self:=fun _ _ _ _ _ st h=>wpAny_pyIter_listiter st h
theorem nY {P:Program}{w:World}{K:PySem.W.Frag}{tg:Expr}(a it:Addr):Turn P w K tg (Itt K a) [it] it (fun i h=>h.IsTupleIter it a i) where
 mem:=by simp
 obj:=fun i h st b hb=>by
  have e:b=it:=by simpa using hb
  subst e;obtain⟨o,e,c,d⟩:=st;exact⟨o,e,fun v z=>by rw[d] at z;cases z⟩
 keep:=fun i h h' st k=>st.at fun o e=>k it (by simp) o e
 item:=by
  intro X hP hw hK hc i pins s σ H E I hf st hg;subst hP hw hK;obtain⟨xs,x,hq,hx⟩:=hg;obtain⟨its,rv,p,hz⟩:=I.tuple hq;obtain⟨u,hu,ru⟩:=rv.get hx;obtain⟨f0,f1,f2,f3,f4,f5⟩:=hf it (by simp);refine wpAny_pyNext_tuple_item st (show s.heap.IsTuple a its.toArray from p) (x:=u) (by simpa using hu) fun h' st' sb=>?_
  have I1:Inv X pins σ H { s with heap:=h' }:=I.turned (t':=s.toks) (fun b o hb e=>(sb.2 b hb).trans e) f0 f1 f3 f4 f5;obtain⟨o,e,c,d⟩:=id st';exact⟨u,rfl,p8 (s:={ s with heap:=h' }) e c d (by decide) ⟨x,H,I1,ru,⟨rfl,fun ys hy=>by rw[I.tuple_inj hy hq];exact hx⟩,st',fun b hb=>(hf b hb).1⟩⟩
 done:=by
  intro X hP hw hK hc i pins s σ H E I hf st hg;subst hP hw hK;obtain⟨xs,hq,hx⟩:=hg;obtain⟨its,rv,p,hz⟩:=I.tuple hq;obtain⟨f0,f1,f2,f3,f4,f5⟩:=hf it (by simp);have hl:=rv.length;exact wpAny_pyNext_tuple_end (I.ok.hd hc) st (show s.heap.IsTuple a its.toArray from p) (by simp;omega) fun h' eb=>⟨rfl,I.turned (t':=s.toks) (fun b o hb e=>eb b o hb e) f0 f1 f3 f4 f5⟩
 self:=fun _ _ _ _ _ st h=>wpAny_pyIter_tupleiter st h
end L2
namespace L2
open PySem PySem.Spec PyProof.Rows
section
variable {X:Cx}{tg:Expr}
def tFor (wi:TI)(g:TG)(tb:TS):TS:=fun D σ H=>wi σ H fun J H1=>∃ W:Nat->Nat->St->Hp->Prop,(∃ m,W 0 m σ H1)/\∀ i m σ H,W i m σ H ->
 (J.stop i H/\D.nx σ H)\/(J.go i H/\∃ N:St->Hp->Prop,(∀ σ' H',N σ' H'->∃ m',m'<m/\W (i+1) m' σ' H')/\∀ x H',J.yld i H x H'->g x σ H' fun σ2 H2=>tb { D with nx:=N,ct:=N,bk:=D.nx } σ2 H2)
noncomputable def j6 (fp:List Addr)(h:Heap):List (Addr×Obj):=fp.filterMap fun b=>(h.get? b).map fun o=>(b,o)
theorem dW {fp:List Addr}{h:Heap}{b:Addr}{o:Obj}(hb:b∈fp)(e:h.get? b=some o):(b,o)∈j6 fp h:=List.mem_filterMap.mpr ⟨b,hb,by rw[e];rfl⟩
theorem qA {fp:List Addr}{h:Heap}{p:Addr×Obj}(hp:p∈j6 fp h):p.1∈fp/\h.get? p.1=some p.2:=by
 obtain⟨b,hb,e⟩:=List.mem_filterMap.mp hp;cases q:h.get? b with
 |none=>rw[q] at e;cases e
 |some o =>
  rw[q] at e;have e':(b,o)=p:=bu e;subst e';exact⟨hb,q⟩
theorem Inv.pinned {pins:List (Addr×Obj)}{σ:St}{H:Hp}{s:Shared}{fp:List Addr}(I:Inv X pins σ H s)(hf:∀ b∈fp,hJ X pins H b)(ho:∀ b∈fp,∃ o,s.heap.get? b=some o/\∀ v,o.data≠.cell v):Inv X (pins++j6 fp s.heap) σ H s :=
 I.pins_of fun p hp=>(List.mem_append.mp hp).elim (fun z=>I.pin p (ai _ z)) fun z=>by
  obtain⟨hb,e⟩:=qA z;obtain⟨f0,f1,f2,_⟩:=hf p.1 hb;obtain⟨o,e',d⟩:=ho p.1 hb;rw[e] at e';cases e';exact⟨e,f0,f1,f2,d⟩
theorem Inv.unpinned {pins pl:List (Addr×Obj)}{σ:St}{H:Hp}{s:Shared}(I:Inv X (pins++pl) σ H s):Inv X pins σ H s:=I.pins_of fun p hp=>I.pin p (ai _ (ay _ hp))
theorem zr {iter:Expr}{body:List Stmt}{wi:TI}{g:TG}{tb:TS}{pos:Pos}(hp:PassesOwn (model X.prog X.w) X.A X.env X.xe)(hc:X.calm=true)(hi:PI X tg iter wi)(hg:PG X tg g)(hb:km X body tb)
  (hs:∀ x,foldedSetIterable iter X.env x=pure x:=by intro _;rfl):PS X (.For tg iter body [] pos) (tFor wi g tb):=by
 intro pins s σ H D I h;refine wpAny_For (bV (hi pins s σ H _ I h) fun v s1 h1=>bV h1 fun itv s2 h2=>?_) hs;obtain⟨it,fp,tn,J,H2,e,I2,T,st2,f2,W,⟨m0,w0⟩,turn⟩:=h2;subst e;have stat:∀{H':Hp},(∀ b∈fp,H' b=none)->∀ b∈fp,hJ X pins H' b:=fun hn b hb=>⟨hn b hb,(f2 b hb).2⟩
 refine codeAny_forLoop_any (fun n s'=>∃ i σ' H',Inv X pins σ' H' s'/\tn i s'.heap/\(∀ b∈fp,H' b=none)/\W i n σ' H') ?_ m0 ⟨0,σ,H2,I2,st2,fun b hb=>(f2 b hb).1,w0⟩;rintro n s3 ⟨i,σ3,H3,I3,st3,fr3,w3⟩;rcases turn i n σ3 H3 w3 with ⟨stop,qn⟩ | ⟨go,N,hN,step⟩
 ·refine wpAny_passesOwn hp (bV (T.done X rfl rfl rfl hc i pins s3 σ3 H3 X.xe I3 (stat fr3) st3 stop) fun r s4 ⟨hr,I4⟩=>?_);subst hr;exact wpAny_execs_nil ⟨σ3,H3,I4,qn⟩
 ·refine wpAny_passesOwn hp (bV (T.item X rfl rfl rfl hc i pins s3 σ3 H3 X.xe I3 (stat fr3) st3 go) fun r s4 ⟨u,hr,h4⟩=>?_);subst hr;refine wpAny_passesOwn hp (bV h4 fun _ s5 ⟨x,H5,I5,r5,y5,st5,fr5⟩=>?_);have I5':=I5.pinned (stat fr5) (T.obj _ _ st5);refine wpAny_passesOwn hp (bV (hg _ s5 σ3 H5 x u _ I5' r5 (step x H5 y5)) fun _ s6 ⟨σ6,H6,I6,q6⟩=>?_);refine wpAny_passesOwn hp (bV (hb _ s6 σ6 H6 _ I6 q6) fun f s7 q7=>?_);have again:∀{σ7:St}{H7:Hp},Inv X (pins++j6 fp s5.heap) σ7 H7 s7->N σ7 H7->∃ m,m<n/\∃ i σ' H',Inv X pins σ' H' s7/\tn i s7.heap/\(∀ b∈fp,H' b=none)/\W i m σ' H':=fun {σ7 H7} I7 n7=>by
   obtain⟨m',hm,w7⟩:=hN σ7 H7 n7;refine⟨m',hm,i+1,σ7,H7,I7.unpinned,T.keep _ _ _ st5 fun b hb o e=>(I7.pin (b,o) (ai _ (ai _ (dW hb e)))).1,fun b hb=>?_,w7⟩;obtain⟨o,e,d⟩:=T.obj _ _ st5 b hb;exact (I7.pin (b,o) (ai _ (ai _ (dW hb e)))).2.1
  cases f with
  |next=>obtain⟨σ7,H7,I7,n7⟩:=q7;exact again I7 n7
  |cont=>obtain⟨σ7,H7,I7,n7⟩:=q7;exact again I7 n7
  |brk=>obtain⟨σ7,H7,I7,q7⟩:=q7;exact⟨σ7,H7,I7.unpinned,q7⟩
  |ret v=>obtain⟨x7,σ7,H7,I7,r7,q7⟩:=q7;exact⟨x7,σ7,H7,I7.unpinned,r7,q7⟩
end
end L2
namespace L2
open PySem PySem.Spec PyProof.Rows
noncomputable abbrev R2:=V->V->Hp->VK->Prop
noncomputable def fW (X:Cx)(f:Value->Value->Sem Value)(r:R2):Prop :=
 ∀(pins:List (Addr×Obj)) (s:Shared) (σ:St) (H:Hp) (x y:V) (v u:Value) (Q:VK),Inv X pins σ H s->RelV x v->RelV y u->r x y H Q ->
  wpAny (model X.prog X.w) X.A (f v u) (EP X pins σ Q) X.xe s
noncomputable def UnR (X:Cx)(f:Value->Sem Value)(r:V->Hp->VK->Prop):Prop :=
 ∀(pins:List (Addr×Obj)) (s:Shared) (σ:St) (H:Hp) (x:V) (v:Value) (Q:VK),Inv X pins σ H s->RelV x v->r x H Q ->
  wpAny (model X.prog X.w) X.A (f v) (EP X pins σ Q) X.xe s
noncomputable def fT (X:Cx)(f:Value)(r:List V->Hp->VK->Prop):Prop :=
 ∀(pins:List (Addr×Obj)) (s:Shared) (σ:St) (H:Hp) (xs:List V) (us:List Value) (Q:VK),Inv X pins σ H s->aL xs us->r xs H Q ->
  wpAny (model X.prog X.w) X.A (call f us) (EP X pins σ Q) X.xe s
noncomputable def TruR (X:Cx)(r:V->Hp->(Bool->Hp->Prop)->Prop):Prop :=
 ∀(pins:List (Addr×Obj)) (s:Shared) (σ:St) (H:Hp) (x:V) (v:Value) (Q:Bool->Hp->Prop),Inv X pins σ H s->RelV x v->r x H Q ->
  wpAny (model X.prog X.w) X.A (truthy v) (TP X pins σ Q) X.xe s
def Bj (r:R2)(ta tb:TE):TE:=fun σ H Q=>ta σ H fun x H1=>tb σ H1 fun y H2=>r x y H2 Q
def tUn (r:V->Hp->VK->Prop)(ta:TE):TE:=fun σ H Q=>ta σ H fun x H1=>r x H1 Q
noncomputable def rI (C:Int->Int->Prop)(g:Int->Int->V):R2:=fun x y H Q=>∃ i j,x = .int i/\y = .int j/\C i j/\Q (g i j) H
noncomputable def rK (g:Int->Int->V):R2:=fun x y H Q=>∃ i j,x = .int i/\y = .int j/\Q (g i j) H
def rU (g:Int->V):V->Hp->VK->Prop:=fun x H Q=>∃ i,x = .int i/\Q (g i) H
section
variable {X:Cx}{a b c:Expr}{ta tb tc:TE}{pos:Pos}
theorem zT (ha:PE X a ta)(hb:PE X b tb){pins:List (Addr×Obj)}{s:Shared}{σ:St}{H:Hp}{R:V->V->Hp->Prop}(I:Inv X pins σ H s)
  (h:ta σ H fun x H1=>tb σ H1 fun y H2=>R x y H2) {Q:Value->Shared->Prop}{f:Value->Value->Sem Value}
  (hf:∀ v u s2 x y H2,Inv X pins σ H2 s2->RelV x v->RelV y u->R x y H2->wpAny (model X.prog X.w) X.A (f v u) Q X.xe s2) :
  wpAny (model X.prog X.w) X.A (eval a X.env) (fun v s₁=>wpAny (model X.prog X.w) X.A (eval b X.env) (fun u s₂=>wpAny (model X.prog X.w) X.A (f v u) Q X.xe s₂) X.xe s₁) X.xe s:=by
 refine bV (ha pins s σ H _ I h) fun v s1 ⟨x,H1,I1,r1,q1⟩=>?_
 refine bV (hb pins s1 σ H1 _ I1 q1) fun u s2 ⟨y,H2,I2,r2,q2⟩=>?_
 exact hf v u s2 x y H2 I2 r1 r2 q2
theorem xZ {op:Operator}{r:R2}(ho:fW X (binaryOp op) r)(ha:PE X a ta)(hb:PE X b tb):PE X (.BinOp a op b pos) (Bj r ta tb):=by
 intro pins s σ H Q I h;exact wpAny_BinOp (zT ha hb I h fun v u s2 x y H2 I2 rx ry q=>ho pins s2 σ H2 x y v u Q I2 rx ry q)
theorem Be {op:UnaryOp}{r:V->Hp->VK->Prop}(ho:UnR X (unaryOp op) r)(ha:PE X a ta):PE X (.UnaryOp op a pos) (tUn r ta):=by
 intro pins s σ H Q I h;exact UnaryOp_ (bV (ha pins s σ H _ I h) fun v s1 ⟨x,H1,I1,r1,q1⟩=>ho pins s1 σ H1 x v Q I1 r1 q1)
theorem A1 {f:Value->Value->Sem Value}{C:Int->Int->Prop}{g:Int->Int->Int}
  (rule:∀(i j:Int) (t u:Tok) (s:Shared) (Q:Value->Shared->Prop) (E:Value->Shared->Prop),C i j->Q (.int (g i j) s.toks) { s with toks:=s.toks+1 }->wpAny (model X.prog X.w) X.A (f (.int i t) (.int j u)) Q E s) :
  fW X f (rI C fun i j=>.int (g i j)):=by
 intro pins s σ H x y v u Q I rx ry h;obtain⟨i,j,rfl,rfl,hc,q⟩:=h;obtain⟨t,rfl⟩:=rx;obtain⟨t',rfl⟩:=ry;exact rule i j t t' s _ _ hc ⟨.int (g i j),H,I.tok _,⟨_,rfl⟩,q⟩
theorem uG {f:Value->Value->Sem Value}{g:Int->Int->Int}
  (rule:∀(i j:Int) (t u:Tok) (s:Shared) (Q:Value->Shared->Prop) (E:Value->Shared->Prop),Q (.int (g i j) s.toks) { s with toks:=s.toks+1 }->wpAny (model X.prog X.w) X.A (f (.int i t) (.int j u)) Q E s) :
  fW X f (rK fun i j=>.int (g i j)):=by
 intro pins s σ H x y v u Q I rx ry h;obtain⟨i,j,rfl,rfl,q⟩:=h;obtain⟨t,rfl⟩:=rx;obtain⟨t',rfl⟩:=ry;exact rule i j t t' s _ _ ⟨.int (g i j),H,I.tok _,⟨_,rfl⟩,q⟩
theorem vA {f:Value->Value->Sem Value}{g:Int->Int->Bool}
  (rule:∀(i j:Int) (t u:Tok) (s:Shared) (Q:Value->Shared->Prop) (E:Value->Shared->Prop),Q (.bool (g i j)) s->wpAny (model X.prog X.w) X.A (f (.int i t) (.int j u)) Q E s) :
  fW X f (rK fun i j=>.bl (g i j)):=by
 intro pins s σ H x y v u Q I rx ry h;obtain⟨i,j,rfl,rfl,q⟩:=h;obtain⟨t,rfl⟩:=rx;obtain⟨t',rfl⟩:=ry;exact rule i j t t' s _ _ ⟨.bl (g i j),H,I,rfl,q⟩
def CDiv (i j:Int):Prop:=0<j/\j<1073741824
def Bs (i j:Int):Prop:=0<=j/\j<=1000000/\i.natAbs<2 ^ 64
def zx (i j:Int):Prop:=(-(2 ^ 64)<i/\i<2 ^ 64)\/(-(2 ^ 64)<j/\j<2 ^ 64)
theorem zx.ok {i j:Int}(h:zx i j):IntMulOk i j:=by
 rcases h with ⟨h1,h2⟩ | ⟨h1,h2⟩
 ·exact .of_left (intBits_le_64 h1 h2)
 ·exact .of_right (intBits_le_64 h1 h2)
theorem ou (k:Nat):(0:Int)<=2 ^ k:=by
 rw[two_pow_cast];exact Int.natCast_nonneg _
theorem zz:fW X (binaryOp .Add) (rK fun i j=>.int (i+j)):=uG fun _ _ _ _ _ _ _ q=>add_int q
theorem yV:fW X (binaryOp .Sub) (rK fun i j=>.int (i - j)):=uG fun _ _ _ _ _ _ _ q=>sub_int q
theorem Ac:fW X (binaryOp .Mult) (rI zx fun i j=>.int (i*j)):=A1 fun _ _ _ _ _ _ _ hc q=>mul_int q hc.ok
theorem vQ:fW X (binaryOp .FloorDiv) (rI CDiv fun i j=>.int (i / j)):=A1 fun i j _ _ _ _ _ hc q=>by
 have h1:(0:Int)<j:=hc.1;have h2:j<1073741824:=hc.2;exact floordiv_int (by omega) (by rw[Int.fdiv_eq_ediv_of_nonneg i (by omega)];exact q) (.inl (PyProof.noPylong_small (by omega)))
theorem yD:fW X (binaryOp .Mod) (rI (fun _ j=>0<j) fun i j=>.int (i%j)):=A1 fun i j _ _ _ _ _ hc q=>by
 have h1:(0:Int)<j:=hc;exact mod_int' (by omega) (by rw[Int.fmod_eq_emod_of_nonneg i (by omega)];exact q)
theorem Ay:fW X (binaryOp .Pow) (rI Bs fun i j=>.int (i ^ j.toNat)):=A1 fun _ _ _ _ _ _ _ hc q=>pow_int_small hc.1 hc.2.1 hc.2.2 q
theorem zN:fW X (binaryOp .LShift) (rI Bs fun i j=>.int (i*2 ^ j.toNat)):=A1 fun _ _ _ _ _ _ _ hc q=>lshift_int_small hc.1 hc.2.1 hc.2.2 q
theorem za:fW X (binaryOp .RShift) (rI (fun _ j=>0<=j) fun i j=>.int (i / 2 ^ j.toNat)):=A1 fun i j _ _ _ _ _ hc q =>
 rshift_int hc (by rw[Int.fdiv_eq_ediv_of_nonneg i (ou _)];exact q)
theorem AS:fW X (binaryOp .BitAnd) (rK fun i j=>.int (Builtin.bitAnd i j)):=uG fun _ _ _ _ _ _ _ q=>and_int q
theorem Cz:fW X (binaryOp .BitOr) (rK fun i j=>.int (Builtin.bitOr i j)):=uG fun _ _ _ _ _ _ _ q=>or_int q
theorem zJ:fW X (binaryOp .BitXor) (rK fun i j=>.int (Builtin.bitXor i j)):=uG fun _ _ _ _ _ _ _ q=>xor_int q
theorem unI {f:Value->Sem Value}{g:Int->Int}
  (rule:∀(i:Int) (t:Tok) (s:Shared) (Q:Value->Shared->Prop) (E:Value->Shared->Prop),Q (.int (g i) s.toks) { s with toks:=s.toks+1 }->wpAny (model X.prog X.w) X.A (f (.int i t)) Q E s) :
  UnR X f (rU fun i=>.int (g i)):=by
 intro pins s σ H x v Q I rx h;obtain⟨i,rfl,q⟩:=h;obtain⟨t,rfl⟩:=rx;exact rule i t s _ _ ⟨.int (g i),H,I.tok _,⟨_,rfl⟩,q⟩
theorem zq:UnR X (unaryOp .USub) (rU fun i=>.int (-i)):=unI fun _ _ _ _ _ q=>neg_int q
end
noncomputable def eQ:V->V->Bool
 |.non,.non=>true | .non,.int _=>true | .int _,.non=>true | .non,.bl _=>true | .bl _,.non=>true | .non,.str _=>true | .str _,.non=>true
 |.int _,.int _=>true | .bl _,.bl _=>true | .str _,.str _=>true | .byt _,.byt _=>true
 |.int _,.str _=>true | .str _,.int _=>true | .bl _,.str _=>true | .str _,.bl _=>true
 |_,_=>false
section
variable {X:Cx}{a b c:Expr}{ta tb tc:TE}{pos:Pos}
theorem nN {pins:List (Addr×Obj)}{σ:St}{H:Hp}{s:Shared}{Q:VK}{k k':Bool}(I:Inv X pins σ H s)(q:Q (.bl k) H)(e:k=k'):EP X pins σ Q (.bool k') s:=by
 subst e;exact⟨.bl k,H,I,rfl,q⟩
theorem Cq:fW X (compareOp .Lt) (rK fun i j=>.bl (decide (i<j))):=vA fun _ _ _ _ _ _ _ q=>lt_int q
theorem B5:fW X (compareOp .LtE) (rK fun i j=>.bl (decide (i<=j))):=vA fun _ _ _ _ _ _ _ q=>le_int q
theorem B0:fW X (compareOp .Gt) (rK fun i j=>.bl (decide (j<i))):=vA fun _ _ _ _ _ _ _ q=>gt_int q
theorem BX:fW X (compareOp .GtE) (rK fun i j=>.bl (decide (j<=i))):=vA fun _ _ _ _ _ _ _ q=>ge_int q
theorem rE:fW X (compareOp .In) (fun x y H Q=>∃ i j,x = .str i/\y = .str j/\Q (.bl (!(Builtin.Str.occurrences j i 0 j.length 1).isEmpty)) H):=by
 intro pins s σ H x y v u Q I rx ry h;obtain⟨i,j,rfl,rfl,q⟩:=h;obtain⟨t,rfl⟩:=rx;obtain⟨t',rfl⟩:=ry;exact in_str (nN I q rfl)
theorem yT:fW X (compareOp .Is) (fun x y H Q=>y = .non/\Q (.bl (decide (x = .non))) H):=by
 intro pins s σ H x y v u Q I rx ry h;obtain⟨rfl,q⟩:=h;cases ry;refine is_none_gen (nN I q ?_);cases x<;>first
  | (cases rx;rfl)
  | (obtain⟨t,rfl⟩:=rx;rfl)
theorem xB:fW X (compareOp .IsNot) (fun x y H Q=>y = .non/\Q (.bl (!decide (x = .non))) H):=by
 intro pins s σ H x y v u Q I rx ry h;obtain⟨rfl,q⟩:=h;cases ry;refine isnot_none_gen (nN I q ?_);cases x<;>first
  | (cases rx;rfl)
  | (obtain⟨t,rfl⟩:=rx;rfl)
theorem vL {op:CmpOp}{r:R2}(ho:fW X (compareOp op) r)(ha:PE X a ta)(hb:PE X b tb)(hm:behindInMarks op b=false):PE X (.Compare a [op] [b] pos) (Bj r ta tb):=by
 intro pins s σ H Q I h;exact wpAny_Compare1 (zT ha hb I h fun v u s2 x y H2 I2 rx ry q=>ho pins s2 σ H2 x y v u Q I2 rx ry q) hm
def CS (t:TE):TT:=fun σ H Q=>t σ H fun x H'=>∃ k,x = .bl k/\Q k H'
theorem wx {op:CmpOp}{r:R2}(ho:fW X (compareOp op) r)(ha:PE X a ta)(hb:PE X b tb)(hm:behindInMarks op b=false):PT X (.Compare a [op] [b] pos) (CS (Bj r ta tb)):=by
 intro pins s σ H Q I h;refine wpAny_isTrue_Compare1 (bV (ha pins s σ H _ I h) fun v s1 ⟨x,H1,I1,r1,q1⟩=>bV (hb pins s1 σ H1 _ I1 q1) fun u s2 ⟨y,H2,I2,r2,q2⟩ =>
  bV (ho pins s2 σ H2 x y v u _ I2 r1 r2 q2) fun c s3 ⟨z,H3,I3,r3,k,e,q3⟩=>?_) hm
 subst e;cases r3;exact wpAny_truthy_bool ⟨H3,I3,q3⟩
noncomputable def yY (K:PySem.W.Frag)(x:V)(H:Hp)(k:Bool):Prop :=
 match x with
 |.non=>k=false
 |.bl b=>k=b
 |.int i=>k=(i != 0)
 |.str y=>y.length<=sizeLine/\k=((y.length:Int) != 0)
 |.byt y=>y.size<=sizeLine/\k=((y.size:Int) != 0)
 |.ref p=>(∃ xs,ko K H p xs/\k = !xs.isEmpty)\/(∃ xs,iq K H p xs/\k = !xs.isEmpty)\/∃ kvs,H p=some (.dK kvs)/\k = !kvs.isEmpty
 |_=>False
theorem n9 {κ:Type}{kvs:List (κ×V)}{vs:List (κ×Value)}(r:KV kvs vs):(!vs.isEmpty) = !kvs.isEmpty:=by
 cases r<;>rfl
theorem kf {xs:List V}{its:List Value}(r:aL xs its):(!its.toArray.isEmpty) = !xs.isEmpty:=by
 cases r<;>simp
theorem ip:(sizeLine:Nat)<2 ^ 63:=by rw[sizeLine_eq];decide
theorem Ak:TruR X (fun x H Q=>∃ k,yY X.K x H k/\Q k H):=by
 intro pins s σ H x v Q I rx h;obtain⟨k,e,q⟩:=h;have hl:=ip;have hs:sizeLine=16777216:=sizeLine_eq;cases x with
 |non =>
  cases rx;have e':k=false:=e;subst e';exact truthy_none ⟨H,I,q⟩
 |bl b =>
  cases rx;have e':k=b:=e;subst e';exact wpAny_truthy_bool ⟨H,I,q⟩
 |int i =>
  obtain⟨t,rfl⟩:=rx;have e':k=(i != 0):=e;subst e';exact PySem.P.truthy_int ⟨H,I,q⟩
 |str y =>
  obtain⟨t,rfl⟩:=rx;obtain⟨hy,e'⟩:y.length<=sizeLine/\k=((y.length:Int) != 0):=e;subst e';exact PySem.P.truthy_str (by omega) ⟨H,I.tok _,q⟩
 |byt y =>
  obtain⟨t,rfl⟩:=rx;obtain⟨hy,e'⟩:y.size<=sizeLine/\k=((y.size:Int) != 0):=e;subst e';exact PySem.W.truthy_bytes (by omega) ⟨H,I.tok _,q⟩
 |ref p =>
  cases rx;have e':(∃ xs,ko X.K H p xs/\k = !xs.isEmpty)\/(∃ xs,iq X.K H p xs/\k = !xs.isEmpty)\/∃ kvs,H p=some (.dK kvs)/\k = !kvs.isEmpty:=e;rcases e' with ⟨xs,hx,e'⟩ | ⟨xs,hx,e'⟩ | ⟨kvs,hx,e'⟩
  ·subst e';obtain⟨its,r,pl,hz⟩:=I.list hx;have hlen:=r.length;exact wpAny_truthy_list pl.isList (by simp only[List.size_toArray];omega) ⟨H,I.tok _,by rw[kf r];exact q⟩
  ·subst e';obtain⟨its,r,pl,hz⟩:=I.tuple hx;have hlen:=r.length;exact truthy_tuple pl (by simp only[List.size_toArray];omega) ⟨H,I.tok _,by rw[kf r];exact q⟩
  ·subst e';obtain⟨hz,hS,vs,r,m⟩:kvs.length<=sizeLine/\(p==sysModules)=false/\∃ vs,KV kvs vs/\s.heap.DictOf (aN X.prog X.w) p vs:=I.hok p _ hx;have hlen:kvs.length=vs.length:=Paired.length r;exact wpAny_truthy_dict hS m (by omega) ⟨H,I.tok _,by rw[n9 r];exact q⟩
 |_=>exact (show False from e).elim
theorem rL (ha:PE X a ta)(he:∀ whole,isTrue a X.env whole=(do let v <- whole;standAt a.pos;holding [v] (truthy v))) :
  PT X a (fun σ H Q=>ta σ H fun x H'=>∃ k,yY X.K x H' k/\Q k H'):=by
 intro pins s σ H Q I h;exact isTrue_plain (bV (ha pins s σ H _ I h) fun v s1 ⟨x,H1,I1,r1,q1⟩=>Ak pins s1 σ H1 x v Q I1 r1 q1) (he _)
theorem ot:fW X (binaryOp .Add) (fun x y H Q=>∃ i j,x = .str i/\y = .str j/\i.length+j.length<=sizeLine/\Q (.str (i++j)) H):=by
 intro pins s σ H x y v u Q I rx ry h;obtain⟨i,j,rfl,rfl,hz,q⟩:=h;obtain⟨t,rfl⟩:=rx;obtain⟨t',rfl⟩:=ry;exact add_str (fun t' tk=>⟨.str (i++j),H,I.tok _,⟨_,rfl⟩,q⟩) hz
theorem vals1 {x:V}{us:List Value}(r:aL [x] us):∃ u,us=[u]/\RelV x u:=by
 cases r with
 |cons r1 r2=>cases r2;exact⟨_,rfl,r1⟩
theorem vals2 {x y:V}{us:List Value}(r:aL [x,y] us):∃ u w',us=[u,w']/\RelV x u/\RelV y w':=by
 cases r with
 |cons r1 r2 =>
  cases r2 with
  |cons r3 r4=>cases r4;exact⟨_,_,rfl,r1,r3⟩
theorem qu (hc:X.calm=true):fT X (.builtin "min") (fun xs H Q=>∃ i j,xs=[.int i,.int j]/\Q (.int (if j<i then j else i)) H):=by
 intro pins s σ H xs us Q I r h;obtain⟨i,j,rfl,q⟩:=h;obtain⟨u,w',rfl,⟨t,rfl⟩,⟨t',rfl⟩⟩:=vals2 r;refine min_two_ints (I.ok.hd hc) fun h' tk k=>⟨_,H,I.kept k,?_,q⟩
 by_cases hj:j<i
 ·rw[if_pos hj,if_pos hj];exact⟨_,rfl⟩
 ·rw[if_neg hj,if_neg hj];exact⟨_,rfl⟩
end
end L2
namespace L2
open PySem PySem.Spec PyProof.Rows
structure ObjM (h:Heap)(x dx C:Addr)(mA:Str->Option Value):Prop where
 obj:h.get? x=some (PySem.W.instObj C dx)
 ns:h.Ns1 dx mA
 ne:dx≠x
section
variable {prog:Program}{w:World}{A:Around}{E:Value->Shared->Prop}{s:Shared}{K:PySem.W.Frag}{x dx C f:Addr}{mA:Str->Option Value}{name:Str}{v:Value}
end
section
variable {P:Program}{w:World}{H H':Hp}{h h':Heap}{a C dx:Addr}{fs fs':List (Str×V)}
end
structure Cls (K:PySem.W.Frag)(C:Addr):Prop where
 pg:PySem.W.plainGet K C Str.empty=true
 hd:PySem.W.hasDictIn K C=true
 po:PySem.W.plainOver K C=true
 sa:PySem.W.findIn K (.ref C) "__setattr__" = some (some (.builtin "object.__setattr__"))
structure Con (K:PySem.W.Frag)(C:Addr)(f:Str)(v:V)(u:Value):Prop where
 at_:PySem.W.findIn K (.ref C) f=some (some u)
 rel:RelV v u
 get:PySem.W.specialIn K u "__get__" = some none
 cp:PySem.W.copiedNames.contains f=false
structure Meth (K:PySem.W.Frag)(C:Addr)(m:Str)(f:Addr):Prop where
 at_:PySem.W.findIn K (.ref C) m=some (some (.ref f))
 fn:PySem.W.isFn K (.ref f)=true
 kp:PySem.W.keepIn K (.ref f)=true
section
variable {X:Cx}{pins:List (Addr×Obj)}{σ:St}{H:Hp}{s:Shared}{a C dx:Addr}{fs:List (Str×V)}{f:Str}{v:V}{A:Around}{E:Value->Shared->Prop}
end
section
variable {X:Cx}{o e value:Expr}{f:Str}{pos pos' tpos:Pos}{ta tv:TE}
end
section
variable {X:Cx}{pins:List (Addr×Obj)}{σ:St}{H:Hp}{s:Shared}{A:Around}{E:Value->Shared->Prop}{Q:Value->Shared->Prop}{c:Value}{b:Bool}
inductive jR (K:PySem.W.Frag) (H:Hp):V->Value->Prop where
 | non:jR K H .non (.type "NoneType")
 | bl (x:Bool):jR K H (.bl x) (.type "bool")
 | int (i:Int):jR K H (.int i) (.type "int")
 | str (x:Str):jR K H (.str x) (.type "str")
 | flt (x:UInt64):jR K H (.flt x) (.type "float")
 | lst {a:Addr}{xs:List V}(e:H a=some (.lst xs)):jR K H (.ref a) (.type "list")
 | frz {a:Addr}{o:Obj}{xs:List V}(e:H a=some (.frz o (.lst xs))):jR K H (.ref a) (.type "list")
 | tup {a:Addr}{xs:List V}(e:H a=some (.tup xs)):jR K H (.ref a) (.type "tuple")
 | dK {a:Addr}{kvs:List (Key×V)}(e:H a=some (.dK kvs)):jR K H (.ref a) (.type "dict")
 | dT {a:Addr}{kvs:List (List Key×V)}(e:H a=some (.dT kvs)):jR K H (.ref a) (.type "dict")
 | ins {a C dx:Addr}{fs:List (Str×V)}(e:H a=some (.ins C dx fs)) (cl:Cls K C) (ha:PySem.W.findIn K (.ref C) "__class__" = some (some (.builtin "object.__class__")))
   (hn:PySem.W.specialIn K (.builtin "object.__class__") "__get__" = some (some (.builtin "getset_descriptor.__get__"))) (htk:PySem.W.takesIn K (.builtin "object.__class__")=some true)
   (hm:PySem.W.mroIn K C (.type "object")=some true):jR K H (.ref a) (.ref C)
end
end L2
namespace L2
open PySem PySem.Spec PyProof.Rows
structure fY (k:Nat)(A:Around):Prop where
 hd:A.handled=none
 dp:A.depth+3*k+5<recursionLimit
 un:A.units+16*k+200<cLine
theorem fY.deeper {k:Nat}{A:Around}(r:fY (k+1) A)(env:Env):fY k (A.deeper env) :=
 ⟨r.hd,by have:=r.dp;show A.depth+1+3*k+5<_;omega,by have:=r.un;show A.units+3+16*k+200<_;omega⟩
theorem fY.depth {k:Nat}{A:Around}(r:fY k A):A.depth<recursionLimit:=by have:=r.dp;omega
theorem fY.units {k:Nat}{A:Around}(r:fY k A):A.units+64<cLine:=by have:=r.un;omega
def zy:TA:=fun _ H Q=>Q [] H
def sX (ta:TE)(tr:TA):TA:=fun σ H Q=>ta σ H fun x H1=>tr σ H1 fun xs H2=>Q (x::xs) H2
section
variable {X:Cx}{e:Expr}{es:List Expr}{te:TE}{t:TA}{pos:Pos}
theorem oD:PA X [] zy:=fun _ _ _ _ H Q I h=>Calls.spliced_nil ⟨[],H,I,.nil,h⟩
theorem jz (ha:PE X e te)(hr:PA X es t)(hs:starEach (e::es) X.env=(false,eval e X.env)::starEach es X.env:=by rfl):PA X (e::es) (sX te t):=by
 intro pos pins s σ H Q I h;rw[hs];show wpAny _ _ (spliced ((false,eval e X.env)::backTo pos (starEach es X.env))) _ _ s;refine Calls.spliced_cons (bV (ha pins s σ H _ I h) fun u s1 ⟨x,H1,I1,r1,q1⟩=>?_);exact bV (hr pos pins s1 σ H1 _ I1 q1) fun us s2 ⟨xs,H2,I2,r2,q2⟩=>⟨x::xs,H2,I2,.cons r1 r2,q2⟩
def tTup (t:TA):TE:=fun σ H Q=>t σ H fun xs H1=>xs.length<=sizeLine/\∀ p,H1 p=none->Q (.ref p) (upd H1 p (.tup xs))
def tLst (t:TA):TE:=fun σ H Q=>t σ H fun xs H1=>xs.length<=sizeLine/\∀ p,H1 p=none->Q (.ref p) (upd H1 p (.lst xs))
theorem An {x1}(h:PA X es t):PE X (.Tuple es x1 pos) (tTup t):=by
 intro pins s σ H Q I hq;refine wpAny_Tuple_spliced (bV (h pos pins s σ H _ I hq) fun us s1 ⟨xs,H1,I1,r,z,q⟩=>⟨by rw[<-r.length];exact z,?_⟩);have hf:H1 s1.heap.objs.size=none:=I1.hok.fresh (aq _);refine⟨.ref s1.heap.objs.size,upd H1 s1.heap.objs.size (.tup xs),I1.laid (t':=s1.toks) (fun b u e=>Heap.get?_push_of_some _ e) (aq _) ?_,rfl,q _ hf⟩;exact⟨z,us,r,⟨_,Heap.get?_push_size _ rfl,rfl,_,rfl⟩⟩
theorem sD (h:PA X es t):PE X (.List es pos) (tLst t):=by
 intro pins s σ H Q I hq;refine wpAny_List_spliced (bV (h pos pins s σ H _ I hq) fun us s1 ⟨xs,H1,I1,r,z,q⟩=>⟨by rw[<-r.length];exact z,?_⟩);have hf:H1 s1.heap.objs.size=none:=I1.hok.fresh (aq _);refine⟨.ref s1.heap.objs.size,upd H1 s1.heap.objs.size (.lst xs),I1.laid (t':=s1.toks) (fun b u e=>Heap.get?_push_of_some _ e) (aq _) ?_,rfl,q _ hf⟩;exact⟨z,us,0,r,Heap.get?_push_size _ rfl⟩
end
noncomputable abbrev Sp:=List V->Hp->VK->XK->Prop
noncomputable abbrev uq:=List Env->Hp->Shared->XK->Value->Shared->Prop
structure wa (P:Program)(w:World)(K:PySem.W.Frag)(mg:Str->Option Value)(base:Heap)(A:Around)(outer:List Env)(s:Shared)(H:Hp):Prop where
 frames:A.frames=some outer
 mod:Mod K mg base
 bs:∀ b o,base.get? b=some o->s.heap.get? b=some o/\H b=none
 bsz:base.objs.size<=s.heap.objs.size
 funs:s.heap.FunFrames base outer
 frf:∀ b∈uv outer,H b=none
 hok:iA P w H s.heap
 bare:AllBare s.gens
noncomputable def CE (outer:List Env)(P:Program)(w:World)(H:Hp)(s:Shared)(Q:VK)(u:Value)(s':Shared):Prop :=
 ∃ v H',s'.os=s.os/\AllBare s'.gens/\Un (uv outer) [] H H' s.heap s'.heap/\iA P w H' s'.heap/\RelV v u/\Q v H'
noncomputable def CR (CX:uq)(outer:List Env)(P:Program)(w:World)(H:Hp)(s:Shared)(Q:VK)(E:XK)(r:Result)(s':Shared):Prop :=
 match r with
 | .ok (.ret u)=>CE outer P w H s Q u s'
 |.ok _=>False
 |.error e=>CX outer H s E e s'
structure mo (P:Program)(w:World)(K:PySem.W.Frag)(mg:Str->Option Value)(base:Heap)(CX:uq)(k:Nat)(f:Addr)(fd:FuncData)(ps:List Str)(sp:Sp):Prop where
 len:∀ vs H Q E,sp vs H Q E->vs.length=ps.length
 run:∀(A:Around) (outer:List Env) (s:Shared) (H:Hp) (args:Args) (us:List Value) (vs:List V) (Q:VK) (E:XK),fY k A->wa P w K mg base A outer s H->BindsTo s fd args (ps.zip us)->aL vs us->sp vs H Q E ->
  codeAny (model P w) A (.call (.ref f) args) (CR CX outer P w H s Q E) s
section
variable {X:Cx}{pins:List (Addr×Obj)}{σ:St}{H:Hp}{s s':Shared}
theorem Inv.env0 (I:Inv X pins σ H s):wa X.prog X.w X.K X.mg X.base X.A X.stack s H :=
 ⟨I.ok.frames,I.ok.mod,I.bs,bj I.ok.bsz I.sz,I.stack,I.stkFree,I.hok,I.bare⟩
theorem Inv.after {Q:VK}{u:Value}(I:Inv X pins σ H s)(h:CE X.stack X.prog X.w H s Q u s'):EP X pins σ Q u s':=by
 obtain⟨v,H',os,bare,un,hok,r,q⟩:=h;obtain⟨hh,g,d,t,os'⟩:=s';obtain rfl:os'=s.os:=os;exact⟨v,H',I.call (h':=hh) (g':=g) (d':=d) (t':=t) (ch:=[]) un hok bare (fun b z=>absurd z (by simp)),r,q⟩
end
def sJ (sp:Sp)(dvs:List V)(E:XK)(t:TA):TE:=fun σ H Q=>t σ H fun vs H1=>sp (vs++dvs) H1 Q E
noncomputable def Binds (K:PySem.W.Frag)(fd:FuncData)(ps:List Str)(ds:List Value):Prop :=
 ∀(s:Shared) (us:List Value),K.In s.heap->(us++ds).length=ps.length->BindsTo s fd ⟨us,[]⟩ (ps.zip (us++ds))
theorem Binds.all {K:PySem.W.Frag}{fd:FuncData}{ps:List Str}(h:∀ us:List Value,us.length=ps.length->bindArgs fd ⟨us,[]⟩=pure (ps.zip us)):Binds K fd ps []:=fun s us _ hl=>by
 rw[ba] at hl ⊢;exact .of_eq (h us hl)
def lZ (CX:uq)(X:Cx)(E:XK):Prop:=∀(pins:List (Addr×Obj)) (σ:St) (H:Hp) (s:Shared) (e:Value) (s':Shared),Inv X pins σ H s->CX X.stack H s E e s'->X.xe e s'
section
variable {X:Cx}{CX:uq}{k:Nat}{f C:Addr}{fd:FuncData}{ps:List Str}{sp:Sp}{dvs:List V}{ds:List Value}{E:XK}{x m:Str}{p pos apos:Pos}{e o:Expr}{es:List Expr}{ta:TE}{t:TA}
theorem sj {pins:List (Addr×Obj)}{σ:St}{H:Hp}{s:Shared}{Q:VK}{us:List Value}{vs:List V}(F:mo X.prog X.w X.K X.mg X.base CX k f fd ps sp)(hr:fY k X.A)(hb:Binds X.K fd ps ds)(hd:aL dvs ds)(hx:lZ CX X E)
  (I:Inv X pins σ H s) (r:aL vs us) (h:sp (vs++dvs) H Q E):wpAny (model X.prog X.w) X.A (call (.ref f) us) (EP X pins σ Q) X.xe s:=by
 have r2:aL (vs++dvs) (us++ds):=r.append hd;have hl:(us++ds).length=ps.length:=by rw[<-r2.length];exact F.len _ _ _ _ h
 refine wpAny_call (codeAny_mono (F.run X.A X.stack s H ⟨us,[]⟩ (us++ds) (vs++dvs) Q E hr I.env0 (hb s us I.kIn hl) r2 h) fun r s' hq=>?_);cases r with
 |error e=>exact hx pins σ H s e s' I hq
 |ok fl =>
  cases fl with
  |ret u=>exact I.after hq
  |next=>exact False.elim hq
  |brk=>exact False.elim hq
  |cont=>exact False.elim hq
theorem xw (F:mo X.prog X.w X.K X.mg X.base CX k f fd ps sp)(hr:fY k X.A)(hg:Gl X x)(hm:X.mg x=some (.ref f))(hk:PySem.W.keepIn X.K (.ref f)=true)(hb:Binds X.K fd ps ds)(hd:aL dvs ds)(hx:lZ CX X E)
  (ha:PA X (e::es) t) (hdb:(x==("__debug__" : Str))=false:=by decide) (he:starEach (e::es) X.env=(false,eval e X.env)::starEach es X.env:=by rfl) (hpl:(backTo pos (starEach es X.env)).any (·.1)=false:=by rfl) :
  PE X (.Call (.Name x p) (e::es) [] pos) (sJ sp dvs E t):=by
 intro pins s σ H Q I h;refine wpAny_Call_Name_kw (lK I hg hm ?_ hdb);refine PySem.W.callWith_K (h₀:=X.base) I.ok.mod.kin hk (bV (ha pos pins s σ H _ I h) fun us s1 ⟨vs,H1,I1,r,q⟩=>⟨I1.kIn,?_⟩) he hpl;exact sj F hr hb hd hx I1 r q
theorem uL (F:mo X.prog X.w X.K X.mg X.base CX k f fd ps sp)(hr:fY k X.A)(hg:Gl X x)(hm:X.mg x=some (.ref f))(hk:PySem.W.keepIn X.K (.ref f)=true)(hb:Binds X.K fd ps ds)(hd:aL dvs ds)(hx:lZ CX X E)
  (hdb:(x==("__debug__" : Str))=false:=by decide):PE X (.Call (.Name x p) [] [] pos) (sJ sp dvs E zy):=by
 intro pins s σ H Q I h;refine wpAny_Call_Name_kw (lK I hg hm ?_ hdb);exact PySem.W.callWith_K0 I.kIn hk (sj (us:=[]) F hr hb hd hx I .nil h)
structure Mk (K:PySem.W.Frag)(C f:Addr):Prop where
 makes:PySem.W.makesIn K C=true
 init:PySem.W.findIn K (.ref C) "__init__" = some (some (.ref f))
 fn:PySem.W.isFn K (.ref f)=true
 kp:PySem.W.keepIn K (.ref C)=true
end
section
variable {X:Cx}{CX:uq}{k:Nat}{f C:Addr}{fd:FuncData}{ps ks:List Str}{sp:Sp}{E:XK}{x m:Str}{p pos apos kpos:Pos}{e o:Expr}{es:List Expr}{kws:List Keyword}{te ta:TE}{t tk:TA}{nm:Option Str}
structure KBinds (K:PySem.W.Frag)(fd:FuncData)(ps ks:List Str)(g:List Value->List Value->List Value)(gV:List V->List V->List V):Prop where
 to:∀(s:Shared) (us ws:List Value),K.In s.heap->(g us ws).length=ps.length->BindsTo s fd ⟨us,ks.zip ws⟩ (ps.zip (g us ws))
 rel:∀{vs:List V}{us:List Value}{zs:List V}{ws:List Value},aL vs us->aL zs ws->aL (gV vs zs) (g us ws)
variable {g:List Value->List Value->List Value}{gV:List V->List V->List V}
end
structure jq (N P:List Str)(sc:Scope):Prop where
 kind:sc.kind = .function
 co:sc.isCoroutine=false
 gen:sc.isGenerator=false
 nd:N.Nodup
 pre:N.take P.length=P
 par:∀ x∈P,sc.names.lookup x=some .local\/sc.names.lookup x=some .cell
 nofree:∀ y∈sc.names,y.2≠.free
theorem lx {kindOf:Str->Option NameKind}{x:Str}:∀{binds:List (Str×Value)}{m:Str->Option Value},(∀ v,(x,v)∉binds)->bindL kindOf binds m x=m x
 |[],_,_=>rfl
 | (n,v)::r,m,h=>by
  unfold bindL;rw[lx fun w hw=>h w (ak _ hw)];split
  ·have:x≠n:=by rintro rfl;exact h v ao
   simp[this]
  ·rfl
theorem kW {kindOf:Str->Option NameKind}{x:Str}:∀{binds:List (Str×Value)}{m:Str->Option Value},(∀ v,(x,v)∉binds)->bindC kindOf binds m x=m x
 |[],_,_=>rfl
 | (n,v)::r,m,h=>by
  unfold bindC;rw[kW fun w hw=>h w (ak _ hw)];split
  ·rfl
  ·have:x≠n:=by rintro rfl;exact h v ao
   simp[this]
theorem lB {kindOf:Str->Option NameKind}{x:Str}{v:Value}:∀{P:List Str}{vs:List Value}{i:Nat}{m:Str->Option Value},P.Nodup->P[i]? = some x->vs[i]? = some v->kindOf x=some .local ->
  bindL kindOf (P.zip vs) m x=some v
 |[],_,_,_,_,h,_,_=>by simp at h
 |_::_,[],_,_,_,_,h,_=>by simp at h
 | p::P,w::vs,0,m,nd,h1,h2,hk=>by
  simp at h1 h2;subst h1;subst h2;show bindL kindOf ((p,w)::P.zip vs) m p=_;unfold bindL;rw[lx fun v hv=>(List.nodup_cons.mp nd).1 (List.of_mem_zip hv).1,if_pos hk];simp
 | p::P,w::vs,i+1,m,nd,h1,h2,hk=>by
  show bindL kindOf ((p,w)::P.zip vs) m x=_;unfold bindL;exact lB (i:=i) (List.nodup_cons.mp nd).2 (by simpa using h1) (by simpa using h2) hk
theorem lD {kindOf:Str->Option NameKind}{x:Str}{v:Value}:∀{P:List Str}{vs:List Value}{i:Nat}{m:Str->Option Value},P.Nodup->P[i]? = some x->vs[i]? = some v->kindOf x≠some .local ->
  bindC kindOf (P.zip vs) m x=some v
 |[],_,_,_,_,h,_,_=>by simp at h
 |_::_,[],_,_,_,_,h,_=>by simp at h
 | p::P,w::vs,0,m,nd,h1,h2,hk=>by
  simp at h1 h2;subst h1;subst h2;show bindC kindOf ((p,w)::P.zip vs) m p=_;unfold bindC;rw[kW fun v hv=>(List.nodup_cons.mp nd).1 (List.of_mem_zip hv).1,if_neg hk];simp
 | p::P,w::vs,i+1,m,nd,h1,h2,hk=>by
  show bindC kindOf ((p,w)::P.zip vs) m x=_;unfold bindC;exact lD (i:=i) (List.nodup_cons.mp nd).2 (by simpa using h1) (by simpa using h2) hk
noncomputable def start (N:List Str)(vs:List V):St:=vs.map some++List.replicate (N.length - vs.length) none
noncomputable def oA (CX:uq)(P:Program)(w:World)(K:PySem.W.Frag)(mg:Str->Option Value)(base:Heap)(N:List Str)(qual:Str)(scope:Scope)(f:Addr)(cd:Value)(A:Around)(outer:List Env)(s:Shared)(H:Hp)(E:XK):Cx where
 prog:=P
 w:=w
 K:=K
 mg:=mg
 base:=base
 A:=A.deeper (envOfC qual scope s.heap.objs.size f cd)
 N:=N
 s₀:=s
 H₀:=H
 env:=envOfC qual scope s.heap.objs.size f cd
 outer:=outer
 stack:=envOfC qual scope s.heap.objs.size f cd::outer
 ex:=[]
 calm:=true
 fn:=fun _=>true
 pn:=[]
 xe:=fun e s'=>wpAny (model P w) (A.deeper (envOfC qual scope s.heap.objs.size f cd)) (leaving (envOfC qual scope s.heap.objs.size f cd) e) (fun _ s''=>CX outer H s E e s'') (fun e' s''=>CX outer H s E e' s'') s'
theorem mS {sc:Scope}{n:Nat}{x:Str}(h:sc.names.lookup x=some .cell):∃ c,(cellsFrom n sc.names []).lookup x=some c:=by
 have q:=PySem.W.cellsFrom_some sc.names n [] (.inl h);exact Option.isSome_iff_exists.mp q
theorem qw {CX:uq}{P:Program}{w:World}{K:PySem.W.Frag}{mg:Str->Option Value}{base:Heap}{N ps:List Str}{qual:Str}{scope:Scope}{f:Addr}{cd:Value}{A:Around}{outer:List Env}{s s1:Shared}{H:Hp}{E:XK}{us:List Value}{vs:List V}
  (S:jq N ps scope) (hd:A.handled=none) (e0:wa P w K mg base A outer s H) (hl:vs.length=ps.length) (r:aL vs us)
  (x:InCallC s s.heap.objs.size (bindL (envOfC qual scope s.heap.objs.size f cd).kindOf (ps.zip us) fun _=>none) (cellsFrom (s.heap.objs.size+1) scope.names []) (bindC (envOfC qual scope s.heap.objs.size f cd).kindOf (ps.zip us) fun _=>none) s1) :
  Inv (oA CX P w K mg base N qual scope f cd A outer s H E) [] (start N vs) H s1:=by
 have hpl:ps.length<=N.length:=by have:=fm List.length S.pre;rw[bw] at this;omega
 obtain⟨h1,tk,rfl,hk⟩:=x.done;have noA:∀ b:Addr,b∉(oA CX P w K mg base N qual scope f cd A outer s H E).ex:=fun b z=>absurd (show b∈([]:List Addr) from z) (by simp)
 refine⟨⟨e0.mod,S.kind,rfl,rfl,aq _,fun y z c h1 h2=>?_,fun y hy=>?_,fun y c _ h=>?_,fun _=>hd,Around.frames_deeper e0.frames,.inr ⟨rfl,rfl⟩,fun b z=>absurd z (noA b),e0.bs,e0.bsz,fun b _ _=>noA b,fun b z=>absurd z (noA b),e0.funs,e0.frf⟩,
  rfl,e0.bare,Un.kept hk,⟨_,x.toInCall.ns,fun i y v h1 h2 h3=>?_⟩,fun y c h=>⟨_,x.cell y c h⟩,e0.hok.fresh (Nat.le_refl _),fun y c h=>?_,fun p hp=>absurd (show p∈([]:List (Addr×Obj)) from hp) (by simp),e0.hok.kept hk,?_⟩
 ·exact name_of_addr x.apart (bt h1) (bt h2)
 ·have hy:scope.names.lookup y=some .cell\/scope.names.lookup y=some .free:=hy;rcases hy with hy | hy
  ·exact mS hy
  ·exact absurd rfl (S.nofree _ (bt hy))
 ·exact Nat.le_of_lt (x.above y c (bt h))
 ·have hi:i<vs.length:=by
   unfold start at h2;by_cases hi:i<vs.length
   ·exact hi
   ·rw[List.getElem?_append_right (by simpa using hi)] at h2;rw[List.getElem?_replicate] at h2;split at h2<;>cases h2
  have ha:vs[i]? = some v:=by
   unfold start at h2;rw[List.getElem?_append_left (by simpa using hi),List.getElem?_map] at h2;cases e:vs[i]? with
   |none=>rw[e] at h2;cases h2
   |some a=>rw[e] at h2;cases h2;rfl
  obtain⟨u,hu,rv⟩:=r.get ha;have hp:ps[i]? = some y:=by
   rw[<-S.pre,List.getElem?_take_of_lt (by omega)];exact h1
  have ndP:ps.Nodup:=by rw[<-S.pre];exact S.nd.sublist (List.take_sublist _ _)
  refine⟨u,rv,?_⟩;rcases S.par y (List.mem_of_getElem? hp) with k | k
  ·exact .inl ⟨k,lB ndP hp hu k⟩
  ·obtain⟨c,e⟩:=mS (n:=s.heap.objs.size+1) k;refine .inr ⟨.inl k,c,e,?_⟩;have q:=x.cell y c e;rw[lD ndP hp hu (by show scope.names.lookup y≠_;rw[k];decide)] at q;exact q
 ·exact e0.hok.fresh (Nat.le_of_lt (x.above y c (bt h)))
 ·unfold start;show _=N.length;rw[au,aj,bq];omega
theorem Ce {CX:uq}{P:Program}{w:World}{K:PySem.W.Frag}{mg:Str->Option Value}{base:Heap}{k:Nat}{f:Addr}{name qual:Str}{params:Arguments}{body:List Stmt}{scope:Scope}{dV kV doc pm cdv ct oc:Value}{an od:Option Addr}
  {osl:Array (Option Value)}{N ps:List Str}{sp:Sp}(lk:K.lookup f=some ⟨oc,od,.func (PySem.W.fnOf name qual params body scope dV kV doc pm an cdv ct),osl⟩) (hcd:PySem.W.codeIn K cdv qual=true) (S:jq N ps scope)
  (len:∀ vs H Q E,sp vs H Q E->vs.length=ps.length)
  (hbody:∀(A:Around) (outer:List Env) (s:Shared) (H:Hp) (vs:List V) (Q:VK) (E:XK),fY k (A.deeper (envOfC qual scope s.heap.objs.size f cdv))->sp vs H Q E ->
   ∃ t,km (oA CX P w K mg base N qual scope f cdv A outer s H E) body t/\t { nx:=fun _ H'=>Q .non H',rt:=Q } (start N vs) H) :
  mo P w K mg base CX (k+1) f (PySem.W.fnOf name qual params body scope dV kV doc pm an cdv ct) ps sp:=by
 refine⟨len,fun A outer s H args us vs Q E hr e0 hb r hsp=>?_⟩;have hl:=len _ _ _ _ hsp;have KX:K.In s.heap:=e0.mod.kin.keeps fun b o e=>(e0.bs b o e).1
 have lim:s.heap.NoLimit:=e0.mod.nolimit.keeps fun b o e=>(e0.bs b o e).1
 have hkind:∀ y∈ps.zip us,scope.names.lookup y.1=some .local\/(scope.names.lookup y.1=some .cell/\((cellsFrom (s.heap.objs.size+1) scope.names []).lookup y.1).isSome=true):=fun ⟨n,v⟩ hy=>by
  rcases S.par n (List.of_mem_zip hy).1 with q | q
  ·exact .inl q
  ·exact .inr ⟨q,PySem.W.cellsFrom_some _ _ _ (.inl q)⟩
 refine codeAny_call_function hr.depth (KX _ _ lk) rfl S.co S.gen rfl (PySem.W.codeRec_of KX hcd) (hb _ _ _ _ ?_);refine wpAny_newFunctionEnv_cells S.kind hkind fun env he s1 x=>?_
 subst he;refine⟨lim.keeps x.toInCall.keep,codeAny_func ?_⟩;obtain⟨t,ht,hq⟩:=hbody A outer s H vs Q E (hr.deeper _) hsp;have I:Inv (oA CX P w K mg base N qual scope f cdv A outer s H E) [] (start N vs) H s1:=qw S hr.hd e0 hl r x;refine wpAny_mono (ht [] s1 (start N vs) H _ I hq) (fun fl s' hs=>?_) fun e s' hs=>hs
 have fin:∀{σ':St}{H':Hp}{v:V}{u:Value},Inv (oA CX P w K mg base N qual scope f cdv A outer s H E) [] σ' H' s'->RelV v u->Q v H'->CE outer P w H s Q u s' :=
  fun {σ' H' v u} J rv q=>⟨v,H',J.os,J.bare,J.base,J.hok,rv,q⟩
 cases fl with
 |ret u =>
  obtain⟨v,σ',H',J,rv,q⟩:=hs;exact fin J rv q
 |next =>
  obtain⟨σ',H',J,q⟩:=hs;exact fin (v:=V.non) (u:=Value.none) J rfl q
 |brk =>
  obtain⟨_,_,_,q⟩:=hs;exact False.elim q
 |cont =>
  obtain⟨_,_,_,q⟩:=hs;exact False.elim q
end L2
namespace L2
open PySem PySem.Spec PyProof.Rows
section
variable {X:Cx}{x:Str}{p pos:Pos}{e:Expr}{es:List Expr}{t:TA}{id T:String}{r:List V->Hp->VK->Prop}
def tCB (r:List V->Hp->VK->Prop)(t:TA):TE:=fun σ H Q=>t σ H fun vs H1=>r vs H1 Q
theorem mP (hc:fT X (.builtin id) r)(hg:Gl X x)(hm:X.mg x=none)(hv:bootBuiltins x=some (.builtin id))(ha:PA X (e::es) t)(hn:x≠"__name__":=by decide) (hdb:(x==("__debug__" : Str))=false:=by decide)
  (he:starEach (e::es) X.env=(false,eval e X.env)::starEach es X.env:=by rfl) (hpl:(backTo pos (starEach es X.env)).any (·.1)=false:=by rfl):PE X (.Call (.Name x p) (e::es) [] pos) (tCB r t):=by
 intro pins s σ H Q I h;refine wpAny_Call_Name_kw (j8 I hg hm hv ?_ hn hdb);exact PyProof.Rows.callWith_builtin1 (bV (ha pos pins s σ H _ I h) fun us s1 ⟨vs,H1,I1,r1,q1⟩=>hc pins s1 σ H1 vs us Q I1 r1 q1) he hpl
theorem qY (hc:fT X (.type T) r)(hg:Gl X x)(hm:X.mg x=none)(hv:bootBuiltins x=some (.type T))(ha:PA X (e::es) t)(hn:x≠"__name__":=by decide) (hdb:(x==("__debug__" : Str))=false:=by decide)
  (he:starEach (e::es) X.env=(false,eval e X.env)::starEach es X.env:=by rfl) (hpl:(backTo pos (starEach es X.env)).any (·.1)=false:=by rfl):PE X (.Call (.Name x p) (e::es) [] pos) (tCB r t):=by
 intro pins s σ H Q I h;refine wpAny_Call_Name_kw (j8 I hg hm hv ?_ hn hdb);exact gc (bV (ha pos pins s σ H _ I h) fun us s1 ⟨vs,H1,I1,r1,q1⟩=>hc pins s1 σ H1 vs us Q I1 r1 q1) he hpl
end
end L2
namespace HT
open PySem PyProof.Rows
noncomputable def lexLt:List Int->List Int->Bool
 |[],[]=>false
 |[],_::_=>true
 |_::_,[]=>false
 |x::xs,y::ys=>if x=y then lexLt xs ys else decide (x<y)
theorem jE (x y:Int)(xs ys:List Int):lexLt (x::xs) (y::ys)=if x=y then lexLt xs ys else decide (x<y):=rfl
theorem kC:lexLt [] []=false:=rfl
theorem jM (y:Int)(ys:List Int):lexLt [] (y::ys)=true:=rfl
theorem ke (x:Int)(xs:List Int):lexLt (x::xs) []=false:=rfl
theorem mT (A:Around)(s:Shared)(a:Int)(t:Tok)(c:Int)(u:Tok):∃ e,SeqAt.EqAt A s (.int a t) (.int c u) e/\(e=true↔a=c) :=
 ⟨(a==c),SeqAt.EqAt.int_int a t c u,by simp⟩
theorem jS (A:Around)(s:Shared)(a:Int)(t:Tok)(c:Int)(u:Tok)(prog:Program)(w:World)(E:Value->Shared->Prop)(Q:Value->Shared->Prop)(h:Q (.bool (decide (a<c))) s) :
  wpAny (model prog w) A (richCompare .Lt (.int a t) (.int c u)) Q E s :=
 (PyProof.Rows.lt_int h:wpAny (model prog w) A (compareOp .Lt (.int a t) (.int c u)) Q E s)
section
open PySem.SeqAt
open PySem.AutoSeq1 (wpAny_loadPart')
open PySem.MeetsSeq PySem.MeetsSeq2 PySem.MeetsSeq3
theorem kz (l b:Addr)(items items2:Array Value)(n n2:Nat)(dd dd2:Option Addr)(sl sl2:Array (Option Value))(ns ms:List Int)(hi:IntsAre items.toList ns)(hj:IntsAre items2.toList ms) :
  Meets (Builtin.«tuple.__lt__» ⟨[.ref l,.ref b],[]⟩)
   (fun _ R s=>s.heap.get? l=some { cls:=.type "tuple",dict:=dd,data:=.seq items n,slots:=sl }/\s.heap.get? b=some { cls:=.type "tuple",dict:=dd2,data:=.seq items2 n2,slots:=sl2 } /\
    R (.ok (.ret (.bool (lexLt ns ms)))) s) :=
 .of_wp fun prog w A R s h=>by
  obtain⟨hp,g,d,tk,os⟩:=s;obtain⟨hl,hb,h⟩:=h;have f2:=AutoSeq1.sub_tuple_tuple;have z1:items.size=ns.length:=by rw[<-hi.length];simp
  have z2:items2.size=ms.length:=by rw[<-hj.length];simp
  wp_walk using wpAny_loadPart' hl,wpAny_loadPart' hb,wpAny_forIn_list _ (fun rest b s'=>b.1=none/\s'=⟨hp,g,d,tk,os⟩/\∃(vs ws:List Value) (ns' ms':List Int),rest=vs.zip ws /\
   IntsAre vs ns'/\IntsAre ws ms'/\ns'.length+items2.size=ms'.length+items.size/\R (.ok (.ret (.bool (lexLt ns' ms')))) ⟨hp,g,d,tk,os⟩) _
  case turn =>
   rintro⟨y,x⟩ rest b s' ⟨hb',rfl,vs,ws,ns',ms',hz,hvi,hwi,hlen,hR⟩;cases hvi with
   |nil=>rw[List.zip_nil_left] at hz;cases hz
   |cons a t hvi' =>
    cases hwi with
    |nil=>rw[List.zip_nil_right] at hz;cases hz
    |cons c u hwi' =>
     rw[gg] at hz;injection hz with hyx hrest
     injection hyx with hy hx
     subst hy hx;rw[jE] at hR;simp only[List.length_cons] at hlen;obtain⟨e,he,hiff⟩:=mT A.in1 ⟨hp,g,d,tk,os⟩ a t c u;refine wpAny_bind (he prog w _ _ ?_);cases e with
     |true =>
      rw[if_pos (hiff.mp rfl)] at hR
      wp_walk
      exact⟨rfl,rfl,_,_,_,_,hrest,hvi',hwi',by omega,hR⟩
     |false =>
      rw[if_neg (fun q=>absurd (hiff.mpr q) ax)] at hR;have hri:=jS A.in1 ⟨hp,g,d,tk,os⟩ a t c u prog w
      wp_walk using hri
      exact⟨_,rfl,by simpa using hR⟩
  case fin =>
   rintro⟨b1,b2⟩ s' ⟨hb',rfl,vs,ws,ns',ms',hz,hvi,hwi,hlen,hR⟩;simp only at hb';subst hb';have hv:lexLt ns' ms'=decide (items.size<items2.size):=by
    cases hvi with
    |nil =>
     cases hwi with
     |nil =>
      simp only[List.length_nil] at hlen;rw[kC];exact (av (by omega)).symm
     |cons c u hw =>
      simp only[List.length_nil,List.length_cons] at hlen;rw[jM];exact (bg (by omega)).symm
    |cons a t hv =>
     cases hwi with
     |nil =>
      simp only[List.length_nil,List.length_cons] at hlen;rw[ke];exact (av (by omega)).symm
     |cons c u hw =>
      rw[gg] at hz;cases hz
   rw[hv] at hR
   wp_walk
   exact⟨_,rfl,by simpa[Builtin.Tuple.tupleCompareSizes] using hR⟩
  case h =>
   exact⟨rfl,rfl,items.toList,items2.toList,ns,ms,rfl,hi,hj,by omega,h⟩
end
section
variable {prog:Program}{w:World}{A:Around}{E:Value->Shared->Prop}{s:Shared}
theorem nV {l b:Addr}{items items2:Array Value}{ns ms:List Int}{Q:Value->Shared->Prop}(hl:IsTup s.heap l items)(hb:IsTup s.heap b items2)(hi:IntsAre items.toList ns)(hj:IntsAre items2.toList ms)
  (hu:A.units<cLine) (h:Q (.bool (lexLt ns ms)) s):wpAny (model prog w) A (compareOp .Lt (.ref l) (.ref b)) Q E s:=by
 obtain⟨⟨cls,dd,data,sl⟩,ho,hc,n,hd⟩:=id hl;obtain⟨⟨cls2,dd2,data2,sl2⟩,ho2,hc2,n2,hd2⟩:=id hb;simp only at hc hd hc2 hd2;subst hc hd hc2 hd2;exact richCompare_meets_room (op:=.Lt) ⟨_,ho,rfl⟩ ⟨_,ho2,rfl⟩ PySem.F.slot_tuple_lt PySem.F.entry_tuple_lt (PySem.F.args_tuple_lt_2 _ _) (kz l b items items2 n n2 dd dd2 sl sl2 ns ms hi hj)
  ⟨ho,ho2,show Value.bool (lexLt ns ms)≠Value.notImplemented/\Q (.bool (lexLt ns ms)) s from ⟨(fun x=>nomatch x),h⟩⟩ hu
theorem we {t b:Addr}{vs ws:List Value}{Q:Value->Shared->Prop}(ht:IsTup s.heap t vs.toArray)(hb:IsTup s.heap b ws.toArray)(hv:vs≠[])
  (h1:ws=[]->Q (.ref t) s) (h2:ws≠[]->Q (.ref s.heap.objs.size) { s with heap:=s.heap.push { cls:=.type "tuple",data:=.seq (vs++ws).toArray } })
  (hsz:vs.length+ws.length<=sizeLine):wpAny (model prog w) A (binaryOp .Add (.ref t) (.ref b)) Q E s:=by
 obtain⟨⟨cls,dd,data,sl⟩,ho,hc,n,hd⟩:=id ht;obtain⟨⟨cls2,dd2,data2,sl2⟩,ho2,hc2,n2,hd2⟩:=id hb;simp only at hc hd hc2 hd2;subst hc hd hc2 hd2;have e:vs.toArray++ws.toArray=(vs++ws).toArray:=by simp
 by_cases hw:ws=[]
 ·exact concat_meets ⟨_,ho,rfl⟩ ⟨_,ho2,rfl⟩ noFill_tuple_add seq_tuple_add PySem.F.slot_tuple_add PySem.F.entry_tuple_add (PySem.F.args_tuple_add_2 _ _)
   (tuple_addW1 t b vs.toArray ws.toArray n n2 dd dd2 sl sl2 (by simpa using hv) (by simp[hw])) ⟨ho,ho2,h1 hw⟩
 ·refine concat_meets ⟨_,ho,rfl⟩ ⟨_,ho2,rfl⟩ noFill_tuple_add seq_tuple_add PySem.F.slot_tuple_add PySem.F.entry_tuple_add (PySem.F.args_tuple_add_2 _ _)
   (tuple_addW2 t b vs.toArray ws.toArray n n2 dd dd2 sl sl2 (by simpa using hv) (by simpa using hw) (by rw[List.size_toArray,List.size_toArray];exact hsz)) ⟨ho,ho2,?_⟩
  rw[e];exact h2 hw
noncomputable def bA (n d:Nat):Option Int->Nat
 |none=>d
 |some v=>if v<0 then (v+(n:Int)).toNat else min v.toNat n
theorem mq (n d:Nat)(hd:d<=n)(o:Option Int):bA n d o<=n:=by
 cases o with
 |none=>exact hd
 |some v =>
  show (if v<0 then (v+(n:Int)).toNat else min v.toNat n)<=n;by_cases hv:v<0
  ·rw[if_pos hv];omega
  ·rw[if_neg hv];exact Nat.min_le_right _ _
theorem pN (v:Int)(n d:Nat):(if v<0 then max (v+(n:Int)) 0 else min v (n:Int))=((bA n d (some v):Nat):Int):=by
 show (if v<0 then max (v+(n:Int)) 0 else min v (n:Int))=(((if v<0 then (v+(n:Int)).toNat else min v.toNat n):Nat):Int);by_cases hv:v<0
 ·simp only[if_pos hv];omega
 ·simp only[if_neg hv];omega
theorem oq (lo hi:Option Int)(n:Nat):Builtin.Slice.sliceAdjust lo hi 1 (n:Int)=(((bA n 0 lo:Nat):Int),((bA n n hi:Nat):Int)):=by
 have h1:¬ ((1:Int)<0):=by omega
 unfold Builtin.Slice.sliceAdjust;simp only[h1,if_false];refine Prod.ext ?_ ?_
 ·cases lo with
  |none=>rfl
  |some v=>exact pN v n 0
 ·cases hi with
  |none=>rfl
  |some v=>exact pN v n n
theorem oC (i j:Nat):Builtin.Slice.slicePlaces (i:Int) (j:Int) 1=j - i:=by
 unfold Builtin.Slice.slicePlaces;have h1:(1:Int) > 0:=by omega
 simp only[h1,if_true,Int.ediv_one];split<;>omega
theorem jZ {v:Value}{o:Option Int}{Q:Option Int->Shared->Prop}(p:IsPart v o)(h:Q o s):wpAny (model prog w) A (Builtin.Slice.slicePartIndex v) Q E s:=by
 cases p with
 |none=>exact slicePart_none h
 |int i t=>exact slicePart_int h
theorem iY {sl:Addr}{vl vu:Value}{lo hi:Option Int}{n:Nat}{Q:Int×Int×Nat->Shared->Prop}(hs:s.heap.IsSliceOf sl vl vu .none)(pl:IsPart vl lo)(pu:IsPart vu hi)
  (h:Q (((bA n 0 lo:Nat):Int),1,bA n n hi - bA n 0 lo) s):wpAny (model prog w) A (Builtin.Slice.sliceApplied (.ref sl) (pure (n:Int))) Q E s:=by
 obtain⟨os,hos,hcs,hds⟩:=id hs;unfold Builtin.Slice.sliceApplied Builtin.Slice.sliceFields;refine wpAny_bind (wpAny_bind (wpAny_field hos hds (x:=vl) rfl (wpAny_bind (wpAny_field hos hds (x:=vu) rfl (wpAny_bind (wpAny_field hos hds (x:=.none) rfl (wpAny_pure ?_)))))));refine wpAny_bind (slicePart_none ?_);show wpAny _ _ (if ((1:Int)==0)=true then _ else _) _ _ s;rw[if_neg (by decide)];refine wpAny_bind (jZ pl (wpAny_bind (jZ pu (wpAny_bind (wpAny_pure ?_)))));show wpAny _ _ (match Builtin.Slice.sliceAdjust lo hi 1 (n:Int) with | (lo,hi)=>pure (lo,(1:Int),Builtin.Slice.slicePlaces lo hi 1)) _ _ s;rw[oq lo hi n];show wpAny _ _ (pure (((bA n 0 lo:Nat):Int),(1:Int),Builtin.Slice.slicePlaces ((bA n 0 lo:Nat):Int) ((bA n n hi:Nat):Int) 1)) _ _ s;rw[oC];exact wpAny_pure h
theorem ve (xs:Array Value)(i k:Nat):((List.range k).filterMap fun (m:Nat)=>xs[((i:Int)+(m:Int)*1).toNat]?).toArray=((xs.toList.drop i).take k).toArray:=by
 have e:(fun (m:Nat)=>xs[((i:Int)+(m:Int)*1).toNat]?)=fun m=>xs[i+m]?:=by
  funext m;have:((i:Int)+(m:Int)*1).toNat=i+m:=by omega
  rw[this]
 rw[e];have:=pick_run xs i k;rw[List.filterMap_map] at this;have e2:((fun x=>xs[x]?)∘fun x=>i+x)=fun m=>xs[i+m]?:=rfl
 rw[e2] at this;rw[this]
theorem iG {t sl:Addr}{items:Array Value}{vl vu:Value}{lo hi:Option Int}{Q:Value->Shared->Prop}(ht:IsTup s.heap t items)(hs:s.heap.IsSliceOf sl vl vu .none)(pl:IsPart vl lo)(pu:IsPart vu hi)
  (hw:¬ (bA items.size 0 lo=0/\bA items.size items.size hi=items.size))
  (h:Q (.ref s.heap.objs.size) { s with heap:=s.heap.push { cls:=.type "tuple",data:=.seq ((items.toList.drop (bA items.size 0 lo)).take (bA items.size items.size hi - bA items.size 0 lo)).toArray } })
  (hsz:items.size<=sizeLine):wpAny (model prog w) A (getItem (.ref t) (.ref sl)) Q E s:=by
 have htake:sizeOk (.seq ((items.toList.drop (bA items.size 0 lo)).take (bA items.size items.size hi - bA items.size 0 lo)).toArray):=by
  show ((items.toList.drop (bA items.size 0 lo)).take (bA items.size items.size hi - bA items.size 0 lo)).toArray.size<=sizeLine;rw[ae,bw,bz,cn];omega
 have hj:bA items.size items.size hi<=items.size:=mq _ _ (aq _) hi;obtain⟨os,hos,hcs,hds⟩:=id hs;have hTs:s.TypeIs (.ref sl) "slice":=⟨os,hos,hcs⟩;unfold getItem
 try with_reducible refine wpAny_holding ?_
 first | refine wpAny_bind (wpAny_pure ?_) | skip
 refine wpAny_bind (wpAny_sequenceKey ht.typeIs (by decide) ?_);refine wpAny_bind (wpAny_callSpecial?_slot (name:=Str.ofString "__getitem__") ht.typeIs PyProof.Rows.slot_tuple_getitem
  (wpAny_call_entry PyProof.Rows.slot_tuple_getitem ht.typeIs entry_tuple_getitem ?_ (args_tuple_getitem _ _)))
 show wpAny _ _ (Builtin.Tuple.tupleItemsOf (.ref t) >>= _) _ _ s;refine wpAny_bind (tupleItemsOf_ ht ?_);refine wpAny_bind (wpAny_typeOf hTs ?_);rw[if_pos (by decide)];refine wpAny_bind (iY hs pl pu ?_);have hno:¬ ((((bA items.size 0 lo:Nat):Int)==0&&(1:Int)==1&&(bA items.size items.size hi - bA items.size 0 lo)==items.size)=true):=by
  intro q;rw[ah,ah] at q;have q1:((bA items.size 0 lo:Nat):Int)=0:=eq_of_beq q.1.1;have q2:bA items.size items.size hi - bA items.size 0 lo=items.size:=eq_of_beq q.2;exact hw ⟨by omega,by omega⟩
 show wpAny _ _ (if (((bA items.size 0 lo:Nat):Int)==0&&(1:Int)==1&&(bA items.size items.size hi - bA items.size 0 lo)==items.size)=true then _ else _) _ _ s;rw[if_neg hno,ve]
 first
  | exact wpAny_bind (m:=Builtin.Tuple.tupleExact _) (wpAny_newObj_type (wpAny_pure ⟨_,rfl,wpAny_pure h⟩) htake)
  | exact wpAny_bind (m:=Builtin.Tuple.tupleExact _) (wpAny_newObj_type (wpAny_bind (wpAny_pure (wpAny_pure ⟨_,rfl,wpAny_pure h⟩))) htake)
  | exact wpAny_bind (wpAny_bind (m:=Builtin.Tuple.tupleExact _) (wpAny_newObj_type (wpAny_pure (wpAny_pure ⟨_,rfl,wpAny_pure h⟩)) htake))
  | exact wpAny_bind (wpAny_bind (m:=Builtin.Tuple.tupleExact _) (wpAny_newObj_type (wpAny_pure ⟨_,rfl,wpAny_pure h⟩) htake))
end
end HT
namespace L2
open PySem PySem.Spec PyProof.Rows
noncomputable abbrev TO:=St->Hp->(Option Int->Hp->Prop)->Prop
noncomputable def PO (X:Cx)(e:Option Expr)(t:TO):Prop :=
 ∀(pins:List (Addr×Obj)) (s:Shared) (σ:St) (H:Hp) (Q:Option Int->Hp->Prop),Inv X pins σ H s->t σ H Q ->
  wpAny (model X.prog X.w) X.A (evalPart e X.env) (fun u s'=>∃ o H',Inv X pins σ H' s'/\IsPart u o/\Q o H') X.xe s
noncomputable def wB:TO:=fun _ H Q=>Q none H
noncomputable def Bx (t:TE):TO:=fun σ H Q=>t σ H fun x H1=>∃ i,x = .int i/\Q (some i) H1
section
variable {X:Cx}{e:Expr}{te:TE}{lo hi:Option Expr}{tl th:TO}{pos p2:Pos}
theorem vK:PO X none wB:=by
 intro pins s σ H Q I h;rw[evalPart_none];exact wpAny_pure ⟨none,H,I,.none,h⟩
theorem xa (h:PE X e te):PO X (some e) (Bx te):=by
 intro pins s σ H Q I hw;rw[evalPart_some];refine bV (h pins s σ H _ I hw) fun u s1 ⟨x,H1,I1,r1,q1⟩=>?_
 obtain⟨i,rfl,q⟩:=q1;obtain⟨t,rfl⟩:=r1;exact⟨some i,H1,I1,.int i t,q⟩
noncomputable def x4 (X:Cx)(r:V->Option Int->Option Int->Hp->VK->Prop):Prop :=
 ∀(pins:List (Addr×Obj)) (s:Shared) (σ:St) (H:Hp) (x:V) (v vl vu:Value) (lo hi:Option Int) (sl:Addr) (Q:VK),Inv X pins σ H s->RelV x v->s.heap.IsSliceOf sl vl vu .none->IsPart vl lo->IsPart vu hi->r x lo hi H Q ->
  ∃ T id,typeLookup (.type T) "__getitem__" = pure (some (.builtin id))/\s.TypeIs v T/\wpAny (model X.prog X.w) X.A (getItem v (.ref sl)) (EP X pins σ Q) X.xe s
theorem x4.or {r r':V->Option Int->Option Int->Hp->VK->Prop}(h:x4 X r)(h':x4 X r'):x4 X (fun x lo hi H Q=>r x lo hi H Q\/r' x lo hi H Q):=by
 intro pins s σ H x v vl vu lo hi sl Q I rx hs pl pu q;rcases q with q | q
 ·exact h pins s σ H x v vl vu lo hi sl Q I rx hs pl pu q
 ·exact h' pins s σ H x v vl vu lo hi sl Q I rx hs pl pu q
def tSl (r:V->Option Int->Option Int->Hp->VK->Prop)(te:TE)(tl th:TO):TE:=fun σ H Q=>te σ H fun x H1=>tl σ H1 fun l H2=>th σ H2 fun u H3=>r x l u H3 Q
theorem sk {r:V->Option Int->Option Int->Hp->VK->Prop}(hr:x4 X r)(he:PE X e te)(hl:PO X lo tl)(hu:PO X hi th):PE X (.Subscript e (.Slice lo hi none p2) pos) (tSl r te tl th):=by
 intro pins s σ H Q I h;refine Subscript_ (bV (he pins s σ H _ I h) fun v s1 ⟨x,H1,I1,r1,q1⟩=>?_);refine wpAny_Slice (bV (hl pins s1 σ H1 _ I1 q1) fun vl s2 ⟨l,H2,I2,pl,q2⟩=>bV (hu pins s2 σ H2 _ I2 q2) fun vu s3 ⟨u,H3,I3,pu,q3⟩=>?_);rw[evalPart_none];refine wpAny_pure ?_;have I4:Inv X pins σ H3 { s3 with heap:=s3.heap.push { cls:=.type "slice",data:=.fields #[vl,vu,.none] } }:=I3.kept (t':=s3.toks) fun b ob q=>Heap.get?_push_of_some _ q
 obtain⟨T,id,hT,ht,hg⟩:=hr pins { s3 with heap:=s3.heap.push { cls:=.type "slice",data:=.fields #[vl,vu,.none] } } σ H3 x v vl vu l u s3.heap.objs.size Q I4 r1 (Heap.IsSliceOf.new ..) pl pu q3;show wpAny (model X.prog X.w) X.A (subscriptTail e (.Slice lo hi none p2) v (.ref s3.heap.objs.size)) (EP X pins σ Q) X.xe { s3 with heap:=s3.heap.push { cls:=.type "slice",data:=.fields #[vl,vu,.none] } };exact tail_any (ops:=[.ref s3.heap.objs.size,v]) ht hT hg (by with_unfolding_all rfl)
noncomputable def ku (xs:List V)(lo hi:Option Int):List V:=(xs.drop (HT.bA xs.length 0 lo)).take (HT.bA xs.length xs.length hi - HT.bA xs.length 0 lo)
theorem jd (xs:List V)(lo hi:Option Int):(ku xs lo hi).length<=xs.length:=by
 unfold ku;rw[bw,bz];omega
def rSlT (K:PySem.W.Frag):V->Option Int->Option Int->Hp->VK->Prop:=fun x lo hi H Q=>∃ a xs,x = .ref a/\iq K H a xs /\
 ¬ (HT.bA xs.length 0 lo=0/\HT.bA xs.length xs.length hi=xs.length)/\∀ p,H p=none->Q (.ref p) (upd H p (.tup (ku xs lo hi)))
theorem y3:x4 X (rSlT X.K):=by
 intro pins s σ H x v vl vu lo hi sl Q I rx hs pl pu h;obtain⟨a,xs,rfl,hx,hw,q⟩:=h;cases rx;obtain⟨its,r,ht,hz⟩:=I.tuple hx;have hlen:its.toArray.size=xs.length:=by rw[ae];exact r.length.symm
 refine⟨"tuple",_,PyProof.Rows.slot_tuple_getitem.lookup,ht.typeIs,?_⟩;refine HT.iG ht hs pl pu (by rw[hlen];exact hw) ?_ (by rw[hlen];exact hz);rw[hlen];refine⟨.ref s.heap.objs.size,_,I.laid (t':=s.toks) (o:=.tup (ku xs lo hi)) (fun b ob q=>Heap.get?_push_of_some _ q) (aq _) ?_,rfl,q _ (I.hok.fresh (aq _))⟩;exact⟨bj (jd xs lo hi) hz,_,(r.drop (HT.bA xs.length 0 lo)).take (HT.bA xs.length xs.length hi - HT.bA xs.length 0 lo),IsTup.new _ _⟩
noncomputable def Bk (K:PySem.W.Frag):R2:=fun x y H Q=>∃ a b xs ys,x = .ref a/\y = .ref b/\iq K H a xs/\iq K H b ys/\xs≠[]/\xs.length+ys.length<=sizeLine /\
 (ys=[]->Q (.ref a) H)/\(ys≠[]->∀ p,H p=none->Q (.ref p) (upd H p (.tup (xs++ys))))
theorem aL.nil_iff {xs:List V}{us:List Value}(r:aL xs us):us=[]↔xs=[]:=by
 cases r with
 |nil=>simp
 |cons _ _=>simp
theorem w4:fW X (binaryOp .Add) (Bk X.K):=by
 intro pins s σ H x y v u Q I rx ry h;obtain⟨a,b,xs,ys,rfl,rfl,ha,hb,hx,hz,q1,q2⟩:=h;cases rx;cases ry;obtain⟨its,r1,p1,_⟩:=I.tuple ha;obtain⟨its2,r2,p2,_⟩:=I.tuple hb;refine HT.we p1 p2 (fun z=>hx (r1.nil_iff.mp z)) (fun z=>⟨.ref a,H,I,rfl,q1 (r2.nil_iff.mp z)⟩) (fun z=>?_) (by rw[<-r1.length,<-r2.length];exact hz);refine⟨.ref s.heap.objs.size,_,I.laid (t':=s.toks) (o:=.tup (xs++ys)) (fun b ob q=>Heap.get?_push_of_some _ q) (aq _) ?_,rfl,q2 (fun w=>z (r2.nil_iff.mpr w)) _ (I.hok.fresh (aq _))⟩;exact⟨by rw[au];exact hz,_,r1.append r2,IsTup.new _ _⟩
end
end L2
namespace L2
open PySem PySem.Spec PyProof.Rows
noncomputable def hW (n:Nat)(i:Int):Option Nat:=if 0<=i then (if i<n then some i.toNat else none) else if -(n:Int)<=i then some (i+n).toNat else none
noncomputable def zW {α:Type}(xs:List α)(i:Int):Option α:=(hW xs.length i).bind fun j=>xs[j]?
theorem p9 {n:Nat}{i:Int}{j:Nat}(h:hW n i=some j):seqIndex? i n=some j/\j<n/\-(n:Int)<=i/\i<n:=by
 unfold hW at h;by_cases h0:0<=i
 ·rw[if_pos h0] at h;by_cases h1:i<n
  ·rw[if_pos h1] at h;have e:i.toNat=j:=bu h;exact⟨by rw[seqIndex_of h0 h1,e],by omega,by omega,h1⟩
  ·rw[if_neg h1] at h;cases h
 ·rw[if_neg h0] at h;by_cases h1 : -(n:Int)<=i
  ·rw[if_pos h1] at h;have e:(i+n).toNat=j:=bu h;exact⟨by rw[seqIndex_neg (by omega) h1,e],by omega,h1,by omega⟩
  ·rw[if_neg h1] at h;cases h
theorem l0 {α:Type}{xs:List α}{i:Int}{v:α}(h:zW xs i=some v):∃ j,seqIndex? i xs.length=some j/\xs[j]? = some v/\j<xs.length/\-(xs.length:Int)<=i/\i<xs.length:=by
 unfold zW at h;cases e:hW xs.length i with
 |none=>rw[e] at h;cases h
 |some j =>
  rw[e] at h;obtain⟨h1,h2,h3,h4⟩:=p9 e;exact⟨j,h1,h,h2,h3,h4⟩
def lW (b:Expr):Prop:=∀ o i,subscripted b false o i=operate [o,i] (getItem o i)
noncomputable def A2 (X:Cx)(r:R2):Prop :=
 ∀(value slice:Expr) (pins:List (Addr×Obj)) (s:Shared) (σ:St) (H:Hp) (x y:V) (v u:Value) (Q:VK),Inv X pins σ H s->RelV x v->RelV y u->r x y H Q ->
  subscripted slice false v u=operate [v,u] (getItem v u)->wpAny (model X.prog X.w) X.A (subscriptTail value slice v u) (EP X pins σ Q) X.xe s
noncomputable def Ci (X:Cx)(id:String)(r:V->List V->Hp->VK->Prop):Prop :=
 ∀(pins:List (Addr×Obj)) (s:Shared) (σ:St) (H:Hp) (x:V) (xs:List V) (v:Value) (us:List Value) (Q:VK),Inv X pins σ H s->RelV x v->aL xs us->r x xs H Q ->
  wpAny (model X.prog X.w) X.A (call (.builtin id) (v::us)) (EP X pins σ Q) X.xe s
section
variable {X:Cx}{a b:Expr}{ta tb:TE}{pos:Pos}
theorem Cc {r:R2}(hr:A2 X r)(ha:PE X a ta)(hb:PE X b tb)(hs:lW b):PE X (.Subscript a b pos) (Bj r ta tb):=by
 intro pins s σ H Q I h;exact Subscript_ (zT ha hb I h fun v u s2 x y H2 I2 rx ry q=>hr a b pins s2 σ H2 x y v u Q I2 rx ry q (hs _ _))
noncomputable def rIxL (K:PySem.W.Frag):R2:=fun x y H Q=>∃ p xs i v,x = .ref p/\y = .int i/\ko K H p xs/\zW xs i=some v/\Q v H
noncomputable def rIxT (K:PySem.W.Frag):R2:=fun x y H Q=>∃ p xs i v,x = .ref p/\y = .int i/\iq K H p xs/\zW xs i=some v/\Q v H
noncomputable def rIxS:R2:=fun x y H Q=>∃ z i c,x = .str z/\y = .int i/\z.length<=sizeLine/\zW z.cps.toList i=some c/\Q (.str ⟨#[c]⟩) H
theorem wV:A2 X (rIxL X.K):=by
 intro value slice pins s σ H x y v u Q I rx ry h hs;obtain⟨p,xs,i,z,rfl,rfl,hq,he,q⟩:=h;cases rx;obtain⟨t,rfl⟩:=ry;obtain⟨its,r,pl,hz⟩:=I.list hq;obtain⟨j,h1,h2,h3,h4,h5⟩:=l0 he;obtain⟨w,ew,rw'⟩:=r.get h2;have hl:=r.length;have hn:=ip;have fin:EP X pins σ Q w s:=⟨z,H,I,rw',q⟩;by_cases h0:0<=i
 ·have hj:i.toNat=j:=by
   rw[seqIndex_of h0 h5] at h1;exact bu h1
  exact item_listR pl.isList h0 (by omega) (by rw[hj];simpa using ew) fin hs
 ·have hj:(i+(its.toArray.size:Int)).toNat=j:=by
   rw[seqIndex_neg (by omega) h4] at h1;rw[ae,<-hl];exact bu h1
  exact subscriptTail_builtinR (x:=w) pl.isList.typeIs slot_list_getitem.lookup
   (wpAny_getItem_list_neg (Q:=fun r s'=>r=w/\EP X pins σ Q r s') pl.isList (by omega) (by rw[List.size_toArray]<;>omega) (by omega) (by rw[hj];simpa using ew) ⟨rfl,fin⟩) hs
theorem AL:A2 X (rIxT X.K):=by
 intro value slice pins s σ H x y v u Q I rx ry h hs;obtain⟨p,xs,i,z,rfl,rfl,hq,he,q⟩:=h;cases rx;obtain⟨t,rfl⟩:=ry;obtain⟨its,r,pl,hz⟩:=I.tuple hq;obtain⟨j,h1,h2,h3,h4,h5⟩:=l0 he;obtain⟨w,ew,rw'⟩:=r.get h2;have hl:=r.length;have hn:=ip;have fin:EP X pins σ Q w s:=⟨z,H,I,rw',q⟩;exact subscriptTail_builtinR (x:=w) pl.typeIs slot_tuple_getitem.lookup
  (getItem_tuple (j:=j) (Q:=fun r s'=>r=w/\EP X pins σ Q r s') pl (by omega) (by omega) (by rw[List.size_toArray,<-hl];exact h1) (by simpa using ew) ⟨rfl,fin⟩) hs
theorem AR:A2 X rIxS:=by
 intro value slice pins s σ H x y v u Q I rx ry h hs;obtain⟨z,i,c,rfl,rfl,hz,he,q⟩:=h;obtain⟨t,rfl⟩:=rx;obtain⟨t',rfl⟩:=ry;obtain⟨j,h1,h2,h3,h4,h5⟩:=l0 he;have hl:z.cps.toList.length=z.length:=by simp[Str.length]
 rw[hl] at h1 h4 h5;have hn:=ip;exact tail_any (typeIs_str s z t) slot_str_getitem.lookup (getItem_str (c:=c) (by
  have e1:decide (i < -(2 ^ 63:Int))=false:=av (by omega);have e2:decide (i ≥ 2 ^ 63)=false:=av (by omega);rw[e1,e2,Bool.or_false]) (by rw[h1];simpa using h2) ⟨.str ⟨#[c]⟩,H,I.tok _,⟨_,rfl⟩,q⟩) hs
theorem nS (its:List Value)(n j:Nat)(u:Value):Obj.mapSeq (·.setIfInBounds j u) { cls:=.type "list",data:=.seq its.toArray n }={ cls:=.type "list",data:=.seq (its.set j u).toArray n }:=by
 simp[Obj.mapSeq]
theorem Inv.lst {pins:List (Addr×Obj)}{σ:St}{H:Hp}{s:Shared}{p:Addr}{xs:List V}(I:Inv X pins σ H s)(h:H p=some (.lst xs)) :
  ∃(its:List Value) (n:Nat),aL xs its/\s.heap.get? p=some { cls:=.type "list",data:=.seq its.toArray n }/\xs.length<=sizeLine:=by
 obtain⟨z,its,n,r,e⟩:=I.hok p _ h;exact⟨its,n,r,e,z⟩
theorem Inv.lstUpd {pins:List (Addr×Obj)}{σ:St}{H:Hp}{s:Shared}{p:Addr}{xs ys:List V}{its its':List Value}{n n':Nat}{f:Obj->Obj}(I:Inv X pins σ H s)(h:H p=some (.lst xs))
  (ho:s.heap.get? p=some { cls:=.type "list",data:=.seq its.toArray n }) (hf:f { cls:=.type "list",data:=.seq its.toArray n }={ cls:=.type "list",data:=.seq its'.toArray n' }) (r:aL ys its') (hz:ys.length<=sizeLine) (t:Nat) :
  Inv X pins σ (upd H p (.lst ys)) { s with heap:=s.heap.update p f,toks:=t }:=by
 have e:(s.heap.update p f).get? p=some { cls:=.type "list",data:=.seq its'.toArray n' }:=by
  rw[Heap.get?_update_self f ho (by rw[hf]<;>rfl),hf]
 refine I.write (x:=p) (e:=p) (by rw[h];trivial) (.inl rfl) (fun b u hb q=>(Heap.get?_update_other _ _ (cz hb)).trans q) ⟨_,e⟩ ?_;exact⟨hz,its',n',r,e⟩
def xM:V->V->V->Hp->(Hp->Prop)->Prop:=fun o i v H Q=>∃ p xs k j,o = .ref p/\i = .int k/\H p=some (.lst xs)/\hW xs.length k=some j/\Q (upd H p (.lst (xs.set j v)))
theorem set_list:CI X xM:=by
 intro pins s σ H o i v ov iv u Q I ro ri rv h;obtain⟨p,xs,k,j,rfl,rfl,hp,hj,q⟩:=h;cases ro;obtain⟨t,rfl⟩:=ri;obtain⟨its,n,r,ho,hz⟩:=I.lst hp;obtain⟨h1,h2,h3,h4⟩:=p9 hj;have hl:=r.length;have hn:=ip;have I':Inv X pins σ (upd H p (.lst (xs.set j v))) { s with heap:=s.heap.update p (Obj.mapSeq (·.setIfInBounds j u)) } :=
  I.lstUpd hp ho (nS its n j u) (r.set rv j) (by rw[f9];exact hz) s.toks
 by_cases h0:0<=k
 ·have hk:k.toNat=j:=by
   rw[seqIndex_of h0 h4] at h1;exact bu h1
  exact PySem.W.ki_setAt ho h0 (by omega) (by rw[ae,<-hl];exact h4) (by rw[hk];exact⟨_,I',q⟩)
 ·have hk:(k+(its.toArray.size:Int)).toNat=j:=by
   rw[seqIndex_neg (by omega) h3] at h1;rw[ae,<-hl];exact bu h1
  exact PySem.W.ki_setBack ho (by omega) (by rw[ae,<-hl];exact h3) (by omega) (by rw[hk];exact⟨_,I',q⟩)
theorem mi (lo hi:Option Int)(n:Nat):(sliceBounds lo hi none n).1=((HT.bA n 0 lo:Nat):Int)/\(sliceBounds lo hi none n).2.1=((HT.bA n n hi:Nat):Int)/\(sliceBounds lo hi none n).2.2=1:=by
 refine⟨?_,?_,rfl⟩
 ·cases lo with
  |none=>simp[sliceBounds,HT.bA]
  |some i =>
   simp only[sliceBounds,HT.bA,Option.getD_none,show (1:Int) > 0 by decide,if_true];by_cases h:i<0
   ·simp only[h,if_true]<;>omega
   ·simp only[h,if_false]<;>omega
 ·cases hi with
  |none=>simp[sliceBounds,HT.bA]
  |some i =>
   simp only[sliceBounds,HT.bA,Option.getD_none,show (1:Int) > 0 by decide,if_true];by_cases h:i<0
   ·simp only[h,if_true]<;>omega
   ·simp only[h,if_false]<;>omega
theorem kF (its:List Value)(lo hi:Option Int):slicePick its.toArray lo hi none=((its.drop (HT.bA its.length 0 lo)).take (HT.bA its.length its.length hi - HT.bA its.length 0 lo)).toArray:=by
 obtain⟨h1,h2,h3⟩:=mi lo hi its.toArray.size;unfold slicePick;rw[h1,h2,h3];simp only[sliceRange_one,pick_run,List.size_toArray]<;>rfl
def rSlL (K:PySem.W.Frag):V->Option Int->Option Int->Hp->VK->Prop:=fun x lo hi H Q=>∃ a xs,x = .ref a/\ko K H a xs/\∀ p,H p=none->Q (.ref p) (upd H p (.lst (ku xs lo hi)))
theorem wM:x4 X (rSlL X.K):=by
 intro pins s σ H x v vl vu lo hi sl Q I rx hs pl pu h;obtain⟨a,xs,rfl,hx,q⟩:=h;cases rx;obtain⟨its,r,ht,hz⟩:=I.list hx;have hlen:=r.length;refine⟨"list",_,slot_list_getitem.lookup,ht.isList.typeIs,?_⟩;refine wpAny_getItem_list_slice ht.isList hs pl pu .none (by simp) ?_ (by rw[List.size_toArray]<;>omega);rw[kF,<-hlen];refine⟨.ref s.heap.objs.size,_,I.laid (t':=s.toks) (o:=.lst (ku xs lo hi)) (fun b ob q=>Heap.get?_push_of_some _ q) (aq _) ?_,rfl,q _ (I.hok.fresh (aq _))⟩;exact⟨bj (jd xs lo hi) hz,_,0,(r.drop (HT.bA xs.length 0 lo)).take (HT.bA xs.length xs.length hi - HT.bA xs.length 0 lo),Heap.get?_push_size _ rfl⟩
noncomputable def fZ:V->Bool
 |.non=>true
 |.bl _=>true
 |.int _=>true
 |.str _=>true
 |_=>false
noncomputable def vp:V->V->Bool
 |.non,.non=>true
 |.bl a,.bl b=>a==b
 |.bl a,.int b=>(if a then 1 else 0)==b
 |.int a,.bl b=>a==(if b then 1 else 0)
 |.int a,.int b=>a==b
 |.str a,.str b=>a==b
 |_,_=>false
theorem zR {A:Around}{s:Shared}{y x:V}{u v:Value}(ry:RelV y u)(rx:RelV x v)(fy:fZ y=true)(fx:fZ x=true):SeqAt.EqAt A s u v (vp y x):=by
 cases y with
 |non =>
  cases ry;cases x with
  |non=>cases rx;exact SeqAt.EqAt.same _
  |bl b=>cases rx;exact SeqAt.EqAt.none_bool b
  |int b=>obtain⟨t,rfl⟩:=rx;exact SeqAt.EqAt.none_int b t
  |str b=>obtain⟨t,rfl⟩:=rx;exact SeqAt.EqAt.none_str b t
  |_=>exact absurd (show false=true from fx) ax
 |bl a =>
  cases ry;cases x with
  |non=>cases rx;exact SeqAt.EqAt.bool_none a
  |bl b=>cases rx;exact SeqAt.EqAt.bool_bool a b
  |int b=>obtain⟨t,rfl⟩:=rx;exact SeqAt.EqAt.bool_int a b t
  |str b=>obtain⟨t,rfl⟩:=rx;exact SeqAt.EqAt.bool_str a b t
  |_=>exact absurd (show false=true from fx) ax
 |int a =>
  obtain⟨t',rfl⟩:=ry;cases x with
  |non=>cases rx;exact SeqAt.EqAt.int_none a t'
  |bl b=>cases rx;exact SeqAt.EqAt.int_bool a t' b
  |int b=>obtain⟨t,rfl⟩:=rx;exact SeqAt.EqAt.int_int a t' b t
  |str b=>obtain⟨t,rfl⟩:=rx;exact SeqAt.EqAt.int_str a t' b t
  |_=>exact absurd (show false=true from fx) ax
 |str a =>
  obtain⟨t',rfl⟩:=ry;cases x with
  |non=>cases rx;exact SeqAt.EqAt.str_none a t'
  |bl b=>cases rx;exact SeqAt.EqAt.str_bool a t' b
  |int b=>obtain⟨t,rfl⟩:=rx;exact SeqAt.EqAt.str_int a t' b t
  |str b=>obtain⟨t,rfl⟩:=rx;exact SeqAt.EqAt.str_str a t' b t
  |_=>exact absurd (show false=true from fx) ax
 |_=>exact absurd (show false=true from fy) ax
noncomputable def nX (x:V)(u:Value):Bool:=match u with
 |.none=>vp .non x
 |.bool b=>vp (.bl b) x
 |.int i _=>vp (.int i) x
 |.str z _=>vp (.str z) x
 |_=>false
theorem se {x y:V}{u:Value}(r:RelV y u)(f:fZ y=true):nX x u=vp y x:=by
 cases y with
 |non=>cases r;rfl
 |bl b=>cases r;rfl
 |int i=>obtain⟨t,rfl⟩:=r;rfl
 |str z=>obtain⟨t,rfl⟩:=r;rfl
 |_=>exact absurd (show false=true from f) ax
theorem iM {x:V}:∀{xs:List V}{us:List Value},aL xs us->xs.all fZ=true->us.any (nX x)=xs.any fun y=>vp y x
 |_,_,.nil,_=>rfl
 | y::xs,u::us,.cons r t,f=>by
  rw[dq,ah] at f;rw[eh,eh,se r f.1,iM t f.2]
theorem gM {A:Around}{s:Shared}{x:V}{v:Value}(rx:RelV x v)(fx:fZ x=true):∀{xs:List V}{us:List Value},aL xs us->xs.all fZ=true->∀ u∈us,SeqAt.EqAt A s u v (nX x u)
 |_,_,.nil,_=>fun u hu=>by cases hu
 | y::xs,u::us,.cons r t,f=>fun u' hu=>by
  rw[dq,ah] at f;rcases gp.mp hu with rfl | hu
  ·rw[se r f.1];exact zR r rx f.1 fx
  ·exact gM rx fx t f.2 u' hu
noncomputable def inV (x:V)(xs:List V):Bool:=xs.any fun y=>vp y x
noncomputable def rIn (K:PySem.W.Frag)(neg:Bool):R2:=fun x y H Q=>∃ p xs,y = .ref p/\(ko K H p xs\/iq K H p xs)/\fZ x=true/\xs.all fZ=true/\Q (.bl (if neg then !inV x xs else inV x xs)) H
theorem kZ:fW X (compareOp .In) (rIn X.K false):=by
 intro pins s σ H x y v u Q I rx ry h;obtain⟨p,xs,rfl,hq,fx,fs,q⟩:=h;cases ry;rcases hq with hq | hq
 ·obtain⟨its,r,pl,hz⟩:=I.list hq;refine SeqAt.in_listAt (nX x) pl.isList (fun w hw=>gM rx fx r fs w (by simpa using hw)) ⟨.bl _,H,I,rfl,?_⟩;rw[show its.toArray.any (nX x)=its.any (nX x) by simp,iM r fs];exact q
 ·obtain⟨its,r,pl,hz⟩:=I.tuple hq;refine SeqAt.in_tupleAt (nX x) pl (fun w hw=>gM rx fx r fs w (by simpa using hw)) ⟨.bl _,H,I,rfl,?_⟩;rw[show its.toArray.any (nX x)=its.any (nX x) by simp,iM r fs];exact q
theorem iQ:fW X (compareOp .NotIn) (rIn X.K true):=by
 intro pins s σ H x y v u Q I rx ry h;obtain⟨p,xs,rfl,hq,fx,fs,q⟩:=h;cases ry;rcases hq with hq | hq
 ·obtain⟨its,r,pl,hz⟩:=I.list hq;refine SeqAt.notIn_listAt (nX x) pl.isList (fun w hw=>gM rx fx r fs w (by simpa using hw)) ⟨.bl _,H,I,rfl,?_⟩;rw[show its.toArray.any (nX x)=its.any (nX x) by simp,iM r fs];exact q
 ·obtain⟨its,r,pl,hz⟩:=I.tuple hq;refine SeqAt.notIn_tupleAt (nX x) pl (fun w hw=>gM rx fx r fs w (by simpa using hw)) ⟨.bl _,H,I,rfl,?_⟩;rw[show its.toArray.any (nX x)=its.any (nX x) by simp,iM r fs];exact q
theorem lL:fW X (compareOp .NotIn) (fun x y H Q=>∃ i j,x = .str i/\y = .str j/\Q (.bl (!(!(Builtin.Str.occurrences j i 0 j.length 1).isEmpty))) H):=by
 intro pins s σ H x y v u Q I rx ry h;obtain⟨i,j,rfl,rfl,q⟩:=h;obtain⟨t,rfl⟩:=rx;obtain⟨t',rfl⟩:=ry;exact notIn_str ⟨.bl _,H,I,rfl,q⟩
theorem iB:fT X (.builtin "len") (fun xs H Q=>∃ p ys,xs=[.ref p]/\(ko X.K H p ys\/iq X.K H p ys)/\Q (.int ys.length) H):=by
 intro pins s σ H xs us Q I r h;obtain⟨p,ys,rfl,hq,q⟩:=h;obtain⟨u,rfl,rx⟩:=vals1 r;cases rx;have hn:=ip;rcases hq with hq | hq
 ·obtain⟨its,r',pl,hz⟩:=I.list hq;have hlen:=r'.length;exact Calls.call_len_list pl.isList (by simp only[List.size_toArray]<;>omega) ⟨.int ys.length,H,I.tok _,⟨s.toks+1,by rw[List.size_toArray,hlen]⟩,q⟩
 ·obtain⟨its,r',pl,hz⟩:=I.tuple hq;have hlen:=r'.length;exact len_tuple pl (by simp only[List.size_toArray]<;>omega) ⟨.int ys.length,H,I.tok _,⟨s.toks+1,by rw[List.size_toArray,hlen]⟩,q⟩
theorem ma:fT X (.builtin "len") (fun xs H Q=>∃ z,xs=[.str z]/\z.length<=sizeLine/\Q (.int z.length) H):=by
 intro pins s σ H xs us Q I r h;obtain⟨z,rfl,hz,q⟩:=h;obtain⟨u,rfl,t,rfl⟩:=vals1 r;have hn:=ip;exact len_str (by omega) ⟨.int z.length,H,I.tok _,⟨_,rfl⟩,q⟩
theorem iE:fT X (.type "list") (fun xs H Q=>∃ p ys,xs=[.ref p]/\(ko X.K H p ys\/iq X.K H p ys)/\∀ l,H l=none->Q (.ref l) (upd H l (.lst ys))):=by
 intro pins s σ H xs us Q I r h;obtain⟨p,ys,rfl,hq,q⟩:=h;obtain⟨u,rfl,rx⟩:=vals1 r;cases rx;have fin:∀(its:List Value),aL ys its->ys.length<=sizeLine->∀(h':Heap) (c':Nat),(∀ b o',s.heap.get? b=some o'->h'.get? b=some o') ->
   h'.get? s.heap.objs.size=some { cls:=.type "list",dict:=none,data:=.seq its.toArray c',slots:=#[] }->EP X pins σ Q (.ref s.heap.objs.size) { s with heap:=h' }:=fun its r' hz h' c' kp e =>
  ⟨.ref s.heap.objs.size,_,I.laid (t':=s.toks) kp (aq _) (show cN X.prog X.w _ h' _ (.lst ys) from ⟨hz,its,c',r',e⟩),rfl,q _ (I.hok.fresh (aq _))⟩
 rcases hq with hq | hq
 ·obtain⟨its,r',pl,hz⟩:=I.list hq;have hlen:=r'.length;obtain⟨o,ho,hc,n,hd⟩:=pl.isList;exact call_list_seq p (.inl rfl) ho hc hd (fun h' c' kp e=>fin its r' hz h' c' kp e) (by simp only[List.size_toArray]<;>omega)
 ·obtain⟨its,r',pl,hz⟩:=I.tuple hq;have hlen:=r'.length;obtain⟨o,ho,hc,n,hd⟩:=pl;exact call_list_seq p (.inr rfl) ho hc hd (fun h' c' kp e=>fin its r' hz h' c' kp e) (by simp only[List.size_toArray]<;>omega)
def tyV (K:PySem.W.Frag)(T:String)(x:V)(H:Hp):Prop:=match x with
 |.str _=>T = "str"
 |.int _=>T = "int"
 | .ref p=>(T = "list"/\∃ xs,ko K H p xs)\/(T = "tuple"/\∃ o,K.lookup p=some o/\o.cls = .type "tuple"/\o.dict=none) \/
   (T = "dict"/\((∃ kvs,H p=some (.dK kvs))\/∃ kvs,H p=some (.dT kvs)))\/(T = "set"/\∃ S n,H p=some (.set S n))
 |_=>False
theorem uy {pins:List (Addr×Obj)}{σ:St}{H:Hp}{s:Shared}{T:String}{x:V}{v:Value}(I:Inv X pins σ H s)(r:RelV x v)(ty:tyV X.K T x H) :
  s.TypeIs v T/\∀ a,v = .ref a->∃ ob,s.heap.get? a=some ob/\ob.dict=none:=by
 cases x with
 |str z =>
  obtain⟨t,rfl⟩:=r;cases (show T = "str" from ty);exact⟨typeIs_str s z t,fun _ e=>nomatch e⟩
 |int i =>
  obtain⟨t,rfl⟩:=r;cases (show T = "int" from ty);exact⟨typeIs_int s i t,fun _ e=>nomatch e⟩
 |ref p =>
  cases r;rcases ty with ⟨rfl,xs,hq⟩ | ⟨rfl,o,hk,hc,hd⟩ | ⟨rfl,hk⟩ | ⟨rfl,S,n,hk⟩
  ·obtain⟨its,_,pl,_⟩:=I.list hq;refine⟨pl.isList.typeIs,fun a e=>?_⟩;cases e;obtain⟨o,n,e,c,hd,_⟩:=pl;exact⟨o,e,hd⟩
  ·refine⟨⟨o,I.kIn p o hk,hc⟩,fun a e=>?_⟩;cases e;exact⟨o,I.kIn _ o hk,hd⟩
  ·have z:∃ o,s.heap.get? p=some o/\o.ExactDict:=by
    rcases hk with ⟨kvs,hk⟩ | ⟨kvs,hk⟩
    ·obtain⟨_,_,_,_,o,_,_,e,ex,_⟩:=I.hok p _ hk;exact⟨o,e,ex⟩
    ·obtain⟨_,_,_,_,o,_,_,e,ex,_⟩:=I.hok p _ hk;exact⟨o,e,ex⟩
   obtain⟨o,e,ex⟩:=z;refine⟨⟨o,e,ex.1⟩,fun a e2=>?_⟩;cases e2;exact⟨o,e,ex.2.1⟩
  ·obtain⟨o,_,_,_,e,ex,_⟩:=I.hok p _ hk;refine⟨⟨o,e,ex.1⟩,fun a e2=>?_⟩;cases e2;exact⟨o,e,ex.2.1⟩
 |_=>exact False.elim ty
def Cu (K:PySem.W.Frag)(T:String)(r:V->List V->Hp->VK->Prop)(to:TE):TE:=fun σ H Q=>to σ H fun x H1=>tyV K T x H1/\r x [] H1 Q
def tBM (K:PySem.W.Frag)(T:String)(r:V->List V->Hp->VK->Prop)(to:TE)(t:TA):TE:=fun σ H Q=>to σ H fun x H1=>tyV K T x H1/\t σ H1 fun xs H2=>r x xs H2 Q
variable {o e:Expr}{es:List Expr}{to:TE}{t:TA}{name:Str}{apos cpos:Pos}{T id:String}{r:V->List V->Hp->VK->Prop}
theorem Ap (pa:PlainAttrs T)(slot:Slot T name id)(hty:typeOf (.builtin id)=pure (.type "method_descriptor")) (hm:Ci X id r) (ho:PE X o to)
  (hbase:attributeBase o name X.env (eval o X.env)=eval o X.env:=by rfl) (hline:(apos.endLine==cpos.line)=true:=by rfl):PE X (.Call (.Attribute o name apos) [] [] cpos) (Cu X.K T r to):=by
 intro pins s σ H Q I h;refine wpAny_Call_method0_late hbase hline (bV (ho pins s σ H _ I h) fun v s1 ⟨x,H1,I1,r1,ty,q1⟩=>?_);obtain⟨h1,h2⟩:=uy I1 r1 ty;exact⟨T,id,pa,slot,hty,h1,h2,Calls.callWith_builtin rfl (PySem.evalArgs_none (hm pins s1 σ H1 x [] v [] Q I1 r1 .nil q1))⟩
theorem uP (pa:PlainAttrs T)(slot:Slot T name id)(hty:typeOf (.builtin id)=pure (.type "method_descriptor")) (hm:Ci X id r) (ho:PE X o to) (ha:PA X (e::es) t)
  (hbase:attributeBase o name X.env (eval o X.env)=eval o X.env:=by rfl)
  (hfew:((backTo cpos (starEach (e::es) X.env)).all (fun x=>!x.1)&&(backToKw cpos (keywordEach [] X.env)).all (fun x=>x.1.isSome)
   && decide ((e::es).length+([]:List Keyword).length+(if ([]:List Keyword).isEmpty then 0 else 1)<30))=true:=by rfl)
  (hline:(apos.endLine==cpos.line)=true:=by rfl) (hs:starEach (e::es) X.env=(false,eval e X.env)::starEach es X.env:=by rfl) (hplain:(backTo cpos (starEach es X.env)).any (·.1)=false:=by rfl) :
  PE X (.Call (.Attribute o name apos) (e::es) [] cpos) (tBM X.K T r to t):=by
 intro pins s σ H Q I h;refine wpAny_Call_method_late hbase hfew hline rfl (bV (ho pins s σ H _ I h) fun v s1 ⟨x,H1,I1,r1,ty,q1⟩=>?_);obtain⟨h1,h2⟩:=uy I1 r1 ty;refine⟨T,id,pa,slot,hty,h1,h2,?_⟩;have hA:=ha cpos pins s1 σ H1 _ I1 q1;rw[hs] at hA ⊢;refine Calls.callWith_builtin (by show (false || (backTo cpos (starEach es X.env)).any (·.1))=false;rw[hplain]<;>rfl) (Calls.evalArgs_plain ?_);exact bV hA fun us s2 ⟨vs,H2,I2,r2,q2⟩=>hm pins s2 σ H2 x vs v us Q I2 r1 r2 q2
end
end L2
namespace L2
open PySem PySem.Spec PyProof.Rows
noncomputable def MtM (X:Cx)(id:String)(r:V->List V->Hp->VK->Prop):Prop :=
 ∀(pins:List (Addr×Obj)) (s:Shared) (σ:St) (H:Hp) (x:V) (xs:List V) (v:Value) (us:List Value) (Q:VK),Inv X pins σ H s->RelV x v->aL xs us->r x xs H Q ->
  wpAny (model X.prog X.w) X.A (call (.builtin id) (v::us)) (EP X pins σ Q) X.xe s
theorem aL.one:∀{x:V}{us:List Value},aL [x] us->∃ u,us=[u]/\RelV x u
 |_,_,.cons r .nil=>⟨_,rfl,r⟩
theorem aL.two:∀{x y:V}{us:List Value},aL [x,y] us->∃ u v,us=[u,v]/\RelV x u/\RelV y v
 | _,_,_,.cons r (.cons q .nil)=>⟨_,_,rfl,r,q⟩
theorem aL.rep {xs:List V}{us:List Value}(h:aL xs us):∀ k:Nat,aL (List.replicate k xs).flatten (List.replicate k us).flatten
 |0=>.nil
 | k+1=>by
  rw[dm,dm,bp,bp];exact aL.append h (aL.rep h k)
theorem foldl_rep (its:List Value):∀(k:Nat) (acc:List Value),
  List.foldl (fun x1 x2=>x1++x2) acc.toArray (List.replicate k its.toArray)=(acc++(List.replicate k its).flatten).toArray
 |0,acc=>by simp
 | k+1,acc=>by
  have e:acc.toArray++its.toArray=(acc++its).toArray:=by simp
  have e2:(acc++its)++(List.replicate k its).flatten=acc++(List.replicate (k+1) its).flatten:=by
   rw[dm,bp,ef]
  rw[<-e2,<-foldl_rep its k (acc++its),<-e,dm,List.foldl_cons]
section
variable {X:Cx}{pins:List (Addr×Obj)}{σ:St}{H:Hp}{s:Shared}{l b:Addr}{xs ys zs:List V}
theorem Inv.lset {its its':List Value}{n:Nat}{f:Array Value->Array Value}{t':Nat}(I:Inv X pins σ H s)(hH:H l=some (.lst xs))
  (e:s.heap.get? l=some { cls:=.type "list",data:=.seq its.toArray n }) (hf:f its.toArray=its'.toArray) (hv:aL ys its') (hz:ys.length<=sizeLine) :
  Inv X pins σ (upd H l (.lst ys)) { s with heap:=s.heap.update l (Obj.mapSeq f),toks:=t' }:=by
 have q:=PySem.IsL.update e f;rw[hf] at q;refine I.write (x:=l) (e:=l) (by rw[hH];exact trivial) (.inl rfl) (fun b' u hb hu=>(Heap.get?_update_other s.heap (Obj.mapSeq f) (cz hb)).trans hu) ⟨_,q⟩ ?_;exact⟨hz,its',_,hv,q⟩
theorem Inv.lnew {its:List Value}{t':Nat}(I:Inv X pins σ H s)(hv:aL ys its)(hz:ys.length<=sizeLine) :
  Inv X pins σ (upd H s.heap.objs.size (.lst ys)) { s with heap:=s.heap.push { cls:=.type "list",data:=.seq its.toArray },toks:=t' } :=
 I.laid (fun _ _ q=>Heap.get?_push_of_some _ q) (aq _) ⟨hz,its,0,hv,Heap.get?_push_size _ rfl⟩
theorem Inv.fresh (I:Inv X pins σ H s):H s.heap.objs.size=none:=I.hok.fresh (aq _)
theorem Inv.lstM (I:Inv X pins σ H s)(hH:H l=some (.lst xs)):xs.length<=sizeLine/\∃(its:List Value) (n:Nat),aL xs its/\xs.length=its.length/\s.heap.get? l=some { cls:=.type "list",data:=.seq its.toArray n }:=by
 obtain⟨z,its,n,r,e⟩:=I.hok l _ hH;exact⟨z,its,n,r,r.length,e⟩
theorem mW {n:Nat}(h:n<=sizeLine):Builtin.List.listTooLong n=false:=by
 unfold Builtin.List.listTooLong;exact av (by omega)
end
section
variable {X:Cx}
def vH:V->List V->Hp->VK->Prop:=fun x vs H Q=>∃ l xs y,x = .ref l/\vs=[y]/\H l=some (.lst xs)/\xs.length<sizeLine/\Q .non (upd H l (.lst (xs ++ [y])))
theorem lp:MtM X "list.append" vH:=by
 intro pins s σ H x vs v us Q I rx rv h;obtain⟨l,xs,y,rfl,rfl,hH,hz,q⟩:=h;cases rx;obtain⟨u,rfl,ru⟩:=rv.one;obtain⟨z,its,n,r,hl,e⟩:=I.lstM hH;refine call_meets F.slot_list_append ⟨_,e,rfl⟩ F.entry_list_append (F.args_list_append_2 _ _) (PySem.list_append l its.toArray n u (by rw[ae];omega)) ⟨e,?_⟩;refine⟨.non,_,I.lset (its':=its ++ [u]) hH e (by simp) (r.append (.cons ru .nil)) ?_,rfl,q⟩;rw[au,cx];omega
theorem len_rep {α:Type}(xs:List α)(k:Nat):(List.replicate k xs).flatten.length=k*xs.length:=by
 induction k with
 |zero=>simp
 |succ k ih=>rw[dm,bp,au,ih,Nat.succ_mul,Nat.add_comm]
end
section
variable {prog:Program}{w:World}{A:Around}{E:Value->Shared->Prop}{s:Shared}
end
section
variable {X:Cx}
end
end L2
namespace Att
open PySem PySem.W PySem.Calls PyProof.Rows
theorem jn {P:Params}{h:Heap}:∀(ns:List Int) (vs:List Value),WellAll P h vs (ns.map WData.int)->IntsAre vs ns:=by
 intro ns
 induction ns with
 |nil =>
  intro vs w;rw[fw] at w;cases w;exact .nil
 |cons n ns ih =>
  intro vs w;rw[aw] at w;cases w with
  |cons a b =>
   cases a;exact .cons _ _ (ih _ b)
theorem qL {l:OpenLaw}{n:Nat}(hn:l.most=some n){P:Params}{h:Heap}{args:List WData}{vals:List Value}
  (hpre:l.row.toRowW.claim.pre args=true) (hwl:WellAll P h vals args) :
  ∃ a vs ns,vals=[Value.ref a]/\args=[WData.list (ns.map WData.int)]/\h.get? a=some { cls:=.type "list",data:=.seq vs.toArray }/\IntsAre vs ns/\ns.length<=n:=by
 have hsh:WShape.hasAll [] args [.list .int]=true:=(pre_splitW hpre).1;have hc:l.pre.holds [] { args:=args }=true:=(pre_splitW hpre).2;obtain⟨d,r,rfl,h1,h2⟩:=hasAllW_cons hsh;obtain rfl:=hasAllW_nil h2;obtain⟨xs,rfl,h3⟩:=hasW_list h1;obtain⟨ns,rfl⟩:=items_int h3;have hlen:ns.length<=n:=by
  unfold OpenLaw.pre at hc;have h4:(WTm.not (.lt (.lit (.int (n:Int))) (.len (.arg 0)))).holds [] { args:=[.list (ns.map .int)] }=true:=by
   have h4:=(holds_andW hc).1;rw[hn] at h4;exact h4
  have h5:=condW_of h4 (w_not (w_lt w_lit (w_len_list (w_arg rfl))));rw[aj] at h5;refine gr fun q=>?_
  have q':(n:Int)<((ns.length:Nat):Int):=by omega
  first
   | (rw[bg q'] at h5;exact absurd h5 (by decide))
   | (simp at h5;omega)
 cases hwl with
 |cons w1 w2 =>
  cases w2;cases w1 with
  |list ho hall=>exact⟨_,_,ns,rfl,rfl,ho,jn ns _ hall,hlen⟩
theorem rH (l:OpenLaw)(args:List WData):l.row.toRowW.claim.post args (.bool true) args=true :=
 postW_of (r:=l.row.toRowW) (X:=(true==true))
  (show WShape.has [] (.bool true) .bool=true by first | rfl | decide | simp[WShape.has,WShape.arms,WShape.armsAll])
  (show (WTm.eq .res (.lit (.bool true))).value [] { args:=args,res:=some (.bool true),after:=args }=some (.bool (true==true)) from w_eq_bool (w_res rfl) w_lit) rfl
theorem mM {l:OpenLaw}{n:Nat}{q:Program}{loose:List Str}{XP:(Str->Option Value)->Heap->Prop}{YP:World->Heap->Prop}{d:DefRec}
  (hn:l.most=some n) (hdf:d.params.defaults=[])
  (call:∀(w:World) (s₀ s₁:Shared) (mg mb:Str->Option Value) (fa:Addr) (o:Obj) (pm cd doc:Value) (a:Addr) (vs:List Value) (ns:List Int),
   Ground q loose [] XP w s₀ mg mb s₁.heap->YP w s₁.heap ->
   s₁.heap.get? fa=some o->o.data = .func (docDef d.name d.params d.body d.scope pm cd doc)->s₁.heap.CodeRec cd d.name->mg d.name=some (.ref fa) ->
   s₁.heap.get? a=some { cls:=.type "list",data:=.seq vs.toArray }->IntsAre vs ns->ns.length<=n->s₁.gens = #[] ->
   codeAny (model l.prog w) callerA (.call (.ref fa) ⟨[.ref a],[]⟩) (fun r s'=>r = .ok (.ret (.bool true))/\OldK s₁.heap s'.heap/\s'.os=s₁.os/\AllBare s'.gens) s₁) :
  WalkO q loose XP YP l.row.toRowW d [] (fun f vs=>PySem.call f vs):=by
 intro w s₀ s₁ mg mb G Y fa o pm cd doc dV kV ho hd hcd hD hmg hg args vals as hpre hlay hrd hwl hlo;obtain rfl:dV = .none:=Dflts.none hD hdf;obtain rfl:kV = .none:=Dflts.noKw hD;obtain⟨a,vs,ns,rfl,rfl,hobj,hints,hlen⟩:=qL hn hpre hwl;refine enter_call (codeAny_mono (call w s₀ s₁ mg mb fa o pm cd doc a vs ns G Y ho (fd_plain hd) hcd hmg hobj hints hlen hg) fun r s' hq=>?_);obtain⟨rfl,h2,h3,h4⟩:=hq;exact⟨.inl ⟨.bool true,.bool true,[],rfl,fun _=>rfl,.bool true,rH l _,fun _=>⟨List.Pairwise.nil,fun _ hm=>(nomatch hm)⟩⟩,h2,h3,h4⟩
section
variable {prog:Program}{w:World}{A:Around}{E:Value->Shared->Prop}{s:Shared}{K:Frag}
noncomputable def ledger (h:Heap)(L d:Addr):List (Addr×Obj):=(List.range h.objs.size).filterMap fun a=>if a=L\/a=d then none else (h.get? a).map fun o=>(a,o)
end
end Att
namespace L2
open PySem PySem.Spec PyProof.Rows
theorem lr:∀{vs:List Value}{ns:List Int},IntsAre vs ns->aL (ns.map V.int) vs
 |_,_,.nil=>.nil
 |_,_,.cons n t h=>.cons ⟨t,rfl⟩ (lr h)
def zB (H:Hp):Prop:=∀ b,H b=none\/∃ o xs,H b=some (.frz o (.lst xs))
theorem vc {P:Program}{w:World}{K:PySem.W.Frag}{mg mb:Str->Option Value}{CX:uq}{k:Nat}{fa a:Addr}{fd:FuncData}{x:Str}{sp:Sp}{s₁:Shared}{vs:List Value}{ns:List Int}
  (KX:K.In s₁.heap) (hns:s₁.heap.Ns mainGlobals mg) (hb:s₁.heap.Ns builtinsNs mb) (hbb:∀ x:Str,x≠"__name__"->mb x=bootBuiltins x) (hlim:s₁.heap.NoLimit) (hg:s₁.gens = #[])
  (ha:s₁.heap.get? a=some { cls:=.type "list",data:=.seq vs.toArray }) (hi:IntsAre vs ns) (hl:ns.length<=sizeLine) (hr:fY k callerA)
  (F:∀ base:Heap,K.In base->base.Ns mainGlobals mg->mo P w K mg base CX k fa fd [x] sp) (hbind:∀(s:Shared) (u:Value),BindsTo s fd ⟨[u],[]⟩ [(x,u)])
  (hsp:∀ H:Hp,zB H->ko K H a (ns.map V.int)->sp [.ref a] H (fun v _=>v = .bl true) fun _ _ _=>False)
  (hCX:∀ H e s',CX [] H s₁ (fun _ _ _=>False) e s'->False) :
  codeAny (model P w) callerA (.call (.ref fa) ⟨[.ref a],[]⟩) (fun r s'=>r = .ok (.ret (.bool true))/\OldK s₁.heap s'.heap/\s'.os=s₁.os/\AllBare s'.gens) s₁:=by
 have rv:=lr hi;have lenV:=hi.length;have core:∀ H:Hp,zB H->ko K H a (ns.map V.int)->iA P w H s₁.heap->(∀ b,H b≠none->b=a)->(H a≠none->K.lookup a=none) ->
   codeAny (model P w) callerA (.call (.ref fa) ⟨[.ref a],[]⟩) (fun r s'=>r = .ok (.ret (.bool true))/\OldK s₁.heap s'.heap/\s'.os=s₁.os/\AllBare s'.gens) s₁:=by
  intro H hO hS hok hA hK;have base_of:∀{b:Addr}{o:Obj},s₁.heap.get? b=some o->H b=none->(lP s₁.heap H).get? b=some o:=fun e n=>tV e n
  have noA:∀{b:Addr}{o:Obj}{es:Array DictEntry}{ep:Nat},s₁.heap.get? b=some o->o.data = .dict es ep->H b=none:=fun {b o es ep} e d=>by
   cases q:H b with
   |none=>rfl
   |some u =>
    have e':b=a:=hA b (by rw[q];simp);subst e';rw[ha] at e;cases e;have d':Data.seq vs.toArray _=Data.dict es ep:=d;cases d'
  have nsK:∀{b:Addr}{m:Str->Option Value},s₁.heap.Ns b m->(lP s₁.heap H).Ns b m:=fun {b m} ⟨o,es,ep,e,d,r⟩=>⟨o,es,ep,base_of e (noA e d),d,r⟩
  have hKb:K.In (lP s₁.heap H):=fun b o e=>base_of (KX b o e) (by
   cases q:H b with
   |none=>rfl
   |some u =>
    have e':b=a:=hA b (by rw[q];simp);subst e';rw[hK (by rw[q];simp)] at e;cases e)
  have hM:Mod K mg (lP s₁.heap H):=⟨hKb,nsK hns,⟨mb,nsK hb,hbb⟩,let ⟨mc,h1,h2⟩:=hlim;⟨mc,nsK h1,h2⟩⟩;have e0:wa P w K mg (lP s₁.heap H) callerA [] s₁ H:=⟨rfl,hM,fun b o e=>xE e,Nat.le_of_eq (rD _ _),trivial,fun b hb=>absurd (show b∈([]:List Addr) from hb) (by simp),hok,.of_eq hg⟩;refine codeAny_mono ((F _ hKb (nsK hns)).run callerA [] s₁ H ⟨[.ref a],[]⟩ [.ref a] [.ref a] _ _ hr e0 (hbind s₁ (.ref a)) (.cons rfl .nil) (hsp H hO hS)) fun r s' h=>?_
  cases r with
  |error e=>exact (hCX H e s' h).elim
  |ok fl =>
   cases fl with
   |next=>exact False.elim h
   |brk=>exact False.elim h
   |cont=>exact False.elim h
   |ret u =>
    obtain⟨v,H',os,bare,un,hok',r',q⟩:=h;have q':v = .bl true:=q;subst q';obtain rfl:u=Value.bool true:=r';refine⟨rfl,OldK.of_keep fun b o e=>?_,os,bare⟩;cases q:H b with
    |none=>exact un.keep b o e q (by intro z;exact absurd (show b∈([]:List Addr) from z) (by simp)) (by simp)
    |some u =>
     rcases hO b with z | ⟨ob,xs,z⟩
     ·rw[q] at z;cases z
     ·have z2:=un.frzs b ob _ z;obtain⟨e1,_⟩:=hok b _ z;obtain⟨e2,_⟩:=hok' b _ z2;rw[e] at e1;cases e1;exact e2
 cases hk:K.lookup a with
 |some o =>
  have e:=KX a o hk;rw[ha] at e;cases e;refine core (fun _=>none) (fun _=>.inl rfl) (.inr ⟨_,vs.toArray,_,hk,rfl,rfl,rfl,by rw[List.size_toArray,lenV];exact hl,by simpa using rv⟩) (fun b u z=>by have z':(none:Option HO)=some u:=z;cases z') (fun b z=>absurd rfl z) fun z=>absurd rfl z
 |none =>
  refine core (fun b=>if b=a then some (.frz { cls:=.type "list",data:=.seq vs.toArray } (.lst (ns.map V.int))) else none) (fun b=>?_) (.inl (.inr ⟨{ cls:=.type "list",data:=.seq vs.toArray },if_pos rfl⟩)) (fun b u z=>?_) (fun b z=>?_) fun _=>hk
  ·by_cases hb:b=a
   ·exact .inr ⟨_,_,if_pos hb⟩
   ·exact .inl (if_neg hb)
  ·by_cases hb:b=a
   ·have z':=(if_pos hb).symm.trans z;cases z';subst hb;exact⟨ha,by rw[aj];exact hl,vs,_,rv,ha⟩
   ·have z':=(if_neg hb).symm.trans z;cases z'
  ·by_cases hb:b=a
   ·exact hb
   ·exact absurd (if_neg hb) z
end L2
namespace L2
open PySem PySem.Spec PyProof.Rows
theorem vB {l:PySem.W.OpenLaw}{n k:Nat}{q:Program}{loose:List Str}{XP:(Str->Option Value)->Heap->Prop}{YP:World->Heap->Prop}{d:DefRec}{K:Params->PySem.W.Frag}{CX:World->uq}{sp:World->Sp}{x:Str}
  (hn:l.most=some n) (hn2:n<=sizeLine) (hdf:d.params.defaults=[]) (hr:fY k callerA)
  (hY:∀(w:World) (h:Heap),YP w h->(K w.params).In h)
  (F:∀(w:World) (mg:Str->Option Value) (fa:Addr) (h:Heap),(K w.params).In h->h.Ns mainGlobals mg->mg d.name=some (.ref fa) ->
   ∃ fd:FuncData,(∀(s:Shared) (u:Value),BindsTo s fd ⟨[u],[]⟩ [(x,u)]) /\
    ∀ base:Heap,(K w.params).In base->base.Ns mainGlobals mg->mo l.prog w (K w.params) mg base (CX w) k fa fd [x] (sp w))
  (hsp:∀(w:World) (H:Hp) (a:Addr) (ns:List Int),ns.length<=n->zB H->ko (K w.params) H a (ns.map V.int)->sp w [.ref a] H (fun v _=>v = .bl true) fun _ _ _=>False)
  (hCX:∀(w:World) (H:Hp) (s:Shared) (e:Value) (s':Shared),CX w [] H s (fun _ _ _=>False) e s'->False) :
  PySem.W.WalkO q loose XP YP l.row.toRowW d [] (fun f vs=>PySem.call f vs):=by
 refine Att.mM hn hdf fun w s₀ s₁ mg mb fa o pm cd doc a vs ns G Y ho hd hcd hmg hobj hints hlen hg=>?_
 have KX:=hY w _ Y;obtain⟨fd,hb,hF⟩:=F w mg fa _ KX G.T.g hmg;exact vc KX G.T.g G.T.b G.T.builtins G.T.nolimit hg hobj hints (bj hlen hn2) hr hF hb (fun H hO hS=>hsp w H a ns hlen hO hS) fun H e s'=>hCX w H s₁ e s'
end L2
namespace L2
open PySem PySem.Spec PyProof.Rows
noncomputable def dJ (s:Stmt):Arguments:=match s with
 |.FunctionDef _ a _ _ _ _ _ _ _ _=>a
 |_=>{ posonlyargs:=[],args:=[],vararg:=none,kwonlyargs:=[],kw_defaults:=[],kwarg:=none,defaults:=[] }
noncomputable def cH (s:Stmt):List Stmt:=match s with
 |.FunctionDef _ _ b _ _ _ _ _ _ _=>b
 |_=>[]
noncomputable def aQ (s:Stmt):Scope:=match s with
 |.FunctionDef _ _ _ _ _ _ sc _ _ _=>sc
 |_=>{ kind:=.function,names:=[],isGenerator:=false,isCoroutine:=false }
noncomputable abbrev Ar:uq:=fun _ _ _ _ _ _=>False
noncomputable abbrev E0:XK:=fun _ _ _=>False
theorem xT {X:Cx}:lZ Ar X E0:=fun _ _ _ _ _ _ _ h=>h.elim
structure Ae (K:PySem.W.Frag)(x qual:Str)(st:Stmt)(f:Addr)(fd:FuncData):Prop where
 ex:∃(oc:Value) (od:Option Addr) (kV doc pm:Value) (an:Option Addr) (cdv ct:Value) (osl:Array (Option Value)),
  fd=PySem.W.fnOf x qual (dJ st) (cH st) (aQ st) .none kV doc pm an cdv ct/\K.lookup f=some ⟨oc,od,.func fd,osl⟩/\PySem.W.codeIn K cdv qual=true
 kp:PySem.W.keepIn K (.ref f)=true
section
variable {P:Program}{w:World}{K:PySem.W.Frag}{mg:Str->Option Value}{base:Heap}
theorem Ae.ok {x qual:Str}{st:Stmt}{f:Addr}{fd:FuncData}{N ps:List Str}{k:Nat}{sp:Sp}(F:Ae K x qual st f fd)(S:jq N ps (aQ st))(len:∀ vs H Q E,sp vs H Q E->vs.length=ps.length)
  (hbody:∀(cdv:Value) (A:Around) (outer:List Env) (s:Shared) (H:Hp) (vs:List V) (Q:VK) (E:XK),fY k (A.deeper (envOfC qual (aQ st) s.heap.objs.size f cdv))->sp vs H Q E ->
   ∃ t,km (oA Ar P w K mg base N qual (aQ st) f cdv A outer s H E).nox (cH st) t/\t { nx:=fun _ H'=>Q .non H',rt:=Q } (start N vs) H):mo P w K mg base Ar (k+1) f fd ps sp:=by
 obtain⟨oc,od,kV,doc,pm,an,cdv,ct,osl,rfl,lk,hcd⟩:=F.ex;refine Ce lk hcd S len fun A outer s H vs Q E hr hsp=>?_
 obtain⟨t,h,q⟩:=hbody cdv A outer s H vs Q E hr hsp;exact⟨t,h.nox,q⟩
theorem Ae.binds {x qual:Str}{st:Stmt}{f:Addr}{fd:FuncData}{ps:List Str}(F:Ae K x qual st f fd)
  (h:∀(kV doc pm:Value) (an:Option Addr) (cdv ct:Value) (us:List Value),us.length=ps.length->bindArgs (PySem.W.fnOf x qual (dJ st) (cH st) (aQ st) .none kV doc pm an cdv ct) ⟨us,[]⟩=pure (ps.zip us)):Binds K fd ps []:=by
 obtain⟨oc,od,kV,doc,pm,an,cdv,ct,osl,rfl,lk,hcd⟩:=F.ex;exact .all (h kV doc pm an cdv ct)
theorem zM {x qual:Str}{st:Stmt}{f:Addr}{oc:Value}{od an:Option Addr}{osl:Array (Option Value)}{kV doc pm cdv ct:Value}(l:K.lookup f=some ⟨oc,od,.func (PySem.W.fnOf x qual (dJ st) (cH st) (aQ st) .none kV doc pm an cdv ct),osl⟩)
  (c:PySem.W.codeIn K cdv qual=true) (k:PySem.W.keepIn K (.ref f)=true):Ae K x qual st f (PySem.W.fnOf x qual (dJ st) (cH st) (aQ st) .none kV doc pm an cdv ct):=⟨⟨oc,od,kV,doc,pm,an,cdv,ct,osl,rfl,l,c⟩,k⟩
end
section
variable {X:Cx}
end
def aI (H H':Hp):Prop:=∀ b o,H b=some o->H' b=some o
theorem aI.refl (H:Hp):aI H H:=fun _ _ h=>h
theorem aI.trans {H H1 H2:Hp}(a:aI H H1)(b:aI H1 H2):aI H H2:=fun c o h=>b c o (a c o h)
section
variable {κ:Type}[DecidableEq κ]
noncomputable def ic (kvs:List (κ×V))(k:κ):Option V:=(kvs.find? fun kv=>decide (kv.1=k)).map (·.2)
noncomputable def putK (kvs:List (κ×V))(k:κ)(v:V):List (κ×V) :=
 if (kvs.any fun kv=>decide (kv.1=k))=true then kvs.map (fun kv=>if kv.1=k then (kv.1,v) else kv) else kvs ++ [(k,v)]
theorem iP {p:κ×V}{r:List (κ×V)}{k:κ}(e:p.1=k):ic (p::r) k=some p.2:=by simp[ic,List.find?_cons,e]
theorem iK {p:κ×V}{r:List (κ×V)}{k:κ}(e:¬ p.1=k):ic (p::r) k=ic r k:=by simp[ic,List.find?_cons,e]
theorem gO (k:κ):∀ kvs:List (κ×V),(kvs.any fun kv=>decide (kv.1=k))=(ic kvs k).isSome
 |[]=>rfl
 | p::r=>by
  rw[eh];by_cases e:p.1=k
  ·simp only[iP e,decide_eq_true e,Bool.true_or,Option.isSome_some]
  ·rw[iK e,av e,Bool.false_or];exact gO k r
theorem gA (kvs:List (κ×V))(k:κ)(v:V):(putK kvs k v).length<=kvs.length+1:=by
 unfold putK;split
 ·rw[aj];omega
 ·rw[au,ag,bh];omega
theorem qK.isSome_eq {o:Option V}{u:Option Value}(r:qK o u):o.isSome=u.isSome:=by
 cases o with
 |none=>cases u with
  |none=>rfl
  |some _=>exact (show False from r).elim
 |some _=>cases u with
  |none=>exact (show False from r).elim
  |some _=>rfl
theorem KV.val {kvs:List (κ×V)}{vs:List (κ×Value)}(r:KV kvs vs)(k:κ):qK (ic kvs k) (valueAt vs k):=by
 unfold KV at r
 induction r with
 |nil=>exact True.intro
 |@cons p q ps qs h t ih =>
  obtain⟨h1,h2⟩:=h;by_cases e:p.1=k
  ·have e':q.1=k:=h1.symm.trans e;have b:valueAt (q::qs) k=some q.2:=by simp[valueAt,List.find?_cons,e']
   rw[iP e,b];exact h2
  ·have e':¬ q.1=k:=fun z=>e (h1.trans z)
   have b:valueAt (q::qs) k=valueAt qs k:=by simp[valueAt,List.find?_cons,e']
   rw[iK e,b];exact ih
theorem KV.any {kvs:List (κ×V)}{vs:List (κ×Value)}(r:KV kvs vs)(k:κ):(kvs.any fun kv=>decide (kv.1=k))=vs.any fun kv=>decide (kv.1=k):=by
 unfold KV at r
 induction r with
 |nil=>rfl
 |cons h t ih=>rw[eh,eh,ih,h.1]
theorem KV.repl {kvs:List (κ×V)}{vs:List (κ×Value)}(r:KV kvs vs)(k:κ){y:V}{u:Value}(ry:RelV y u) :
  KV (kvs.map fun kv=>if kv.1=k then (kv.1,y) else kv) (vs.map fun kv=>if kv.1=k then (kv.1,u) else kv):=by
 unfold KV at r ⊢
 induction r with
 |nil=>exact .nil
 |@cons p q ps qs h t ih =>
  rw[aw,aw];refine .cons ?_ ih;obtain⟨h1,h2⟩:=h;by_cases e:p.1=k
  ·rw[if_pos e,if_pos (h1.symm.trans e)];exact⟨h1,ry⟩
  ·rw[if_neg e,if_neg (fun z=>e (h1.trans z))];exact⟨h1,h2⟩
theorem KV.put {kvs:List (κ×V)}{vs:List (κ×Value)}(r:KV kvs vs)(k:κ){y:V}{u:Value}(ry:RelV y u):KV (putK kvs k y) (stored vs k u):=by
 unfold putK stored;rw[r.any k];by_cases e:(vs.any fun kv=>decide (kv.1=k))=true
 ·rw[if_pos e,if_pos e];exact r.repl k ry
 ·rw[if_neg e,if_neg e];exact Paired.snoc r ⟨rfl,ry⟩
theorem KV.keys {kvs:List (κ×V)}{vs:List (κ×Value)}(r:KV kvs vs):kvs.map (·.1)=vs.map (·.1):=by
 unfold KV at r
 induction r with
 |nil=>rfl
 |cons h t ih=>rw[aw,aw,ih,h.1]
theorem KV.length {kvs:List (κ×V)}{vs:List (κ×Value)}(r:KV kvs vs):kvs.length=vs.length:=Paired.length r
end
theorem nD {P:Program}{w:World}{k:Key}{u:Value}(r:RelV (kV k) u):(aN P w).is k u=true:=by
 cases k with
 |inl i=>obtain⟨t,e⟩:=(show ∃ t,u=Value.int i t from r);subst e;exact dC P w i t
 |inr x=>obtain⟨t,e⟩:=(show ∃ t,u=Value.str x t from r);subst e;exact cO P w x t
theorem i7 {P:Program}{w:World}:∀{ks:List Key}{us:List Value},aL (ks.map kV) us->ItemsAre (aN P w) ks us
 |[],_,r=>by rw[fw] at r;cases r;exact .nil
 | k::ks,_,r=>by
  rw[aw] at r;cases r with
  |cons h t=>exact .cons (nD h) (i7 t)
noncomputable abbrev KT (H:Hp):List (List Key×V)->List (List Key×Addr×Value)->Prop:=Paired fun p q=>p.1=q.1/\H q.2.1=some (.tup (p.1.map kV))/\RelV p.2 q.2.2
theorem KT.val {H:Hp}{kvs:List (List Key×V)}{xs:List (List Key×Addr×Value)}(r:KT H kvs xs)(k:List Key):qK (ic kvs k) ((atKey xs k).map (·.2)):=by
 induction r with
 |nil=>exact True.intro
 |@cons p q ps qs h t ih =>
  obtain⟨h1,_,h2⟩:=h;by_cases e:p.1=k
  ·have e':q.1=k:=h1.symm.trans e;have b:atKey (q::qs) k=some q.2:=by simp[atKey,List.find?_cons,e']
   rw[iP e,b];exact h2
  ·have e':¬ q.1=k:=fun z=>e (h1.trans z)
   have b:atKey (q::qs) k=atKey qs k:=by simp[atKey,List.find?_cons,e']
   rw[iK e,b];exact ih
theorem KT.repl {H:Hp}{kvs:List (List Key×V)}{xs:List (List Key×Addr×Value)}(r:KT H kvs xs)(k:List Key){y:V}{u:Value}(ry:RelV y u) :
  KT H (kvs.map fun kv=>if kv.1=k then (kv.1,y) else kv) (xs.map (putAt k u)):=by
 induction r with
 |nil=>exact .nil
 |@cons p q ps qs h t ih =>
  rw[aw,aw];refine .cons ?_ ih;obtain⟨h1,h2,h3⟩:=h;unfold putAt;by_cases e:p.1=k
  ·rw[if_pos e,if_pos (h1.symm.trans e)];exact⟨h1,h2,ry⟩
  ·rw[if_neg e,if_neg (fun z=>e (h1.trans z))];exact⟨h1,h2,h3⟩
theorem KT.put {H:Hp}{kvs:List (List Key×V)}{xs:List (List Key×Addr×Value)}(r:KT H kvs xs)(k:List Key){b:Addr}{y:V}{u:Value}(hb:H b=some (.tup (k.map kV)))(ry:RelV y u) :
  KT H (putK kvs k y) (storedH xs k b u):=by
 have e:(kvs.any fun kv=>decide (kv.1=k))=(atKey xs k).isSome:=by
  rw[gO,(r.val k).isSome_eq,gj]
 unfold putK storedH;rw[e];by_cases q:(atKey xs k).isSome=true
 ·rw[if_pos q,if_pos q];exact r.repl k ry
 ·rw[if_neg q,if_neg q];exact Paired.snoc r ⟨rfl,hb,ry⟩
theorem KT.keeps {H H':Hp}{kvs:List (List Key×V)}{xs:List (List Key×Addr×Value)}(r:KT H kvs xs)(ht:∀ b ys,H b=some (.tup ys)->H' b=some (.tup ys)):KT H' kvs xs :=
 Paired.mapP r fun _ _ z=>⟨z.1,ht _ _ z.2.1,z.2.2⟩
section
variable {P:Program}{w:World}{H:Hp}{h:Heap}{a:Addr}
theorem xO {u:HO}(ok:iA P w H h)(e:Rd H a u):cN P w H h a u:=e.ok ok
theorem jg {kvs:List (Key×V)}(ok:iA P w H h)(e:Rd H a (.dK kvs)):kvs.length<=sizeLine/\(a==sysModules)=false/\∃ vs,KV kvs vs/\h.DictOf (aN P w) a vs :=
 show cN P w H h a (.dK kvs) from xO ok e
theorem uC {kvs:List (Key×V)}(ok:iA P w H h)(e:H a=some (.dK kvs)):kvs.length<=sizeLine/\(a==sysModules)=false/\∃ vs,KV kvs vs/\h.DictOf (aN P w) a vs:=jg ok (.inl e)
theorem lX {ks:List Key}(ok:iA P w H h)(e:H a=some (.tup (ks.map kV))):(tupleKind (aN P w)).is h ks a:=by
 obtain⟨_,its,r,o,h1,h2,n,h3⟩:=(show cN P w H h a (.tup (ks.map kV)) from ok a _ e);exact⟨o,its.toArray,n,h1,h2,h3,by simpa using i7 r⟩
theorem m7 {kvs:List (List Key×V)}(ok:iA P w H h)(e:Rd H a (.dT kvs)):kvs.length<=sizeLine/\(a==sysModules)=false /\
  ∃ xs,KT H kvs xs/\h.DictOfH (tupleKind (aN P w)) a xs:=by
 obtain⟨z,y,xs,r,o,es,ep,h1,h2,h3,h4,h5⟩:=(show cN P w H h a (.dT kvs) from xO ok e);refine⟨z,y,xs,r,o,es,ep,h1,h2,h3,h4,fun x hx=>?_,h5⟩;have all:∀{l:List (List Key×V)}{m:List (List Key×Addr×Value)},KT H l m->∀ x∈m,(tupleKind (aN P w)).is h x.1 x.2.1:=by
  intro l m q
  induction q with
  |nil=>intro x hx;exact nomatch hx
  |@cons p q ps qs hq t ih =>
   intro x hx;rcases gp.mp hx with e | hx
   ·subst e;exact lX ok (by rw[<-hq.1];exact hq.2.1)
   ·exact ih x hx
 exact all r x hx
theorem BS {kvs:List (List Key×V)}(ok:iA P w H h)(e:H a=some (.dT kvs)):kvs.length<=sizeLine/\(a==sysModules)=false /\
  ∃ xs,KT H kvs xs/\h.DictOfH (tupleKind (aN P w)) a xs:=m7 ok (.inl e)
end
noncomputable def xh (H:Hp)(a:Addr)(y:V)(r:Option V):Prop :=
 (∃ kvs k,Rd H a (.dK kvs)/\y=kV k/\r=ic kvs k)\/∃ kvs k b,Rd H a (.dT kvs)/\y = .ref b/\H b=some (.tup (k.map kV))/\r=ic kvs k
noncomputable def kA (H:Hp)(a:Addr)(y v:V)(H':Hp):Prop :=
 (∃ kvs k,H a=some (.dK kvs)/\y=kV k/\kvs.length<sizeLine/\H'=upd H a (.dK (putK kvs k v))) \/
 ∃ kvs k b,H a=some (.dT kvs)/\y = .ref b/\H b=some (.tup (k.map kV))/\kvs.length<sizeLine/\H'=upd H a (.dT (putK kvs k v))
theorem kA.k {H:Hp}{a:Addr}{kvs:List (Key×V)}{k:Key}{v:V}(e:H a=some (.dK kvs))(hl:kvs.length<sizeLine):kA H a (kV k) v (upd H a (.dK (putK kvs k v))):=.inl ⟨kvs,k,e,rfl,hl,rfl⟩
theorem kA.t {H:Hp}{a b:Addr}{kvs:List (List Key×V)}{k:List Key}{v:V}(e:H a=some (.dT kvs))(eb:H b=some (.tup (k.map kV)))(hl:kvs.length<sizeLine) :
  kA H a (.ref b) v (upd H a (.dT (putK kvs k v))):=.inr ⟨kvs,k,b,e,rfl,eb,hl,rfl⟩
section
variable {X:Cx}{pins:List (Addr×Obj)}{σ:St}{H:Hp}{s:Shared}{a:Addr}{y v:V}{u r:Value}{o:Option V}{A:Around}{E:Value->Shared->Prop}
theorem Inv.big (I:Inv X pins σ H s):sysModules<s.heap.objs.size:=by
 have h:mainGlobals<s.heap.objs.size:=(I.mod.glob.keeps I.bk).lt;exact Nat.lt_trans (by decide) h
theorem xg {Q:Value->Shared->Prop}(hu:A.units+1<cLine)(I:Inv X pins σ H s)(g:xh H a y o)(ry:RelV y u)(h:∀ s',Inv X pins σ H s'->Q (.bool o.isSome) s') :
  wpAny (model X.prog X.w) A (compareOp .In u (.ref a)) Q E s:=by
 rcases g with ⟨kvs,k,e,ey,l⟩ | ⟨kvs,k,b,e,ey,eb,l⟩
 ·subst ey;obtain⟨z,hd,vs,rel,dd⟩:=jg I.hok e;refine wpAny_in_of (nD ry) hd dd.mapOf ?_;rw[<-(rel.val k).isSome_eq,<-l];exact h _ (I.tok _)
 ·subst ey;cases (show u=Value.ref b from ry);obtain⟨z,hd,xs,rel,dd⟩:=m7 I.hok e;refine wpAny_in_heap (tupleKind_room_in1 hu) (lX I.hok eb) hd dd ?_;have q:=(rel.val k).isSome_eq;rw[gj] at q;rw[<-q,<-l];exact h _ (I.tok _)
theorem oW {Q:Value->Shared->Prop}(hu:A.units+1<cLine)(I:Inv X pins σ H s)(g:xh H a y o)(ry:RelV y u)(h:∀ s',Inv X pins σ H s'->Q (.bool (!o.isSome)) s') :
  wpAny (model X.prog X.w) A (compareOp .NotIn u (.ref a)) Q E s:=by
 rcases g with ⟨kvs,k,e,ey,l⟩ | ⟨kvs,k,b,e,ey,eb,l⟩
 ·subst ey;obtain⟨z,hd,vs,rel,dd⟩:=jg I.hok e;refine wpAny_notIn_of (nD ry) hd dd.mapOf ?_;rw[<-(rel.val k).isSome_eq,<-l];exact h _ (I.tok _)
 ·subst ey;cases (show u=Value.ref b from ry);obtain⟨z,hd,xs,rel,dd⟩:=m7 I.hok e;refine wpAny_notIn_heap (tupleKind_room_in1 hu) (lX I.hok eb) hd dd ?_;have q:=(rel.val k).isSome_eq;rw[gj] at q;rw[<-q,<-l];exact h _ (I.tok _)
theorem jt {h':Heap}{t':Nat}{ob:HO}(I:Inv X pins σ H s)(mu:mO (H a))(hs:Heap.SameBut a s.heap h')(he:∃ q,h'.get? a=some q)(new:cN X.prog X.w (upd H a ob) h' a ob) :
  Inv X pins σ (upd H a ob) { s with heap:=h',toks:=t' } :=
 I.write (x:=a) (e:=a) mu (.inl rfl) (fun b q hb z=>(hs.2 b hb).trans z) he new
theorem ux {P:Program}{w:World}{H':Hp}{h':Heap}{kvs:List (Key×V)}{vs:List (Key×Value)}(z:kvs.length<=sizeLine)(hd:(a==sysModules)=false)(rel:KV kvs vs)(dd:h'.DictOf (aN P w) a vs) :
  cN P w H' h' a (.dK kvs):=⟨z,hd,vs,rel,dd⟩
theorem kQ {H':Hp}{Q:Unit->Shared->Prop}(hu:A.units+1<cLine)(I:Inv X pins σ H s)(g:kA H a y v H')(ry:RelV y u)(rv:RelV v r)(h:∀ s',Inv X pins σ H' s'->Q () s') :
  wpAny (model X.prog X.w) A (setItem (.ref a) u r) Q E s:=by
 rcases g with ⟨kvs,k,e,ey,l,eH⟩ | ⟨kvs,k,b,e,ey,eb,l,eH⟩
 ·subst ey eH;obtain⟨z,hd,vs,rel,dd⟩:=uC I.hok e;have hz:vs.length<=sizeLine:=by rw[<-rel.length];exact z
  have hl:(putK kvs k v).length<=sizeLine:=by have:=gA kvs k v;omega
  refine wpAny_setItem_pairs (hsz:=hz) (nD ry) dd fun h' dd' hs=>h _ ?_
  have he:∃ q,h'.get? a=some q:=let ⟨q,_,_,hq,_⟩:=dd';⟨q,hq⟩;exact jt I (by rw[e];exact True.intro) hs he (ux hl hd (rel.put k rv) dd')
 ·subst ey eH;cases (show u=Value.ref b from ry);obtain⟨z,hd,xs,rel,dd⟩:=BS I.hok e;have hz:xs.length<=sizeLine:=by rw[<-Paired.length rel];exact z
  have hl:(putK kvs k v).length<=sizeLine:=by have:=gA kvs k v;omega
  refine wpAny_setItem_heap (hsz:=hz) (tupleKind_room_in1 hu) (lX I.hok eb) dd fun h' dd' hs=>h _ ?_
  obtain⟨q,es,ep,hq,h2,h3,h4,_,h5⟩:=dd';refine jt I (by rw[e];exact True.intro) hs ⟨q,hq⟩ ⟨hl,hd,_,(rel.put k eb rv).keeps fun c ys ec=>?_,q,es,ep,hq,h2,h3,h4,h5⟩;rw[aJ (A9 ec e (fun z=>nomatch z))];exact ec
end
section
variable {X:Cx}{pins:List (Addr×Obj)}{σ:St}{H:Hp}{s:Shared}{a:Addr}{kvs:List (Key×V)}{k:Key}{u:Value}{A:Around}{E:Value->Shared->Prop}
end
section
variable {X:Cx}{o i e value:Expr}{pos pos' tpos:Pos}{td ty tv:TE}
end
theorem uR {P:Program}{w:World}{H:Hp}(h:Heap)(hb:sysModules<h.objs.size):cN P w H (h.push { cls:=.type "dict",data:=.dict #[] }) h.objs.size (.dK []) :=
 ⟨cw _,beq_eq_false_iff_ne.mpr (cz (cg hb)),[],.nil,Heap.DictOf.new h⟩
section
variable {X:Cx}{pos:Pos}
end
noncomputable def jN:List (TE×TE)->St->Hp->(List (V×V)->Hp->Prop)->Prop
 |[],_,H,Q=>Q [] H
 | (tk,tv)::r,σ,H,Q=>tk σ H fun x H1=>tv σ H1 fun y H2=>jN r σ H2 fun ps H3=>Q ((x,y)::ps) H3
noncomputable abbrev VV:List (V×V)->List (Value×Value)->Prop:=Paired fun p q=>RelV p.1 q.1/\RelV p.2 q.2
noncomputable def Bi (X:Cx)(pos:Pos)(keys:List (Option Expr))(values:List Expr)(trs:List (TE×TE)):Prop :=
 ∀(pins:List (Addr×Obj)) (s:Shared) (σ:St) (H:Hp) (Q:List (V×V)->Hp->Prop),Inv X pins σ H s->jN trs σ H Q ->
  wpAny (model X.prog X.w) X.A (evalPairs (pairTrees keys values X.env pos)) (fun vs s'=>∃ ps H',Inv X pins σ H' s'/\VV ps vs/\Q ps H') X.xe s
theorem xj {X:Cx}{pos:Pos}:Bi X pos [] [] []:=fun pins s σ H Q I h=>pairTrees_nil_walk ⟨[],H,I,.nil,h⟩
theorem uj {X:Cx}{pos:Pos}{k v:Expr}{ks:List (Option Expr)}{vs:List Expr}{tk tv:TE}{trs:List (TE×TE)}(hk:PE X k tk)(hv:PE X v tv)(hr:Bi X pos ks vs trs) :
  Bi X pos (some k::ks) (v::vs) ((tk,tv)::trs):=fun pins s σ H Q I h =>
 pairTrees_cons_walk (bV (hk pins s σ H _ I h) fun u s1 ⟨x,H1,I1,rx,q1⟩=>bV (hv pins s1 σ H1 _ I1 q1) fun w2 s2 ⟨y,H2,I2,ry,q2⟩ =>
  bV (hr pins s2 σ H2 _ I2 q2) fun ws s3 ⟨ps,H3,I3,rel,q3⟩=>⟨(x,y)::ps,H3,I3,.cons ⟨rx,ry⟩ rel,q3⟩)
noncomputable def fD (kvs more:List (Key×V)):List (Key×V):=more.foldl (fun acc kv=>putK acc kv.1 kv.2) kvs
theorem KV.merge:∀{more:List (Key×V)}{rs:List (Key×Value)}{kvs:List (Key×V)}{vs:List (Key×Value)},KV more rs->KV kvs vs->KV (fD kvs more) (merged vs rs):=by
 intro more rs kvs vs r;unfold KV at r
 induction r generalizing kvs vs with
 |nil=>intro q;exact q
 |@cons p q ps qs h t ih =>
  intro r0;have e:KV (putK kvs p.1 p.2) (stored vs q.1 q.2):=by
   have:=r0.put p.1 h.2;rw[<-h.1];exact this
  exact ih e
theorem hU:∀(more kvs:List (Key×V)),(fD kvs more).length<=kvs.length+more.length
 |[],kvs=>by show kvs.length<=kvs.length+0;omega
 | p::r,kvs=>by
  have h1:=hU r (putK kvs p.1 p.2);have h2:=gA kvs p.1 p.2;show (fD (putK kvs p.1 p.2) r).length<=_;rw[ag];omega
theorem jD {P:Program}{w:World}:∀{kvs:List (Key×V)}{ws:List (Value×Value)},VV (kvs.map fun kv=>(kV kv.1,kv.2)) ws->∃ rs,Carries (aN P w) ws rs/\KV kvs rs
 |[],_,r=>by rw[fw] at r;cases r;exact⟨[],True.intro,.nil⟩
 | p::kvs,_,r=>by
  rw[aw] at r;cases r with
  |@cons a b as bs h t =>
   obtain⟨rs,c,q⟩:=jD (P:=P) (w:=w) t;obtain⟨b1,b2⟩:=b;exact⟨(p.1,b2)::rs,⟨nD h.1,rfl,c⟩,.cons ⟨rfl,h.2⟩ q⟩
def Bm (trs:List (TE×TE)):TE:=fun σ H Q=>∀ p,H p=none->jN trs σ (upd H p (.dK [])) fun ps H2=>H2 p=some (.dK [])/\∃ kvs:List (Key×V),ps=kvs.map (fun kv=>(kV kv.1,kv.2))/\kvs.length<=15/\Q (.ref p) (upd H2 p (.dK (fD [] kvs)))
theorem xH {X:Cx}{pos:Pos}{keys:List (Option Expr)}{values:List Expr}{trs:List (TE×TE)}(h:Bi X pos keys values trs)(hall:keys.all (·.isSome)=true)(hl:keys.length=values.length)(h0:keys≠[])
  (h15:keys.length<=15):PE X (.Dict keys values pos) (Bm trs):=by
 intro pins s σ H Q I q;have hn:=I.hok.fresh (aq s.heap.objs.size);have I1:=I.laid (a:=s.heap.objs.size) (o:=.dK []) (h':=s.heap.push { cls:=.type "dict",data:=.dict #[] }) (t':=s.toks) (fun _ _ q=>Heap.get?_push_of_some _ q) (aq _) (uR s.heap I.big);refine wpAny_Dict_walk (knd:=aN X.prog X.w) hall hl h0 h15 (bV (h pins _ σ _ _ I1 (q _ hn)) fun ws s2 ⟨ps,H2,I2,rel,e,kvs,ep,lk,q2⟩=>?_);subst ep;obtain⟨rs,c,rk⟩:=jD (P:=X.prog) (w:=X.w) rel;obtain⟨z,hd,vs0,r0,dd⟩:=uC I2.hok e;cases r0;refine⟨rs,c,dd,fun h' dd' hs=>⟨.ref s.heap.objs.size,_,?_,rfl,q2⟩⟩;have hz:(fD [] kvs).length<=sizeLine:=by
  have h1:=hU kvs [];rw[bh] at h1;rw[sizeLine_eq];omega
 have he:∃ q,h'.get? s.heap.objs.size=some q:=let ⟨q,_,_,hq,_⟩:=dd';⟨q,hq⟩;exact jt I2 (by rw[e];exact True.intro) hs he (ux hz hd (rk.merge .nil) dd')
end L2
end
section
namespace Pc
open PySem
inductive MV where
 | tr | int (i:Int) | tup (is:List Int)
deriving Inhabited,DecidableEq
inductive D where
 | non | bl (b:Bool) | int (i:Int) | str (s:Str) | lst (xs:List D) | tup (xs:List D)
 | dct (kvs:List ((Int ⊕ Str)×Option Int))
 | mpi (ks:List (Int×MV)) | mpt (ks:List (List Int))
 | mpz (ks:List (Int×MV))
deriving Inhabited
mutual
noncomputable def D.flat:D->Bool
 |.lst _=>false
 |.tup xs=>D.flats xs
 |.non=>true
 |.bl _=>true
 |.int _=>true
 |.str _=>true
 |.dct _=>true
 |.mpi _=>false
 |.mpt _=>false
 |.mpz _=>true
noncomputable def D.flats:List D->Bool
 |[]=>true
 |x::xs=>D.flat x&&D.flats xs
end
noncomputable def oV (f:D->D->Option Bool):List D->List D->Option Bool
 |[],[]=>some true
 |x::xs,y::ys=>(f x y).bind fun a=>(oV f xs ys).map fun b=>a&&b
 |_,_=>none
noncomputable def D.eqf:Nat->D->D->Option Bool
 |0,_,_=>none
 |_+1,.non,.non=>some true
 |_+1,.bl a,.bl b=>some (a==b)
 |_+1,.int a,.int b=>some (a==b)
 |_+1,.bl a,.int b=>some ((if a then (1:Int) else 0)==b)
 |_+1,.int a,.bl b=>some (a==(if b then (1:Int) else 0))
 |_+1,.str a,.str b=>some (a==b)
 |n+1,.lst a,.lst b=>if a.length=b.length then oV (D.eqf n) a b else some false
 |n+1,.tup a,.tup b=>if a.length=b.length then oV (D.eqf n) a b else none
 |_+1,.dct _,_=>none
 |_+1,_,.dct _=>none
 |_+1,.mpi _,_=>none
 |_+1,_,.mpi _=>none
 |_+1,.mpt _,_=>none
 |_+1,_,.mpt _=>none
 |_+1,.mpz _,_=>none
 |_+1,_,.mpz _=>none
 |_+1,_,_=>some false
noncomputable def D.eQ:D->Bool
 |.lst _=>false
 |.tup _=>false
 |.dct _=>false
 |.mpi _=>false
 |.mpt _=>false
 |.mpz _=>false
 |_=>true
noncomputable def D.eqs:D->D->Bool
 |.non,.non=>true
 |.bl a,.bl b=>a==b
 |.int a,.int b=>a==b
 |.str a,.str b=>a==b
 |.bl a,.int b=>(if a then (1:Int) else 0)==b
 |.int a,.bl b=>a==(if b then (1:Int) else 0)
 |_,_=>false
structure Exc where
 cls:Str
 fs:List (Str×D)
deriving Inhabited
inductive Rs (α:Type) where
 | ok (a:α) | exc (e:Exc) | bad
noncomputable def Rs.bind {α β:Type}(x:Rs α)(f:α->Rs β):Rs β:=match x with
 |.ok a=>f a
 |.exc e=>.exc e
 |.bad=>.bad
inductive Rt where
 | mv (R:List Nat)
 | sh (R:List Nat)
noncomputable def Rt.roots:Rt->List Nat
 |.mv R=>R
 |.sh R=>R
inductive Tg where
 | own | lk | sh (R:List Nat)
noncomputable abbrev Slot:=Option (D×Tg)
noncomputable abbrev En:=List Slot
noncomputable def lim:Nat:=1000000
inductive kE where
 | nm (i:Nat) | tp (is:List Nat)
inductive Ab where
 | len | list | tuple | int | str | abs | min2 | max2 | all | any | sum | isi (T:String) | sorted | bool | lrev | lrng | divm | maxd
inductive Mth where
 | sfind | sindex | sjoin | ssplit | lindex | lcount | szfill | scount | sstarts
inductive mO where
 | append | extend | insert | pop | uw | reverse | clear
mutual
inductive Ex where
 | var (i:Nat)
 | cst (d:D)
 | glb (k:Nat)
 | bin (op:Operator) (a b:Ex)
 | neg (a:Ex)
 | cmp (op:CmpOp) (a b:Ex)
 | chn (op op':CmpOp) (a b c:Ex)
 | and (a b:Ex)
 | or (a b:Ex)
 | not (a:Ex)
 | ite (c a b:Ex)
 | lst (es:kB)
 | tup (es:kB)
 | ix (a i:Ex)
 | sl (a:Ex) (lo hi:kj)
 | call (f:Nat) (es:kB)
 | blt (b:Ab) (es:kB)
 | mth (m:Mth) (o:Ex) (es:kB)
 | comp (own:Nat) (pick:List Nat) (t:kE) (it:rW) (c:kj) (e:Ex)
 | dnew
 | ddsp (l:List (Nat×Int))
 | snoc (a b:Ex)
inductive kB where
 | nil | cons (e:Ex) (es:kB)
inductive kj where
 | none | some (e:Ex)
inductive rW where
 | seq (e:Ex) | rng1 (a:Ex) | rng2 (a b:Ex) | rng3 (a b c:Ex) | enum (e:Ex) | zip (a b:Ex) | rev (e:Ex)
end
mutual
inductive St where
 | asg (t:kE) (e:Ex) (mv:Bool)
 | mut (x:Nat) (path:kj) (m:mO) (es:kB)
 | setix (x:Nat) (path:kj) (i:Ex) (e:Ex)
 | putd (x:Nat) (i v:Ex)
 | aug (x:Nat) (op:Operator) (e:Ex)
 | popa (y x:Nat) (es:kB)
 | apop (y x:Nat) (es:kB)
 | frzd (x:Nat) (s:St)
 | expr (e:Ex)
 | ite (c:Ex) (a b:cG)
 | forr (t:kE) (it:rW) (b:cG)
 | forw (x:Nat) (e:Ex) (b:cG)
 | whl (c:Ex) (b:cG)
 | ret (e:Ex)
 | retN | brk | cnt | pass
inductive cG where
 | nil | cons (s:St) (r:cG)
end
noncomputable def ck (n:Nat)(d:D):Option D:=if n<=lim then some d else none
noncomputable def small (i:Int):Bool:=decide (-(2 ^ 64)<i/\i<2 ^ 64)
noncomputable def binI:Operator->Int->Int->Option Int
 |.Add,i,j=>some (i+j)
 |.Sub,i,j=>some (i - j)
 |.Mult,i,j=>if small i || small j then some (i*j) else none
 |.FloorDiv,i,j=>if 0<j/\j<1073741824 then some (i / j) else none
 |.Mod,i,j=>if 0<j then some (i%j) else none
 |.Pow,i,j=>if 0<=j/\j<=1000000/\i.natAbs<2 ^ 64 then some (i ^ j.toNat) else none
 |.LShift,i,j=>if 0<=j/\j<=1000000/\i.natAbs<2 ^ 64 then some (i*2 ^ j.toNat) else none
 |.RShift,i,j=>if 0<=j then some (i / 2 ^ j.toNat) else none
 |.BitAnd,i,j=>some (Builtin.bitAnd i j)
 |.BitOr,i,j=>some (Builtin.bitOr i j)
 |.BitXor,i,j=>some (Builtin.bitXor i j)
 |_,_,_=>none
noncomputable def eR:Operator->D->D->Option D
 |op,.int i,.int j=>(binI op i j).map .int
 |.Add,.str a,.str b=>ck (a.length+b.length) (.str (a++b))
 |.Add,.lst a,.lst b=>ck (a.length+b.length) (.lst (a++b))
 |.Add,.tup a,.tup b=>if a.isEmpty then none else ck (a.length+b.length) (.tup (a++b))
 |.Mult,.lst a,.int k=>if -(2 ^ 63)<=k/\k<2 ^ 63 then (if D.flats a then ck (a.length*k.toNat) (.lst (List.replicate k.toNat a).flatten) else none) else none
 |_,_,_=>none
noncomputable def vOf:Option Int->D
 |none=>.non
 |some i=>.int i
noncomputable def o9 (kvs:List ((Int ⊕ Str)×Option Int))(k:Int ⊕ Str):Option (Option Int):=(kvs.find? fun q=>decide (q.1=k)).map (·.2)
noncomputable def By (x y:Str):Bool:=!(Builtin.Str.occurrences y x 0 y.length 1).isEmpty
noncomputable def uE {α:Type}[BEq α](ks:List α)(k:α):List α:=if ks.contains k then ks else ks ++ [k]
noncomputable def qG (kvs:List (Int×MV))(k:Int)(m:MV):List (Int×MV):=if (kvs.any fun q=>decide (q.1=k))=true then kvs.map (fun q=>if q.1=k then (q.1,m) else q) else kvs ++ [(k,m)]
noncomputable def fI:List D->Option (List Int)
 |[]=>some []
 |.int i::r=>(fI r).map (i :: ·)
 |_::_=>none
noncomputable def mvD:MV->D
 |.tr=>.bl true
 |.int i=>.int i
 |.tup is=>.tup (is.map .int)
noncomputable def yz:D->Option MV
 |.bl true=>some .tr
 |.int i=>some (.int i)
 |.tup xs=>(fI xs).map .tup
 |_=>none
noncomputable def mD (gl:Nat->D):List (Nat×Int)->List (Int×MV)->Option (List (Int×MV))
 |[],ks=>some ks
 |q::r,ks=>match gl q.1 with
  |.int i=>mD gl r (qG ks i (.int q.2))
  |_=>none
noncomputable def rf:D->Bool
 |.bl true=>true
 |_=>false
noncomputable def vg:D->D->D->Option D
 |.mpi ks,.int k,v=>if ks.length<lim then (yz v).map fun m=>.mpi (qG ks k m) else none
 |.mpi [],.tup [.int i,.int j],v=>if rf v then some (.mpt [[i,j]]) else none
 |.mpt ks,.tup [.int i,.int j],v=>if rf v&&decide (ks.length<lim) then some (.mpt (uE ks [i,j])) else none
 |_,_,_=>none
noncomputable def inD (x:D):D->Option Bool
 |.lst ys=>if x.eQ&&ys.all D.eQ then some (ys.any fun y=>D.eqs y x) else none
 |.tup ys=>if x.eQ&&ys.all D.eQ then some (ys.any fun y=>D.eqs y x) else none
 |.str y=>match x with
  |.str z=>some (By z y)
  |_=>none
 | .dct ((.inr z,v)::kvs)=>match x with
  |.str s=>some (o9 ((.inr z,v)::kvs) (.inr s)).isSome
  |_=>none
 |.mpi ks=>match x with
  |.int k=>some (ks.any fun q=>decide (q.1=k))
  |.tup [.int _,.int _]=>if ks.isEmpty then some false else none
  |_=>none
 |.mpz ks=>match x with
  |.int k=>some (ks.any fun q=>decide (q.1=k))
  |_=>none
 |.mpt ks=>match x with
  |.tup [.int i,.int j]=>some (ks.contains [i,j])
  |_=>none
 |_=>none
noncomputable def jF:List Int->List Int->Bool
 |[],_=>true
 |_::_,[]=>false
 |a::x,b::y=>if a=b then jF x y else decide (a<=b)
noncomputable def pe:D->Bool
 |.non=>true
 |_=>false
noncomputable def yb (eq lt:D->D->Option Bool):List D->List D->Option Bool
 |[],[]=>some false
 |[],_::_=>some true
 |_::_,[]=>some false
 |x::xs,y::ys=>(eq x y).bind fun e=>if e then yb eq lt xs ys else lt x y
noncomputable def D.ltf:Nat->D->D->Option Bool
 |_+1,.int i,.int j=>some (decide (i<j))
 |n+1,.tup xs,.tup ys=>yb (D.eqf n) (D.ltf n) xs ys
 |n+1,.lst xs,.lst ys=>yb (D.eqf n) (D.ltf n) xs ys
 |_,_,_=>none
noncomputable def iy:CmpOp->D->D->Option Bool
 |.Lt,.int i,.int j=>some (decide (i<j))
 |.Lt,.tup xs,.tup ys=>D.ltf 39 (.tup xs) (.tup ys)
 |.LtE,.int i,.int j=>some (decide (i<=j))
 |.LtE,.tup xs,.tup ys=>(fI xs).bind fun a=>(fI ys).map fun b=>jF a b
 |.Gt,.int i,.int j=>some (decide (j<i))
 |.GtE,.int i,.int j=>some (decide (j<=i))
 |.Eq,x,y=>D.eqf 40 x y
 |.NotEq,x,y=>(D.eqf 40 x y).map (!·)
 |.In,x,y=>inD x y
 |.NotIn,x,y=>(inD x y).map (!·)
 |.Is,x,.non=>some (pe x)
 |.IsNot,x,.non=>some (!pe x)
 |.Is,.bl a,.bl b=>some (a==b)
 |.IsNot,.bl a,.bl b=>some (!(a==b))
 |_,_,_=>none
noncomputable def truth:D->Option Bool
 |.bl b=>some b
 |.int i=>some (i != 0)
 |.str s=>if s.length<=lim then some ((s.length:Int) != 0) else none
 |.lst xs=>some (!xs.isEmpty)
 |.tup xs=>some (!xs.isEmpty)
 |.non=>some false
 |.dct _=>none
 |.mpi _=>none
 |.mpt _=>none
 |.mpz _=>none
noncomputable def hW (n:Nat)(i:Int):Option Nat:=if 0<=i then (if i<n then some i.toNat else none) else if -(n:Int)<=i then some (i+n).toNat else none
noncomputable def bA (n d:Nat):Option Int->Nat
 |none=>d
 |some v=>if v<0 then (v+(n:Int)).toNat else min v.toNat n
noncomputable def cut {α:Type}(xs:List α)(lo hi:Option Int):List α :=
 let a:=bA xs.length 0 lo
 (xs.drop a).take (bA xs.length xs.length hi - a)
noncomputable def nH:D->D->Option D
 |.lst xs,.int i=>(hW xs.length i).bind fun j=>xs[j]?
 |.tup xs,.int i=>(hW xs.length i).bind fun j=>xs[j]?
 |.str s,.int i=>if s.length<=lim then ((hW s.cps.toList.length i).bind fun j=>s.cps.toList[j]?).map fun c=>.str ⟨#[c]⟩ else none
 |.dct kvs,.int i=>(o9 kvs (.inl i)).map vOf
 |.dct kvs,.str s=>(o9 kvs (.inr s)).map vOf
 |.mpi ks,.int k=>(ks.find? fun q=>decide (q.1=k)).map fun q=>mvD q.2
 |.mpz ks,.int k=>(ks.find? fun q=>decide (q.1=k)).map fun q=>mvD q.2
 |_,_=>none
noncomputable def slD:D->Option Int->Option Int->Option D
 |.lst xs,lo,hi=>some (.lst (cut xs lo hi))
 |.tup xs,lo,hi=>if bA xs.length 0 lo=0/\bA xs.length xs.length hi=xs.length then none else some (.tup (cut xs lo hi))
 |.str s,lo,hi=>if s.length<=lim then some (.str ⟨(cut s.cps.toList lo hi).toArray⟩) else none
 |_,_,_=>none
noncomputable def D.inner:D->Bool
 |.lst xs=>D.flats xs
 |.tup xs=>D.flats xs
 |_=>true
noncomputable def gG (d:D)(R:List Nat):Rt:=if d.inner then .mv [] else .sh R
noncomputable def mf (d:D)(r:Rt):Rt:=if d.flat then .mv [] else .sh r.roots
noncomputable def cU:List Rt->Option (List Nat)
 |[]=>some []
 |.mv R::r=>(cU r).map (R ++ ·)
 |.sh _::_=>none
noncomputable def aP (l:List Rt):List Nat:=(l.map Rt.roots).flatten
noncomputable def sO:D->D->Rt->Option D
 |.lst xs,y,.mv []=>if D.flats xs&&decide (xs.length+1<=lim) then some (.lst (xs ++ [y])) else none
 |_,_,_=>none
noncomputable def mw (l:List Rt):Rt:=match cU l with
 |some R=>if R.Nodup then .mv R else .sh R
 |none=>.sh (aP l)
noncomputable def sY (T:String):D->Bool
 |.non=>T == "NoneType"
 |.bl _=>T == "bool" || T == "int"
 |.int _=>T == "int"
 |.str _=>T == "str"
 |.lst _=>T == "list"
 |.tup _=>T == "tuple"
 |.dct _=>false
 |.mpi _=>false
 |.mpt _=>false
 |.mpz _=>false
noncomputable def D.isBl:D->Bool
 |.bl _=>true
 |_=>false
noncomputable def allB:List D->Option Bool
 |[]=>some true
 |.bl b::r=>if b then allB r else some false
 |_::_=>none
noncomputable def anyB:List D->Option Bool
 |[]=>some false
 |.bl b::r=>if b then some true else anyB r
 |_::_=>none
noncomputable def Cr:Int->List D->Option Int
 |a,[]=>some a
 |a,.int i::r=>Cr (a+i) r
 |_,_::_=>none
noncomputable def xU:Int->List D->Option Int
 |a,[]=>some a
 |a,.int i::r=>xU (if i > a then i else a) r
 |_,_::_=>none
noncomputable def aS:Int->Int->Nat->List D
 |_,_,0=>[]
 |a,s,n+1=>.int a::aS (a+s) s n
noncomputable def eT (i:Int):Bool:=decide (-(2 ^ 62)<=i/\i<2 ^ 62)
noncomputable def ji:List D->Option (List (List Int))
 |[]=>some []
 |.tup xs::r=>(fI xs).bind fun k=>if k.isEmpty then none else (ji r).map (k :: ·)
 |_::_=>none
noncomputable def gZ:List Int->List Int->Bool
 |[],[]=>false
 |[],_::_=>true
 |_::_,[]=>false
 |a::x,b::y=>if a==b then gZ x y else decide (a<b)
noncomputable def CD {α:Type}(f:Nat->Nat->Option Bool):PySem.W.KasT α->Option α
 |.ret a=>some a
 |.ask i j k=>(f i j).bind fun b=>CD f (k b)
noncomputable def CQ (xs:List D):Option (List D):=if 2<=xs.length/\xs.length<64 then (ji xs).bind fun ks =>
  (CD (fun i j=>(ks[i]?).bind fun a=>(ks[j]?).map fun b=>gZ a b) (PySem.W.kas_sort xs.length)).bind fun p =>
   if p.size<=64 then some (p.toList.map fun i=>xs.getD i .non) else none
 else none
noncomputable def insI (a:Int):List Int->List Int
 |[]=>[a]
 |b::l=>if a<=b then a::b::l else b::insI a l
noncomputable def sA:List Int->List Int
 |[]=>[]
 |a::l=>insI a (sA l)
noncomputable def sL:List D->Option D
 |[.lst xs]=>match fI xs with
  |some ns=>if ns.length<64 then some (.lst ((sA ns).map .int)) else none
  |none=>(CQ xs).map .lst
 |_=>none
noncomputable def xY:List D->Option D
 |[.lst xs]=>some (.int xs.length)
 |[.tup xs]=>some (.int xs.length)
 |[.str s]=>if s.length<=lim then some (.int s.length) else none
 |[.mpt ks]=>some (.int ks.length)
 |_=>none
noncomputable def uT:List D->Option D
 |[.lst xs]=>some (.lst xs)
 |[.tup xs]=>some (.lst xs)
 |[.mpi ks]=>if ks.length<=lim then some (.lst (ks.map fun q=>.int q.1)) else none
 |_=>none
noncomputable def wc:List D->Option D
 |[.lst xs]=>some (.tup xs)
 |_=>none
noncomputable def CJ:List D->Option D
 |[.int i]=>some (.int (if i<0 then -i else i))
 |_=>none
noncomputable def bZ (lt:Nat->Nat->Bool):Nat->Nat->Nat->Nat
 |0,_,m=>m
 |k+1,j,m=>bZ lt k (j+1) (if lt j m then j else m)
noncomputable def minD (xs:List D):Option D:=if xs.isEmpty then none else match fI xs with
 |some ns=>xs[bZ (fun i j=>decide (ns.getD i 0<ns.getD j 0)) (xs.length - 1) 1 0]?
 |none=>(ji xs).bind fun ks=>xs[bZ (fun i j=>gZ (ks.getD i []) (ks.getD j [])) (xs.length - 1) 1 0]?
noncomputable def zc:List D->Option D
 |[.int i,.int j]=>some (.int (if j<i then j else i))
 |[.lst xs]=>minD xs
 |_=>none
noncomputable def AN:List D->Option D
 |[.int i,.int j]=>some (.int (if j > i then j else i))
 |_=>none
noncomputable def Ck:List D->Option D
 |[.lst xs]=>if xs.all D.isBl then (allB xs).map .bl else none
 |_=>none
noncomputable def Cb:List D->Option D
 |[.lst xs]=>if xs.all D.isBl then (anyB xs).map .bl else none
 |_=>none
noncomputable def BI:List D->Option D
 |[.lst xs]=>(Cr 0 xs).map .int
 |_=>none
noncomputable def Cy (T:String):List D->Option D
 |[.dct _]=>none
 |[.mpi _]=>none
 |[.mpt _]=>none
 |[.mpz _]=>none
 |[d]=>some (.bl (sY T d))
 |_=>none
noncomputable def yN:List D->Option D
 |[.lst xs]=>some (.lst xs.reverse)
 |_=>none
noncomputable def z0:List D->Option D
 |[.int n]=>if eT n=true/\n<=1000000 then some (.lst (aS 0 1 n.toNat)) else none
 |[.int a,.int b]=>if eT a=true/\eT b=true/\b - a<=1000000 then some (.lst (aS a 1 (b - a).toNat)) else none
 |_=>none
noncomputable def BV:List D->Option D
 |[.str s]=>if s.length<=640 then (PySem.intText? s).map .int else none
 |[.int i]=>some (.int i)
 |[.bl b]=>some (.int (if b then 1 else 0))
 |_=>none
noncomputable def AE:List D->Option D
 |[.int i,.int j]=>if 0<j/\j<1073741824 then some (.tup [.int (i / j),.int (i%j)]) else none
 |_=>none
noncomputable def Aj:List D->Option D
 |[.lst [],.int d]=>some (.int d)
 | [.lst (.int i::r),.int _]=>(xU i r).map .int
 |_=>none
noncomputable def mN:Ab->List D->Option D
 |.sorted,ds=>sL ds
 |.len,ds=>xY ds
 |.list,ds=>uT ds
 |.tuple,ds=>wc ds
 |.abs,ds=>CJ ds
 |.min2,ds=>zc ds
 |.max2,ds=>AN ds
 |.all,ds=>Ck ds
 |.any,ds=>Cb ds
 |.sum,ds=>BI ds
 |.isi T,ds=>Cy T ds
 |.lrev,ds=>yN ds
 |.lrng,ds=>z0 ds
 |.int,ds=>BV ds
 |.divm,ds=>AE ds
 |.maxd,ds=>Aj ds
 |_,_=>none
noncomputable def CZ (k:Int):List D->Option Nat
 |[]=>some 0
 |.int i::r=>(CZ k r).map fun c=>if i==k then c+1 else c
 |_::_=>none
noncomputable def vf:List D->Option (List Str)
 |[]=>some []
 |.str s::r=>(vf r).map (s :: ·)
 |_::_=>none
noncomputable def zX (x y:Str):List Str :=
 if (decide (x.length<y.length) || decide (Builtin.Str.strKind x<Builtin.Str.strKind y))=true then [x] else
 if (Builtin.Str.occurrences x y 0 x.length (x.length+1)).isEmpty=true then [x] else Builtin.Str.partsBetween x (Builtin.Str.occurrences x y 0 x.length (x.length+1)) y.length
noncomputable def mthD:Mth->D->List D->Option D
 |.sfind,.str x,[.str y]=>some (.int (match Builtin.Str.occurrences x y 0 x.length 1 with
  |i::_=>(i:Int)
  |[]=>-1))
 |.sindex,.str x,[.str y]=>match Builtin.Str.occurrences x y 0 x.length 1 with
  |i::_=>some (.int (i:Int))
  |[]=>none
 |.sindex,.lst xs,[.int k]=>(fI xs).bind fun ns=>if k∈ns/\ns.length<=lim then some (.int ((ns.idxOf k:Nat):Int)) else none
 |.sjoin,.str x,[.lst xs]=>(vf xs).bind fun ys=>if (ys.map (·.length)).sum+ys.length*x.length<=lim then some (.str (PySem.Str.join x ys)) else none
 |.ssplit,.str x,[.str y]=>if 0<y.length/\x.length<=lim then some (.lst ((zX x y).map .str)) else none
 |.lcount,.lst xs,[.int k]=>(CZ k xs).map fun (c:Nat)=>.int (c:Int)
 |_,_,_=>none
noncomputable def Tg.drop (i:Nat):Tg->Tg
 |.sh R=>.sh (R.filter (· != i))
 |t=>t
noncomputable def cD (d:D)(R:List Nat):Tg:=if d.flat then .own else .sh R
noncomputable def put (env:En)(i:Nat)(d:D)(t:Tg):En:=(env.map fun (s:Slot)=>s.map fun (p:D×Tg)=>(p.1,p.2.drop i)).set i (some (d,t))
noncomputable def gU (R:List Nat):Tg->Bool
 |.sh Q=>Q.any fun q=>R.contains q
 |_=>false
noncomputable def kill (R:List Nat)(env:En):En:=env.mapIdx fun i (s:Slot)=>match s with
 | some (d,t)=>if R.contains i || gU R t then none else some (d,t)
 |none=>none
noncomputable def dG (env:En)(R:List Nat):Bool:=R.all fun i=>match env[i]? with
 | some (some (_,.own))=>true
 |_=>false
noncomputable def bindM (f:D->Tg):List Nat->List D->En->Option En
 |[],[],env=>some env
 |i::is,d::ds,env=>if i<env.length then bindM f is ds (put env i d (f d)) else none
 |_,_,_=>none
noncomputable def cF (R:List Nat):kE->D->En->Option En
 |.nm i,d,env=>if i<env.length then some (put env i d (cD d R)) else none
 |.tp is,.tup ds,env=>bindM (fun d=>cD d R) is ds env
 |_,_,_=>none
structure Tb where
 cl:Nat->List D->Rs (D×Bool)
 gl:Nat->D
 fuel:Nat
noncomputable def fS {α:Type}:Option α->Rs α
 |some a=>.ok a
 |none=>.bad
noncomputable def sR:D->Option (List D)
 |.lst xs=>some xs
 |.tup xs=>some xs
 |.str s=>if s.length<=lim then some (s.cps.toList.map fun c=>.str ⟨#[c]⟩) else none
 |.mpz ks=>some (ks.map fun q=>.int q.1)
 |_=>none
noncomputable def xN:D->Option (List D)
 |.lst xs=>some xs
 |_=>none
noncomputable def qc:D->Option (List D)
 |.lst xs=>some xs
 |.str s=>some (s.cps.toList.map fun c=>.str ⟨#[c]⟩)
 |_=>none
noncomputable def iZ (f:D->Rs (Option (D×Rt))):List D->Rs (List (D×Rt))
 |[]=>.ok []
 |d::r=>(f d).bind fun o=>(iZ f r).bind fun l=>.ok (match o with
  |some p=>p::l
  |none=>l)
noncomputable def iU (o:Option En)(c:En->Rs Bool)(e:En->Rs (D×Rt)):Rs (Option (D×Rt)):=match o with
 |none=>.bad
 |some env=>(c env).bind fun k=>if k then (e env).bind fun q=>.ok (some q) else .ok none
noncomputable def ir:Rt->Bool
 |.mv []=>true
 |_=>false
noncomputable def aT (i:Nat):Tg->List Nat
 |.own=>[i]
 |.lk=>[i]
 |.sh R=>R
noncomputable def lj (env:En)(pick:List Nat):List Nat:=(pick.map fun j=>match env[j]? with
 | some (some (_,t))=>aT j t
 |_=>[]).flatten
noncomputable def eO (env:En)(own:Nat)(pick:List Nat):En:=List.replicate own none++pick.map fun i=>match env[i]? with
 | some (some (d,_))=>some (d,.sh [])
 |_=>none
mutual
noncomputable def ev (T:Tb):Ex->En->Rs (D×Rt)
 |.var i,env=>match env[i]? with
  | some (some (d,t))=>.ok (d,if d.flat then .mv [] else match t with
   |.own=>.mv [i]
   |.lk=>.mv [i]
   |.sh R=>.sh R)
  |_=>.bad
 |.cst d,_=>.ok (d,.mv [])
 |.glb k,_=>.ok (T.gl k,.mv [])
 |.bin op a b,env=>(ev T a env).bind fun p=>(ev T b env).bind fun q=>(fS (eR op p.1 q.1)).bind fun d=>.ok (d,gG d (p.2.roots++q.2.roots))
 |.neg a,env=>(ev T a env).bind fun p=>match p.1 with
  |.int i=>.ok (.int (-i),.mv [])
  |_=>.bad
 |.cmp op a b,env=>(ev T a env).bind fun p=>(ev T b env).bind fun q=>(fS (iy op p.1 q.1)).bind fun c=>.ok (.bl c,.mv [])
 |.chn op op' a b c,env=>(ev T a env).bind fun p=>(ev T b env).bind fun q=>(fS (iy op p.1 q.1)).bind fun k =>
   if k then (ev T c env).bind fun r=>(fS (iy op' q.1 r.1)).bind fun k'=>.ok (.bl k',.mv []) else .ok (.bl false,.mv [])
 |.and a b,env=>(ev T a env).bind fun p=>match p.1 with
  |.bl true=>ev T b env
  |.bl false=>.ok (.bl false,.mv [])
  |_=>.bad
 |.or a b,env=>(ev T a env).bind fun p=>match p.1 with
  |.bl true=>.ok (.bl true,.mv [])
  |.bl false=>ev T b env
  |_=>.bad
 |.not a,env=>(ev T a env).bind fun p=>match p.1 with
  |.bl k=>.ok (.bl (!k),.mv [])
  |_=>.bad
 |.ite c a b,env=>(ev T c env).bind fun p=>(fS (truth p.1)).bind fun k=>if k then ev T a env else ev T b env
 |.lst es,env=>(bE T es env).bind fun l=>if l.length<=lim then .ok (.lst (l.map (·.1)),mw (l.map (·.2))) else .bad
 |.tup es,env=>(bE T es env).bind fun l=>if l.length<=lim then .ok (.tup (l.map (·.1)),mw (l.map (·.2))) else .bad
 |.ix a i,env=>(ev T a env).bind fun p=>(ev T i env).bind fun q=>(fS (nH p.1 q.1)).bind fun d=>.ok (d,mf d p.2)
 |.sl a lo hi,env=>(ev T a env).bind fun p=>(jm T lo env).bind fun l=>(jm T hi env).bind fun h=>(fS (slD p.1 l h)).bind fun d=>.ok (d,gG d p.2.roots)
 |.call f es,env=>(bE T es env).bind fun l=>(T.cl f (l.map (·.1))).bind fun r=>.ok (r.1,if r.2 then .mv [] else .sh (aP (l.map (·.2))))
 |.blt b es,env=>(bE T es env).bind fun l=>(fS (mN b (l.map (·.1)))).bind fun d=>.ok (d,gG d (aP (l.map (·.2))))
 |.mth m o es,env=>(ev T o env).bind fun p=>(bE T es env).bind fun l=>(fS (mthD m p.1 (l.map (·.1)))).bind fun d=>.ok (d,gG d (p.2.roots++aP (l.map (·.2))))
 |.comp own pick t it c e,env=>(gW T it env).bind fun p=>(iZ (fun d=>iU (cF [] t d (eO env own pick)) (A0 T c) (ev T e)) p.1).bind fun l =>
    if p.1.length<=lim then .ok (.lst (l.map (·.1)),if l.all (fun q=>q.1.flat || ir q.2) then .mv [] else .sh (p.2++lj env pick)) else .bad
 |.dnew,_=>.ok (.mpi [],.mv [])
 |.ddsp l,_=>(fS (mD T.gl l [])).bind fun ks=>.ok (.mpi ks,.mv [])
 |.snoc a b,env=>(ev T a env).bind fun p=>(ev T b env).bind fun q=>(fS (sO p.1 q.1 q.2)).bind fun d=>.ok (d,.mv [])
noncomputable def bE (T:Tb):kB->En->Rs (List (D×Rt))
 |.nil,_=>.ok []
 |.cons e es,env=>(ev T e env).bind fun p=>(bE T es env).bind fun l=>.ok (p::l)
noncomputable def jm (T:Tb):kj->En->Rs (Option Int)
 |.none,_=>.ok none
 |.some e,env=>(ev T e env).bind fun p=>match p.1 with
  |.int i=>.ok (some i)
  |_=>.bad
noncomputable def A0 (T:Tb):kj->En->Rs Bool
 |.none,_=>.ok true
 |.some e,env=>(ev T e env).bind fun p=>fS (truth p.1)
noncomputable def gW (T:Tb):rW->En->Rs (List D×List Nat)
 |.seq e,env=>(ev T e env).bind fun p=>(fS (sR p.1)).bind fun l=>.ok (l,p.2.roots)
 |.rng1 a,env=>(ev T a env).bind fun p=>match p.1 with
  |.int j=>if eT j then .ok (aS 0 1 j.toNat,[]) else .bad
  |_=>.bad
 |.rng2 a b,env=>(ev T a env).bind fun p=>(ev T b env).bind fun q=>match p.1,q.1 with
  |.int i,.int j=>if eT i&&eT j then .ok (aS i 1 (j - i).toNat,[]) else .bad
  |_,_=>.bad
 |.rng3 a b c,env=>(ev T a env).bind fun p=>(ev T b env).bind fun q=>(ev T c env).bind fun r=>match p.1,q.1,r.1 with
  |.int i,.int j,.int k=>if eT i&&eT j&&k != 0&&decide (k.natAbs<1073741824) then .ok (aS i k (Builtin.Range.rangeSize i j k).toNat,[]) else .bad
  |_,_,_=>.bad
 |.enum e,env=>(ev T e env).bind fun p=>(fS (qc p.1)).bind fun l=>.ok (l.zipIdx.map fun q=>.tup [.int q.2,q.1],p.2.roots)
 |.zip a b,env=>(ev T a env).bind fun p=>(ev T b env).bind fun q=>(fS (xN p.1)).bind fun l=>(fS (qc q.1)).bind fun m=>.ok ((l.zip m).map fun z=>.tup [z.1,z.2],p.2.roots++q.2.roots)
 |.rev e,env=>(ev T e env).bind fun p=>(fS (xN p.1)).bind fun l=>.ok (l.reverse,p.2.roots)
end
noncomputable def D.at1:D->Option Int->Option (List D)
 |.lst xs,none=>some xs
 |.lst xs,some i=>(hW xs.length i).bind fun j=>match xs[j]? with
  | some (.lst ys)=>some ys
  |_=>none
 |.tup xs,some i=>(hW xs.length i).bind fun j=>match xs[j]? with
  | some (.lst ys)=>some ys
  |_=>none
 |_,_=>none
noncomputable def D.set1:D->Option Int->List D->D
 |.lst _,none,n=>.lst n
 |.lst xs,some i,n=>match hW xs.length i with
  |some j=>.lst (xs.set j (.lst n))
  |none=>.lst xs
 |.tup xs,some i,n=>match hW xs.length i with
  |some j=>.tup (xs.set j (.lst n))
  |none=>.tup xs
 |d,_,_=>d
noncomputable def qW:mO->List D->List D->Option (List D)
 |.append,xs,[d]=>some (xs ++ [d])
 |.extend,xs,[.lst ys]=>if D.flats ys then some (xs++ys) else none
 |.insert,xs,[.int i,d]=>if -(2 ^ 63)<=i/\i<2 ^ 63 then some (xs.take (bA xs.length 0 (some i))++d::xs.drop (bA xs.length 0 (some i))) else none
 |.pop,xs,[]=>if xs.isEmpty then none else some xs.dropLast
 |.reverse,xs,[]=>some xs.reverse
 |.clear,_,[]=>some []
 |_,_,_=>none
noncomputable def uw (xs:List D)(j:Nat):Option (D×List D):=match xs[j]? with
 |some r=>if r.flat then some (r,xs.eraseIdx j) else none
 |none=>none
noncomputable def BJ (xs:List D):List D->Option (D×List D)
 |[]=>uw xs (xs.length - 1)
 |[.int i]=>if -(2 ^ 63)<=i/\i<2 ^ 63 then (hW xs.length i).bind (uw xs) else none
 |_=>none
inductive Fl where
 | nx (env:En) | rt (d:D) (fr:Bool) | bk (env:En) | ct (env:En) | xc (e:Exc) (env:En) | bad
noncomputable def vO:Option En->Fl
 |some env=>.nx env
 |none=>.bad
noncomputable def qB (t:kE)(mv:Bool)(env:En)(p:D×Rt):Fl:=match t with
 |.nm i=>if i<env.length then (match p.2 with
  |.mv []=>.nx (put env i p.1 .own)
  |.mv R=>if mv then (if dG env R then .nx (put (kill R env) i p.1 .own) else .bad) else .nx (put env i p.1 (.sh (R.filter (· != i))))
  |.sh R=>.nx (put env i p.1 (.sh (R.filter (· != i))))) else .bad
 |.tp is=>match p.1 with
  |.tup ds=>match p.2 with
   |.mv []=>vO (bindM (fun _=>.own) is ds env)
   |r=>if is.all (fun i=>!r.roots.contains i) then vO (bindM (fun d=>cD d r.roots) is ds env) else .bad
  |_=>.bad
noncomputable def Fl.andThen (f:Fl)(k:En->Fl):Fl:=match f with
 |.nx env=>k env
 |x=>x
noncomputable def fH {α:Type}(env:En)(x:Rs α)(k:α->Fl):Fl:=match x with
 |.ok a=>k a
 |.exc e=>.xc e env
 |.bad=>.bad
noncomputable def bU (t:kE)(R:List Nat)(b:En->Fl):List D->En->Fl
 |[],env=>.nx env
 |d::r,env=>match cF R t d env with
  |none=>.bad
  |some env'=>match b env' with
   |.nx e=>bU t R b r e
   |.ct e=>bU t R b r e
   |.bk e=>.nx e
   |x=>x
noncomputable def yk (x:Nat)(b:En->Fl):List D->En->Fl
 |[],env=>.nx env
 |d::r,env=>if x<env.length then (match b (put env x d .own) with
  |.nx e=>yk x b r e
  |_=>.bad) else .bad
noncomputable def eJ (c:En->Rs Bool)(b:En->Fl):Nat->En->Fl
 |0,_=>.bad
 |n+1,env=>fH env (c env) fun k=>if k then (match b env with
   |.nx e=>eJ c b n e
   |.ct e=>eJ c b n e
   |.bk e=>.nx e
   |x=>x) else .nx env
noncomputable def lock (R:List Nat)(env:En):En:=env.mapIdx fun i (s:Slot)=>match s with
 | some (d,.own)=>if R.contains i then some (d,.lk) else some (d,.own)
 |s=>s
noncomputable def unlock (R:List Nat)(env0 env:En):En:=env.mapIdx fun i (s:Slot)=>match s with
 | some (d,.lk)=>match env0[i]? with
  | some (some (_,.own))=>if R.contains i then some (d,.own) else some (d,.lk)
  |_=>some (d,.lk)
 |s=>s
noncomputable def mO.copies:mO->Bool
 |.extend=>true
 |_=>false
noncomputable def fU (x:Nat)(path:Option Int)(env:En)(d:D)(ys:List D)(rs:List Rt):Fl:=match cU rs with
 |none=>.bad
 |some R=>if R.Nodup&&dG env R && !R.contains x&&decide (ys.length<=lim) then .nx ((kill (x::R) env).set x (some (d.set1 path ys,.own))) else .bad
noncomputable def ownAt (env:En)(x:Nat):Option D:=match env[x]? with
 | some (some (d,.own))=>some d
 |_=>none
noncomputable def Co (env:En)(x:Nat):En:=match ownAt env x with
 | some (.mpi ks)=>(kill [x] env).set x (some (.mpz ks,.own))
 |_=>env
noncomputable def augI:Operator->Int->Int->Option Int
 |.Add,i,j=>some (i+j)
 |.Sub,i,j=>some (i - j)
 |_,_,_=>none
noncomputable def augE (op:Operator)(x:Nat)(a:Int)(env:En)(p:D×Rt):Fl:=match p.1 with
 |.int b=>(match augI op a b with
  |some c=>qB (.nm x) false env (.int c,.mv [])
  |none=>.bad)
 |_=>.bad
noncomputable def intAt (env:En)(x:Nat):Option Int:=match env[x]? with
 | some (some (.int a,_))=>some a
 |_=>none
mutual
noncomputable def aY (T:Tb):St->En->Fl
 |.asg t e mv,env=>fH env (ev T e env) (qB t mv env)
 |.mut x path m es,env=>match ownAt env x with
  |none=>.bad
  |some d=>fH env (jm T path env) fun p=>match d.at1 p with
   |none=>.bad
   |some xs=>fH env (bE T es env) fun l=>match qW m xs (l.map (·.1)) with
    |none=>.bad
    |some ys=>if (aP (l.map (·.2))).contains x then .bad else fU x p env d ys (if m.copies then [] else l.map (·.2))
 |.putd x i v,env=>match ownAt env x with
  |none=>.bad
  |some d=>fH env (ev T v env) fun u=>fH env (ev T i env) fun q=>match vg d q.1 u.1 with
   |none=>.bad
   |some d'=>.nx ((kill [x] env).set x (some (d',.own)))
 |.setix x path i e,env=>match ownAt env x with
  |none=>.bad
  |some d=>fH env (ev T e env) fun v=>fH env (jm T path env) fun p=>match d.at1 p with
   |none=>.bad
   |some xs=>fH env (ev T i env) fun q=>match q.1 with
    |.int i=>(match hW xs.length i with
     |none=>.bad
     |some j=>fU x p env d (xs.set j v.1) [v.2])
    |_=>.bad
 |.aug x op e,env=>match intAt env x with
  |none=>.bad
  |some a=>fH env (ev T e env) (augE op x a env)
 |.popa y x es,env=>match ownAt env x with
  |none=>.bad
  |some d=>(match d.at1 none with
   |none=>.bad
   |some xs=>fH env (bE T es env) fun l=>match BJ xs (l.map (·.1)) with
    |none=>.bad
    |some q=>(fU x none env d q.2 []).andThen fun e=>qB (.nm y) false e (q.1,.mv []))
 |.apop y x es,env=>if y=x then .bad else match ownAt env x with
  |none=>.bad
  |some d=>(match d.at1 none with
   |none=>.bad
   |some xs=>fH env (bE T es env) fun l=>match BJ xs (l.map (·.1)) with
    |none=>.bad
    |some q=>(fU x none env d q.2 []).andThen fun e=>match ownAt e y with
     |none=>.bad
     |some dy=>(match dy.at1 none with
      |none=>.bad
      |some ys=>fU y none e dy (ys ++ [q.1]) []))
 |.frzd x s,env=>aY T s (Co env x)
 |.expr e,env=>fH env (ev T e env) fun _=>.nx env
 |.ite c a b,env=>fH env (ev T c env) fun p=>match truth p.1 with
  |some true=>aF T a env
  |some false=>aF T b env
  |none=>.bad
 |.forr t it b,env=>fH env (gW T it env) fun p=>(match bU t p.2 (aF T b) p.1 (lock p.2 env) with
  |.nx e=>.nx (unlock p.2 env e)
  |x=>x)
 |.forw x e b,env=>fH env (ev T e env) fun p=>match p with
  | (.lst xs,.mv [])=>yk x (aF T b) xs env
  |_=>.bad
 |.whl c b,env=>eJ (fun env=>(ev T c env).bind fun p=>fS (truth p.1)) (aF T b) T.fuel env
 |.ret e,env=>fH env (ev T e env) fun p=>.rt p.1 (match p.2 with
  |.mv R=>dG env R
  |.sh _=>false)
 |.retN,_=>.rt .non true
 |.brk,env=>.bk env
 |.cnt,env=>.ct env
 |.pass,env=>.nx env
noncomputable def aF (T:Tb):cG->En->Fl
 |.nil,env=>.nx env
 |.cons s r,env=>(aY T s env).andThen (aF T r)
end
structure Fn where
 ps:Nat
 slots:Nat
 body:cG
noncomputable def aO (ds:List D)(n:Nat):En:=ds.map (fun d=>some (d,cD d []))++List.replicate (n - ds.length) none
noncomputable def run (fns:List Fn)(gl:Nat->D)(fuel:Nat):Nat->Nat->List D->Rs (D×Bool)
 |0,_,_=>.bad
 |n+1,f,ds=>match fns[f]? with
  |none=>.bad
  |some F=>if ds.length=F.ps then (match aF ⟨run fns gl fuel n,gl,fuel⟩ F.body (aO ds F.slots) with
   |.rt d fr=>.ok (d,fr)
   |.nx _=>.ok (.non,true)
   |.xc e _=>.exc e
   |_=>.bad) else .bad
end Pc
end
section
namespace Pc
open PySem L2
noncomputable abbrev Frag:=PySem.W.Frag
inductive fP:List DictEntry->List (Key×Option Int)->Prop where
 | nil:fP [] []
 | cons {e:DictEntry}{es:List DictEntry}{k v:Int}{kvs:List (Key×Option Int)}{t u:Tok}(hh:e.hash=hashInt k) (hk:e.key = .int k t) (hv:e.val = .int v u) (r:fP es kvs):fP (e::es) ((.inl k,some v)::kvs)
 | si {e:DictEntry}{es:List DictEntry}{k:Str}{v:Int}{kvs:List (Key×Option Int)}{t u:Tok}(hk:e.key = .str k t) (hv:e.val = .int v u) (r:fP es kvs):fP (e::es) ((.inr k,some v)::kvs)
 | sn {e:DictEntry}{es:List DictEntry}{k:Str}{kvs:List (Key×Option Int)}{t:Tok}(hk:e.key = .str k t) (hv:e.val = .none) (r:fP es kvs):fP (e::es) ((.inr k,none)::kvs)
def oN (K:Frag)(a:Addr)(kvs:List (Key×Option Int)):Prop:=∃ o es ep,K.lookup a=some o/\o.ExactDict/\o.data = .dict es ep/\fP es.toList kvs/\(kvs.map (·.1)).Nodup
def vm (w:World)(K:Frag):Prop:=∀ a o es ep,K.lookup a=some o->o.data = .dict es ep->∀ kvs,fP es.toList kvs->∀ e∈es.toList,∀ s t,e.key = .str s t->(a==sysModules)=false/\e.hash=hashStr w s
inductive ML where
 | l (vs:List V) | k (kvs:List (Key×V)) | t (kvs:List (List Key×V))
noncomputable def ML.o:ML->HO
 |.l vs=>.lst vs
 |.k kvs=>.dK kvs
 |.t kvs=>.dT kvs
noncomputable def lN (ks:List (List Int)):List (List Key×V):=ks.map fun k=>(k.map .inl,.bl true)
noncomputable def ua:List V->Bool
 |[.int _,.int _]=>true
 |_=>false
noncomputable def iX (K:Frag)(H:Hp)(a:Addr)(xs:List V):Prop :=
 H a=some (.tup xs) \/
  ua xs=false/\∃(o:Obj) (its:Array Value) (n:Nat),K.lookup a=some o/\o.cls = .type "tuple"/\o.data = .seq its n/\its.size<=sizeLine/\aL xs its.toList
noncomputable def nI (K:Frag)(H:Hp):MV->V->Prop
 |.tr,v=>v = .bl true
 |.int i,v=>v = .int i
 |.tup is,v=>∃ b,v = .ref b/\iX K H b (is.map .int)
noncomputable def gX (K:Frag)(H:Hp):List (Int×MV)->List (Key×V)->Prop
 |[],[]=>True
 |q::r,p::s=>p.1 = .inl q.1/\nI K H q.2 p.2/\gX K H r s
 |_,_=>False
theorem nI.keep {K:Frag}{H H':Hp}(t:∀ b vs,iX K H b vs->iX K H' b vs):∀{m:MV}{v:V},nI K H m v->nI K H' m v
 |.tr,_,h=>h
 |.int _,_,h=>h
 |.tup _,_,⟨b,e,h⟩=>⟨b,e,t _ _ h⟩
theorem gX.keep {K:Frag}{H H':Hp}(t:∀ b vs,iX K H b vs->iX K H' b vs):∀{q:List (Int×MV)}{x:List (Key×V)},gX K H q x->gX K H' q x
 |[],[],h=>h
 |_::_,_::_,⟨a,b,c⟩=>⟨a,b.keep t,c.keep t⟩
 |[],_::_,h=>h.elim
 |_::_,[],h=>h.elim
theorem gX.len {K:Frag}{H:Hp}:∀{q:List (Int×MV)}{x:List (Key×V)},gX K H q x->x.length=q.length
 |[],[],_=>rfl
 |_::_,_::_,⟨_,_,c⟩=>by rw[ag,ag,c.len]
 |[],_::_,h=>h.elim
 |_::_,[],h=>h.elim
theorem iX.sq {K:Frag}{H:Hp}{a:Addr}{xs:List V}(h:iX K H a xs):iq K H a xs:=h.imp .inl And.right
mutual
inductive Rep (K:Frag) (H:Hp):D->V->List Addr->Prop where
 | non:Rep K H .non .non []
 | bl (b:Bool):Rep K H (.bl b) (.bl b) []
 | int (i:Int):Rep K H (.int i) (.int i) []
 | str (s:Str):Rep K H (.str s) (.str s) []
 | lst {p:Addr}{vs:List V}{ds:List D}{G:List Addr}(h:Rd H p (.lst vs)) (r:aG K H ds vs G):Rep K H (.lst ds) (.ref p) (p::G)
 | tup {p:Addr}{vs:List V}{ds:List D}{G:List Addr}(h:iX K H p vs) (r:aG K H ds vs G):Rep K H (.tup ds) (.ref p) G
 | dct {p:Addr}{kvs:List (Key×Option Int)}(h:oN K p kvs):Rep K H (.dct kvs) (.ref p) []
 | mpi {p:Addr}{ks:List (Int×MV)}{xs:List (Key×V)}(h:H p=some (.dK xs)) (r:gX K H ks xs):Rep K H (.mpi ks) (.ref p) [p]
 | mpt {p:Addr}{ks:List (List Int)}(h:Rd H p (.dT (lN ks))):Rep K H (.mpt ks) (.ref p) [p]
 | mpz {p:Addr}{ks:List (Int×MV)}{xs:List (Key×V)}{o:Obj}(h:H p=some (.frz o (.dK xs))) (r:gX K H ks xs):Rep K H (.mpz ks) (.ref p) []
inductive aG (K:Frag) (H:Hp):List D->List V->List Addr->Prop where
 | nil:aG K H [] [] []
 | cons {d:D}{v:V}{ds:List D}{vs:List V}{G G':List Addr}(h:Rep K H d v G) (r:aG K H ds vs G'):aG K H (d::ds) (v::vs) (G++G')
end
theorem pX {H H':Hp}{b:Addr}(k:∀ u:HO,H b=some u->H' b=some u){o:HO}(h:Rd H b o):Rd H' b o:=by
 rcases h with h | ⟨u,h⟩
 ·exact .inl (k _ h)
 ·exact .inr ⟨u,k _ h⟩
def Cs (H H':Hp):Prop:=∀ b o u,H b=some (.frz o u)->H' b=some (.frz o u)
section
variable {K:Frag}{H H':Hp}
theorem Rep.keep (t:∀ b vs,iX K H b vs->iX K H' b vs)(z:Cs H H'){d:D}{v:V}{G:List Addr}(h:Rep K H d v G):(∀ b∈G,∀ u:HO,H b=some u->H' b=some u)->Rep K H' d v G :=
 Rep.rec (motive_1:=fun d v G _=>(∀ b∈G,∀ u:HO,H b=some u->H' b=some u)->Rep K H' d v G) (motive_2:=fun ds vs G _=>(∀ b∈G,∀ u:HO,H b=some u->H' b=some u)->aG K H' ds vs G)
  (fun _=>.non) (fun b _=>.bl b) (fun i _=>.int i) (fun s _=>.str s) (fun h _ ih k=>.lst (pX (k _ ao) h) (ih fun b hb=>k b (ak _ hb)))
  (fun h _ ih k=>.tup (t _ _ h) (ih k)) (fun h _=>.dct h) (fun h r k=>.mpi (k _ ao _ h) (r.keep t)) (fun h k=>.mpt (pX (k _ ao) h)) (fun h r _=>.mpz (z _ _ _ h) (r.keep t))
  (fun _=>.nil) (fun _ _ i1 i2 k=>.cons (i1 fun b hb=>k b (ay _ hb)) (i2 fun b hb=>k b (ai _ hb))) h
theorem aG.keep (t:∀ b vs,iX K H b vs->iX K H' b vs)(z:Cs H H'){ds:List D}{vs:List V}{G:List Addr}(h:aG K H ds vs G):(∀ b∈G,∀ u:HO,H b=some u->H' b=some u)->aG K H' ds vs G :=
 aG.rec (motive_1:=fun d v G _=>True) (motive_2:=fun ds vs G _=>(∀ b∈G,∀ u:HO,H b=some u->H' b=some u)->aG K H' ds vs G)
  trivial (fun _=>trivial) (fun _=>trivial) (fun _=>trivial) (fun _ _ _=>trivial) (fun _ _ _=>trivial) (fun _=>trivial) (fun _ _=>trivial) (fun _=>trivial) (fun _ _=>trivial)
  (fun _=>.nil) (fun h _ _ i2 k=>.cons (Rep.keep t z h fun b hb=>k b (ay _ hb)) (i2 fun b hb=>k b (ai _ hb))) h
theorem aI.rd (e:aI H H'){b:Addr}{o:HO}(h:Rd H b o):Rd H' b o:=by
 rcases h with h | ⟨u,h⟩
 ·exact .inl (e _ _ h)
 ·exact .inr ⟨u,e _ _ h⟩
theorem aI.tqT (e:aI H H'){b:Addr}{vs:List V}(h:iX K H b vs):iX K H' b vs:=by
 rcases h with h | h
 ·exact .inl (e _ _ h)
 ·exact .inr h
theorem Rep.same (e:aI H H'){d:D}{v:V}{G:List Addr}(h:Rep K H d v G):Rep K H' d v G:=h.keep (fun _ _=>aI.tqT e) (fun _ _ _ h=>e _ _ h) fun _ _ _ h=>e _ _ h
theorem aG.same (e:aI H H'){d:List D}{v:List V}{G:List Addr}(h:aG K H d v G):aG K H' d v G:=h.keep (fun _ _=>aI.tqT e) (fun _ _ _ h=>e _ _ h) fun _ _ _ h=>e _ _ h
theorem Rep.flat {d:D}{v:V}{G:List Addr}(h:Rep K H d v G):d.flat=true->G=[] :=
 Rep.rec (motive_1:=fun d v G _=>d.flat=true->G=[]) (motive_2:=fun ds vs G _=>D.flats ds=true->G=[])
  (fun _=>rfl) (fun _ _=>rfl) (fun _ _=>rfl) (fun _ _=>rfl) (fun _ _ _ f=>by simp[D.flat] at f) (fun _ _ ih f=>ih (by simpa[D.flat] using f)) (fun _ _=>rfl) (fun _ _ f=>by simp[D.flat] at f) (fun _ f=>by simp[D.flat] at f) (fun _ _ _=>rfl)
  (fun _=>rfl) (fun _ _ i1 i2 f=>by
   simp only[D.flats,Bool.and_eq_true] at f;rw[i1 f.1,i2 f.2];rfl) h
theorem aG.flat {ds:List D}{vs:List V}{G:List Addr}(h:aG K H ds vs G):D.flats ds=true->G=[] :=
 aG.rec (motive_1:=fun d v G _=>True) (motive_2:=fun ds vs G _=>D.flats ds=true->G=[])
  trivial (fun _=>trivial) (fun _=>trivial) (fun _=>trivial) (fun _ _ _=>trivial) (fun _ _ _=>trivial) (fun _=>trivial) (fun _ _=>trivial) (fun _=>trivial) (fun _ _=>trivial)
  (fun _=>rfl) (fun h _ _ i2 f=>by
   simp only[D.flats,Bool.and_eq_true] at f;rw[Rep.flat h f.1,i2 f.2];rfl) h
theorem Rep.live {d:D}{v:V}{G:List Addr}(h:Rep K H d v G):∀ a∈G,∃ vs:ML,Rd H a vs.o :=
 Rep.rec (motive_1:=fun d v G _=>∀ a∈G,∃ vs:ML,Rd H a vs.o) (motive_2:=fun ds vs G _=>∀ a∈G,∃ vs:ML,Rd H a vs.o)
  (fun _ h=>(nomatch h)) (fun _ _ h=>(nomatch h)) (fun _ _ h=>(nomatch h)) (fun _ _ h=>(nomatch h)) (fun h _ ih a m=>(gp.mp m).elim (fun e=>e ▸ ⟨.l _,h⟩) (ih a)) (fun _ _ ih=>ih) (fun _ _ h=>(nomatch h))
  (fun h _ a m=>(gh.mp m) ▸ ⟨.k _,.inl h⟩) (fun h a m=>(gh.mp m) ▸ ⟨.t _,h⟩) (fun _ _ _ h=>(nomatch h))
  (fun _ h=>(nomatch h)) (fun _ _ i1 i2 a m=>(List.mem_append.mp m).elim (i1 a) (i2 a)) h
theorem aG.live {ds:List D}{vs:List V}{G:List Addr}(h:aG K H ds vs G):∀ a∈G,∃ vs:ML,Rd H a vs.o :=
 aG.rec (motive_1:=fun d v G _=>True) (motive_2:=fun ds vs G _=>∀ a∈G,∃ vs:ML,Rd H a vs.o)
  trivial (fun _=>trivial) (fun _=>trivial) (fun _=>trivial) (fun _ _ _=>trivial) (fun _ _ _=>trivial) (fun _=>trivial) (fun _ _=>trivial) (fun _=>trivial) (fun _ _=>trivial)
  (fun _ h=>(nomatch h)) (fun h _ _ i2 a m=>(List.mem_append.mp m).elim (Rep.live h a) (i2 a)) h
theorem Rd.ne_none {a:Addr}{u:HO}(h:Rd H a u):H a≠none:=by
 rcases h with h | ⟨o,h⟩<;>rw[h]<;>simp
theorem Rep.nn {d:D}{v:V}{G:List Addr}(h:Rep K H d v G){a:Addr}(m:a∈G):H a≠none:=let ⟨_,q⟩:=h.live a m;Rd.ne_none q
theorem aG.nn {d:List D}{v:List V}{G:List Addr}(h:aG K H d v G){a:Addr}(m:a∈G):H a≠none:=let ⟨_,q⟩:=h.live a m;Rd.ne_none q
theorem aG.len:∀{ds:List D}{vs:List V}{G:List Addr},aG K H ds vs G->ds.length=vs.length
 |_,_,_,.nil=>rfl
 |_,_,_,.cons _ r=>by simp[aG.len r]
theorem aG.get:∀{ds:List D}{vs:List V}{G:List Addr}{i:Nat}{d:D},aG K H ds vs G->ds[i]? = some d->∃ v G',vs[i]? = some v/\Rep K H d v G'/\G'.Sublist G
 |_,_,_,_,_,.nil,e=>by simp at e
 | _,_,_,0,_,.cons h r,e=>by
  simp at e;subst e;exact⟨_,_,rfl,h,List.sublist_append_left _ _⟩
 | _,_,_,i+1,d,.cons h r,e=>by
  obtain⟨v,G',a,b,c⟩:=aG.get (i:=i) (d:=d) r (by simpa using e);exact⟨v,G',by simpa using a,b,c.trans (List.sublist_append_right _ _)⟩
theorem aG.append:∀{ds es:List D}{vs us:List V}{G G':List Addr},aG K H ds vs G->aG K H es us G'->aG K H (ds++es) (vs++us) (G++G')
 |_,_,_,_,_,_,.nil,s=>s
 | _,_,_,_,_,_,.cons h r,s=>by
  rw[ef];exact .cons h (aG.append r s)
theorem aG.take:∀{ds:List D}{vs:List V}{G:List Addr}(n:Nat),aG K H ds vs G->∃ G',aG K H (ds.take n) (vs.take n) G'/\G'.Sublist G
 |_,_,_,0,_=>⟨[],by simpa using .nil,by simp⟩
 |_,_,_,_+1,.nil=>⟨[],by simpa using .nil,by simp⟩
 | _,_,_,n+1,.cons h r=>by
  obtain⟨G',a,b⟩:=aG.take n r;exact⟨_,by simpa using .cons h a,List.Sublist.append (List.Sublist.refl _) b⟩
theorem aG.drop:∀{ds:List D}{vs:List V}{G:List Addr}(n:Nat),aG K H ds vs G->∃ G',aG K H (ds.drop n) (vs.drop n) G'/\G'.Sublist G
 |_,_,_,0,r=>⟨_,by simpa using r,List.Sublist.refl _⟩
 |_,_,_,_+1,.nil=>⟨[],by simpa using .nil,by simp⟩
 | _,_,_,n+1,.cons h r=>by
  obtain⟨G',a,b⟩:=aG.drop n r;exact⟨_,by simpa using a,b.trans (List.sublist_append_right _ _)⟩
theorem aG.split:∀{ds:List D}{vs:List V}{G:List Addr}{i:Nat}{d:D},aG K H ds vs G->ds[i]? = some d->∃ v G1 G' G2,vs[i]? = some v/\G=G1++(G'++G2)/\Rep K H d v G' /\
  ∀(H':Hp) (d':D) (v':V) (N:List Addr),(∀ b vs,iX K H b vs->iX K H' b vs)->Cs H H'->(∀ b∈G1++G2,∀ u:HO,H b=some u->H' b=some u)->Rep K H' d' v' N->aG K H' (ds.set i d') (vs.set i v') (G1++(N++G2))
 |_,_,_,_,_,.nil,e=>by simp at e
 | _,_,_,0,_,.cons (G:=G) (G':=G') h r,e=>by
  simp at e;subst e;refine⟨_,[],_,_,rfl,rfl,h,fun H' d' v' N t z k n=>?_⟩;show aG K H' (_::_) (_::_) (N++G');exact .cons n (r.keep t z fun b hb=>k b (by simpa using hb))
 | _,_,_,i+1,d,.cons (G:=G) (G':=G') h r,e=>by
  obtain⟨v,G1,Gi,G2,a,b,c,f⟩:=aG.split (i:=i) (d:=d) r (by simpa using e);refine⟨v,G++G1,Gi,G2,by simpa using a,by rw[b];simp,c,fun H' d' v' N t z k n=>?_⟩;have q:=aG.cons (h.keep t z fun b hb=>k b (by simp[hb])) (f H' d' v' N t z (fun b hb=>k b (by simp at hb ⊢;exact Or.inr hb)) n);rw[<-ef] at q;exact q
end
noncomputable def aV:Tg->Bool
 |.own=>true
 |.lk=>true
 |.sh _=>false
structure RE (K:Frag)(P:Addr->Prop)(env:En)(σ:L2.St)(H:Hp)(F:Nat->List Addr):Prop where
 len:env.length=σ.length
 val:∀ i d t,env[i]? = some (some (d,t))->∃ v,σ[i]? = some (some v)/\Rep K H d v (F i)
 emp:∀ i,(∀ d t,env[i]?≠some (some (d,t)))->F i=[]
 one:∀ i d t,env[i]? = some (some (d,t))->aV t=true->(F i).Nodup/\(∀ a∈F i,∃ vs:ML,H a=some vs.o) /\
  ∀ a∈F i,∀ j d' t',env[j]? = some (some (d',t'))->a∈F j->i∈aT j t'
 wr:∀ i d,env[i]? = some (some (d,.own))->∀ a∈F i,¬ P a
 pl:∀ a,P a->H a≠none
structure bB (env:En)(F:Nat->List Addr)(H:Hp)(r:Rt)(H':Hp)(G:List Addr):Prop where
 cont:∀ a∈G,H a=none\/∃ i d t,a∈F i/\env[i]? = some (some (d,t))/\∀ q∈aT i t,q∈r.roots
 mv:∀ R,r = .mv R->G.Nodup/\(∀ a∈G,∃ vs:ML,H' a=some vs.o)/\∀ a∈G,H a=none\/∃ i d t,i∈R/\a∈F i/\env[i]? = some (some (d,t))/\aV t=true
theorem bB.nil {env:En}{F:Nat->List Addr}{H H':Hp}{r:Rt}:bB env F H r H' []:=⟨fun _ h=>(nomatch h),fun _ _=>⟨cj,fun _ h=>(nomatch h),fun _ h=>(nomatch h)⟩⟩
theorem RE.same {K:Frag}{P:Addr->Prop}{env:En}{σ:L2.St}{H H':Hp}{F:Nat->List Addr}(r:RE K P env σ H F)(e:aI H H'):RE K P env σ H' F where
 len:=r.len
 val:=fun i d t h=>let ⟨v,a,b⟩:=r.val i d t h;⟨v,a,b.same e⟩
 emp:=r.emp
 one:=fun i d t h o=>let ⟨a,b,c⟩:=r.one i d t h o;⟨a,fun x hx=>let ⟨vs,q⟩:=b x hx;⟨vs,e _ _ q⟩,c⟩
 wr:=r.wr
 pl:=fun a h z=>by
  cases q:H a with
  |none=>exact r.pl a h q
  |some o=>rw[e _ _ q] at z;cases z
theorem aI.no {H H':Hp}(e:aI H H'){a:Addr}(h:H' a=none):H a=none:=by
 cases q:H a with
 |none=>rfl
 |some o=>rw[e _ _ q] at h;cases h
theorem bB.back {env:En}{F:Nat->List Addr}{H H1 H':Hp}{r:Rt}{G:List Addr}(h:bB env F H1 r H' G)(e:aI H H1):bB env F H r H' G where
 cont:=fun a ha=>(h.cont a ha).imp (aI.no e) id
 mv:=fun R hr=>let ⟨a,b,c⟩:=h.mv R hr;⟨a,b,fun x hx=>(c x hx).imp (aI.no e) id⟩
theorem bB.later {env:En}{F:Nat->List Addr}{H H1 H':Hp}{r:Rt}{G:List Addr}(h:bB env F H r H1 G)(e:aI H1 H'):bB env F H r H' G where
 cont:=h.cont
 mv:=fun R hr=>let ⟨a,b,c⟩:=h.mv R hr;⟨a,fun x hx=>let ⟨vs,q⟩:=b x hx;⟨vs,e _ _ q⟩,c⟩
theorem bB.part {env:En}{F:Nat->List Addr}{H H':Hp}{r r':Rt}{G G':List Addr}(h:bB env F H r H' G)(hs:∀ a∈G',a∈G)(hr:∀ q∈r.roots,q∈r'.roots)(hn:∀ R,r'≠.mv R):bB env F H r' H' G' where
 cont:=fun a ha=>(h.cont a (hs a ha)).imp id fun ⟨i,d,t,x,y,z⟩=>⟨i,d,t,x,y,fun q hq=>hr q (z q hq)⟩
 mv:=fun R e=>absurd e (hn R)
noncomputable def nr (F:Nat->List Addr)(i:Nat)(G:List Addr):Nat->List Addr:=fun j=>if j=i then G else F j
theorem cX {F:Nat->List Addr}{i:Nat}{G:List Addr}:nr F i G i=G:=if_pos rfl
theorem cR {F:Nat->List Addr}{i j:Nat}{G:List Addr}(h:j≠i):nr F i G j=F j:=if_neg h
theorem n8 (env:En)(i:Nat)(d:D)(t:Tg):(put env i d t).length=env.length:=by simp[put]
theorem cQ {env:En}{i:Nat}{d:D}{t:Tg}(h:i<env.length):(put env i d t)[i]? = some (some (d,t)):=by
 unfold put;rw[List.getElem?_set_self (by simpa using h)]
theorem sf {env:En}{i j:Nat}{d:D}{t:Tg}(h:j≠i):(put env i d t)[j]? = (env[j]?).map fun s=>s.map fun p=>(p.1,p.2.drop i):=by
 unfold put;rw[List.getElem?_set_ne (cz h),List.getElem?_map]
theorem fR {env:En}{i j:Nat}{d d':D}{t t':Tg}(h:j≠i)(e:(put env i d t)[j]? = some (some (d',t'))):∃ t0,env[j]? = some (some (d',t0))/\t'=t0.drop i:=by
 rw[sf h] at e;cases q:env[j]? with
 |none=>rw[q] at e;cases e
 |some s =>
  rw[q] at e;cases s with
  |none=>cases e
  |some p =>
   obtain⟨a,b⟩:=p;simp only[Option.map_some,Option.some.injEq,Prod.mk.injEq] at e;obtain⟨rfl,rfl⟩:=e;exact⟨b,rfl,rfl⟩
theorem je (t:Tg)(i:Nat):aV (t.drop i)=aV t:=by cases t<;>rfl
theorem jo {t:Tg}{i j k:Nat}(h:k∈aT j t)(hk:k≠i):k∈aT j (t.drop i):=by
 cases t with
 |own=>exact h
 |lk=>exact h
 |sh R =>
  simp only[aT,Tg.drop,List.mem_filter] at h ⊢;exact⟨h,by simpa using hk⟩
section
variable {K:Frag}{P:Addr->Prop}{env:En}{σ:L2.St}{H:Hp}{F:Nat->List Addr}
theorem RE.nn (re:RE K P env σ H F){j:Nat}{d:D}{t:Tg}(h:env[j]? = some (some (d,t))){a:Addr}(m:a∈F j):H a≠none:=let ⟨_,_,r⟩:=re.val j d t h;r.nn m
theorem RE.at' (re:RE K P env σ H F){j:Nat}{a:Addr}(m:a∈F j):∃ d t,env[j]? = some (some (d,t)):=by
 by_cases h:∃ d t,env[j]? = some (some (d,t))
 ·exact h
 ·rw[re.emp j fun d t e=>h ⟨d,t,e⟩] at m;cases m
theorem RE.put (re:RE K P env σ H F){i:Nat}{d:D}{v:V}{G:List Addr}{t:Tg}(hi:i<env.length)(rp:Rep K H d v G)
  (ho:aV t=true->G.Nodup/\(∀ a∈G,∃ vs:ML,H a=some vs.o)/\∀ a∈G,∀ j,j≠i->a∉F j) (hw:t = .own->∀ a∈G,¬ P a)
  (hs:∀ a∈G,∀ j d' t',j≠i->env[j]? = some (some (d',t'))->aV t'=true->a∈F j->j∈aT i t):RE K P (put env i d t) (σ.set i (some v)) H (nr F i G) where
 len:=by rw[n8,f9];exact re.len
 val:=fun j d' t' e=>by
  by_cases h:j=i
  ·subst h;rw[cQ hi] at e;cases e;exact⟨v,List.getElem?_set_self (by rw[<-re.len];exact hi),by rw[cX];exact rp⟩
  ·obtain⟨t0,e0,rfl⟩:=fR h e;obtain⟨u,a,b⟩:=re.val j d' t0 e0;exact⟨u,by rw[List.getElem?_set_ne (cz h)];exact a,by rw[cR h];exact b⟩
 emp:=fun j h=>by
  by_cases hj:j=i
  ·subst hj;exact absurd (cQ hi) (h d t)
  ·rw[cR hj];refine re.emp j fun d' t' e=>h d' (t'.drop i) ?_
   rw[sf hj,e];rfl
 one:=fun j d' t' e o=>by
  by_cases h:j=i
  ·subst h;rw[cQ hi] at e;cases e;obtain⟨a,b,c⟩:=ho o;rw[cX];refine⟨a,b,fun x hx k d2 t2 e2 m=>?_⟩;by_cases hk:k=j
   ·subst hk;rw[cQ hi] at e2;cases e2;cases t<;>simp_all [aT,aV]
   ·rw[cR hk] at m;exact absurd m (c x hx k hk)
  ·obtain⟨t0,e0,rfl⟩:=fR h e;rw[je] at o;obtain⟨a,b,c⟩:=re.one j d' t0 e0 o;rw[cR h];refine⟨a,b,fun x hx k d2 t2 e2 m=>?_⟩;by_cases hk:k=i
   ·subst hk;rw[cQ hi] at e2;cases e2;rw[cX] at m;exact hs x m j d' t0 h e0 o hx
   ·rw[cR hk] at m;obtain⟨t3,e3,rfl⟩:=fR hk e2;exact jo (c x hx k d2 t3 e3 m) h
 wr:=fun j d' e=>by
  by_cases h:j=i
  ·subst h;rw[cQ hi] at e;cases e;rw[cX];exact hw rfl
  ·obtain⟨t0,e0,q⟩:=fR h e;rw[cR h];cases t0 with
   |own=>exact re.wr j d' e0
   |lk=>cases q
   |sh R=>cases q
 pl:=re.pl
theorem RE.forget (re:RE K P env σ H F){env':En}(hl:env'.length=env.length)(he:∀(i:Nat) (d:D) (t:Tg),env'[i]? = some (some (d,t))->env[i]? = some (some (d,t))) :
  RE K P env' σ H (fun i=>match env'[i]? with | some (some _)=>F i | _=>[]) where
 len:=hl.trans re.len
 val:=fun i d t e=>by rw[e];exact re.val i d t (he i d t e)
 emp:=fun i h=>by
  split
  ·rename_i p q;exact absurd q (h p.1 p.2)
  ·rfl
 one:=fun i d t e o=>by
  rw[e];obtain⟨a,b,c⟩:=re.one i d t (he i d t e) o;refine⟨a,b,fun x hx k d2 t2 e2 m=>?_⟩;rw[e2] at m;exact c x hx k d2 t2 (he k d2 t2 e2) m
 wr:=fun i d e=>by rw[e];exact re.wr i d (he i d _ e)
 pl:=re.pl
end
theorem bX (R:List Nat)(env:En):(kill R env).length=env.length:=by simp[kill]
theorem bO {R:List Nat}{env:En}{i:Nat}{d:D}{t:Tg}(e:(kill R env)[i]? = some (some (d,t))):env[i]? = some (some (d,t))/\i∉R/\∀ q∈R,q∉aT i t:=by
 unfold kill at e;rw[List.getElem?_mapIdx] at e;cases q:env[i]? with
 |none=>rw[q] at e;cases e
 |some s =>
  rw[q] at e;cases s with
  |none=>cases e
  |some p =>
   obtain⟨a,b⟩:=p;simp only[Option.map_some,Option.some.injEq] at e;by_cases h:(R.contains i || gU R b)=true
   ·rw[if_pos h] at e;cases e
   ·rw[if_neg h] at e;cases e;rw[ft,not_or] at h;have h1:i∉R:=fun z=>h.1 (by simpa using z)
    refine⟨rfl,h1,fun r hq z=>?_⟩;cases t with
    |own=>simp only[aT,List.mem_singleton] at z;subst z;exact h1 hq
    |lk=>simp only[aT,List.mem_singleton] at z;subst z;exact h1 hq
    |sh Q =>
     apply h.2;simp only[gU,List.any_eq_true];exact⟨r,z,by simpa using hq⟩
section
variable {K:Frag}{P:Addr->Prop}{env:En}{σ:L2.St}{H:Hp}{F:Nat->List Addr}
theorem iJ {p b:Addr}{ws vs:List V}{o:HO}(hp:H p=some (.lst ws))(h:iX K H b vs):iX K (upd H p o) b vs:=by
 rcases h with h | h
 ·exact .inl (by rw[aJ];exact h;intro z;subst z;rw[hp] at h;cases h)
 ·exact .inr h
theorem rT {p b:Addr}{ws:ML}{vs:List V}{o:HO}(hp:H p=some ws.o)(h:iX K H b vs):iX K (upd H p o) b vs:=by
 rcases h with h | h
 ·exact .inl (by rw[aJ];exact h;intro z;subst z;rw[hp] at h;cases ws<;>cases h)
 ·exact .inr h
theorem Am {p b:Addr}{o o':HO}(hne:b≠p)(h:Rd H b o):Rd (upd H p o') b o:=by
 rcases h with h | ⟨u,h⟩
 ·exact .inl (by rw[aJ hne];exact h)
 ·exact .inr ⟨u,by rw[aJ hne];exact h⟩
theorem ig {H:Hp}{p:Addr}{ws:ML}{o:HO}(hp:H p=some ws.o):Cs H (L2.upd H p o):=fun b ob u h=>by
 rw[aJ fun e=>?_]
 ·exact h
 ·subst e;rw[hp] at h;cases ws<;>cases h
theorem Rep.upd {p:Addr}{ws:List V}{o:HO}{d:D}{v:V}{G:List Addr}(hp:H p=some (.lst ws))(h:Rep K H d v G)(hn:p∉G):Rep K (upd H p o) d v G :=
 h.keep (fun _ _=>iJ hp) (ig (ws:=.l _) hp) fun b hb _ h=>(aJ (fun (z:b=p)=>hn (z ▸ hb))).trans h
theorem Rep.updM {p:Addr}{ws:ML}{o:HO}{d:D}{v:V}{G:List Addr}(hp:H p=some ws.o)(h:Rep K H d v G)(hn:p∉G):Rep K (L2.upd H p o) d v G :=
 h.keep (fun _ _=>rT hp) (ig hp) fun b hb _ h=>(aJ (fun (z:b=p)=>hn (z ▸ hb))).trans h
theorem aG.upd {p:Addr}{ws:List V}{o:HO}{d:List D}{v:List V}{G:List Addr}(hp:H p=some (.lst ws))(h:aG K H d v G)(hn:p∉G):aG K (upd H p o) d v G :=
 h.keep (fun _ _=>iJ hp) (ig (ws:=.l _) hp) fun b hb _ h=>(aJ (fun (z:b=p)=>hn (z ▸ hb))).trans h
noncomputable def kq (F:Nat->List Addr)(env:En)(x:Nat)(R:List Nat)(G:List Addr):Nat->List Addr:=fun j=>if j=x then G else match (kill (x::R) env)[j]? with
 | some (some _)=>F j
 |_=>[]
theorem RE.mutateM (re:RE K P env σ H F){x:Nat}{d d':D}{v:V}{p:Addr}{vs:ML}{R:List Nat}{N G:List Addr}(hx:env[x]? = some (some (d,.own)))(hv:σ[x]? = some (some v))(hp:p∈F x)
  (rp:Rep K (upd H p vs.o) d' v G) (nd:G.Nodup) (sub:∀ a∈G,a∈F x\/a∈N)
  (hN:∀ a∈N,(∃ vs:ML,H a=some vs.o)/\¬ P a/\∀(j:Nat) (d:D) (t:Tg),env[j]? = some (some (d,t))->a∈F j->∃ q∈x::R,q∈aT j t) :
  RE K P ((kill (x::R) env).set x (some (d',.own))) σ (upd H p vs.o) (kq F env x R G):=by
 obtain⟨ndx,lsx,onx⟩:=re.one x d .own hx rfl;obtain⟨ws,hpl⟩:=lsx p hp;have hxl:x<(kill (x::R) env).length:=by
  rw[bX];exact (List.getElem?_eq_some_iff.mp hx).1
 have other:∀{j:Nat}{d2:D}{t2:Tg},j≠x->((kill (x::R) env).set x (some (d',.own)))[j]? = some (some (d2,t2))->(kill (x::R) env)[j]? = some (some (d2,t2)):=fun {j d2 t2} hj e=>by
  rw[List.getElem?_set_ne (cz hj)] at e;exact e
 have live:∀ a,(∃ vs:ML,H a=some vs.o)->∃ ws:ML,upd H p vs.o a=some ws.o:=fun a ⟨ws,h⟩=>by
  by_cases z:a=p
  ·subst z;exact⟨vs,aM⟩
  ·exact⟨ws,by rw[aJ z];exact h⟩
 have apart:∀{j:Nat}{d2:D}{t2:Tg},j≠x->(kill (x::R) env)[j]? = some (some (d2,t2))->∀ a∈F x,a∉F j:=fun {j d2 t2} hj e a ha hb=>by
  obtain⟨e0,_,h3⟩:=bO e;exact h3 x ao (onx a ha j d2 t2 e0 hb)
 have fj:∀{j:Nat}{d2:D}{t2:Tg},j≠x->(kill (x::R) env)[j]? = some (some (d2,t2))->kq F env x R G j=F j:=fun {j d2 t2} hj e=>by
  unfold kq;rw[if_neg hj,e]
 have fx:kq F env x R G x=G:=if_pos rfl;refine⟨?_,fun j d2 t2 e=>?_,fun j h=>?_,fun j d2 t2 e o=>?_,fun j d2 e=>?_,fun a h=>?_⟩
 ·rw[f9,bX];exact re.len
 ·by_cases hj:j=x
  ·subst hj;rw[List.getElem?_set_self hxl] at e;cases e;exact⟨v,hv,by rw[fx];exact rp⟩
  ·have e1:=other hj e;obtain⟨e0,_,_⟩:=bO e1;obtain⟨u,h1,h2⟩:=re.val j d2 t2 e0;exact⟨u,h1,by rw[fj hj e1];exact h2.updM hpl (apart hj e1 p hp)⟩
 ·by_cases hj:j=x
  ·subst hj;exact absurd (List.getElem?_set_self hxl) (h d' .own)
  ·unfold kq;rw[if_neg hj];split
   ·rename_i q e;exact absurd (by rw[List.getElem?_set_ne (cz hj)];exact e) (h q.1 q.2)
   ·rfl
 ·by_cases hj:j=x
  ·subst hj;rw[List.getElem?_set_self hxl] at e;cases e;rw[fx];refine⟨nd,fun a ha=>live a ?_,fun a ha k d3 t3 e3 m=>?_⟩
   ·rcases sub a ha with q | q
    ·exact lsx a q
    ·exact (hN a q).1
   ·by_cases hk:k=j
    ·subst hk;rw[List.getElem?_set_self hxl] at e3;cases e3;simp[aT]
    ·have e4:=other hk e3;rw[fj hk e4] at m;rcases sub a ha with q | q
     ·exact absurd m (apart hk e4 a q)
     ·obtain⟨e0,_,h3⟩:=bO e4;obtain⟨r,r1,r2⟩:=(hN a q).2.2 k d3 t3 e0 m;exact absurd r2 (h3 r r1)
  ·have e1:=other hj e;obtain⟨e0,_,_⟩:=bO e1;obtain⟨a,b,c⟩:=re.one j d2 t2 e0 o;rw[fj hj e1];refine⟨a,fun y hy=>live y (b y hy),fun y hy k d3 t3 e3 m=>?_⟩;by_cases hk:k=x
   ·subst hk;rw[List.getElem?_set_self hxl] at e3;cases e3;rw[fx] at m;rcases sub y m with q | q
    ·exact absurd hy (apart hj e1 y q)
    ·obtain⟨_,_,h3⟩:=bO e1;obtain⟨r,r1,r2⟩:=(hN y q).2.2 j d2 t2 e0 hy;exact absurd r2 (h3 r r1)
   ·have e4:=other hk e3;rw[fj hk e4] at m;exact c y hy k d3 t3 (bO e4).1 m
 ·by_cases hj:j=x
  ·subst hj;rw[fx];intro a ha;rcases sub a ha with q | q
   ·exact re.wr j d hx a q
   ·exact (hN a q).2.1
  ·have e1:=other hj e;rw[fj hj e1];exact re.wr j d2 (bO e1).1
 ·intro z;by_cases q:a=p
  ·subst q;rw[aM] at z;cases z
  ·rw[aJ q] at z;exact re.pl a h z
theorem RE.mutate (re:RE K P env σ H F){x:Nat}{d d':D}{v:V}{p:Addr}{vs:List V}{R:List Nat}{N G:List Addr}(hx:env[x]? = some (some (d,.own)))(hv:σ[x]? = some (some v))(hp:p∈F x)
  (rp:Rep K (upd H p (.lst vs)) d' v G) (nd:G.Nodup) (sub:∀ a∈G,a∈F x\/a∈N)
  (hN:∀ a∈N,(∃ vs:ML,H a=some vs.o)/\¬ P a/\∀(j:Nat) (d:D) (t:Tg),env[j]? = some (some (d,t))->a∈F j->∃ q∈x::R,q∈aT j t) :
  RE K P ((kill (x::R) env).set x (some (d',.own))) σ (upd H p (.lst vs)) (kq F env x R G):=re.mutateM (vs:=.l vs) hx hv hp rp nd sub hN
inductive PV (K:Frag) (H:Hp):V->Option Int->Addr->Prop where
 | top (p:Addr):PV K H (.ref p) none p
 | item {q p:Addr}{ws:List V}{i:Int}{j:Nat}(h:Rd H q (.lst ws)\/iq K H q ws) (hj:hW ws.length i=some j) (e:ws[j]? = some (.ref p)):PV K H (.ref q) (some i) p
theorem yW {n:Nat}{i:Int}{j:Nat}(h:hW n i=some j):j<n:=by
 unfold hW at h;split at h
 ·split at h
  ·cases h;omega
  ·cases h
 ·split at h
  ·cases h;omega
  ·cases h
theorem Rep.lst_inv {ds:List D}{v:V}{G:List Addr}(h:Rep K H (.lst ds) v G):∃ p vs G',v = .ref p/\G=p::G'/\Rd H p (.lst vs)/\aG K H ds vs G':=by
 cases h with
 |lst a b=>exact⟨_,_,_,rfl,rfl,a,b⟩
theorem rq {d:D}{v:V}{G:List Addr}{path:Option Int}{xs:List D}(rp:Rep K H d v G)(nd:G.Nodup)(h:d.at1 path=some xs):∃ p,PV K H v path p/\∀ H',aI H H'->(∀ a∈G,∃ vs:ML,H' a=some vs.o) ->
  ∃ vs Gx,H' p=some (.lst vs)/\aG K H' xs vs Gx/\p∈G/\(∀ a∈Gx,a∈G)/\Gx.Nodup/\p∉Gx /\
   ∀ ys us Gy,aG K (upd H' p (.lst us)) ys us Gy->Gy.Nodup->p∉Gy->(∀ a∈Gy,a∈Gx\/a∉G)->∃ G',Rep K (upd H' p (.lst us)) (d.set1 path ys) v G'/\G'.Nodup/\∀ a∈G',a∈G\/a∈Gy:=by
 have rdl:∀{H':Hp}{p:Addr}{vs:List V},(∀ a∈G,∃ vs:ML,H' a=some vs.o)->p∈G->Rd H' p (.lst vs)->H' p=some (.lst vs):=fun {H' p vs} hl hp r=>by
  obtain⟨ws,q⟩:=hl p hp;rcases r with r | ⟨o,r⟩
  ·exact r
  ·rw[q] at r;cases ws<;>cases r
 cases path with
 |none =>
  cases rp with
  |lst hr r =>
   rename_i p vs ds G0;simp only[D.at1,Option.some.injEq] at h;subst h;obtain⟨n1,n2⟩:=List.nodup_cons.mp nd;refine⟨p,.top p,fun H' e hl=>⟨vs,G0,rdl hl ao (aI.rd e hr),r.same e,ao,fun a ha=>ak _ ha,n2,n1,fun ys us Gy ry ny hy hs=>?_⟩⟩;exact⟨p::Gy,.lst (.inl aM) ry,List.nodup_cons.mpr ⟨hy,ny⟩,fun a ha=>(List.mem_cons.mp ha).imp (fun z=>by simp[z]) id⟩
  |_=>simp[D.at1] at h
 |some i =>
  have core:∀{ds:List D}{vs:List V}{G0:List Addr}{j:Nat}{q:Addr},aG K H ds vs G0->(∀ a∈G0,a∈G)->G0.Nodup->(Rd H q (.lst vs)\/iq K H q vs)->v = .ref q->hW ds.length i=some j->ds[j]? = some (.lst xs) ->
    ∃ p,PV K H v (some i) p/\∀ H',aI H H'->(∀ a∈G,∃ vs:ML,H' a=some vs.o)->∃ ws Gx,H' p=some (.lst ws)/\aG K H' xs ws Gx/\p∈G0/\(∀ a∈Gx,a∈G0)/\Gx.Nodup/\p∉Gx /\
     ∀ ys us Gy,aG K (upd H' p (.lst us)) ys us Gy->Gy.Nodup->p∉Gy->(∀ a∈Gy,a∈Gx\/a∉G) ->
      ∃ G1,aG K (upd H' p (.lst us)) (ds.set j (.lst ys)) vs G1/\G1.Nodup/\(∀ a∈G1,a∈G0\/a∈Gy):=by
   intro ds vs G0 j q r hs n0 hq hv hj he;obtain⟨w0,g0,e0,r0,_⟩:=r.get he;have hlen:=r.len;obtain⟨p,ws0,Gx0,rfl,_,_,_⟩:=r0.lst_inv
   ·refine⟨p,by rw[hv];exact .item hq (by rw[<-hlen];exact hj) e0,fun H' e hl=>?_⟩;obtain⟨w,A,B,C,e1,e2,r1,f⟩:=(r.same e).split he;rw[e0] at e1;cases e1;subst e2;obtain⟨p',ws,Gx,ep,rfl,hr,r2⟩:=r1.lst_inv;cases ep
    ·have hpG:p∈A++(p::Gx++C):=by simp
     rw[dz] at n0;obtain⟨nA,nB,nAB⟩:=n0;rw[dz] at nB;obtain⟨nB1,nC,nBC⟩:=nB;obtain⟨np,nx⟩:=List.nodup_cons.mp nB1;have hpl:=rdl hl (hs p hpG) hr;refine⟨ws,Gx,hpl,r2,hpG,fun a ha=>by simp[ha],nx,np,fun ys us Gy ry ny hy hsy=>?_⟩;have hA:p∉A:=fun z=>nAB p z p (by simp) rfl
     have hC:p∉C:=fun z=>nBC p (by simp) p z rfl
     have e3:=f (upd H' p (.lst us)) (.lst ys) (.ref p) (p::Gy) (fun _ _=>iJ hpl) (ig (ws:=.l _) hpl) (fun b hb _ h=>(aJ fun (z:b=p)=>by
      subst z;rcases List.mem_append.mp hb with hb | hb
      ·exact hA hb
      ·exact hC hb).trans h) (.lst (.inl aM) ry)
     have bE:vs.set j (.ref p)=vs:=by
      obtain⟨hj',ej⟩:=List.getElem?_eq_some_iff.mp e0;rw[<-ej,List.set_getElem_self]
     rw[bE] at e3;refine⟨_,e3,?_,fun a ha=>?_⟩
     ·rw[dz];refine⟨nA,?_,fun a ha b hb z=>?_⟩
      ·rw[dz];refine⟨List.nodup_cons.mpr ⟨hy,ny⟩,nC,fun a ha b hb z=>?_⟩;subst z;rcases gp.mp ha with rfl | ha
       ·exact hC hb
       ·rcases hsy a ha with q | q
        ·exact nBC a (by simp[q]) a hb rfl
        ·exact q (hs a (by simp[hb]))
      ·subst z;rcases List.mem_append.mp hb with hb | hb
       ·rcases gp.mp hb with rfl | hb
        ·exact hA ha
        ·rcases hsy a hb with q | q
         ·exact nAB a ha a (by simp[q]) rfl
         ·exact q (hs a (by simp[ha]))
       ·exact nAB a ha a (by simp[hb]) rfl
     ·simp only[List.mem_append,List.mem_cons,List.cons_append] at ha ⊢;rcases ha with ha | ha | ha | ha
      ·exact .inl (.inl ha)
      ·exact .inl (.inr (.inl ha))
      ·exact .inr ha
      ·exact .inl (.inr (.inr (.inr ha)))
  cases rp with
  |lst hr r =>
   rename_i q vs ds G0;simp only[D.at1,Option.bind_eq_some_iff] at h;obtain⟨j,hj,h⟩:=h;have he:ds[j]? = some (.lst xs):=by
    split at h
    ·rename_i ys e;cases h;exact e
    ·cases h
   obtain⟨n1,n2⟩:=List.nodup_cons.mp nd;obtain⟨p,a1,ff⟩:=core r (fun a ha=>ak _ ha) n2 (.inl hr) rfl hj he;refine⟨p,a1,fun H' e hl=>?_⟩;obtain⟨ws,Gx,a2,a3,a4,a5,a6,a7,f⟩:=ff H' e hl;have hqp:q≠p:=fun z=>n1 (by rw[z];exact a4)
   refine⟨ws,Gx,a2,a3,ak _ a4,fun a ha=>ak _ (a5 a ha),a6,a7,fun ys us Gy ry ny hy hs=>?_⟩;obtain⟨G1,b1,b2,b3⟩:=f ys us Gy ry ny hy hs;have es:D.set1 (.lst ds) (some i) ys = .lst (ds.set j (.lst ys)):=by simp[D.set1,hj]
   rw[es];refine⟨q::G1,.lst (Am hqp (aI.rd e hr)) b1,List.nodup_cons.mpr ⟨fun z=>?_,b2⟩,fun a ha=>?_⟩
   ·rcases b3 q z with z | z
    ·exact n1 z
    ·rcases hs q z with z | z
     ·exact n1 (a5 q z)
     ·exact z ao
   ·rcases gp.mp ha with rfl | ha
    ·exact .inl ao
    ·exact (b3 a ha).imp (ak _) id
  |tup hr r =>
   rename_i q vs ds;simp only[D.at1,Option.bind_eq_some_iff] at h;obtain⟨j,hj,h⟩:=h;have he:ds[j]? = some (.lst xs):=by
    split at h
    ·rename_i ys e;cases h;exact e
    ·cases h
   obtain⟨p,a1,ff⟩:=core r (fun a ha=>ha) nd (.inr hr.sq) rfl hj he;refine⟨p,a1,fun H' e hl=>?_⟩;obtain⟨ws,Gx,a2,a3,a4,a5,a6,a7,f⟩:=ff H' e hl;refine⟨ws,Gx,a2,a3,a4,a5,a6,a7,fun ys us Gy ry ny hy hs=>?_⟩;obtain⟨G1,b1,b2,b3⟩:=f ys us Gy ry ny hy hs;have es:D.set1 (.tup ds) (some i) ys = .tup (ds.set j (.lst ys)):=by simp[D.set1,hj]
   rw[es];exact⟨G1,.tup (iJ a2 (aI.tqT e hr)) b1,b2,b3⟩
  |_=>simp[D.at1] at h
end
end Pc
end
section
namespace Pc
open PySem PySem.Spec PyProof.Rows L2
theorem Rs.bind_ok {α β:Type}{x:Rs α}{f:α->Rs β}{b:β}(h:x.bind f = .ok b):∃ a,x = .ok a/\f a = .ok b:=by
 cases x with
 |ok a=>exact⟨a,rfl,h⟩
 |exc e=>cases h
 |bad=>cases h
theorem cB {α:Type}{o:Option α}{a:α}(h:fS o = .ok a):o=some a:=by
 cases o with
 |none=>cases h
 |some b=>cases h;rfl
theorem aI.new {H:Hp}{p:Addr}{o:HO}(h:H p=none):aI H (upd H p o):=fun b u e=>by
 rw[aJ];exact e;intro z;subst z;rw[h] at e;cases e
theorem oI:lim<=sizeLine:=by decide
theorem eD {n:Nat}(h:n<=lim):n<=sizeLine:=bj h oI
inductive Args (K:Frag) (env:En) (F:Nat->List Addr):Hp->Hp->List (D×Rt)->List V->List Addr->Prop where
 | nil {H H':Hp}(e:aI H H'):Args K env F H H' [] [] []
 | cons {H H1 H':Hp}{p:D×Rt}{v:V}{G G':List Addr}{l:List (D×Rt)}{vs:List V}(e:aI H H1) (r:Rep K H1 p.1 v G) (t:bB env F H p.2 H1 G) (s:Args K env F H1 H' l vs G'):Args K env F H H' (p::l) (v::vs) (G++G')
section
variable {K:Frag}{env:En}{F:Nat->List Addr}
theorem Args.same:∀{H H':Hp}{l:List (D×Rt)}{vs:List V}{G:List Addr},Args K env F H H' l vs G->aI H H'
 |_,_,_,_,_,.nil e=>e
 |_,_,_,_,_,.cons e _ _ s=>e.trans s.same
theorem Args.reps:∀{H H':Hp}{l:List (D×Rt)}{vs:List V}{G:List Addr},Args K env F H H' l vs G->aG K H' (l.map (·.1)) vs G
 |_,_,_,_,_,.nil _=>.nil
 |_,_,_,_,_,.cons _ r _ s=>.cons (r.same s.same) s.reps
theorem Args.cont:∀{H H':Hp}{l:List (D×Rt)}{vs:List V}{G:List Addr},Args K env F H H' l vs G->∀ a∈G,H a=none\/∃ i d t,a∈F i/\env[i]? = some (some (d,t))/\∀ q∈aT i t,q∈aP (l.map (·.2))
 |_,_,_,_,_,.nil _,a,h=>by cases h
 | _,_,_,_,_,.cons (p:=p) (l:=l) e r t s,a,h=>by
  have e1:aP ((p::l).map (·.2))=p.2.roots++aP (l.map (·.2)):=by simp[aP]
  rw[e1];rcases List.mem_append.mp h with h | h
  ·exact (t.cont a h).imp id fun ⟨i,d,t,x,y,z⟩=>⟨i,d,t,x,y,fun q hq=>ay _ (z q hq)⟩
  ·exact (s.cont a h).imp (aI.no e) fun ⟨i,d,t,x,y,z⟩=>⟨i,d,t,x,y,fun q hq=>ai _ (z q hq)⟩
theorem Args.two {H H':Hp}{p q:D×Rt}{x y:V}{G:List Addr}(ar:Args K env F H H' [p,q] [x,y] G) :
  ∃ H1 G1 G2,G=G1++G2/\aI H H1/\Rep K H1 p.1 x G1/\bB env F H p.2 H1 G1/\aI H1 H'/\Rep K H' q.1 y G2:=by
 cases ar with
 |cons e r t s =>
  cases s with
  |cons e' r' t' s' =>
   cases s' with
   |nil e''=>exact⟨_,_,_,by rw[ba],e,r,t,e'.trans e'',r'.same e''⟩
theorem Args.mv {P:Addr->Prop}{σ:L2.St}:∀{H H':Hp}{l:List (D×Rt)}{vs:List V}{G:List Addr}{R:List Nat},RE K P env σ H F->Args K env F H H' l vs G->cU (l.map (·.2))=some R->R.Nodup ->
  G.Nodup/\(∀ a∈G,∃ vs:ML,H' a=some vs.o)/\∀ a∈G,H a=none\/∃ i d t,i∈R/\a∈F i/\env[i]? = some (some (d,t))/\aV t=true
 |_,_,_,_,_,_,_,.nil _,_,_=>⟨cj,fun _ h=>(nomatch h),fun _ h=>(nomatch h)⟩
 | H,_,_,_,_,_,re,.cons (p:=p) (l:=l) (G:=G) (G':=G') e r t s,hm,nd=>by
  obtain⟨d,rt⟩:=p;cases rt with
  |sh Q=>simp[cU] at hm
  |mv R1 =>
   simp only[List.map_cons,cU,Option.map_eq_some_iff] at hm;obtain⟨R2,h2,rfl⟩:=hm;obtain⟨n1,n2,n12⟩:=dz.mp nd;obtain⟨a1,b1,c1⟩:=t.mv R1 rfl;obtain⟨a2,b2,c2⟩:=Args.mv (re.same e) s h2 n2;refine⟨dz.mpr ⟨a1,a2,fun x hx y hy z=>?_⟩,fun x hx=>?_,fun x hx=>?_⟩
   ·subst z;rcases c2 x hy with q | ⟨i2,d2,t2,m2,f2,e2,o2⟩
    ·exact r.nn hx q
    ·rcases c1 x hx with q | ⟨i1,d1,t1,m1,f1,e1,o1⟩
     ·obtain⟨v,_,rp⟩:=re.val i2 d2 t2 e2;exact rp.nn f2 q
     ·have q:=(re.one i1 d1 t1 e1 o1).2.2 x f1 i2 d2 t2 e2 f2;have q':i1=i2:=by cases t2<;>simp_all [aT,aV]
      exact n12 i1 m1 i2 m2 q'
   ·rcases List.mem_append.mp hx with hx | hx
    ·obtain⟨vs,q⟩:=b1 x hx;exact⟨vs,s.same _ _ q⟩
    ·exact b2 x hx
   ·rcases List.mem_append.mp hx with hx | hx
    ·exact (c1 x hx).imp id fun ⟨i,d,t,m,z⟩=>⟨i,d,t,ay _ m,z⟩
    ·exact (c2 x hx).imp (aI.no e) fun ⟨i,d,t,m,z⟩=>⟨i,d,t,ai _ m,z⟩
theorem Args.comb {P:Addr->Prop}{σ:L2.St}{H H':Hp}{l:List (D×Rt)}{vs:List V}{G:List Addr}(re:RE K P env σ H F)(ar:Args K env F H H' l vs G):bB env F H (mw (l.map (·.2))) H' G:=by
 unfold mw;cases hm:cU (l.map (·.2)) with
 |none=>exact⟨ar.cont,fun R e=>by cases e⟩
 |some R =>
  have er:∀(l:List Rt) (R:List Nat),cU l=some R->aP l=R:=by
   intro l
   induction l with
   |nil=>intro R h;simp[cU] at h;subst h;rfl
   |cons x r ih =>
    intro R h;cases x with
    |sh Q=>simp[cU] at h
    |mv Q =>
     simp only[cU,Option.map_eq_some_iff] at h;obtain⟨R2,h2,rfl⟩:=h;have:=ih R2 h2;simp only[aP,List.map_cons,List.flatten_cons,Rt.roots] at this ⊢;rw[this]
  have er:=er _ R hm;by_cases nd:R.Nodup
  ·simp only[nd,if_true];obtain⟨a,b,c⟩:=ar.mv re hm nd;refine⟨fun x hx=>?_,fun R' e=>by cases e;exact⟨a,b,c⟩⟩;rcases c x hx with q | ⟨i,d,t,m,f,e,o⟩
   ·exact .inl q
   ·exact .inr ⟨i,d,t,f,e,fun q hq=>by cases t<;>simp_all [aT,aV,Rt.roots]⟩
  ·simp only[nd,if_false];exact⟨fun x hx=>by have:=ar.cont x hx;rw[er] at this;exact this,fun R' e=>by cases e⟩
end
structure fX (H H':Hp)(G0:List Addr)(d:D)(G:List Addr):Prop where
 same:aI H H'
 sub:∀ a∈G,H a=none\/a∈G0
 new:d.inner=true->G.Nodup/\∀ a∈G,H a=none/\∃ vs:ML,H' a=some vs.o
section
variable {K:Frag}{H:Hp}{G0:List Addr}
theorem fX.nil {d:D}:fX H H G0 d []:=⟨aI.refl _,fun _ h=>(nomatch h),fun _=>⟨cj,fun _ h=>(nomatch h)⟩⟩
theorem i6 {ds:List D}{vs:List V}{G:List Addr}{p:Addr}(r:aG K H ds vs G)(hs:∀ a∈G,a∈G0)(hp:H p=none) :
  Rep K (upd H p (.lst vs)) (.lst ds) (.ref p) (p::G)/\fX H (upd H p (.lst vs)) G0 (.lst ds) (p::G):=by
 have e:=aI.new (o:=.lst vs) hp;refine⟨.lst (.inl aM) (r.same e),e,fun a ha=>?_,fun f=>?_⟩
 ·rcases gp.mp ha with rfl | ha
  ·exact .inl hp
  ·exact .inr (hs a ha)
 ·have:G=[]:=r.flat f;subst this;exact⟨by simp,fun a ha=>by
   have:a=p:=by simpa using ha
   subst this;exact⟨hp,.l _,aM⟩⟩
theorem rR {ds:List D}{vs:List V}{G:List Addr}{p:Addr}(r:aG K H ds vs G)(hs:∀ a∈G,a∈G0)(hp:H p=none) :
  Rep K (upd H p (.tup vs)) (.tup ds) (.ref p) G/\fX H (upd H p (.tup vs)) G0 (.tup ds) G:=by
 have e:=aI.new (o:=.tup vs) hp;refine⟨.tup (.inl aM) (r.same e),e,fun a ha=>.inr (hs a ha),fun f=>?_⟩;have:G=[]:=r.flat f;subst this;exact⟨by simp,fun a ha=>(nomatch ha)⟩
theorem bB.new {env:En}{F:Nat->List Addr}{H1 H':Hp}{l:List (D×Rt)}{vs:List V}{G:List Addr}{d:D}{R:List Nat}(ar:Args K env F H H1 l vs G0)(nv:fX H1 H' G0 d G)(hR:∀ q∈aP (l.map (·.2)),q∈R):bB env F H (gG d R) H' G:=by
 unfold gG;cases hi:d.inner with
 |true =>
  obtain⟨a,b⟩:=nv.new hi;have c:∀ x∈G,H x=none:=fun x hx=>aI.no ar.same (b x hx).1
  exact⟨fun x hx=>.inl (c x hx),fun R' e=>⟨a,fun x hx=>(b x hx).2,fun x hx=>.inl (c x hx)⟩⟩
 |false =>
  refine⟨fun x hx=>?_,fun R' e=>by cases e⟩;rcases nv.sub x hx with q | q
  ·exact .inl (aI.no ar.same q)
  ·exact (ar.cont x q).imp id fun ⟨i,d,t,f,e,z⟩=>⟨i,d,t,f,e,fun q hq=>hR q (z q hq)⟩
end
section
variable {X:Cx}
theorem be {e:Expr}{t t':TE}(h:PE X e t)(k:∀ σ H Q,t' σ H Q->t σ H Q):PE X e t':=fun pins s σ H Q I q=>h pins s σ H Q I (k σ H Q q)
theorem nZ {e:Expr}{t t':TT}(h:PT X e t)(k:∀ σ H Q,t' σ H Q->t σ H Q):PT X e t':=fun pins s σ H Q I q=>h pins s σ H Q I (k σ H Q q)
theorem vj {e:List Expr}{t t':TA}(h:PA X e t)(k:∀ σ H Q,t' σ H Q->t σ H Q):PA X e t':=fun pos pins s σ H Q I q=>h pos pins s σ H Q I (k σ H Q q)
theorem cA {e:Stmt}{t t':TS}(h:PS X e t)(k:∀ D σ H,t' D σ H->t D σ H):PS X e t':=fun pins s σ H D I q=>h pins s σ H D I (k D σ H q)
theorem qg {e:List Stmt}{t t':TS}(h:km X e t)(k:∀ D σ H,t' D σ H->t D σ H):km X e t':=fun pins s σ H D I q=>h pins s σ H D I (k D σ H q)
end
def tE (K:Frag)(T:Tb)(c:Ex):TE:=fun σ H Q=>∃ P env F,RE K P env σ H F/\∃ p,ev T c env = .ok p/\∀ v H' G,aI H H'->Rep K H' p.1 v G->bB env F H p.2 H' G->Q v H'
def rJ (K:Frag)(T:Tb)(cs:kB):TA:=fun σ H Q=>∃ P env F,RE K P env σ H F/\∃ l,bE T cs env = .ok l/\∀ vs H' G,Args K env F H H' l vs G->Q vs H'
def k6 (K:Frag)(T:Tb)(c:Ex):TT:=fun σ H Q=>∃ P env F,RE K P env σ H F/\∃ p b,ev T c env = .ok p/\truth p.1=some b/\∀ H',aI H H'->Q b H'
section
variable {K:Frag}{T:Tb}{P:Addr->Prop}{env:En}{F:Nat->List Addr}{σ:L2.St}{H:Hp}
theorem two {ca cb:Ex}{r:R2}{Q:VK}{p q:D×Rt}(re:RE K P env σ H F)(h1:ev T ca env = .ok p)(h2:ev T cb env = .ok q)(k:∀ x y H2 G,Args K env F H H2 [p,q] [x,y] G->r x y H2 Q):Bj r (tE K T ca) (tE K T cb) σ H Q :=
 ⟨P,env,F,re,p,h1,fun v1 H1 G1 s1 rp1 rt1=>⟨P,env,F,re.same s1,q,h2,fun v2 H2 G2 s2 rp2 rt2=>k v1 v2 H2 _ (.cons s1 rp1 rt1 (.cons s2 rp2 rt2 (.nil (aI.refl _))))⟩⟩
end
noncomputable def vS (K:Frag)(f:D->D->Option D):R2:=fun x y H Q=>∃ d1 d2 d G,aG K H [d1,d2] [x,y] G/\f d1 d2=some d/\∀ v H' G',Rep K H' d v G'->fX H H' G d G'->Q v H'
noncomputable def Bw (K:Frag):R2:=fun x y H Q=>∃ d1 d2 d G,aG K H [d1,d2] [x,y] G/\nH d1 d2=some d/\∀ v G',Rep K H d v G'->G'.Sublist G->Q v H
section
variable {X:Cx}{T:Tb}{a b c:Expr}{ca cb cc:Ex}{pos:Pos}
theorem Ah {op:Operator}(ho:fW X (binaryOp op) (vS X.K (eR op)))(ha:PE X a (tE X.K T ca))(hb:PE X b (tE X.K T cb)):PE X (.BinOp a op b pos) (tE X.K T (.bin op ca cb)):=by
 refine be (xZ ho ha hb) fun σ H Q ⟨P,env,F,re,p0,hev,k⟩=>?_
 unfold ev at hev;obtain⟨p,h1,hev⟩:=Rs.bind_ok hev;obtain⟨q,h2,hev⟩:=Rs.bind_ok hev;obtain⟨d,h3,hev⟩:=Rs.bind_ok hev;have h3:=cB h3;cases hev;refine two re h1 h2 fun x y H2 G ar=>⟨p.1,q.1,d,G,ar.reps,h3,fun v H' G' rp nv=>k v H' G' (ar.same.trans nv.same) rp (bB.new ar nv fun z hz=>by simpa[aP] using hz)⟩
theorem yQ {op:CmpOp}(ho:fW X (compareOp op) (vS X.K fun x y=>(iy op x y).map .bl))(ha:PE X a (tE X.K T ca))(hb:PE X b (tE X.K T cb))(hm:behindInMarks op b=false):PE X (.Compare a [op] [b] pos) (tE X.K T (.cmp op ca cb)):=by
 refine be (vL ho ha hb hm) fun σ H Q ⟨P,env,F,re,p0,hev,k⟩=>?_
 unfold ev at hev;obtain⟨p,h1,hev⟩:=Rs.bind_ok hev;obtain⟨q,h2,hev⟩:=Rs.bind_ok hev;obtain⟨d,h3,hev⟩:=Rs.bind_ok hev;have h3:=cB h3;cases hev;refine two re h1 h2 fun x y H2 G ar=>⟨p.1,q.1,.bl d,G,ar.reps,by simp[h3],fun v H' G' rp nv=>k v H' G' (ar.same.trans nv.same) rp ?_⟩
 have:G'=[]:=rp.flat rfl;subst this;exact bB.nil
theorem Bl (ho:A2 X (Bw X.K))(ha:PE X a (tE X.K T ca))(hb:PE X b (tE X.K T cb))(hs:lW b):PE X (.Subscript a b pos) (tE X.K T (.ix ca cb)):=by
 refine be (Cc ho ha hb hs) fun σ H Q ⟨P,env,F,re,p0,hev,k⟩=>?_
 unfold ev at hev;obtain⟨p,h1,hev⟩:=Rs.bind_ok hev;obtain⟨q,h2,hev⟩:=Rs.bind_ok hev;obtain⟨d,h3,hev⟩:=Rs.bind_ok hev;have h3:=cB h3;cases hev;refine two re h1 h2 fun x y H2 G ar=>⟨p.1,q.1,d,G,ar.reps,h3,fun v G' rp sl=>k v H2 G' ar.same rp ?_⟩
 unfold mf;cases hf:d.flat with
 |true =>
  have:G'=[]:=rp.flat hf;subst this;exact bB.nil
 |false =>
  obtain⟨H1,g1,g2,e1,s1,_,rt1,s2,rp2⟩:=ar.two;have hq:q.1.flat=true:=by
   revert h3;cases p.1<;>cases q.1<;>simp[nH,D.flat]
  have rp2:=rp2.flat hq;have rp1:=rt1.later s2;subst rp2;rw[ba] at e1;subst e1;refine⟨fun z hz=>?_,fun R e=>by cases e⟩;exact rp1.cont z (sl.subset hz)
end
end Pc
end
section
namespace Pc
open PySem L2
structure iV (P:Addr->Prop)(H H':Hp):Prop where
 keep:∀ a,P a->H' a=H a
 tup:∀ b xs,H b=some (.tup xs)->H' b=some (.tup xs)
 fz:Cs H H'
theorem iV.refl {P:Addr->Prop}(H:Hp):iV P H H:=⟨fun _ _=>rfl,fun _ _ h=>h,fun _ _ _ h=>h⟩
theorem iV.trans {P:Addr->Prop}{H H1 H2:Hp}(a:iV P H H1)(b:iV P H1 H2):iV P H H2:=⟨fun x h=>(b.keep x h).trans (a.keep x h),fun x xs h=>b.tup x xs (a.tup x xs h),fun x o u h=>b.fz x o u (a.fz x o u h)⟩
theorem iV.of_same {P:Addr->Prop}{H H':Hp}(pl:∀ a,P a->H a≠none)(e:aI H H'):iV P H H':=⟨fun a h=>by
 cases q:H a with
 |none=>exact absurd q (pl a h)
 |some o=>exact e _ _ q,fun _ _=>e _ _,fun _ _ _ h=>e _ _ h⟩
theorem iV.weak {P P':Addr->Prop}{H H':Hp}(h:∀ a,P a->P' a)(e:iV P' H H'):iV P H H':=⟨fun a x=>e.keep a (h a x),e.tup,e.fz⟩
theorem iV.tqT {K:Frag}{P:Addr->Prop}{H H':Hp}(e:iV P H H'){b:Addr}{vs:List V}(h:iX K H b vs):iX K H' b vs:=by
 rcases h with h | h
 ·exact .inl (e.tup b vs h)
 ·exact .inr h
theorem iV.reps {K:Frag}{P:Addr->Prop}{H H':Hp}(e:iV P H H'){ds:List D}{vs:List V}{G:List Addr}(h:aG K H ds vs G)(hp:∀ a∈G,P a):aG K H' ds vs G :=
 h.keep (fun _ _=>e.tqT) e.fz fun b hb _ r=>(e.keep b (hp b hb)).trans r
def oT (env:En)(F:Nat->List Addr)(env':En)(F':Nat->List Addr):Prop:=∀(i:Nat) (d:D),env'[i]? = some (some (d,.lk))->env[i]? = some (some (d,.lk))/\F' i=F i
theorem oT.refl (env:En)(F:Nat->List Addr):oT env F env F:=fun _ _ h=>⟨h,rfl⟩
theorem oT.trans {e1 e2 e3:En}{F1 F2 F3:Nat->List Addr}(a:oT e1 F1 e2 F2)(b:oT e2 F2 e3 F3):oT e1 F1 e3 F3:=fun i d h=>by
 obtain⟨h1,h2⟩:=b i d h;obtain⟨h3,h4⟩:=a i d h1;exact⟨h3,h2.trans h4⟩
structure After (K:Frag)(P Z:Addr->Prop)(env:En)(F:Nat->List Addr)(H:Hp)(env':En)(σ':L2.St)(H':Hp)(F':Nat->List Addr):Prop where
 re:RE K P env' σ' H' F'
 z:∀ i,∀ a∈F' i,Z a
 ev:iV P H H'
 lk:oT env F env' F'
theorem After.trans {K:Frag}{P Z:Addr->Prop}{e1 e2 e3:En}{F1 F2 F3:Nat->List Addr}{H1 H2 H3:Hp}{σ2 σ3:L2.St}(a:After K P Z e1 F1 H1 e2 σ2 H2 F2)(b:After K P Z e2 F2 H2 e3 σ3 H3 F3):After K P Z e1 F1 H1 e3 σ3 H3 F3 :=
 ⟨b.re,b.z,a.ev.trans b.ev,a.lk.trans b.lk⟩
noncomputable def post (K:Frag)(P Z:Addr->Prop)(env:En)(F:Nat->List Addr)(H:Hp)(D:Ends):Fl->Prop
 |.nx env'=>∀ σ' H' F',After K P Z env F H env' σ' H' F'->D.nx σ' H'
 |.bk env'=>∀ σ' H' F',After K P Z env F H env' σ' H' F'->D.bk σ' H'
 |.ct env'=>∀ σ' H' F',After K P Z env F H env' σ' H' F'->D.ct σ' H'
 |.rt d fr=>∀ v H' G,Rep K H' d v G->iV P H H'->(∀ a∈G,Z a)->(fr=true->G.Nodup/\∀ a∈G,¬ P a/\∃ vs:ML,H' a=some vs.o)->D.rt v H'
 |.xc _ _=>False
 |.bad=>False
theorem post.trans {K:Frag}{P Z:Addr->Prop}{e1 e2:En}{F1 F2:Nat->List Addr}{H1 H2:Hp}{σ2:L2.St}{D:Ends}(a:After K P Z e1 F1 H1 e2 σ2 H2 F2):∀{f:Fl},post K P Z e1 F1 H1 D f->post K P Z e2 F2 H2 D f
 |.nx _,h=>fun σ' H' F' b=>h σ' H' F' (a.trans b)
 |.bk _,h=>fun σ' H' F' b=>h σ' H' F' (a.trans b)
 |.ct _,h=>fun σ' H' F' b=>h σ' H' F' (a.trans b)
 |.rt _ _,h=>fun v H' G r e z f=>h v H' G r (a.ev.trans e) z f
 |.xc _ _,h=>h
 |.bad,h=>h
section
variable {K:Frag}{P Z:Addr->Prop}{env:En}{σ:L2.St}{H:Hp}{F:Nat->List Addr}
theorem jG {i:Nat}{d:D}{t:Tg}{G:List Addr}(hi:i<env.length)(ht:t≠.lk):oT env F (put env i d t) (nr F i G):=fun j d' e=>by
 by_cases h:j=i
 ·subst h;rw[cQ hi] at e;cases e;exact absurd rfl ht
 ·obtain⟨t0,e0,q⟩:=fR h e;cases t0 with
  |lk=>exact⟨e0,cR h⟩
  |own=>cases q
  |sh R=>cases q
theorem k9 {i:Nat}{G:List Addr}(hz:∀ i,∀ a∈F i,Z a)(hg:∀ a∈G,Z a):∀ j,∀ a∈nr F i G j,Z a:=fun j a ha=>by
 by_cases h:j=i
 ·subst h;rw[cX] at ha;exact hg a ha
 ·rw[cR h] at ha;exact hz j a ha
theorem sS {H':Hp}{D:Ends}{i:Nat}{mv:Bool}{p:Pc.D×Rt}{v:V}{G:List Addr}(re:RE K P env σ H F)(hz:∀ i,∀ a∈F i,Z a)(zp:∀ a,¬ P a->Z a)(e:aI H H')(rp:Rep K H' p.1 v G)(rt:bB env F H p.2 H' G)
  (h:post K P Z env F H D (qB (.nm i) mv env p)):D.nx (σ.set i (some v)) H':=by
 have re':=re.same e;have ez:∀ a∈G,Z a:=fun a ha=>by
  rcases rt.cont a ha with q | ⟨j,_,_,f,_⟩
  ·exact zp a fun z=>re.pl a z q
  ·exact hz j a f
 have jm:=iV.of_same (P:=P) re.pl e;unfold qB at h;by_cases hi:i<env.length
 ·simp only[hi,if_true] at h;have shared:∀ R,p.2.roots=R->post K P Z env F H D (.nx (put env i p.1 (.sh (R.filter (· != i)))))->D.nx (σ.set i (some v)) H':=fun R hR h=>by
   refine h _ H' (nr F i G) ⟨re'.put hi rp (fun o=>by cases o) (fun o=>by cases o) fun a ha j d' t' hj ej o m=>?_,k9 hz ez,jm,jG hi (by intro z;cases z)⟩;rcases rt.cont a ha with q | ⟨k,d2,t2,f,e2,s⟩
   ·exact absurd q (re.nn ej m)
   ·have:=s j ((re.one j d' t' ej o).2.2 a m k d2 t2 e2 f);rw[hR] at this;simp only[aT,List.mem_filter];exact⟨this,by simpa using hj⟩
  cases hr:p.2 with
  |sh R=>rw[hr] at h;exact shared R (by rw[hr];rfl) h
  |mv R =>
   rw[hr] at h;obtain⟨m1,m2,m3⟩:=rt.mv R hr;cases R with
   |nil =>
    have fresh:∀ a∈G,H a=none:=fun a ha=>by
     rcases m3 a ha with q | ⟨_,_,_,q,_⟩
     ·exact q
     ·cases q
    refine h _ H' (nr F i G) ⟨re'.put hi rp (fun _=>⟨m1,m2,fun a ha j _ m=>?_⟩) (fun _ a ha z=>re.pl a z (fresh a ha)) fun a ha j d' t' hj ej o m=>?_,k9 hz ez,jm,jG hi (by intro z;cases z)⟩
    ·obtain⟨d2,t2,e2⟩:=re.at' m;exact re.nn e2 m (fresh a ha)
    ·exact absurd (fresh a ha) (re.nn ej m)
   |cons r0 R0 =>
    cases mv with
    |false=>exact shared _ (by rw[hr];rfl) h
    |true =>
     simp only[if_true] at h;by_cases ho:dG env (r0::R0)=true
     ·rw[if_pos ho] at h;have fg:=re'.forget (env':=kill (r0::R0) env) (bX _ _) fun j d' t' ej=>(bO ej).1
      have ow:∀ k∈r0::R0,∃ d',env[k]? = some (some (d',.own)):=fun k hk=>by
       have:=fe.mp ho k hk;split at this
       ·rename_i d' q;exact⟨d',q⟩
       ·cases this
      have apart:∀ a∈G,∀ j,j≠i->a∉(match (kill (r0::R0) env)[j]? with | some (some _)=>F j | _=>[]):=fun a ha j hj m=>by
       split at m
       ·rename_i q ej;obtain⟨dj,tj⟩:=q;obtain⟨e0,h1,h2⟩:=bO ej;rcases m3 a ha with q | ⟨k,d2,t2,hk,f,e2,o2⟩
        ·exact re.nn e0 m q
        ·exact h2 k hk ((re.one k d2 t2 e2 o2).2.2 a f j dj tj e0 m)
       ·cases m
      refine h _ H' _ ⟨fg.put (by rw[bX];exact hi) rp (fun _=>⟨m1,m2,apart⟩) (fun _ a ha z=>?_) fun a ha j d' t' hj ej o m=>absurd m (apart a ha j hj),k9 (fun j a ha=>?_) ez,jm,fun j d' ej=>?_⟩
      ·rcases m3 a ha with q | ⟨k,d2,t2,hk,f,e2,o2⟩
       ·exact re.pl a z q
       ·obtain⟨d3,e3⟩:=ow k hk;exact re.wr k d3 e3 a f z
      ·split at ha
       ·exact hz j a ha
       ·cases ha
      ·by_cases hj:j=i
       ·subst hj;rw[cQ (by rw[bX];exact hi)] at ej;cases ej
       ·obtain⟨t0,e0,q⟩:=fR hj ej;cases t0 with
        |lk =>
         refine⟨(bO e0).1,?_⟩;rw[cR hj,e0]
        |own=>cases q
        |sh R=>cases q
     ·rw[if_neg ho] at h;exact h.elim
 ·simp only[hi,if_false] at h;exact h.elim
noncomputable def setM:List Nat->List V->L2.St->L2.St
 |i::is,v::vs,σ=>setM is vs (σ.set i (some v))
 |_,_,σ=>σ
theorem kY:∀{is:List Nat}{ds:List D}{vs:List V}{G:List Addr}{env env':En}{σ:L2.St}{F:Nat->List Addr},RE K P env σ H F->(∀ i,∀ a∈F i,Z a)->aG K H ds vs G->G.Nodup->(∀ a∈G,∃ vs:ML,H a=some vs.o)->(∀ a∈G,¬ P a)->(∀ a∈G,Z a) ->
  (∀ a∈G,∀ j,a∉F j)->bindM (fun _=>.own) is ds env=some env'->∃ F',RE K P env' (setM is vs σ) H F'/\(∀ i,∀ a∈F' i,Z a)/\oT env F env' F'/\is.length=vs.length
 | [],_,_,_,env,env',σ,F,re,hz,.nil,_,_,_,_,_,h=>by
  simp only[bindM,Option.some.injEq] at h;subst h;exact⟨F,re,hz,oT.refl _ _,rfl⟩
 | i::is,_,_,_,env,env',σ,F,re,hz,.cons (G:=G1) (G':=G2) r rs,nd,ll,np,gz,ap,h=>by
  simp only[bindM] at h;by_cases hi:i<env.length
  ·rw[if_pos hi] at h;obtain⟨n1,n2,n12⟩:=dz.mp nd;have re1:=re.put (t:=.own) hi r (fun _=>⟨n1,fun a ha=>ll a (ay _ ha),fun a ha j _=>ap a (ay _ ha) j⟩) (fun _ a ha=>np a (ay _ ha)) fun a ha j _ _ _ _ _ m=>absurd m (ap a (ay _ ha) j)
   obtain⟨F',a1,a2,a3,a4⟩:=kY re1 (k9 hz fun a ha=>gz a (ay _ ha)) rs n2 (fun a ha=>ll a (ai _ ha)) (fun a ha=>np a (ai _ ha)) (fun a ha=>gz a (ai _ ha)) (fun a ha j m=>by
    by_cases hj:j=i
    ·subst hj;rw[cX] at m;exact n12 a m a ha rfl
    ·rw[cR hj] at m;exact ap a (ai _ ha) j m) h
   exact⟨F',a1,a2,(jG hi (by intro z;cases z)).trans a3,by simp[a4]⟩
  ·rw[if_neg hi] at h;cases h
 |[],_,_,_,_,_,_,_,_,_,.cons _ _,_,_,_,_,_,h=>by simp[bindM] at h
 |_::_,_,_,_,_,_,_,_,_,_,.nil,_,_,_,_,_,h=>by simp[bindM] at h
theorem nE {d:D}{R:List Nat}:cD d R≠.lk:=by unfold cD;split<;>intro z<;>cases z
theorem pz {i:Nat}{d:D}{v:V}{G:List Addr}{R:List Nat}(re:RE K P env σ H F)(hi:i<env.length)(rp:Rep K H d v G)(hs:∀ a∈G,∀(j:Nat) (d':D) (t':Tg),env[j]? = some (some (d',t'))->aV t'=true->a∈F j->j∈R) :
  RE K P (put env i d (cD d R)) (σ.set i (some v)) H (nr F i G):=by
 unfold cD;cases hf:d.flat with
 |true =>
  have:G=[]:=rp.flat hf;subst this;simp only[if_true];exact re.put hi rp (fun _=>⟨cj,fun _ h=>(nomatch h),fun _ h=>(nomatch h)⟩) (fun _ _ h=>(nomatch h)) fun _ h=>(nomatch h)
 |false =>
  simp only[Bool.false_eq_true,if_false];exact re.put hi rp (fun o=>by cases o) (fun o=>by cases o) fun a ha j d' t' hj ej o m=>hs a ha j d' t' ej o m
theorem j3 {R:List Nat}:∀{is:List Nat}{ds:List D}{vs:List V}{G:List Addr}{env env':En}{σ:L2.St}{F:Nat->List Addr},RE K P env σ H F->(∀ i,∀ a∈F i,Z a)->aG K H ds vs G->(∀ a∈G,Z a) ->
  (∀ a∈G,∀(j:Nat) (d':D) (t':Tg),env[j]? = some (some (d',t'))->aV t'=true->a∈F j->j∈R)->bindM (fun d=>cD d R) is ds env=some env'->∃ F',RE K P env' (setM is vs σ) H F'/\(∀ i,∀ a∈F' i,Z a)/\oT env F env' F'/\is.length=vs.length
 | [],_,_,_,env,env',σ,F,re,hz,.nil,_,_,h=>by
  simp only[bindM,Option.some.injEq] at h;subst h;exact⟨F,re,hz,oT.refl _ _,rfl⟩
 | i::is,_,_,_,env,env',σ,F,re,hz,.cons (d:=d) (G:=G1) (G':=G2) r rs,gz,hs,h=>by
  simp only[bindM] at h;by_cases hi:i<env.length
  ·rw[if_pos hi] at h;have re1:=pz re hi r fun a ha=>hs a (ay _ ha)
   obtain⟨F',a1,a2,a3,a4⟩:=j3 re1 (k9 hz fun a ha=>gz a (ay _ ha)) rs (fun a ha=>gz a (ai _ ha)) (fun a ha j d' t' ej o m=>by
    by_cases hj:j=i
    ·subst hj;rw[cQ hi] at ej;simp only[Option.some.injEq,Prod.mk.injEq] at ej;obtain⟨rfl,rfl⟩:=ej;rw[cX] at m;cases hf:d.flat with
     |true=>rw[r.flat hf] at m;cases m
     |false=>simp[cD,hf,aV] at o
    ·rw[cR hj] at m;obtain⟨t0,e0,rfl⟩:=fR hj ej;rw[je] at o;exact hs a (ai _ ha) j d' t0 e0 o m) h
   exact⟨F',a1,a2,(jG hi nE).trans a3,by simp[a4]⟩
  ·rw[if_neg hi] at h;cases h
 |[],_,_,_,_,_,_,_,_,_,.cons _ _,_,_,h=>by simp[bindM] at h
 |_::_,_,_,_,_,_,_,_,_,_,.nil,_,_,h=>by simp[bindM] at h
theorem nk (R:List Nat)(env:En):(lock R env).length=env.length:=by simp[lock]
theorem jK {R:List Nat}{env:En}{i:Nat}{d:D}{t:Tg}(e:(lock R env)[i]? = some (some (d,t))) :
  (env[i]? = some (some (d,t))/\(t = .own->i∉R))\/(t = .lk/\i∈R/\env[i]? = some (some (d,.own))):=by
 unfold lock at e;rw[List.getElem?_mapIdx] at e;cases q:env[i]? with
 |none=>rw[q] at e;cases e
 |some s =>
  rw[q] at e;cases s with
  |none=>cases e
  |some p =>
   obtain⟨a,b⟩:=p;simp only[Option.map_some,Option.some.injEq] at e;cases b with
   |own =>
    simp only at e;by_cases h:R.contains i=true
    ·rw[if_pos h] at e;cases e;exact .inr ⟨rfl,by simpa using h,rfl⟩
    ·rw[if_neg h] at e;cases e;exact .inl ⟨rfl,fun _ z=>h (by simpa using z)⟩
   |lk=>cases e;exact .inl ⟨rfl,fun z=>by cases z⟩
   |sh Q=>cases e;exact .inl ⟨rfl,fun z=>by cases z⟩
theorem so {R:List Nat}{env:En}{i:Nat}{d:D}{t:Tg}(e:env[i]? = some (some (d,t))):∃ t',(lock R env)[i]? = some (some (d,t'))/\aV t'=aV t/\aT i t'=aT i t:=by
 unfold lock;rw[List.getElem?_mapIdx,e];cases t with
 |own =>
  simp only[Option.map_some];by_cases h:R.contains i=true
  ·exact⟨.lk,by rw[if_pos h],rfl,rfl⟩
  ·exact⟨.own,by rw[if_neg h],rfl,rfl⟩
 |lk=>exact⟨.lk,rfl,rfl,rfl⟩
 |sh Q=>exact⟨.sh Q,rfl,rfl,rfl⟩
theorem eK {R:List Nat}{env:En}{i:Nat}{d:D}{t:Tg}(e:(lock R env)[i]? = some (some (d,t))):∃ t0,env[i]? = some (some (d,t0))/\aV t0=aV t/\aT i t0=aT i t:=by
 rcases jK e with ⟨h,_⟩ | ⟨rfl,_,h⟩
 ·exact⟨t,h,rfl,rfl⟩
 ·exact⟨.own,h,rfl,rfl⟩
theorem RE.locked (re:RE K P env σ H F){R:List Nat}{G:List Addr}(hg:∀ a∈G,H a≠none)(hc:∀ a∈G,∀(i:Nat) (d:D) (t:Tg),env[i]? = some (some (d,t))->aV t=true->a∈F i->i∈R) :
  RE K (fun a=>P a\/a∈G) (lock R env) σ H F where
 len:=(nk R env).trans re.len
 val:=fun i d t e=>let ⟨t0,e0,_⟩:=eK e;re.val i d t0 e0
 emp:=fun i h=>re.emp i fun d t e=>by
  obtain⟨t',e',_⟩:=so (R:=R) e;exact h d t' e'
 one:=fun i d t e o=>by
  obtain⟨t0,e0,o0,_⟩:=eK e;obtain⟨a,b,c⟩:=re.one i d t0 e0 (o0.trans o);refine⟨a,b,fun x hx j d' t' ej m=>?_⟩;obtain⟨t1,e1,_,s1⟩:=eK ej;rw[<-s1];exact c x hx j d' t1 e1 m
 wr:=fun i d e a ha z=>by
  rcases jK e with ⟨h,hn⟩ | ⟨q,_⟩
  ·rcases z with z | z
   ·exact re.wr i d h a ha z
   ·exact hn rfl (hc a z i d .own h rfl ha)
  ·cases q
 pl:=fun a h=>h.elim (re.pl a) (hg a)
theorem kx (R:List Nat)(env0 env:En):(unlock R env0 env).length=env.length:=by simp[unlock]
theorem hX {R:List Nat}{env0 env:En}{i:Nat}{d:D}{t:Tg}(e:(unlock R env0 env)[i]? = some (some (d,t))) :
  (env[i]? = some (some (d,t))/\(t = .lk->¬ (i∈R/\∃ d0,env0[i]? = some (some (d0,.own)))))\/(t = .own/\i∈R/\env[i]? = some (some (d,.lk))/\∃ d0,env0[i]? = some (some (d0,.own))):=by
 unfold unlock at e;rw[List.getElem?_mapIdx] at e;cases q:env[i]? with
 |none=>rw[q] at e;cases e
 |some s =>
  rw[q] at e;cases s with
  |none=>cases e
  |some p =>
   obtain⟨a,b⟩:=p;simp only[Option.map_some,Option.some.injEq] at e;cases b with
   |own=>cases e;exact .inl ⟨rfl,fun z=>by cases z⟩
   |sh Q=>cases e;exact .inl ⟨rfl,fun z=>by cases z⟩
   |lk =>
    simp only at e;split at e
    ·rename_i d0 q0;by_cases h:R.contains i=true
     ·rw[if_pos h] at e;cases e;exact .inr ⟨rfl,by simpa using h,rfl,d0,q0⟩
     ·rw[if_neg h] at e;cases e;exact .inl ⟨rfl,fun _ z=>h (by simpa using z.1)⟩
    ·rename_i nq;cases e;exact .inl ⟨rfl,fun _ ⟨_,d0,q0⟩=>nq d0 q0⟩
theorem eS {R:List Nat}{env0 env:En}{i:Nat}{d:D}{t:Tg}(e:(unlock R env0 env)[i]? = some (some (d,t))):∃ t0,env[i]? = some (some (d,t0))/\aV t0=aV t/\aT i t0=aT i t:=by
 rcases hX e with ⟨h,_⟩ | ⟨rfl,_,h,_⟩
 ·exact⟨t,h,rfl,rfl⟩
 ·exact⟨.lk,h,rfl,rfl⟩
theorem nR {R:List Nat}{env0 env:En}{i:Nat}{d:D}{t:Tg}(e:env[i]? = some (some (d,t))):∃ t',(unlock R env0 env)[i]? = some (some (d,t')):=by
 unfold unlock;rw[List.getElem?_mapIdx,e];cases t with
 |own=>exact⟨.own,rfl⟩
 |sh Q=>exact⟨.sh Q,rfl⟩
 |lk =>
  simp only[Option.map_some];split
  ·by_cases h:R.contains i=true
   ·exact⟨.own,by rw[if_pos h]⟩
   ·exact⟨.lk,by rw[if_neg h]⟩
  ·exact⟨.lk,rfl⟩
theorem After.unlocked {R:List Nat}{G:List Addr}{env':En}{σ':L2.St}{H':Hp}{F':Nat->List Addr}(re:RE K P env σ H F)(a:After K (fun a=>P a\/a∈G) Z (lock R env) F H env' σ' H' F'):After K P Z env F H (unlock R env env') σ' H' F' where
 re:={
  len:=(kx R env env').trans a.re.len
  val:=fun i d t e=>let ⟨t0,e0,_⟩:=eS e;a.re.val i d t0 e0
  emp:=fun i h=>a.re.emp i fun d t e=>by
   obtain⟨t',e'⟩:=nR (R:=R) (env0:=env) e;exact h d t' e'
  one:=fun i d t e o=>by
   obtain⟨t0,e0,o0,_⟩:=eS e;obtain⟨x,y,c⟩:=a.re.one i d t0 e0 (o0.trans o);refine⟨x,y,fun z hz j d' t' ej m=>?_⟩;obtain⟨t1,e1,_,s1⟩:=eS ej;rw[<-s1];exact c z hz j d' t1 e1 m
  wr:=fun i d e b hb z=>by
   rcases hX e with ⟨h,_⟩ | ⟨_,hR,h,d0,h0⟩
   ·exact a.re.wr i d h b hb (.inl z)
   ·obtain⟨h1,h2⟩:=a.lk i d h;rw[h2] at hb;exact re.wr i d0 h0 b hb z
  pl:=fun b h=>a.re.pl b (.inl h) }
 z:=a.z
 ev:=a.ev.weak fun _ h=>.inl h
 lk:=fun i d e=>by
  rcases hX e with ⟨h,hn⟩ | ⟨q,_⟩
  ·obtain⟨h1,h2⟩:=a.lk i d h;rcases jK h1 with ⟨h3,_⟩ | ⟨_,hR,h3⟩
   ·exact⟨h3,h2⟩
   ·exact absurd ⟨hR,d,h3⟩ (hn rfl)
  ·cases q
end
section
variable {K:Frag}{P Z:Addr->Prop}{env:En}{σ:L2.St}{H:Hp}{F:Nat->List Addr}
theorem dX {x:Nat}{d:D}(h:ownAt env x=some d):env[x]? = some (some (d,.own)):=by
 unfold ownAt at h;split at h
 ·rename_i d' q;cases h;exact q
 ·cases h
theorem la (re:RE K P env σ H F){x:Nat}{d:D}{path:Option Int}{xs:List D}{v:V}(hx:ownAt env x=some d)(hv:σ[x]? = some (some v))(h:d.at1 path=some xs) :
  ∃ p,PV K H v path p/\∀ H',aI H H'->∃ ws Gx,H' p=some (.lst ws)/\aG K H' xs ws Gx/\p∈F x/\(∀ a∈Gx,a∈F x)/\Gx.Nodup/\p∉Gx /\
   ∀ ys us Gy,aG K (upd H' p (.lst us)) ys us Gy->Gy.Nodup->p∉Gy->(∀ a∈Gy,a∈Gx\/a∉F x)->∃ G',Rep K (upd H' p (.lst us)) (d.set1 path ys) v G'/\G'.Nodup/\∀ a∈G',a∈F x\/a∈Gy:=by
 have hx':=dX hx;obtain⟨u,e,rp⟩:=re.val x d .own hx';rw[hv] at e;cases e;obtain⟨a,b,_⟩:=re.one x d .own hx' rfl;obtain⟨p,pv,f⟩:=rq rp a h;exact⟨p,pv,fun H' e=>f H' e fun y hy=>let ⟨ws,q⟩:=b y hy;⟨ws,e _ _ q⟩⟩
theorem qH {D:Ends}{x:Nat}{d:Pc.D}{path:Option Int}{ys:List Pc.D}{rs:List Rt}(h:post K P Z env F H D (fU x path env d ys rs)):ys.length<=lim:=by
 unfold fU at h;cases hR:cU rs with
 |none=>rw[hR] at h;exact h.elim
 |some R =>
  rw[hR] at h;simp only at h;by_cases hc:(decide R.Nodup&&dG env R && !R.contains x&&decide (ys.length<=lim))=true
  ·simp only[Bool.and_eq_true,decide_eq_true_eq] at hc;exact hc.2
  ·rw[if_neg hc] at h;exact h.elim
theorem mR {H1:Hp}{D:Ends}{x:Nat}{d:Pc.D}{path:Option Int}{ys:List Pc.D}{rs:List Rt}{v:V}{p:Addr}{us:List V}{N:List Addr}
  (re:RE K P env σ H F) (hz:∀ i,∀ a∈F i,Z a) (zp:∀ a,¬ P a->Z a) (e:aI H H1) (hx:ownAt env x=some d) (hv:σ[x]? = some (some v)) (hp:p∈F x)
  (hN:∀ R,cU rs=some R->R.Nodup->N.Nodup/\(∀ a∈N,∃ vs:ML,H1 a=some vs.o)/\∀ a∈N,H a=none\/∃ i d t,i∈R/\a∈F i/\env[i]? = some (some (d,t))/\aV t=true)
  (hset:(∀ a∈N,a∉F x)->N.Nodup->∃ G',Rep K (upd H1 p (.lst us)) (d.set1 path ys) v G'/\G'.Nodup/\∀ a∈G',a∈F x\/a∈N)
  (h:post K P Z env F H D (fU x path env d ys rs)):D.nx σ (upd H1 p (.lst us)):=by
 unfold fU at h;cases hR:cU rs with
 |none=>rw[hR] at h;exact h.elim
 |some R =>
  rw[hR] at h;simp only at h;by_cases hc:(decide R.Nodup&&dG env R && !R.contains x&&decide (ys.length<=lim))=true
  ·rw[if_pos hc] at h;simp only[Bool.and_eq_true,decide_eq_true_eq,Bool.not_eq_true'] at hc;obtain⟨⟨⟨hc1,hc2⟩,hc3⟩,hc4⟩:=hc;have hxR:x∉R:=fun z=>by
    have:R.contains x=true:=by simpa using z
    rw[this] at hc3;cases hc3
   obtain⟨n1,n2,n3⟩:=hN R hR hc1;have hx':=dX hx;have ow:∀ k∈R,∃ d',env[k]? = some (some (d',.own)):=fun k hk=>by
    have:=fe.mp hc2 k hk;split at this
    ·rename_i d' q;exact⟨d',q⟩
    ·cases this
   have notx:∀ a∈N,a∉F x:=fun a ha m=>by
    rcases n3 a ha with q | ⟨i,d2,t2,hi,f,e2,o2⟩
    ·exact re.nn hx' m q
    ·have:=(re.one i d2 t2 e2 o2).2.2 a f x d .own hx' m;simp only[aT,List.mem_singleton] at this;subst this;exact hxR hi
   obtain⟨G',g1,g2,g3⟩:=hset notx n1;have re1:=re.same e;have pP:∀ a∈N,¬ P a:=fun a ha z=>by
    rcases n3 a ha with q | ⟨i,d2,t2,hi,f,e2,o2⟩
    ·exact re.pl a z q
    ·obtain⟨d3,e3⟩:=ow i hi;exact re.wr i d3 e3 a f z
   have re2:=re1.mutate (R:=R) (N:=N) hx' hv hp g1 g2 g3 fun a ha=>⟨n2 a ha,pP a ha,fun j dj tj ej m=>by
    rcases n3 a ha with q | ⟨i,d2,t2,hi,f,e2,o2⟩
    ·exact absurd q (re.nn ej m)
    ·exact⟨i,ak _ hi,(re.one i d2 t2 e2 o2).2.2 a f j dj tj ej m⟩⟩
   obtain⟨_,lsx,_⟩:=re1.one x d .own hx' rfl;obtain⟨ws,hpl⟩:=lsx p hp;have nPp:¬ P p:=re.wr x d hx' p hp;refine h σ _ _ ⟨re2,fun j a ha=>?_,(iV.of_same re.pl e).trans ⟨fun a z=>aJ (fun q=>nPp (q ▸ z)),fun b xs r=>?_,ig hpl⟩,fun j dj ej=>?_⟩
   ·unfold kq at ha;split at ha
    ·rcases g3 a ha with q | q
     ·exact hz x a q
     ·exact zp a (pP a q)
    ·split at ha
     ·exact hz j a ha
     ·cases ha
   ·refine (aJ (fun q=>?_)).trans r;subst q;rw[hpl] at r;cases ws<;>cases r
   ·by_cases hj:j=x
    ·subst hj;rw[List.getElem?_set_self (by rw[bX];exact (List.getElem?_eq_some_iff.mp hx').1)] at ej;cases ej
    ·rw[List.getElem?_set_ne (cz hj)] at ej;refine⟨(bO ej).1,?_⟩;unfold kq;rw[if_neg hj,ej]
  ·rw[if_neg hc] at h;exact h.elim
end
end Pc
end
section
namespace Pc
open PySem PySem.Spec PyProof.Rows L2
section
variable {K:Frag}{H:Hp}
theorem aG.inv2 {d e:D}{x y:V}{G:List Addr}(h:aG K H [d,e] [x,y] G):∃ G1 G2,Rep K H d x G1/\Rep K H e y G2/\G=G1++G2:=by
 cases h with
 |cons r s =>
  cases s with
  |cons r' s'=>cases s';exact⟨_,_,r,r',by rw[ba]⟩
theorem Rep.int_inv {i:Int}{v:V}{G:List Addr}(h:Rep K H (.int i) v G):v = .int i/\G=[]:=by cases h;exact⟨rfl,rfl⟩
theorem Rep.bl_inv {i:Bool}{v:V}{G:List Addr}(h:Rep K H (.bl i) v G):v = .bl i/\G=[]:=by cases h;exact⟨rfl,rfl⟩
theorem Rep.str_inv {i:Str}{v:V}{G:List Addr}(h:Rep K H (.str i) v G):v = .str i/\G=[]:=by cases h;exact⟨rfl,rfl⟩
theorem Rep.non_inv {v:V}{G:List Addr}(h:Rep K H .non v G):v = .non/\G=[]:=by cases h;exact⟨rfl,rfl⟩
theorem Rep.tup_inv {ds:List D}{v:V}{G:List Addr}(h:Rep K H (.tup ds) v G):∃ p vs,v = .ref p/\iq K H p vs/\aG K H ds vs G:=by
 cases h with
 |tup a b=>exact⟨_,_,rfl,a.sq,b⟩
theorem Rep.tup_invT {ds:List D}{v:V}{G:List Addr}(h:Rep K H (.tup ds) v G):∃ p vs,v = .ref p/\iX K H p vs/\aG K H ds vs G:=by
 cases h with
 |tup a b=>exact⟨_,_,rfl,a,b⟩
end
section
variable {X:Cx}
theorem Inv.lstR {pins:List (Addr×Obj)}{σ:L2.St}{H:Hp}{s:Shared}{l:Addr}{xs:List V}(I:Inv X pins σ H s)(hH:Rd H l (.lst xs)):xs.length<=sizeLine/\∃(its:List Value) (n:Nat),aL xs its/\xs.length=its.length/\s.heap.get? l=some { cls:=.type "list",data:=.seq its.toArray n }:=by
 obtain⟨z,its,n,r,e⟩:=hH.ok I.hok;exact⟨z,its,n,r,r.length,e⟩
noncomputable def Bz:R2:=fun x y H Q=>∃ l b xs zs,x = .ref l/\y = .ref b/\Rd H l (.lst xs)/\Rd H b (.lst zs)/\xs.length+zs.length<=sizeLine/\∀ p,H p=none->Q (.ref p) (upd H p (.lst (xs++zs)))
theorem qk:fW X (binaryOp .Add) Bz:=by
 intro pins s σ H x y v u Q I rx ry h;obtain⟨l,b,xs,zs,rfl,rfl,hH,hB,hz,q⟩:=h;cases rx;cases ry;obtain⟨z,its,n,r,hl,e⟩:=Inv.lstR I hH;obtain⟨z2,its2,n2,r2,hl2,e2⟩:=Inv.lstR I hB;refine PySem.P.add_list e e2 ?_ (by rw[ae,ae];omega);have ea:its.toArray++its2.toArray=(its++its2).toArray:=by simp
 rw[ea];exact⟨.ref _,_,I.lnew (t':=s.toks) (r.append r2) (by rw[au];omega),rfl,q _ I.fresh⟩
noncomputable def A6:R2:=fun x y H Q=>∃ l k xs,x = .ref l/\y = .int k/\Rd H l (.lst xs)/\-(2 ^ 63)<=k/\k<2 ^ 63/\xs.length*k.toNat<=sizeLine /\
 ∀ p,H p=none->Q (.ref p) (upd H p (.lst (List.replicate k.toNat xs).flatten))
theorem vW:fW X (binaryOp .Mult) A6:=by
 intro pins s σ H x y v u Q I rx ry h;obtain⟨l,k,xs,rfl,rfl,hH,h1,h2,hz,q⟩:=h;cases rx;obtain⟨t,rfl⟩:=ry;obtain⟨z,its,n,r,hl,e⟩:=Inv.lstR I hH;have hlen:its.toArray.size*k.toNat<=sizeLine:=by rw[ae,<-hl];exact hz
 have hcap:¬ its.toArray.size*k.toNat > (2 ^ 63 - 1) / 8:=by
  have:(sizeLine:Nat)<=(2 ^ 63 - 1) / 8:=by decide
  omega
 have hfit:¬ (!Builtin.List.listFitsIndex k)=true:=by
  rw[fitsIndex_both h1 h2];exact ax
 have hlong:¬ Builtin.List.listTooLong (its.toArray.size*k.toNat)=true:=by
  rw[mW hlen];exact ax
 have hnew:List.foldl (fun x1 x2=>x1++x2) #[] (List.replicate (if its.toArray.isEmpty=true then 0 else k.toNat) its.toArray)=(List.replicate k.toNat its).flatten.toArray:=by
  have f0:∀ m:Nat,List.foldl (fun x1 x2=>x1++x2) #[] (List.replicate m its.toArray)=(List.replicate m its).flatten.toArray:=fun m=>by
   have:=foldl_rep its m [];rw[fh] at this;exact this
  rw[f0];cases its with
  |nil=>simp
  |cons a r'=>rw[if_neg (by simp)]
 refine wpAny_binaryOp_repeat_ref (T:="list") (U:="int") (by decide) ⟨_,e,rfl⟩ (fun s'=>typeIs_int s' k t) noFill_list_mul F.fills_int_mul F.slot_int_rmul repeat_list F.slot_int_index.lookup
  (call_meets F.slot_int_rmul (typeIs_int s k t) F.entry_int_rmul (F.args_int_rmul_2 _ _) (int___rmul___int_list k t l its.toArray n)
   ⟨e,rfl,⟨_,e,rfl⟩,call_meets F.slot_list_mul ⟨_,e,rfl⟩ F.entry_list_mul (F.args_list_mul_2 _ _) (AutoListH.list___mul___list_int_3 l its.toArray n k t hfit hcap hlong) ⟨e,?_⟩⟩)
 rw[hnew];exact⟨.ref _,_,I.lnew (t':=s.toks) (r.rep k.toNat) (by rw[len_rep,Nat.mul_comm];exact hz),rfl,q _ I.fresh⟩
theorem aG.rep {K:Frag}{H:Hp}{ds:List D}{vs:List V}(h:aG K H ds vs []):∀ n:Nat,aG K H (List.replicate n ds).flatten (List.replicate n vs).flatten []
 |0=>.nil
 | n+1=>by
  rw[dm,dm,bp,bp];exact h.append (h.rep n)
theorem jy {n:Nat}{d e:D}(h:ck n d=some e):n<=lim/\e=d:=by
 unfold ck at h;split at h
 ·cases h;exact⟨‹_›,rfl⟩
 ·cases h
theorem kK {i:Int}:small i=true↔(-(2 ^ 64)<i/\i<2 ^ 64):=by unfold small;exact bf
theorem xm {op:Operator}{i j k:Int}(h:binI op i j=some k):fW X (binaryOp op) (fun x y H Q=>x = .int i/\y = .int j/\Q (.int k) H):=by
 intro pins s σ H x y v u Q I rx ry q;obtain⟨rfl,rfl,q⟩:=q;cases op with
 |Add=>cases h;exact zz pins s σ H _ _ v u Q I rx ry ⟨i,j,rfl,rfl,q⟩
 |Sub=>cases h;exact yV pins s σ H _ _ v u Q I rx ry ⟨i,j,rfl,rfl,q⟩
 |Mult =>
  simp only[binI] at h;by_cases hc:(small i || small j)=true
  ·rw[if_pos hc] at h;cases h;refine Ac pins s σ H _ _ v u Q I rx ry ⟨i,j,rfl,rfl,?_,q⟩;rw[ft,kK,kK] at hc;exact hc
  ·rw[if_neg hc] at h;cases h
 |FloorDiv =>
  simp only[binI] at h;by_cases hc:0<j/\j<1073741824
  ·rw[if_pos hc] at h;cases h;exact vQ pins s σ H _ _ v u Q I rx ry ⟨i,j,rfl,rfl,hc,q⟩
  ·rw[if_neg hc] at h;cases h
 |Mod =>
  simp only[binI] at h;by_cases hc:0<j
  ·rw[if_pos hc] at h;cases h;exact yD pins s σ H _ _ v u Q I rx ry ⟨i,j,rfl,rfl,hc,q⟩
  ·rw[if_neg hc] at h;cases h
 |Pow =>
  simp only[binI] at h;by_cases hc:0<=j/\j<=1000000/\i.natAbs<2 ^ 64
  ·rw[if_pos hc] at h;cases h;exact Ay pins s σ H _ _ v u Q I rx ry ⟨i,j,rfl,rfl,hc,q⟩
  ·rw[if_neg hc] at h;cases h
 |LShift =>
  simp only[binI] at h;by_cases hc:0<=j/\j<=1000000/\i.natAbs<2 ^ 64
  ·rw[if_pos hc] at h;cases h;exact zN pins s σ H _ _ v u Q I rx ry ⟨i,j,rfl,rfl,hc,q⟩
  ·rw[if_neg hc] at h;cases h
 |RShift =>
  simp only[binI] at h;by_cases hc:0<=j
  ·rw[if_pos hc] at h;cases h;exact za pins s σ H _ _ v u Q I rx ry ⟨i,j,rfl,rfl,hc,q⟩
  ·rw[if_neg hc] at h;cases h
 |BitAnd=>cases h;exact AS pins s σ H _ _ v u Q I rx ry ⟨i,j,rfl,rfl,q⟩
 |BitOr=>cases h;exact Cz pins s σ H _ _ v u Q I rx ry ⟨i,j,rfl,rfl,q⟩
 |BitXor=>cases h;exact zJ pins s σ H _ _ v u Q I rx ry ⟨i,j,rfl,rfl,q⟩
 |_=>cases h
theorem vY (op:Operator):fW X (binaryOp op) (vS X.K (eR op)):=by
 intro pins s σ H x y v u Q I rx ry h;obtain⟨d1,d2,d,G,rs,hd,k⟩:=h;obtain⟨G1,G2,r1,r2,rfl⟩:=rs.inv2;cases d1 with
 |int i =>
  cases d2 with
  |int j =>
   obtain⟨rfl,rfl⟩:=r1.int_inv;obtain⟨rfl,rfl⟩:=r2.int_inv;have:eR op (.int i) (.int j)=(binI op i j).map .int:=by cases op<;>rfl
   rw[this,aa] at hd;obtain⟨z,hz,rfl⟩:=hd;exact xm hz pins s σ H _ _ v u Q I rx ry ⟨rfl,rfl,k _ H [] (.int z) fX.nil⟩
  |_=>cases op<;>simp[eR] at hd
 |str a =>
  cases d2 with
  |str b =>
   cases op with
   |Add =>
    obtain⟨hl,rfl⟩:=jy hd;obtain⟨rfl,rfl⟩:=r1.str_inv;obtain⟨rfl,rfl⟩:=r2.str_inv;exact ot pins s σ H _ _ v u Q I rx ry ⟨a,b,rfl,rfl,eD hl,k _ H [] (.str _) fX.nil⟩
   |_=>simp[eR] at hd
  |_=>cases op<;>simp[eR] at hd
 |lst a =>
  obtain⟨p,vs,G',rfl,rfl,h1,h2⟩:=r1.lst_inv;cases d2 with
  |lst b =>
   cases op with
   |Add =>
    obtain⟨hl,rfl⟩:=jy hd;obtain⟨p',vs',G'',rfl,rfl,h1',h2'⟩:=r2.lst_inv;refine qk pins s σ H _ _ v u Q I rx ry ⟨p,p',vs,vs',rfl,rfl,h1,h1',by rw[<-h2.len,<-h2'.len];exact eD hl,fun q hq=>?_⟩;obtain⟨n1,n2⟩:=i6 (G0:=p::G'++p'::G'') (h2.append h2') (fun a ha=>by simp at ha ⊢;rcases ha with ha | ha<;>simp[ha]) hq;exact k _ _ _ n1 n2
   |_=>simp[eR] at hd
  |int n =>
   cases op with
   |Mult =>
    simp only[eR] at hd;by_cases hc : -(2 ^ 63)<=n/\n<2 ^ 63
    ·rw[if_pos hc] at hd;by_cases hf:D.flats a=true
     ·rw[if_pos hf] at hd;obtain⟨hl,rfl⟩:=jy hd;obtain⟨rfl,rfl⟩:=r2.int_inv;have eG:G'=[]:=h2.flat hf;subst eG;refine vW pins s σ H _ _ v u Q I rx ry ⟨p,n,vs,rfl,rfl,h1,hc.1,hc.2,by rw[<-h2.len];exact eD hl,fun q hq=>?_⟩;obtain⟨n1,n2⟩:=i6 (G0:=[p] ++ []) (h2.rep n.toNat) (fun a ha=>(nomatch ha)) hq;exact k _ _ _ n1 n2
     ·rw[if_neg hf] at hd;cases hd
    ·rw[if_neg hc] at hd;cases hd
   |_=>simp[eR] at hd
  |_=>cases op<;>simp[eR] at hd
 |tup a =>
  obtain⟨p,vs,rfl,h1,h2⟩:=r1.tup_invT;cases d2 with
  |tup b =>
   cases op with
   |Add =>
    simp only[eR] at hd;by_cases hc:a.isEmpty=true
    ·rw[if_pos hc] at hd;cases hd
    ·rw[if_neg hc] at hd;obtain⟨hl,rfl⟩:=jy hd;obtain⟨p',vs',rfl,h1',h2'⟩:=r2.tup_inv;refine w4 pins s σ H _ _ v u Q I rx ry ⟨p,p',vs,vs',rfl,rfl,h1.sq,h1',?_,by rw[<-h2.len,<-h2'.len];exact eD hl,fun hy=>?_,fun _ q hq=>?_⟩
     ·intro z;have:=h2.len;rw[z] at this;cases a with
      |nil=>exact hc rfl
      |cons _ _=>simp at this
     ·subst hy;cases h2' with
      |nil =>
       simp only[List.append_nil] at k;refine k _ H G1 (.tup h1 h2) ⟨aI.refl _,fun a ha=>.inr ha,fun f=>?_⟩;have:G1=[]:=h2.flat (by simpa[D.inner] using f);subst this;exact⟨cj,fun _ h=>(nomatch h)⟩
     ·obtain⟨n1,n2⟩:=rR (G0:=G1++G2) (h2.append h2') (fun a ha=>ha) hq;exact k _ _ _ n1 n2
   |_=>simp[eR] at hd
  |_=>cases op<;>simp[eR] at hd
 |_=>cases d2<;>cases op<;>simp[eR] at hd
open SeqAt in
theorem gB {f:D->D->Option Bool}:∀{xs ys:List D}{b:Bool},oV f xs ys=some b->xs.length=ys.length/\∃ e:Nat->Bool,(∀ j x y,xs[j]? = some x->ys[j]? = some y->f x y=some (e j))/\b=(List.range xs.length).all e
 |[],[],b,h=>by cases h;exact⟨rfl,fun _=>true,fun j x y hx=>by simp at hx,rfl⟩
 | x::xs,y::ys,b,h=>by
  simp only[oV,Option.bind_eq_some_iff,Option.map_eq_some_iff] at h;obtain⟨a,h1,c,h2,rfl⟩:=h;obtain⟨hl,e,he,rfl⟩:=gB h2;refine⟨by simp[hl],fun j=>match j with | 0=>a | j+1=>e j,fun j x' y' hx hy=>?_,?_⟩
  ·cases j with
   |zero=>simp at hx hy;subst hx;subst hy;exact h1
   |succ j=>exact he j x' y' (by simpa using hx) (by simpa using hy)
  ·rw[ag,fv,dq,List.all_map];rfl
 |[],_::_,b,h=>by cases h
 |_::_,[],b,h=>by cases h
theorem iw:∀(n:Nat) (d:D) (b:Bool),D.eqf n d d=some b->b=true
 |0,_,_,h=>by cases h
 |n+1,.non,b,h=>by cases h;rfl
 |n+1,.bl x,b,h=>by simp[D.eqf] at h;exact h
 |n+1,.int x,b,h=>by simp[D.eqf] at h;exact h
 |n+1,.str x,b,h=>by simp[D.eqf] at h;exact h
 | n+1,.lst xs,b,h=>by
  simp only[D.eqf,if_true] at h;obtain⟨_,e,he,rfl⟩:=gB h;rw[fe];intro j hj;have hj:j<xs.length:=by simpa using hj
  exact iw n xs[j] _ (he j _ _ (by simp[hj]) (by simp[hj]))
 |n+1,.dct _,b,h=>by cases h
 |n+1,.mpi _,b,h=>by cases h
 |n+1,.mpt _,b,h=>by cases h
 |n+1,.mpz _,b,h=>by cases h
 | n+1,.tup xs,b,h=>by
  simp only[D.eqf,if_true] at h;obtain⟨_,e,he,rfl⟩:=gB h;rw[fe];intro j hj;have hj:j<xs.length:=by simpa using hj
  exact iw n xs[j] _ (he j _ _ (by simp[hj]) (by simp[hj]))
section
variable {pins:List (Addr×Obj)}{σ:L2.St}{H:Hp}{s:Shared}
theorem fP.inj:∀{es:List DictEntry}{kvs kvs':List (Key×Option Int)},fP es kvs->fP es kvs'->kvs=kvs'
 |_,_,_,.nil,h=>by cases h;rfl
 | _,_,_,.cons hh hk hv r,h=>by
  cases h with
  |cons hh' hk' hv' r' =>
   rw[hk] at hk';rw[hv] at hv';cases hk';cases hv';rw[fP.inj r r']
  |si hk' hv' r'=>rw[hk] at hk';cases hk'
  |sn hk' hv' r'=>rw[hk] at hk';cases hk'
 | _,_,_,.si hk hv r,h=>by
  cases h with
  |cons hh' hk' hv' r'=>rw[hk] at hk';cases hk'
  |si hk' hv' r' =>
   rw[hk] at hk';rw[hv] at hv';cases hk';cases hv';rw[fP.inj r r']
  |sn hk' hv' r'=>rw[hv] at hv';cases hv'
 | _,_,_,.sn hk hv r,h=>by
  cases h with
  |cons hh' hk' hv' r'=>rw[hk] at hk';cases hk'
  |si hk' hv' r'=>rw[hv] at hv';cases hv'
  |sn hk' hv' r' =>
   rw[hk] at hk';cases hk';rw[fP.inj r r']
theorem oN.inj {K:Frag}{a:Addr}{kvs kvs':List (Key×Option Int)}(h:oN K a kvs)(h':oN K a kvs'):kvs=kvs':=by
 obtain⟨o,es,ep,h1,h2,h3,h4,_⟩:=h;obtain⟨o',es',ep',h1',h2',h3',h4',_⟩:=h';rw[h1] at h1';cases h1';rw[h3] at h3';cases h3';exact h4.inj h4'
theorem ju (I:L2.Inv X pins σ H s){a:Addr}{kvs:List (Key×Option Int)}(h:oN X.K a kvs):∃ o,s.heap.get? a=some o/\o.cls = .type "dict"/\o.ExactDict:=by
 obtain⟨o,es,ep,h1,h2,h3,h4,_⟩:=h;exact⟨o,I.kIn a o h1,h2.1,h2⟩
noncomputable def nf:HO->Bool
 |.frz _ _=>false
 |_=>true
noncomputable def nt:HO->Bool
 |.tup _=>false
 |_=>true
theorem dE {H:Hp}{a:Addr}{u u':HO}(h:Rd H a u)(h':Rd H a u')(hu:nf u=true:=by rfl)(hu':nf u'=true:=by rfl):u=u':=by
 rcases h with h | ⟨o,h⟩<;>rcases h' with h' | ⟨o',h'⟩<;>rw[h] at h'
 ·exact bu h'
 ·rw[bu h'] at hu;cases hu
 ·rw[<-bu h'] at hu';cases hu'
 ·cases h';rfl
theorem jJ (I:L2.Inv X pins σ H s){a:Addr}{o:Obj}(h:X.K.lookup a=some o):H a=none:=(I.bs a o (I.ok.mod.kin a o h)).2
theorem qj:∀{a b:List Int},a.map (Sum.inl (β:=Str))=b.map Sum.inl->a=b
 |[],[],_=>rfl
 |[],_::_,h=>by cases h
 |_::_,[],h=>by cases h
 | x::a,y::b,h=>by
  have h:(Sum.inl x:Key)::a.map Sum.inl=Sum.inl y::b.map Sum.inl:=h;injection h with h1 h2
  injection h1 with h1
  rw[h1,qj h2]
theorem pf:∀{a b:List (List Int)},lN a=lN b->a=b
 |[],[],_=>rfl
 |[],_::_,h=>by cases h
 |_::_,[],h=>by cases h
 | x::a,y::b,h=>by
  have h:(x.map Sum.inl,V.bl true)::lN a=(y.map Sum.inl,V.bl true)::lN b:=h;injection h with h1 h2
  injection h1 with h1 _
  rw[qj h1,pf h2]
theorem iq.not_rd (I:L2.Inv X pins σ H s){a:Addr}{vs:List V}{u:HO}(h:iq X.K H a vs)(h':Rd H a u)(hu:nf u=true:=by rfl)(ht:nt u=true:=by rfl):False:=by
 rcases h with h | h
 ·rw[dE h' h hu] at ht;cases ht
 ·obtain⟨o,_,_,h1,_⟩:=h;exact Rd.ne_none h' (jJ I h1)
theorem nu:∀{a b:List Int},a.map V.int=b.map V.int->a=b
 |[],[],_=>rfl
 |[],_::_,h=>by cases h
 |_::_,[],h=>by cases h
 | x::a,y::b,h=>by
  injection h with h1 h2
  injection h1 with h1
  rw[h1,nu h2]
theorem nI.inj (I:Inv X pins σ H s):∀{m m':MV}{v:V},nI X.K H m v->nI X.K H m' v->m=m'
 |.tr,.tr,_,_,_=>rfl
 |.int i,.int j,_,h,h'=>by cases h;cases h';rfl
 | .tup a,.tup b,_,⟨p,e,h⟩,⟨p',e',h'⟩=>by
  subst e;cases e';rw[nu (I.tuple_inj h.sq h'.sq)]
 |.tr,.int _,_,h,h'=>by cases h;cases h'
 |.int _,.tr,_,h,h'=>by cases h;cases h'
 |.tr,.tup _,_,h,⟨_,e,_⟩=>by cases h;cases e
 |.tup _,.tr,_,⟨_,e,_⟩,h=>by cases h;cases e
 |.int _,.tup _,_,h,⟨_,e,_⟩=>by cases h;cases e
 |.tup _,.int _,_,⟨_,e,_⟩,h=>by cases h;cases e
theorem gX.inj (I:Inv X pins σ H s):∀{a b:List (Int×MV)}{xs:List (Key×V)},gX X.K H a xs->gX X.K H b xs->a=b
 |[],[],_,_,_=>rfl
 |[],_::_,[],_,h=>h.elim
 |_::_,[],[],h,_=>h.elim
 |[],_::_,_::_,h,_=>h.elim
 |_::_,[],_::_,_,h=>h.elim
 |_::_,_::_,[],h,_=>h.elim
 | (k,m)::a,(k',m')::b,x::xs,⟨h1,h2,h3⟩,⟨g1,g2,g3⟩=>by
  rw[h1] at g1;injection g1 with g1
  have g1:k=k':=g1;rw[g1,show m=m' from nI.inj I h2 g2,gX.inj I h3 g3]
theorem Rep.inj (I:Inv X pins σ H s){d:D}{v:V}{G:List Addr}(h:Rep X.K H d v G):∀{e:D}{G':List Addr},Rep X.K H e v G'->d=e:=by
 refine Rep.rec (motive_1:=fun d v G _=>∀{e:D}{G':List Addr},Rep X.K H e v G'->d=e) (motive_2:=fun ds vs G _=>∀{es:List D}{G':List Addr},aG X.K H es vs G'->ds=es) ?non ?bl ?int ?str ?lst ?tup ?dct ?mpi ?mpt ?mpz ?nil ?cons h
 case non =>
  intro e' G' h;cases h;rfl
 case bl =>
  intro _ e' G' h;cases h;rfl
 case int =>
  intro _ e' G' h;cases h;rfl
 case str =>
  intro _ e' G' h;cases h;rfl
 case mpi =>
  intro p0 ks0 xs0 h r0 e' G' q;cases q with
  |mpi h' r'=>
   rw[h] at h';cases h';rw[gX.inj I r0 r']
  |mpz h' r'=>rw[h] at h';cases h'
  |mpt h'=>exact nomatch dE (.inl h) h'
  |lst h' _=>exact nomatch dE (.inl h) h'
  |tup h' _=>exact (iq.not_rd I h'.sq (.inl h)).elim
  |dct h' =>
   obtain⟨o,_,_,h1,_⟩:=h';exact absurd (jJ I h1) (Rd.ne_none (.inl h))
 case mpz =>
  intro p0 ks0 xs0 o0 h r0 e' G' q;cases q with
  |mpz h' r'=>
   rw[h] at h';cases h';rw[gX.inj I r0 r']
  |mpi h' r'=>rw[h] at h';cases h'
  |mpt h'=>exact nomatch dE (.inr ⟨_,h⟩) h'
  |lst h' _=>exact nomatch dE (.inr ⟨_,h⟩) h'
  |tup h' _=>exact (iq.not_rd I h'.sq (.inr ⟨_,h⟩)).elim
  |dct h' =>
   obtain⟨o,_,_,h1,_⟩:=h';exact absurd (jJ I h1) (Rd.ne_none (.inr ⟨_,h⟩))
 case mpt =>
  intro p0 ks0 h e' G' q;cases q with
  |mpt h'=>
   have:=dE h h';injection this with this
   rw[pf this]
  |mpi h' _=>exact nomatch dE h (.inl h')
  |mpz h' _=>exact nomatch dE h (.inr ⟨_,h'⟩)
  |lst h' _=>exact nomatch dE h h'
  |tup h' _=>exact (iq.not_rd I h'.sq h).elim
  |dct h' =>
   obtain⟨o,_,_,h1,_⟩:=h';exact absurd (jJ I h1) (Rd.ne_none h)
 case lst =>
  intro p0 vs0 ds0 G0 h r ih e' G' q;cases q with
  |mpi h' _=>exact nomatch dE h (.inl h')
  |mpz h' _=>exact nomatch dE h (.inr ⟨_,h'⟩)
  |mpt h'=>exact nomatch dE h h'
  |lst h' r' =>
   have e:=I.list_inj (.inl h) (.inl h');subst e;rw[ih r']
  |dct h' =>
   obtain⟨its,_,pl,_⟩:=I.list (.inl h);obtain⟨o,ho,hc,_⟩:=pl.isList;obtain⟨o',ho',hc',_⟩:=ju I h';rw[ho] at ho';cases ho';rw[hc] at hc';injection hc' with z;exact absurd z (by decide)
  |tup h' r' =>
   obtain⟨its,_,pl,_⟩:=I.list (.inl h);obtain⟨its',_,pt,_⟩:=I.tuple h'.sq;obtain⟨o,ho,hc,_⟩:=pl.isList;obtain⟨o',ho',hc',_⟩:=pt;rw[ho] at ho';cases ho';rw[hc] at hc';injection hc' with z;exact absurd z (by decide)
 case tup =>
  intro p0 vs0 ds0 G0 h r ih e' G' q;cases q with
  |mpi h' _=>exact (iq.not_rd I h.sq (.inl h')).elim
  |mpz h' _=>exact (iq.not_rd I h.sq (.inr ⟨_,h'⟩)).elim
  |mpt h'=>exact (iq.not_rd I h.sq h').elim
  |tup h' r' =>
   have e:=I.tuple_inj h.sq h'.sq;subst e;rw[ih r']
  |dct h' =>
   obtain⟨its',_,pt,_⟩:=I.tuple h.sq;obtain⟨o,ho,hc,_⟩:=pt;obtain⟨o',ho',hc',_⟩:=ju I h';rw[ho] at ho';cases ho';rw[hc] at hc';injection hc' with z;exact absurd z (by decide)
  |lst h' r' =>
   obtain⟨its,_,pl,_⟩:=I.list (.inl h');obtain⟨its',_,pt,_⟩:=I.tuple h.sq;obtain⟨o,ho,hc,_⟩:=pl.isList;obtain⟨o',ho',hc',_⟩:=pt;rw[ho] at ho';cases ho';rw[hc] at hc';injection hc' with z;exact absurd z (by decide)
 case dct =>
  intro p0 ks0 h e' G' q;cases q with
  |mpi h' _ =>
   obtain⟨o,_,_,h1,_⟩:=h;exact absurd (jJ I h1) (Rd.ne_none (.inl h'))
  |mpz h' _ =>
   obtain⟨o,_,_,h1,_⟩:=h;exact absurd (jJ I h1) (Rd.ne_none (.inr ⟨_,h'⟩))
  |mpt h' =>
   obtain⟨o,_,_,h1,_⟩:=h;exact absurd (jJ I h1) (Rd.ne_none h')
  |dct h'=>rw[oN.inj h h']
  |lst h' r' =>
   obtain⟨its,_,pl,_⟩:=I.list (.inl h');obtain⟨o,ho,hc,_⟩:=pl.isList;obtain⟨o',ho',hc',_⟩:=ju I h;rw[ho] at ho';cases ho';rw[hc] at hc';injection hc' with z;exact absurd z (by decide)
  |tup h' r' =>
   obtain⟨its',_,pt,_⟩:=I.tuple h'.sq;obtain⟨o,ho,hc,_⟩:=pt;obtain⟨o',ho',hc',_⟩:=ju I h;rw[ho] at ho';cases ho';rw[hc] at hc';injection hc' with z;exact absurd z (by decide)
 case nil=>intro e' G' h;cases h;rfl
 case cons =>
  intro d0 v0 ds0 vs0 G0 G1 h r i1 i2 e' G' q;cases q with
  |cons h' r'=>rw[i1 h',i2 r']
open SeqAt in
theorem pK (I:Inv X pins σ H s):∀(n:Nat) (A:Around) (d e:D) (v w:V) (G G':List Addr) (u u':Value) (b:Bool),A.units+n<cLine->Rep X.K H d v G->Rep X.K H e w G'->RelV v u->RelV w u'->D.eqf n d e=some b->RcAt A s u u' b/\EqAt A s u u' b
 |0,_,_,_,_,_,_,_,_,_,_,_,_,_,_,_,h=>by cases h
 | n+1,A,d,e,v,w,G,G',u,u',b,hu,r1,r2,q1,q2,h=>by
  have hu1:A.in1.units+n<cLine:=by show A.units+1+n<cLine;omega
  have hu0:A.units<cLine:=by omega
  have items:∀{xs ys:List D}{vs ws:List V}{G1 G2:List Addr}{its its':List Value}{c:Bool},aG X.K H xs vs G1->aG X.K H ys ws G2->aL vs its->aL ws its'->oV (D.eqf n) xs ys=some c ->
    its.toArray.size=its'.toArray.size/\∃ ee:Nat->Bool,c=(List.range its.toArray.size).all ee/\∀ j (h1:j<its.toArray.size) (h2:j<its'.toArray.size),EqAt A.in1 s its.toArray[j] its'.toArray[j] (ee j):=by
   intro xs ys vs ws G1 G2 its its' c a1 a2 b1 b2 hc;obtain⟨hl,ee,he,rfl⟩:=gB hc;have l1:=a1.len;have l2:=a2.len;have l3:=b1.length;have l4:=b2.length;have sz:its.toArray.size=xs.length:=by rw[ae];omega
   refine⟨by rw[ae,ae];omega,ee,by rw[sz],fun j h1 h2=>?_⟩;have j1:j<xs.length:=by rw[<-sz];exact h1
   have j2:j<ys.length:=by omega
   obtain⟨v1,g1,e1,p1,_⟩:=a1.get (i:=j) (d:=xs[j]) (by simp[j1]);obtain⟨v2,g2,e2,p2,_⟩:=a2.get (i:=j) (d:=ys[j]) (by simp[j2]);obtain⟨u1,f1,t1⟩:=b1.get e1;obtain⟨u2,f2,t2⟩:=b2.get e2;have x1:its.toArray[j]=u1:=by
    have:=List.getElem?_eq_some_iff.mp f1;simpa using this.2
   have x2:its'.toArray[j]=u2:=by
    have:=List.getElem?_eq_some_iff.mp f2;simpa using this.2
   rw[x1,x2];exact (pK I n A.in1 _ _ _ _ _ _ _ _ _ hu1 p1 p2 t1 t2 (he j _ _ (by simp[j1]) (by simp[j2]))).2
  have refs:∀{l m:Addr}{c:Bool},(l=m->c=true)->RcAt A s (.ref l) (.ref m) c->RcAt A s (.ref l) (.ref m) c/\EqAt A s (.ref l) (.ref m) c:=fun {l m c} hs hr=>⟨hr,by
   by_cases z:l=m
   ·subst z;rw[hs rfl];exact EqAt.same _
   ·exact EqAt.of_refs z hr⟩
  cases d with
  |dct _=>cases h
  |mpi _=>cases e<;>cases h
  |mpt _=>cases e<;>cases h
  |mpz _=>cases e<;>cases h
  |non =>
   obtain⟨rfl,rfl⟩:=r1.non_inv;cases q1;cases e with
   |dct _=>cases h
   |mpi _=>cases h
   |mpt _=>cases h
   |mpz _=>cases h
   |non=>obtain⟨rfl,rfl⟩:=r2.non_inv;cases q2;cases h;exact⟨RcAt.none_none,EqAt.same _⟩
   |bl c=>obtain⟨rfl,rfl⟩:=r2.bl_inv;cases q2;cases h;exact⟨RcAt.none_bool c,EqAt.none_bool c⟩
   |int i=>obtain⟨rfl,rfl⟩:=r2.int_inv;obtain⟨t,rfl⟩:=q2;cases h;exact⟨RcAt.none_int i t,EqAt.none_int i t⟩
   |str x=>obtain⟨rfl,rfl⟩:=r2.str_inv;obtain⟨t,rfl⟩:=q2;cases h;exact⟨RcAt.none_str x t,EqAt.none_str x t⟩
   |lst ys =>
    obtain⟨m,ws,g,rfl,rfl,a1,a2⟩:=r2.lst_inv;cases q2;obtain⟨its,_,pl,_⟩:=I.list (.inl a1);cases h;exact⟨RcAt.none_list pl.isList hu0,EqAt.none_list pl.isList hu0⟩
   |tup ys =>
    obtain⟨m,ws,rfl,a1,a2⟩:=r2.tup_inv;cases q2;obtain⟨its,_,pl,_⟩:=I.tuple a1;cases h;exact⟨RcAt.none_tuple pl hu0,EqAt.none_tuple pl hu0⟩
  |bl a =>
   obtain⟨rfl,rfl⟩:=r1.bl_inv;cases q1;cases e with
   |dct _=>cases h
   |mpi _=>cases h
   |mpt _=>cases h
   |mpz _=>cases h
   |non=>obtain⟨rfl,rfl⟩:=r2.non_inv;cases q2;cases h;exact⟨RcAt.bool_none a,EqAt.bool_none a⟩
   |bl c=>obtain⟨rfl,rfl⟩:=r2.bl_inv;cases q2;cases h;exact⟨RcAt.bool_bool a c,EqAt.bool_bool a c⟩
   |int i=>obtain⟨rfl,rfl⟩:=r2.int_inv;obtain⟨t,rfl⟩:=q2;cases h;exact⟨RcAt.bool_int a i t,EqAt.bool_int a i t⟩
   |str x=>obtain⟨rfl,rfl⟩:=r2.str_inv;obtain⟨t,rfl⟩:=q2;cases h;exact⟨RcAt.bool_str a x t,EqAt.bool_str a x t⟩
   |lst ys =>
    obtain⟨m,ws,g,rfl,rfl,a1,a2⟩:=r2.lst_inv;cases q2;obtain⟨its,_,pl,_⟩:=I.list (.inl a1);cases h;exact⟨RcAt.bool_list a pl.isList hu0,EqAt.bool_list a pl.isList hu0⟩
   |tup ys =>
    obtain⟨m,ws,rfl,a1,a2⟩:=r2.tup_inv;cases q2;obtain⟨its,_,pl,_⟩:=I.tuple a1;cases h;exact⟨RcAt.bool_tuple a pl hu0,EqAt.bool_tuple a pl hu0⟩
  |int a =>
   obtain⟨rfl,rfl⟩:=r1.int_inv;obtain⟨t0,rfl⟩:=q1;cases e with
   |dct _=>cases h
   |mpi _=>cases h
   |mpt _=>cases h
   |mpz _=>cases h
   |non=>obtain⟨rfl,rfl⟩:=r2.non_inv;cases q2;cases h;exact⟨RcAt.int_none a t0,EqAt.int_none a t0⟩
   |bl c=>obtain⟨rfl,rfl⟩:=r2.bl_inv;cases q2;cases h;exact⟨RcAt.int_bool a t0 c,EqAt.int_bool a t0 c⟩
   |int i=>obtain⟨rfl,rfl⟩:=r2.int_inv;obtain⟨t,rfl⟩:=q2;cases h;exact⟨RcAt.int_int a t0 i t,EqAt.int_int a t0 i t⟩
   |str x=>obtain⟨rfl,rfl⟩:=r2.str_inv;obtain⟨t,rfl⟩:=q2;cases h;exact⟨RcAt.int_str a t0 x t,EqAt.int_str a t0 x t⟩
   |lst ys =>
    obtain⟨m,ws,g,rfl,rfl,a1,a2⟩:=r2.lst_inv;cases q2;obtain⟨its,_,pl,_⟩:=I.list (.inl a1);cases h;exact⟨RcAt.int_list a t0 pl.isList hu0,EqAt.int_list a t0 pl.isList hu0⟩
   |tup ys =>
    obtain⟨m,ws,rfl,a1,a2⟩:=r2.tup_inv;cases q2;obtain⟨its,_,pl,_⟩:=I.tuple a1;cases h;exact⟨RcAt.int_tuple a t0 pl hu0,EqAt.int_tuple a t0 pl hu0⟩
  |str a =>
   obtain⟨rfl,rfl⟩:=r1.str_inv;obtain⟨t0,rfl⟩:=q1;cases e with
   |dct _=>cases h
   |mpi _=>cases h
   |mpt _=>cases h
   |mpz _=>cases h
   |non=>obtain⟨rfl,rfl⟩:=r2.non_inv;cases q2;cases h;exact⟨RcAt.str_none a t0,EqAt.str_none a t0⟩
   |int i=>obtain⟨rfl,rfl⟩:=r2.int_inv;obtain⟨t,rfl⟩:=q2;cases h;exact⟨RcAt.str_int a t0 i t,EqAt.str_int a t0 i t⟩
   |str x=>obtain⟨rfl,rfl⟩:=r2.str_inv;obtain⟨t,rfl⟩:=q2;cases h;exact⟨RcAt.str_str a t0 x t,EqAt.str_str a t0 x t⟩
   |bl c=>obtain⟨rfl,rfl⟩:=r2.bl_inv;cases q2;cases h;exact⟨RcAt.str_bool a t0 c,EqAt.str_bool a t0 c⟩
   |lst ys =>
    obtain⟨m,ws,g,rfl,rfl,a1,a2⟩:=r2.lst_inv;cases q2;obtain⟨its,_,pl,_⟩:=I.list (.inl a1);cases h;exact⟨RcAt.str_list a t0 pl.isList hu0,EqAt.str_list a t0 pl.isList hu0⟩
   |tup ys =>
    obtain⟨m,ws,rfl,a1,a2⟩:=r2.tup_inv;cases q2;obtain⟨its,_,pl,_⟩:=I.tuple a1;cases h;exact⟨RcAt.str_tuple a t0 pl hu0,EqAt.str_tuple a t0 pl hu0⟩
  |lst xs =>
   obtain⟨l,vs,g,rfl,rfl,a1,a2⟩:=r1.lst_inv;cases q1;obtain⟨its,rv,pl,_⟩:=I.list (.inl a1);cases e with
   |dct _=>cases h
   |mpi _=>cases h
   |mpt _=>cases h
   |mpz _=>cases h
   |non=>obtain⟨rfl,rfl⟩:=r2.non_inv;cases q2;cases h;exact⟨RcAt.list_none pl.isList hu0,EqAt.list_none pl.isList hu0⟩
   |lst ys =>
    obtain⟨m,ws,g',rfl,rfl,b1,b2⟩:=r2.lst_inv;cases q2;obtain⟨its',rv',pl',_⟩:=I.list (.inl b1);have same:l=m->b=true:=fun z=>by
     subst z;have e0:=Rep.inj I r1 r2;rw[e0] at h;exact iw _ _ _ h
    simp only[D.eqf] at h;by_cases hl:xs.length=ys.length
    ·rw[if_pos hl] at h;obtain⟨hz,ee,rfl,he⟩:=items a2 b2 rv rv' h;exact refs same (RcAt.lists pl.isList pl'.isList hz hu0 he)
    ·rw[if_neg hl] at h;cases h;have hz:(its.toArray.size != its'.toArray.size)=true:=by
      have l1:=a2.len;have l2:=b2.len;have l3:=rv.length;have l4:=rv'.length;simp only[bne_iff_ne,ne_eq,List.size_toArray];omega
     exact refs same (RcAt.lists_lengths pl.isList pl'.isList hz hu0)
   |bl c=>obtain⟨rfl,rfl⟩:=r2.bl_inv;cases q2;cases h;exact⟨RcAt.list_bool c pl.isList hu0,EqAt.list_bool c pl.isList hu0⟩
   |int c=>obtain⟨rfl,rfl⟩:=r2.int_inv;obtain⟨t,rfl⟩:=q2;cases h;exact⟨RcAt.list_int c t pl.isList hu0,EqAt.list_int c t pl.isList hu0⟩
   |str c=>obtain⟨rfl,rfl⟩:=r2.str_inv;obtain⟨t,rfl⟩:=q2;cases h;exact⟨RcAt.list_str c t pl.isList hu0,EqAt.list_str c t pl.isList hu0⟩
   |tup ys =>
    obtain⟨m,ws,rfl,b1,b2⟩:=r2.tup_inv;cases q2;obtain⟨its',rv',pl',_⟩:=I.tuple b1;cases h;exact⟨RcAt.list_tuple pl.isList pl' hu0,EqAt.list_tuple pl.isList pl' hu0⟩
  |tup xs =>
   obtain⟨l,vs,rfl,a1,a2⟩:=r1.tup_inv;cases q1;obtain⟨its,rv,pl,_⟩:=I.tuple a1;cases e with
   |dct _=>cases h
   |mpi _=>cases h
   |mpt _=>cases h
   |mpz _=>cases h
   |tup ys =>
    obtain⟨m,ws,rfl,b1,b2⟩:=r2.tup_inv;cases q2;obtain⟨its',rv',pl',_⟩:=I.tuple b1;have same:l=m->b=true:=fun z=>by
     subst z;have e0:=Rep.inj I r1 r2;rw[e0] at h;exact iw _ _ _ h
    simp only[D.eqf] at h;by_cases hl:xs.length=ys.length
    ·rw[if_pos hl] at h;obtain⟨hz,ee,rfl,he⟩:=items a2 b2 rv rv' h;have q:=RcAt.tuples (e:=ee) pl pl' hu0 he;rw[<-hz,Nat.min_self,dt,Bool.and_true] at q;exact refs same q
    ·rw[if_neg hl] at h;cases h
   |non=>obtain⟨rfl,rfl⟩:=r2.non_inv;cases q2;cases h;exact⟨RcAt.tuple_none pl hu0,EqAt.tuple_none pl hu0⟩
   |bl c=>obtain⟨rfl,rfl⟩:=r2.bl_inv;cases q2;cases h;exact⟨RcAt.tuple_bool c pl hu0,EqAt.tuple_bool c pl hu0⟩
   |int c=>obtain⟨rfl,rfl⟩:=r2.int_inv;obtain⟨t,rfl⟩:=q2;cases h;exact⟨RcAt.tuple_int c t pl hu0,EqAt.tuple_int c t pl hu0⟩
   |str c=>obtain⟨rfl,rfl⟩:=r2.str_inv;obtain⟨t,rfl⟩:=q2;cases h;exact⟨RcAt.tuple_str c t pl hu0,EqAt.tuple_str c t pl hu0⟩
   |lst ys =>
    obtain⟨m,ws,g',rfl,rfl,b1,b2⟩:=r2.lst_inv;cases q2;obtain⟨its',rv',pl',_⟩:=I.list (.inl b1);cases h;exact⟨RcAt.tuple_list pl pl'.isList hu0,EqAt.tuple_list pl pl'.isList hu0⟩
end
end
section
open PySem.SeqAt
open PySem.AutoSeq1 (wpAny_loadPart')
open PySem.MeetsSeq PySem.MeetsSeq2 PySem.MeetsSeq3
theorem tD (A:Around)(s:Shared)(a:Int)(t:Tok)(c:Int)(u:Tok)(prog:Program)(w:World)(E:Value->Shared->Prop)(Q:Value->Shared->Prop)(h:Q (.bool (decide (a<=c))) s) :
  wpAny (model prog w) A (richCompare .LtE (.int a t) (.int c u)) Q E s :=
 (PyProof.Rows.le_int h:wpAny (model prog w) A (compareOp .LtE (.int a t) (.int c u)) Q E s)
noncomputable def qM (R:Result->Shared->Prop)(s0:Shared)(z1 z2:Nat)(rest:List (Value×Value)):Prop :=
 ∃(xs ys:List Value) (p q:List Int),rest=xs.zip ys/\IntsAre xs p/\IntsAre ys q/\p.length+z2=q.length+z1/\R (.ok (.ret (.bool (jF p q)))) s0
theorem qM.turn {R:Result->Shared->Prop}{s0:Shared}{z1 z2:Nat}{y x:Value}{rest:List (Value×Value)}(h:qM R s0 z1 z2 ((y,x)::rest)):∃ a t c u,y = .int a t/\x = .int c u/\(a=c->qM R s0 z1 z2 rest)/\(a≠c->R (.ok (.ret (.bool (decide (a<=c))))) s0):=by
 obtain⟨xs,ys,p,q,hz,h1,h2,hl,hR⟩:=h;cases h1 with
 |nil=>rw[List.zip_nil_left] at hz;cases hz
 |cons a t h1'=>cases h2 with
  |nil=>rw[List.zip_nil_right] at hz;cases hz
  |cons c u h2' =>
   rw[gg] at hz;injection hz with e1 e2
   injection e1 with e3 e4
   refine⟨a,t,c,u,e3,e4,fun e=>?_,fun e=>?_⟩
   ·refine⟨_,_,_,_,e2,h1',h2',?_,?_⟩
    ·simp only[List.length_cons] at hl;omega
    ·unfold jF at hR;rw[if_pos e] at hR;exact hR
   ·unfold jF at hR;rw[if_neg e] at hR;exact hR
theorem qM.fin {R:Result->Shared->Prop}{s0:Shared}{z1 z2:Nat}(h:qM R s0 z1 z2 []):R (.ok (.ret (.bool (decide (z1<=z2))))) s0:=by
 obtain⟨xs,ys,p,q,hz,h1,h2,hl,hR⟩:=h;have e:jF p q=decide (z1<=z2):=by
  cases h1 with
  |nil=>exact (decide_eq_true (by simp only[List.length_nil] at hl;omega)).symm
  |cons a t h1'=>cases h2 with
   |nil=>exact (decide_eq_false (by simp only[List.length_cons,List.length_nil] at hl;omega)).symm
   |cons c u h2'=>rw[gg] at hz;cases hz
 rw[<-e];exact hR
theorem le_meets (l b:Addr)(xs ys:Array Value)(n n2:Nat)(dd dd2:Option Addr)(sl sl2:Array (Option Value))(p q:List Int)(hp:IntsAre xs.toList p)(hq:IntsAre ys.toList q) :
  Meets (Builtin.«tuple.__le__» ⟨[.ref l,.ref b],[]⟩) (fun _ R s=>s.heap.get? l=some { cls:=.type "tuple",dict:=dd,data:=.seq xs n,slots:=sl }/\s.heap.get? b=some { cls:=.type "tuple",dict:=dd2,data:=.seq ys n2,slots:=sl2 }/\R (.ok (.ret (.bool (jF p q)))) s) :=
 .of_wp fun prog w A R s h=>by
  obtain⟨hl,hb,h⟩:=h;have f2:=AutoSeq1.sub_tuple_tuple;have z1:xs.size=p.length:=by rw[<-hp.length];simp
  have z2:ys.size=q.length:=by rw[<-hq.length];simp
  obtain⟨hp',g,d,tk,os⟩:=s
  wp_walk using wpAny_loadPart' hl,wpAny_loadPart' hb,wpAny_forIn_list _ (fun rest b s'=>b.1=none/\s'=⟨hp',g,d,tk,os⟩/\qM R ⟨hp',g,d,tk,os⟩ xs.size ys.size rest) _
  case turn =>
   rintro⟨y,x⟩ rest b s' ⟨hb',rfl,hL⟩;obtain⟨a,t,c,u,rfl,rfl,k1,k2⟩:=hL.turn;obtain⟨e,he,hiff⟩:=HT.mT A.in1 ⟨hp',g,d,tk,os⟩ a t c u;refine wpAny_bind (he prog w _ _ ?_);cases e with
   |true =>
    have k:=k1 (hiff.mp rfl)
    wp_walk
    exact⟨rfl,rfl,k⟩
   |false =>
    have k:=k2 (fun q=>absurd (hiff.mpr q) ax);have hri:=tD A.in1 ⟨hp',g,d,tk,os⟩ a t c u prog w
    wp_walk using hri
    exact⟨_,rfl,by simpa using k⟩
  case fin =>
   rintro⟨b1,b2⟩ s' ⟨hb',rfl,hL⟩;simp only at hb';subst hb';have hR:=hL.fin
   wp_walk
   exact⟨_,rfl,by simpa[Builtin.Tuple.tupleCompareSizes] using hR⟩
  case h =>
   exact⟨rfl,rfl,xs.toList,ys.toList,p,q,rfl,hp,hq,by omega,h⟩
end
theorem wQ {prog:Program}{w:World}{A:Around}{E:Value->Shared->Prop}{s:Shared}{l b:Addr}{xs ys:Array Value}{p q:List Int}{Q:Value->Shared->Prop}(hl:IsTup s.heap l xs)(hb:IsTup s.heap b ys)(hp:IntsAre xs.toList p)(hq:IntsAre ys.toList q)
  (hu:A.units<cLine) (h:Q (.bool (jF p q)) s):wpAny (model prog w) A (compareOp .LtE (.ref l) (.ref b)) Q E s:=by
 obtain⟨⟨c1,d1,t1,sl1⟩,ho,hc,n,hd⟩:=id hl;obtain⟨⟨c2,d2,t2,sl2⟩,ho2,hc2,n2,hd2⟩:=id hb;cases hc;cases hd;cases hc2;cases hd2;exact richCompare_meets_room (op:=.LtE) ⟨_,ho,rfl⟩ ⟨_,ho2,rfl⟩ PySem.F.slot_tuple_le PySem.F.entry_tuple_le (PySem.F.args_tuple_le_2 _ _) (le_meets l b xs ys n n2 d1 d2 sl1 sl2 p q hp hq)
  ⟨ho,ho2,show Value.bool (jF p q)≠Value.notImplemented/\Q (.bool (jF p q)) s from ⟨(fun x=>nomatch x),h⟩⟩ hu
def mF (A:Around)(s:Shared)(y x:Value)(b:Bool):Prop:=∀(prog:Program) (w:World) (E Q:Value->Shared->Prop),Q (.bool b) s->wpAny (model prog w) A (richCompare .Lt y x) Q E s
noncomputable def yh (A:Around)(s:Shared)(z:Bool):List (Value×Value)->Bool->Prop
 |[],b=>b=z
 |p::r,b=>∃ e,SeqAt.EqAt A.in1 s p.1 p.2 e/\(if e=true then yh A s z r b else mF A.in1 s p.1 p.2 b)
section
open PySem.SeqAt
open PySem.AutoSeq1 (wpAny_loadPart')
open PySem.MeetsSeq PySem.MeetsSeq2 PySem.MeetsSeq3
theorem rG (l b:Addr)(xs ys:Array Value)(n n2:Nat)(dd dd2:Option Addr)(sl sl2:Array (Option Value))(c:Bool) :
  Meets (Builtin.«tuple.__lt__» ⟨[.ref l,.ref b],[]⟩) (fun A R s=>s.heap.get? l=some { cls:=.type "tuple",dict:=dd,data:=.seq xs n,slots:=sl }/\s.heap.get? b=some { cls:=.type "tuple",dict:=dd2,data:=.seq ys n2,slots:=sl2 }/\yh A s (decide (xs.size<ys.size)) (xs.toList.zip ys.toList) c/\R (.ok (.ret (.bool c))) s) :=
 .of_wp fun prog w A R s h=>by
  obtain⟨hl,hb,hc,h⟩:=h;have f2:=AutoSeq1.sub_tuple_tuple;obtain⟨hp',g,d,tk,os⟩:=s
  wp_walk using wpAny_loadPart' hl,wpAny_loadPart' hb,wpAny_forIn_list _ (fun rest b s'=>b.1=none/\s'=⟨hp',g,d,tk,os⟩/\yh A ⟨hp',g,d,tk,os⟩ (decide (xs.size<ys.size)) rest c) _
  case turn =>
   rintro⟨y,x⟩ rest b s' ⟨hb',rfl,hL⟩;obtain⟨e,he,hr⟩:=hL;refine wpAny_bind (he prog w _ _ ?_);cases e with
   |true =>
    rw[if_pos rfl] at hr
    wp_walk
    exact⟨rfl,rfl,hr⟩
   |false =>
    rw[if_neg ax] at hr;have hri:=hr prog w
    wp_walk using hri
    exact⟨_,rfl,h⟩
  case fin =>
   rintro⟨b1,b2⟩ s' ⟨hb',rfl,hL⟩;simp only at hb';subst hb';have hL:c=_:=hL;rw[hL] at h
   wp_walk
   exact⟨_,rfl,by simpa[Builtin.Tuple.tupleCompareSizes] using h⟩
  case h =>
   exact⟨rfl,rfl,hc⟩
theorem xJ (l b:Addr)(xs ys:Array Value)(n n2:Nat)(dd dd2:Option Addr)(sl sl2:Array (Option Value))(c:Bool):∀(k i:Nat),min xs.size ys.size - i=k ->
  Meets (Builtin.«list.__eq__.loop» ⟨[.ref l,.ref b,rawInt (i:Int),rawInt 0],[]⟩) (fun A R s=>s.heap.get? l=some { cls:=.type "list",dict:=dd,data:=.seq xs n,slots:=sl }/\s.heap.get? b=some { cls:=.type "list",dict:=dd2,data:=.seq ys n2,slots:=sl2 }/\yh A s (decide (xs.size<ys.size)) ((xs.toList.zip ys.toList).drop i) c/\R (.ok (.ret (.bool c))) s):=by
 intro k
 induction k with
 |zero =>
  intro i hk prog w A R s h;obtain⟨hl,hb,hc,hR⟩:=h;have hz:(xs.toList.zip ys.toList).drop i=[]:=List.drop_eq_nil_of_le (by rw[List.length_zip,cn,cn];omega);rw[hz] at hc;have hc:c=_:=hc;have e12:xs[i]? = none\/ys[i]? = none:=by
   by_cases h1:i<xs.size
   ·right;rw[Array.getElem?_eq_none_iff];omega
   ·left;rw[Array.getElem?_eq_none_iff];omega
  unfold Builtin.«list.__eq__.loop»
  wp_walk using wpAny_loadPart' hl,wpAny_loadPart' hb
  rw[dh];rw[hc] at hR;have fin:∀(f:PySem.Fin) (s':Shared),f = .done (.ret (.bool (decide (xs.size<ys.size))))->s'=s->(match f with
   |.done f=>R (.ok f) s'
   |.again c'=>c'.quiet=true/\codeAny (model prog w) A c' R s'):=fun f s' e1 e2=>by subst e1 e2;exact hR
  rcases e12 with e | e
  ·rw[e]
   wp_walk using wpAny_loadPart' hl,wpAny_loadPart' hb
   exact hR
  ·rw[e];cases xs[i]?<;>(dsimp only;wp_walk using wpAny_loadPart' hl,wpAny_loadPart' hb;exact hR)
 |succ k ih =>
  intro i hk prog w A R s h;obtain⟨hl,hb,hc,hR⟩:=h;have hi1:i<xs.size:=by omega
  have hi2:i<ys.size:=by omega
  have hz:(xs.toList.zip ys.toList).drop i=(xs[i],ys[i])::(xs.toList.zip ys.toList).drop (i+1):=by
   rw[df (by rw[List.length_zip,cn,cn];omega)];simp
  rw[hz] at hc;obtain⟨e,he,hr⟩:=hc;have e1:xs[i]? = some xs[i]:=by simp[hi1]
  have e2:ys[i]? = some ys[i]:=by simp[hi2]
  unfold Builtin.«list.__eq__.loop»
  wp_walk using wpAny_loadPart' hl,wpAny_loadPart' hb
  rw[dh,e1,e2];dsimp only;refine wpAny_bind (he prog w _ _ ?_);cases e with
  |true =>
   rw[if_pos rfl] at hr;rw[if_pos rfl];refine wpAny_pure ⟨plainId_quiet plain_eq_loop _,codeAny_builtin entry_eq_loop ?_⟩;rw[Around.under_plainId plain_eq_loop _];exact ih (i+1) (by omega) prog w A R s ⟨hl,hb,hr,hR⟩
  |false =>
   rw[if_neg ax] at hr;rw[if_neg ax];have hri:=hr prog w
   wp_walk using wpAny_loadPart' hl,wpAny_loadPart' hb
   rw[e1,e2];dsimp only
   wp_walk using hri
   exact hR
theorem qt (l b:Addr)(xs ys:Array Value)(n n2:Nat)(dd dd2:Option Addr)(sl sl2:Array (Option Value))(c:Bool) :
  Meets (Builtin.«list.__lt__» ⟨[.ref l,.ref b],[]⟩) (fun A R s=>s.heap.get? l=some { cls:=.type "list",dict:=dd,data:=.seq xs n,slots:=sl }/\s.heap.get? b=some { cls:=.type "list",dict:=dd2,data:=.seq ys n2,slots:=sl2 }/\yh A s (decide (xs.size<ys.size)) (xs.toList.zip ys.toList) c/\R (.ok (.ret (.bool c))) s):=by
 intro prog w A R s h;have h':=h;obtain⟨hl,hb,hc,hR⟩:=h;have f2:=AutoSeq1.sub_list_list;unfold Builtin.«list.__lt__»
 wp_walk using wpAny_loadPart' hl,wpAny_loadPart' hb
 refine⟨plainId_quiet plain_eq_loop _,codeAny_builtin entry_eq_loop ?_⟩;rw[Around.under_plainId plain_eq_loop _];exact xJ l b xs ys n n2 dd dd2 sl sl2 c _ 0 rfl prog w A R s ⟨hl,hb,hc,hR⟩
theorem mF.tuples {A:Around}{s:Shared}{l b:Addr}{xs ys:Array Value}{c:Bool}(hl:IsTup s.heap l xs)(hb:IsTup s.heap b ys)(hu:A.units<cLine)(h:yh A s (decide (xs.size<ys.size)) (xs.toList.zip ys.toList) c):mF A s (.ref l) (.ref b) c:=by
 intro prog w E Q hQ;obtain⟨⟨c1,d1,t1,sl1⟩,ho,hc,n,hd⟩:=id hl;obtain⟨⟨c2,d2,t2,sl2⟩,ho2,hc2,n2,hd2⟩:=id hb;cases hc;cases hd;cases hc2;cases hd2;exact richCompare_meets_room (op:=.Lt) ⟨_,ho,rfl⟩ ⟨_,ho2,rfl⟩ PySem.F.slot_tuple_lt PySem.F.entry_tuple_lt (PySem.F.args_tuple_lt_2 _ _) (rG l b xs ys n n2 d1 d2 sl1 sl2 c)
  ⟨ho,ho2,h,show Value.bool c≠Value.notImplemented/\Q (.bool c) s from ⟨(fun x=>nomatch x),hQ⟩⟩ hu
theorem mF.lists {A:Around}{s:Shared}{l b:Addr}{xs ys:Array Value}{c:Bool}(hl:s.heap.IsList l xs)(hb:s.heap.IsList b ys)(hu:A.units<cLine)(h:yh A s (decide (xs.size<ys.size)) (xs.toList.zip ys.toList) c):mF A s (.ref l) (.ref b) c:=by
 intro prog w E Q hQ;obtain⟨⟨c1,d1,t1,sl1⟩,ho,hc,n,hd⟩:=id hl;obtain⟨⟨c2,d2,t2,sl2⟩,ho2,hc2,n2,hd2⟩:=id hb;cases hc;cases hd;cases hc2;cases hd2;exact richCompare_meets_room (op:=.Lt) ⟨_,ho,rfl⟩ ⟨_,ho2,rfl⟩ PySem.F.slot_list_lt PySem.F.entry_list_lt (PySem.F.args_list_lt_2 _ _) (qt l b xs ys n n2 d1 d2 sl1 sl2 c)
  ⟨ho,ho2,h,show Value.bool c≠Value.notImplemented/\Q (.bool c) s from ⟨(fun x=>nomatch x),hQ⟩⟩ hu
end
section
variable {X:Cx}{pins:List (Addr×Obj)}{σ:L2.St}{H:Hp}{s:Shared}
theorem nL (I:Inv X pins σ H s){n:Nat}{A:Around}(hu1:A.in1.units+n<cLine)(ih:∀(d e:D) (v w:V) (G G':List Addr) (u u':Value) (b:Bool),Rep X.K H d v G->Rep X.K H e w G'->RelV v u->RelV w u'->D.ltf n d e=some b->mF A.in1 s u u' b){z1 z2:Nat}{b:Bool} :
  ∀{xs ys:List D}{vs ws:List V}{G1 G2:List Addr}{its its':List Value},aG X.K H xs vs G1->aG X.K H ys ws G2->aL vs its->aL ws its'->xs.length+z2=ys.length+z1->yb (D.eqf n) (D.ltf n) xs ys=some b->yh A s (decide (z1<z2)) (its.zip its') b
 | [],[],_,_,_,_,_,_,a1,a2,b1,b2,hl,h=>by
  cases a1;cases a2;cases b1;cases b2;cases h;exact (decide_eq_false (by simp only[List.length_nil] at hl;omega)).symm
 | [],y::ys,_,_,_,_,_,_,a1,a2,b1,b2,hl,h=>by
  cases a1;cases b1;cases h;rw[List.zip_nil_left];exact (decide_eq_true (by simp only[List.length_nil,List.length_cons] at hl;omega)).symm
 | x::xs,[],_,_,_,_,_,_,a1,a2,b1,b2,hl,h=>by
  cases a2;cases b2;cases h;rw[List.zip_nil_right];exact (decide_eq_false (by simp only[List.length_nil,List.length_cons] at hl;omega)).symm
 | x::xs,y::ys,_,_,_,_,_,_,a1,a2,b1,b2,hl,h=>by
  unfold yb at h;obtain⟨e,h1,h2⟩:=ab.mp h;cases a1 with
  |cons p1 p2=>cases a2 with
   |cons r1 r2=>cases b1 with
    |cons t1 t2=>cases b2 with
     |cons q1 q2 =>
      refine⟨e,(pK I n A.in1 _ _ _ _ _ _ _ _ _ hu1 p1 r1 t1 q1 h1).2,?_⟩;cases e with
      |true =>
       rw[if_pos rfl] at h2 ⊢;exact nL I hu1 ih p2 r2 t2 q2 (by simp only[List.length_cons] at hl;omega) h2
      |false =>
       rw[if_neg ax] at h2 ⊢;exact ih _ _ _ _ _ _ _ _ _ p1 r1 t1 q1 h2
theorem xQ (I:Inv X pins σ H s):∀(n:Nat) (A:Around) (d e:D) (v w:V) (G G':List Addr) (u u':Value) (b:Bool),A.units+n<cLine->Rep X.K H d v G->Rep X.K H e w G'->RelV v u->RelV w u'->D.ltf n d e=some b->mF A s u u' b
 |0,_,_,_,_,_,_,_,_,_,_,_,_,_,_,_,h=>by cases h
 | n+1,A,d,e,v,w,G,G',u,u',b,hu,r1,r2,q1,q2,h=>by
  have hu1:A.in1.units+n<cLine:=by show A.units+1+n<cLine;omega
  have hu0:A.units<cLine:=by omega
  have ih:=fun d e v w G G' u u' b=>xQ I n A.in1 d e v w G G' u u' b hu1
  unfold D.ltf at h;split at h
  ·rename_i hn;cases hn;cases h;obtain⟨rfl,rfl⟩:=r1.int_inv;obtain⟨rfl,rfl⟩:=r2.int_inv;obtain⟨t,rfl⟩:=q1;obtain⟨t',rfl⟩:=q2;exact fun prog w E Q hQ=>HT.jS A s _ t _ t' prog w E Q hQ
  ·rename_i hn;cases hn;obtain⟨m,vs,rfl,a1,a2⟩:=r1.tup_inv;obtain⟨m',ws,rfl,c1,c2⟩:=r2.tup_inv;cases q1;cases q2;obtain⟨its,rv,pl,_⟩:=I.tuple a1;obtain⟨its',rv',pl',_⟩:=I.tuple c1;have l1:=a2.len;have l2:=c2.len;have l3:=rv.length;have l4:=rv'.length;exact mF.tuples pl pl' hu0 (nL I hu1 ih a2 c2 rv rv' (by rw[ae,ae];omega) h)
  ·rename_i hn;cases hn;obtain⟨m,vs,g,rfl,rfl,a1,a2⟩:=r1.lst_inv;obtain⟨m',ws,g',rfl,rfl,c1,c2⟩:=r2.lst_inv;cases q1;cases q2;obtain⟨its,rv,pl,_⟩:=I.list (.inl a1);obtain⟨its',rv',pl',_⟩:=I.list (.inl c1);have l1:=a2.len;have l2:=c2.len;have l3:=rv.length;have l4:=rv'.length;exact mF.lists pl.isList pl'.isList hu0 (nL I hu1 ih a2 c2 rv rv' (by rw[ae,ae];omega) h)
  ·cases h
end
section
variable {X:Cx}{pins:List (Addr×Obj)}{σ:L2.St}{H:Hp}{s:Shared}
open SeqAt in
theorem Bq (I:Inv X pins σ H s)(n:Nat)(A:Around)(d e:D)(v w:V)(G G':List Addr)(u u':Value)(b:Bool)(hu:A.units+n<cLine)(r1:Rep X.K H d v G)(r2:Rep X.K H e w G')(q1:RelV v u)(q2:RelV w u')(h:D.eqf n d e=some b):RcNeAt A s u u' (!b):=by
 cases n with
 |zero=>cases h
 |succ n =>
  have hu1:A.in1.units+n<cLine:=by show A.units+1+n<cLine;omega
  have hu0:A.units<cLine:=by omega
  have items:∀{xs ys:List D}{vs ws:List V}{G1 G2:List Addr}{its its':List Value}{c:Bool},aG X.K H xs vs G1->aG X.K H ys ws G2->aL vs its->aL ws its'->oV (D.eqf n) xs ys=some c ->
    its.toArray.size=its'.toArray.size/\∃ ee:Nat->Bool,c=(List.range its.toArray.size).all ee/\∀ j (h1:j<its.toArray.size) (h2:j<its'.toArray.size),EqAt A.in1 s its.toArray[j] its'.toArray[j] (ee j):=by
   intro xs ys vs ws G1 G2 its its' c a1 a2 b1 b2 hc;obtain⟨hl,ee,he,rfl⟩:=gB hc;have l1:=a1.len;have l2:=a2.len;have l3:=b1.length;have l4:=b2.length;have sz:its.toArray.size=xs.length:=by rw[ae];omega
   refine⟨by rw[ae,ae];omega,ee,by rw[sz],fun j h1 h2=>?_⟩;have j1:j<xs.length:=by rw[<-sz];exact h1
   have j2:j<ys.length:=by omega
   obtain⟨v1,g1,e1,p1,_⟩:=a1.get (i:=j) (d:=xs[j]) (by simp[j1]);obtain⟨v2,g2,e2,p2,_⟩:=a2.get (i:=j) (d:=ys[j]) (by simp[j2]);obtain⟨u1,f1,t1⟩:=b1.get e1;obtain⟨u2,f2,t2⟩:=b2.get e2;have x1:its.toArray[j]=u1:=by
    have:=List.getElem?_eq_some_iff.mp f1;simpa using this.2
   have x2:its'.toArray[j]=u2:=by
    have:=List.getElem?_eq_some_iff.mp f2;simpa using this.2
   rw[x1,x2];exact (pK I n A.in1 _ _ _ _ _ _ _ _ _ hu1 p1 p2 t1 t2 (he j _ _ (by simp[j1]) (by simp[j2]))).2
  have lsti:∀{ys:List D}{w:V}{g:List Addr}{u:Value},Rep X.K H (.lst ys) w g->RelV w u->∃ m its vs g',u = .ref m/\s.heap.IsList m its.toArray/\aL vs its/\aG X.K H ys vs g':=fun {ys w g u} r q=>by
   obtain⟨m,ws,g',rfl,rfl,a1,a2⟩:=r.lst_inv;cases q;obtain⟨its,rv,pl,_⟩:=I.list (.inl a1);exact⟨m,its,ws,g',rfl,pl.isList,rv,a2⟩
  have tupi:∀{ys:List D}{w:V}{g:List Addr}{u:Value},Rep X.K H (.tup ys) w g->RelV w u->∃ m its vs,u = .ref m/\s.heap.IsTuple m its.toArray/\aL vs its/\aG X.K H ys vs g:=fun {ys w g u} r q=>by
   obtain⟨m,ws,rfl,a1,a2⟩:=r.tup_inv;cases q;obtain⟨its,rv,pl,_⟩:=I.tuple a1;exact⟨m,its,ws,rfl,pl,rv,a2⟩
  cases d with
  |dct _=>cases h
  |mpi _=>cases e<;>cases h
  |mpt _=>cases e<;>cases h
  |mpz _=>cases e<;>cases h
  |non =>
   obtain⟨rfl,rfl⟩:=r1.non_inv;cases q1;cases e with
   |dct _=>cases h
   |mpi _=>cases h
   |mpt _=>cases h
   |mpz _=>cases h
   |non=>obtain⟨rfl,rfl⟩:=r2.non_inv;cases q2;cases h;exact RcNeAt.none_none
   |bl c=>obtain⟨rfl,rfl⟩:=r2.bl_inv;cases q2;cases h;exact RcNeAt.none_bool c
   |int i=>obtain⟨rfl,rfl⟩:=r2.int_inv;obtain⟨t,rfl⟩:=q2;cases h;exact RcNeAt.none_int i t
   |str x=>obtain⟨rfl,rfl⟩:=r2.str_inv;obtain⟨t,rfl⟩:=q2;cases h;exact RcNeAt.none_str x t
   |lst ys=>obtain⟨m,its,vs,g',rfl,pl,_,_⟩:=lsti r2 q2;cases h;exact RcNeAt.none_list pl hu0
   |tup ys=>obtain⟨m,its,vs,rfl,pl,_,_⟩:=tupi r2 q2;cases h;exact RcNeAt.none_tuple pl hu0
  |bl a =>
   obtain⟨rfl,rfl⟩:=r1.bl_inv;cases q1;cases e with
   |dct _=>cases h
   |mpi _=>cases h
   |mpt _=>cases h
   |mpz _=>cases h
   |non=>obtain⟨rfl,rfl⟩:=r2.non_inv;cases q2;cases h;exact RcNeAt.bool_none a
   |bl c=>obtain⟨rfl,rfl⟩:=r2.bl_inv;cases q2;cases h;exact RcNeAt.bool_bool a c
   |int i=>obtain⟨rfl,rfl⟩:=r2.int_inv;obtain⟨t,rfl⟩:=q2;cases h;exact RcNeAt.bool_int a i t
   |str x=>obtain⟨rfl,rfl⟩:=r2.str_inv;obtain⟨t,rfl⟩:=q2;cases h;exact RcNeAt.bool_str a x t
   |lst ys=>obtain⟨m,its,vs,g',rfl,pl,_,_⟩:=lsti r2 q2;cases h;exact RcNeAt.bool_list a pl hu0
   |tup ys=>obtain⟨m,its,vs,rfl,pl,_,_⟩:=tupi r2 q2;cases h;exact RcNeAt.bool_tuple a pl hu0
  |int a =>
   obtain⟨rfl,rfl⟩:=r1.int_inv;obtain⟨t0,rfl⟩:=q1;cases e with
   |dct _=>cases h
   |mpi _=>cases h
   |mpt _=>cases h
   |mpz _=>cases h
   |non=>obtain⟨rfl,rfl⟩:=r2.non_inv;cases q2;cases h;exact RcNeAt.int_none a t0
   |bl c=>obtain⟨rfl,rfl⟩:=r2.bl_inv;cases q2;cases h;exact RcNeAt.int_bool a t0 c
   |int i=>obtain⟨rfl,rfl⟩:=r2.int_inv;obtain⟨t,rfl⟩:=q2;cases h;exact RcNeAt.int_int a t0 i t
   |str x=>obtain⟨rfl,rfl⟩:=r2.str_inv;obtain⟨t,rfl⟩:=q2;cases h;exact RcNeAt.int_str a t0 x t
   |lst ys=>obtain⟨m,its,vs,g',rfl,pl,_,_⟩:=lsti r2 q2;cases h;exact RcNeAt.int_list a t0 pl hu0
   |tup ys=>obtain⟨m,its,vs,rfl,pl,_,_⟩:=tupi r2 q2;cases h;exact RcNeAt.int_tuple a t0 pl hu0
  |str a =>
   obtain⟨rfl,rfl⟩:=r1.str_inv;obtain⟨t0,rfl⟩:=q1;cases e with
   |dct _=>cases h
   |mpi _=>cases h
   |mpt _=>cases h
   |mpz _=>cases h
   |non=>obtain⟨rfl,rfl⟩:=r2.non_inv;cases q2;cases h;exact RcNeAt.str_none a t0
   |bl c=>obtain⟨rfl,rfl⟩:=r2.bl_inv;cases q2;cases h;exact RcNeAt.str_bool a t0 c
   |int i=>obtain⟨rfl,rfl⟩:=r2.int_inv;obtain⟨t,rfl⟩:=q2;cases h;exact RcNeAt.str_int a t0 i t
   |str x=>obtain⟨rfl,rfl⟩:=r2.str_inv;obtain⟨t,rfl⟩:=q2;cases h;exact RcNeAt.str_str a t0 x t
   |lst ys=>obtain⟨m,its,vs,g',rfl,pl,_,_⟩:=lsti r2 q2;cases h;exact RcNeAt.str_list a t0 pl hu0
   |tup ys=>obtain⟨m,its,vs,rfl,pl,_,_⟩:=tupi r2 q2;cases h;exact RcNeAt.str_tuple a t0 pl hu0
  |lst xs =>
   obtain⟨l,its,vs,g1,rfl,pl,rv,a2⟩:=lsti r1 q1;cases e with
   |dct _=>cases h
   |mpi _=>cases h
   |mpt _=>cases h
   |mpz _=>cases h
   |non=>obtain⟨rfl,rfl⟩:=r2.non_inv;cases q2;cases h;exact RcNeAt.list_none pl hu0
   |bl c=>obtain⟨rfl,rfl⟩:=r2.bl_inv;cases q2;cases h;exact RcNeAt.list_bool c pl hu0
   |int c=>obtain⟨rfl,rfl⟩:=r2.int_inv;obtain⟨t,rfl⟩:=q2;cases h;exact RcNeAt.list_int c t pl hu0
   |str c=>obtain⟨rfl,rfl⟩:=r2.str_inv;obtain⟨t,rfl⟩:=q2;cases h;exact RcNeAt.list_str c t pl hu0
   |lst ys =>
    obtain⟨m,its',ws,g2,rfl,pl',rv',b2⟩:=lsti r2 q2;simp only[D.eqf] at h;by_cases hl:xs.length=ys.length
    ·rw[if_pos hl] at h;obtain⟨hz,ee,rfl,he⟩:=items a2 b2 rv rv' h;exact RcNeAt.lists pl pl' hz hu0 he
    ·rw[if_neg hl] at h;cases h;have hz:(its.toArray.size != its'.toArray.size)=true:=by
      have l1:=a2.len;have l2:=b2.len;have l3:=rv.length;have l4:=rv'.length;simp only[bne_iff_ne,ne_eq,List.size_toArray];omega
     exact RcNeAt.lists_lengths pl pl' hz hu0
   |tup ys=>obtain⟨m,its',ws,rfl,pl',_,_⟩:=tupi r2 q2;cases h;exact RcNeAt.list_tuple pl pl' hu0
  |tup xs =>
   obtain⟨l,its,vs,rfl,pl,rv,a2⟩:=tupi r1 q1;cases e with
   |dct _=>cases h
   |mpi _=>cases h
   |mpt _=>cases h
   |mpz _=>cases h
   |non=>obtain⟨rfl,rfl⟩:=r2.non_inv;cases q2;cases h;exact RcNeAt.tuple_none pl hu0
   |bl c=>obtain⟨rfl,rfl⟩:=r2.bl_inv;cases q2;cases h;exact RcNeAt.tuple_bool c pl hu0
   |int c=>obtain⟨rfl,rfl⟩:=r2.int_inv;obtain⟨t,rfl⟩:=q2;cases h;exact RcNeAt.tuple_int c t pl hu0
   |str c=>obtain⟨rfl,rfl⟩:=r2.str_inv;obtain⟨t,rfl⟩:=q2;cases h;exact RcNeAt.tuple_str c t pl hu0
   |lst ys=>obtain⟨m,its',ws,g2,rfl,pl',_,_⟩:=lsti r2 q2;cases h;exact RcNeAt.tuple_list pl pl' hu0
   |tup ys =>
    obtain⟨m,its',ws,rfl,pl',rv',b2⟩:=tupi r2 q2;simp only[D.eqf] at h;by_cases hl:xs.length=ys.length
    ·rw[if_pos hl] at h;obtain⟨hz,ee,rfl,he⟩:=items a2 b2 rv rv' h;have q:=RcNeAt.tuples (e:=ee) pl pl' hu0 he;rw[<-hz,Nat.min_self,dt,Bool.and_true] at q;exact q
    ·rw[if_neg hl] at h;cases h
end
section
variable {X:Cx}
theorem gF {K:Frag}{H:Hp}{d:D}{v:V}{G:List Addr}(h:Rep K H d v G)(s:d.eQ=true):fZ v=true:=by
 cases h<;>simp_all [D.eQ,fZ]
theorem fA {K:Frag}{H:Hp}:∀{ds:List D}{vs:List V}{G:List Addr},aG K H ds vs G->ds.all D.eQ=true->vs.all fZ=true
 |_,_,_,.nil,_=>rfl
 | _,_,_,.cons h r,s=>by
  simp only[List.all_cons,Bool.and_eq_true] at s ⊢;exact⟨gF h s.1,fA r s.2⟩
theorem wy {K:Frag}{H:Hp}{d e:D}{v w:V}{G G':List Addr}(h:Rep K H d v G)(h':Rep K H e w G')(s:d.eQ=true)(s':e.eQ=true):vp v w=D.eqs d e:=by
 cases h<;>cases h'<;>simp_all [D.eQ,vp,D.eqs]
theorem jH {K:Frag}{H:Hp}{x:D}{w:V}{G0:List Addr}(hx:Rep K H x w G0)(sx:x.eQ=true):∀{ds:List D}{vs:List V}{G:List Addr},aG K H ds vs G->ds.all D.eQ=true->inV w vs=ds.any fun y=>D.eqs y x
 |_,_,_,.nil,_=>rfl
 | _,_,_,.cons h r,s=>by
  simp only[List.all_cons,Bool.and_eq_true] at s;have ih:=jH hx sx r s.2;unfold inV at ih ⊢;rw[eh,eh,ih,wy h hx s.1 sx]
theorem gX.any {K:Frag}{H:Hp}(n:Int):∀{q:List (Int×MV)}{x:List (Key×V)},gX K H q x->(x.any fun kv=>decide (kv.1=Sum.inl n))=q.any fun kv=>decide (kv.1=n)
 |[],[],_=>rfl
 | (k,m)::q,p::x,⟨a,_,c⟩=>by
  rw[eh,eh,c.any n,a];congr 1;exact decide_eq_decide.mpr ⟨fun e=>by injection e,fun e=>by rw[e]⟩
 |[],_::_,h=>h.elim
 |_::_,[],h=>h.elim
theorem gX.val {K:Frag}{H:Hp}(n:Int):∀{q:List (Int×MV)}{x:List (Key×V)}{e:Int×MV},gX K H q x->(q.find? fun kv=>decide (kv.1=n))=some e->∃ v,ic x (.inl n)=some v/\nI K H e.2 v
 |[],[],_,_,h=>by cases h
 | (k,m)::q,p::x,e,⟨a,b,c⟩,h=>by
  by_cases hk:k=n
  ·rw[List.find?_cons_of_pos (by simpa using hk)] at h;cases h;exact⟨p.2,iP (by rw[a,hk]),b⟩
  ·rw[List.find?_cons_of_neg (by simpa using hk)] at h;rw[iK (by rw[a];exact fun z=>hk (by injection z))];exact c.val n h
 |[],_::_,_,h,_=>h.elim
 |_::_,[],_,h,_=>h.elim
theorem k5 {K:Frag}{H:Hp}:∀ ks:List Int,aG K H (ks.map D.int) (ks.map V.int) []
 |[]=>.nil
 |k::ks=>.cons (G:=[]) (G':=[]) (.int k) (k5 ks)
theorem nI.rep {K:Frag}{H:Hp}:∀{m:MV}{v:V},nI K H m v->Rep K H (mvD m) v []
 |.tr,_,h=>by cases h;exact .bl true
 |.int i,_,h=>by cases h;exact .int i
 |.tup is,_,⟨b,e,h⟩=>by subst e;exact .tup h (k5 is)
theorem ka:∀{a b:List Int},(a.map Sum.inl:List Key)=b.map Sum.inl->a=b
 |[],[],_=>rfl
 |[],_::_,e=>by simp at e
 |_::_,[],e=>by simp at e
 | x::xs,y::ys,e=>by
  rw[aw,aw] at e;injection e with e1 e2
  rw[Sum.inl.inj e1,ka e2]
theorem lT (n:List Int):∀ ks:List (List Int),((lN ks).any fun kv=>decide (kv.1=n.map Sum.inl))=ks.contains n
 |[]=>rfl
 | k::ks=>by
  show (decide ((k.map Sum.inl:List Key)=n.map Sum.inl) || (lN ks).any fun kv=>decide (kv.1=n.map Sum.inl))=_;rw[lT n ks,List.contains_cons];congr 1;by_cases e:k=n
  ·subst e;simp
  ·rw[av (fun z=>e (ka z)),beq_eq_false_iff_ne.mpr (cz e)]
theorem jv {K:Frag}{H:Hp}{i j:Int}{vs:List V}{G:List Addr}(h:aG K H [.int i,.int j] vs G):vs=[.int i,.int j]/\G=[]:=by
 cases h with
 |cons h r=>cases r with
  |cons h' r' =>
   cases r';obtain⟨rfl,rfl⟩:=h.int_inv;obtain⟨rfl,rfl⟩:=h'.int_inv;exact⟨rfl,rfl⟩
theorem uk {pins:List (Addr×Obj)}{σ:L2.St}{H:Hp}{s:Shared}{a:Addr}{ks:List Key}(I:Inv X pins σ H s)(h:iq X.K H a (ks.map kV)):(tupleKind (aN X.prog X.w)).is s.heap ks a:=by
 obtain⟨its,r,⟨o,h1,h2,n,h3⟩,_⟩:=I.tuple h;exact⟨o,its.toArray,n,h1,h2,h3,by simpa using i7 r⟩
noncomputable def vV:Option Int->V
 |none=>.non
 |some i=>.int i
theorem qm {K:Frag}{H:Hp}:∀ z:Option Int,Rep K H (vOf z) (vV z) []
 |none=>.non
 |some i=>.int i
theorem uo (q:Key×Option Int)(kvs:List (Key×Option Int))(k:Key):o9 (q::kvs) k=if q.1=k then some q.2 else o9 kvs k:=by
 unfold o9;rw[List.find?_cons];by_cases h:q.1=k
 ·rw[bg h,if_pos h];rfl
 ·rw[av h,if_neg h]
theorem lQ (q:Key×Value)(kvs:List (Key×Value))(k:Key):valueAt (q::kvs) k=if q.1=k then some q.2 else valueAt kvs k:=by
 unfold valueAt;rw[List.find?_cons];by_cases h:q.1=k
 ·rw[bg h,if_pos h];rfl
 ·rw[av h,if_neg h]
theorem fP.pairs {P:Program}{w:World}:∀{es:List DictEntry}{kvs:List (Key×Option Int)},fP es kvs->(∀ e∈es,∀ s t,e.key = .str s t->e.hash=hashStr w s)->∃ vs:List (Key×Value),Pairs (aN P w) es vs/\vs.map (·.1)=kvs.map (·.1) /\
  (∀ k,(∀ z,o9 kvs k=some z->∃ u,RelV (vV z) u/\valueAt vs k=some u)/\(valueAt vs k).isSome=(o9 kvs k).isSome)/\(∀ e∈es,∃ k,(aN P w).is k e.key=true/\e.hash=(aN P w).hash k):=by
 have step:∀{e:DictEntry}{es:List DictEntry}{k:Key}{z:Option Int}{kvs:List (Key×Option Int)}{u:Value},(aN P w).is k e.key=true->e.hash=(aN P w).hash k->e.val=u->RelV (vV z) u ->
   (∃ vs:List (Key×Value),Pairs (aN P w) es vs/\vs.map (·.1)=kvs.map (·.1)/\(∀ k,(∀ z,o9 kvs k=some z->∃ u,RelV (vV z) u/\valueAt vs k=some u)/\(valueAt vs k).isSome=(o9 kvs k).isSome)/\(∀ e∈es,∃ k,(aN P w).is k e.key=true/\e.hash=(aN P w).hash k)) ->
   ∃ vs:List (Key×Value),Pairs (aN P w) (e::es) vs/\vs.map (·.1)=((k,z)::kvs).map (·.1)/\(∀ k',(∀ z',o9 ((k,z)::kvs) k'=some z'->∃ u,RelV (vV z') u/\valueAt vs k'=some u)/\(valueAt vs k').isSome=(o9 ((k,z)::kvs) k').isSome)/\(∀ e'∈e::es,∃ k,(aN P w).is k e'.key=true/\e'.hash=(aN P w).hash k):=by
  intro e es k z kvs u hk hh hv hr ⟨vs,p1,p2,p3,p4⟩;refine⟨(k,u)::vs,.cons hk hv p1,by rw[aw,aw,p2],fun k'=>?_,fun e' he=>?_⟩
  ·rw[uo,lQ];by_cases h:k=k'
   ·rw[if_pos h,if_pos h];exact⟨fun z' q=>by cases q;exact⟨u,hr,rfl⟩,rfl⟩
   ·rw[if_neg h,if_neg h];exact p3 k'
  ·rcases gp.mp he with rfl | he
   ·exact⟨k,hk,hh⟩
   ·exact p4 e' he
 intro es kvs h
 induction h with
 |nil=>exact fun _=>⟨[],.nil,rfl,fun k=>⟨fun z h=>(by cases h),rfl⟩,fun _ h=>(nomatch h)⟩
 |@cons e es k v kvs t u hh hk hv r ih=>exact fun hs=>step (by rw[hk];exact dC P w k t) hh hv ⟨u,rfl⟩ (ih fun e he=>hs e (ak _ he))
 |@si e es k v kvs t u hk hv r ih=>exact fun hs=>step (by rw[hk];exact cO P w k t) (hs e ao k t hk) hv ⟨u,rfl⟩ (ih fun e he=>hs e (ak _ he))
 |@sn e es k kvs t hk hv r ih=>exact fun hs=>step (by rw[hk];exact cO P w k t) (hs e ao k t hk) hv (show RelV .non .none from rfl) (ih fun e he=>hs e (ak _ he))
theorem oO {pins:List (Addr×Obj)}{σ:L2.St}{H:Hp}{s:Shared}(hx:vm X.w X.K)(I:Inv X pins σ H s){p:Addr}{kvs:List (Key×Option Int)}(h:oN X.K p kvs):∃ vs,s.heap.DictOf (aN X.prog X.w) p vs /\
  (∀ k,(∀ z,o9 kvs k=some z->∃ u,RelV (vV z) u/\valueAt vs k=some u)/\(valueAt vs k).isSome=(o9 kvs k).isSome)/\(∀ z v r,kvs=(.inr z,v)::r->(p==sysModules)=false):=by
 obtain⟨o,es,ep,h1,h2,h3,h4,h5⟩:=h;obtain⟨vs,p1,p2,p3,p4⟩:=h4.pairs (P:=X.prog) (w:=X.w) fun e he s t q=>(hx p o es ep h1 h3 kvs h4 e he s t q).2
 refine⟨vs,⟨o,es,ep,I.kIn _ o h1,h2,h3,fun e he=>p4 e (by simpa using he),p1,by rw[p2];exact h5⟩,p3,fun z v r q=>?_⟩;subst q;cases hl:es.toList with
 |nil=>rw[hl] at h4;cases h4
 |cons e l =>
  have hm:e∈es.toList:=by rw[hl];exact ao
  have hk:∃ t,e.key = .str z t:=by
   rw[hl] at h4;cases h4 with
   |si hk hv r=>exact⟨_,hk⟩
   |sn hk hv r=>exact⟨_,hk⟩
  obtain⟨t,hk⟩:=hk;exact (hx p o es ep h1 h3 _ h4 e hm z t hk).1
theorem rO {A:Around}{E:Value->Shared->Prop}{pins:List (Addr×Obj)}{σ:L2.St}{H:Hp}{s:Shared}{d1:D}{kvs:List (Key×Option Int)}{x y:V}{v u:Value}{G1 G2:List Addr}{b:Bool}{Q:Value->Shared->Prop}(hx:vm X.w X.K)(I:Inv X pins σ H s)(r1:Rep X.K H d1 x G1)(r2:Rep X.K H (.dct kvs) y G2)(rx:RelV x v)(ry:RelV y u)(hb:inD d1 (.dct kvs)=some b) :
  ((∀ s',Inv X pins σ H s'->Q (.bool b) s')->wpAny (model X.prog X.w) A (compareOp .In v u) Q E s)/\((∀ s',Inv X pins σ H s'->Q (.bool (!b)) s')->wpAny (model X.prog X.w) A (compareOp .NotIn v u) Q E s):=by
 cases r2 with
 |@dct p _ hp =>
  match kvs,hb,hp with
  | (.inr z,q)::r,hb,hp =>
   cases d1 with
   |str w =>
    cases hb;obtain⟨rfl,rfl⟩:=r1.str_inv;cases ry;obtain⟨t,rfl⟩:=rx;obtain⟨vs,dd,p3,p5⟩:=oO hx I hp;have e:=(p3 (.inr w)).2;refine⟨fun h=>wpAny_in_of (cO X.prog X.w w t) (p5 z q r rfl) dd.mapOf ?_,fun h=>wpAny_notIn_of (cO X.prog X.w w t) (p5 z q r rfl) dd.mapOf ?_⟩
    ·rw[e];exact h _ (I.tok _)
    ·rw[e];exact h _ (I.tok _)
   |_=>cases hb
noncomputable def isMp:D->Bool
 |.mpi _=>true
 |.mpt _=>true
 |.mpz _=>true
 |_=>false
theorem gT {A:Around}{E:Value->Shared->Prop}{pins:List (Addr×Obj)}{σ:L2.St}{H:Hp}{s:Shared}{d1 d2:D}{x y:V}{v u:Value}{G1 G2:List Addr}{b:Bool}{Q:Value->Shared->Prop}(hu:A.units+1<cLine)(I:Inv X pins σ H s)(r1:Rep X.K H d1 x G1)(r2:Rep X.K H d2 y G2)(rx:RelV x v)(ry:RelV y u)(hm:isMp d2=true)(hb:inD d1 d2=some b) :
  ((∀ s',Inv X pins σ H s'->Q (.bool b) s')->wpAny (model X.prog X.w) A (compareOp .In v u) Q E s)/\((∀ s',Inv X pins σ H s'->Q (.bool (!b)) s')->wpAny (model X.prog X.w) A (compareOp .NotIn v u) Q E s):=by
 cases r2 with
 |@mpi p ks xs hr kr =>
  have inv:(∃ k,d1 = .int k/\b=ks.any fun q=>decide (q.1=k))\/∃ i j,d1 = .tup [.int i,.int j]/\ks=[]/\b=false:=by
   simp only[inD] at hb;split at hb
   ·cases hb;exact .inl ⟨_,rfl,rfl⟩
   ·split at hb
    ·rename_i he;cases hb;exact .inr ⟨_,_,rfl,List.isEmpty_iff.mp he,rfl⟩
    ·cases hb
   ·cases hb
  rcases inv with ⟨k,rfl,rfl⟩ | ⟨i,j,rfl,rfl,rfl⟩
  ·obtain⟨rfl,rfl⟩:=r1.int_inv;obtain rfl:u = .ref p:=ry;have g:xh H p (.int k) (ic xs (.inl k)):=.inl ⟨xs,.inl k,.inl hr,rfl,rfl⟩;have e:(ic xs (.inl k)).isSome=ks.any fun q=>decide (q.1=k):=by rw[<-gO,kr.any]
   exact⟨fun h=>xg hu I g rx (by rw[e];exact h),fun h=>oW hu I g rx (by rw[e];exact h)⟩
  ·obtain⟨q,vs,rfl,a1,a2⟩:=r1.tup_inv;obtain⟨rfl,rfl⟩:=jv a2;obtain rfl:u = .ref p:=ry;obtain rfl:v = .ref q:=rx;cases xs with
   |cons _ _=>exact kr.elim
   |nil =>
   obtain⟨z,hd,vs,rel,o,es,ep,h1,h2,h3,h4,h5,h6⟩:=jg I.hok (.inl hr);cases rel;have hes:es.toList=[]:=by
    cases q:es.toList with
    |nil=>rfl
    |cons x r=>rw[q] at h5;cases h5
   have dd:s.heap.DictOfH (tupleKind (aN X.prog X.w)) p []:=⟨o,es,ep,h1,h2,h3,hes,fun x hx=>(nomatch hx),cj⟩;have ky:(tupleKind (aN X.prog X.w)).is s.heap ([i,j].map Sum.inl) q:=uk I a1;exact⟨fun h=>wpAny_in_heap (tupleKind_room_in1 hu) ky hd dd (h _ (I.tok _)),fun h=>wpAny_notIn_heap (tupleKind_room_in1 hu) ky hd dd (h _ (I.tok _))⟩
 |@mpz p ks xs ob hr kr =>
  have inv:∃ k,d1 = .int k/\b=ks.any fun q=>decide (q.1=k):=by
   simp only[inD] at hb;split at hb
   ·cases hb;exact⟨_,rfl,rfl⟩
   ·cases hb
  obtain⟨k,rfl,rfl⟩:=inv;obtain⟨rfl,rfl⟩:=r1.int_inv;obtain rfl:u = .ref p:=ry;have g:xh H p (.int k) (ic xs (.inl k)):=.inl ⟨xs,.inl k,.inr ⟨_,hr⟩,rfl,rfl⟩;have e:(ic xs (.inl k)).isSome=ks.any fun q=>decide (q.1=k):=by rw[<-gO,kr.any]
  exact⟨fun h=>xg hu I g rx (by rw[e];exact h),fun h=>oW hu I g rx (by rw[e];exact h)⟩
 |@mpt p ks hr =>
  have inv:∃ i j,d1 = .tup [.int i,.int j]/\b=ks.contains [i,j]:=by
   simp only[inD] at hb;split at hb
   ·cases hb;exact⟨_,_,rfl,rfl⟩
   ·cases hb
  obtain⟨i,j,rfl,rfl⟩:=inv;obtain⟨q,vs,rfl,a1,a2⟩:=r1.tup_inv;obtain⟨rfl,rfl⟩:=jv a2;obtain rfl:u = .ref p:=ry;obtain rfl:v = .ref q:=rx;obtain⟨z,hd,xs,rel,dd⟩:=m7 I.hok hr;have ky:(tupleKind (aN X.prog X.w)).is s.heap ([i,j].map Sum.inl) q:=uk I a1;have e:ks.contains [i,j]=((atKey xs ([i,j].map Sum.inl))).isSome:=by
   have e1:=(rel.val ([i,j].map Sum.inl)).isSome_eq;rw[gj] at e1;rw[<-e1,<-gO,lT]
  refine⟨fun h=>wpAny_in_heap (tupleKind_room_in1 hu) ky hd dd ?_,fun h=>wpAny_notIn_heap (tupleKind_room_in1 hu) ky hd dd ?_⟩
  ·rw[<-e];exact h _ (I.tok _)
  ·rw[<-e];exact h _ (I.tok _)
 |_=>cases hm
theorem fC:∀{xs:List D}{k:List Int},fI xs=some k->xs=k.map D.int
 |[],k,h=>by cases h;rfl
 | .int i::r,k,h=>by
  have h:(fI r).map (i :: ·)=some k:=h;rw[aa] at h;obtain⟨k',h1,rfl⟩:=h;rw[fC h1];rfl
theorem iS {K:Frag}{H:Hp}:∀{ns:List Int}{vs:List V}{G:List Addr}{us:List Value},aG K H (ns.map D.int) vs G->aL vs us->IntsAre us ns
 |[],_,_,_,.nil,.nil=>.nil
 | n::ns,_,_,_,.cons h r,.cons x y=>by
  obtain⟨rfl,_⟩:=h.int_inv;obtain⟨t,rfl⟩:=x;exact .cons _ _ (iS r y)
theorem ph (op:CmpOp)(hx:X.A.units+40<cLine/\vm X.w X.K):fW X (compareOp op) (vS X.K fun x y=>(iy op x y).map .bl):=by
 have hu:=hx.1;intro pins s σ H x y v u Q I rx ry h;obtain⟨d1,d2,d,G,rs,hd,k⟩:=h;obtain⟨G1,G2,r1,r2,rfl⟩:=rs.inv2;rw[aa] at hd;obtain⟨b,hb,rfl⟩:=hd;have fin:Q (.bl b) H:=k _ H [] (.bl b) fX.nil;have ep:∀ c,c=b->EP X pins σ Q (.bool c) s:=fun c e=>⟨.bl b,H,I,by rw[e];rfl,fin⟩
 have onInts:∀{f:Int->Int->Bool},(∀ i j,iy op (.int i) (.int j)=some (f i j))->(∀ d1 d2,(∀ i j,¬ (d1 = .int i/\d2 = .int j))->iy op d1 d2=none)->fW X (compareOp op) (rK fun i j=>.bl (f i j))->wpAny (model X.prog X.w) X.A (compareOp op v u) (EP X pins σ Q) X.xe s:=by
  intro f h1 h2 ho;by_cases hi:∃ i j,d1 = .int i/\d2 = .int j
  ·obtain⟨i,j,rfl,rfl⟩:=hi;rw[h1] at hb;cases hb;obtain⟨rfl,rfl⟩:=r1.int_inv;obtain⟨rfl,rfl⟩:=r2.int_inv;exact ho pins s σ H _ _ v u Q I rx ry ⟨i,j,rfl,rfl,fin⟩
  ·rw[h2 d1 d2 fun i j z=>hi ⟨i,j,z⟩] at hb;cases hb
 have nope:∀(op:CmpOp),(op = .Gt\/op = .GtE)->∀ d1 d2:D,(∀ i j,¬ (d1 = .int i/\d2 = .int j))->iy op d1 d2=none:=by
  intro op ho d1 d2 hn;cases d1 with
  |int i =>
   cases d2 with
   |int j=>exact absurd ⟨rfl,rfl⟩ (hn i j)
   |_=>rcases ho with rfl | rfl<;>rfl
  |_=>rcases ho with rfl | rfl<;>cases d2<;>rfl
 cases op with
 |Lt =>
  cases d1 with
  |int i =>
   cases d2 with
   |int j =>
    cases hb;obtain⟨rfl,rfl⟩:=r1.int_inv;obtain⟨rfl,rfl⟩:=r2.int_inv;exact Cq pins s σ H _ _ v u Q I rx ry ⟨i,j,rfl,rfl,fin⟩
   |_=>cases hb
  |tup xs =>
   cases d2 with
   |tup ys=>exact xQ I 39 X.A _ _ _ _ _ _ _ _ _ (by omega) r1 r2 rx ry hb _ _ _ _ (ep _ rfl)
   |_=>cases hb
  |_=>cases d2<;>cases hb
 |LtE =>
  cases d1 with
  |int i =>
   cases d2 with
   |int j =>
    cases hb;obtain⟨rfl,rfl⟩:=r1.int_inv;obtain⟨rfl,rfl⟩:=r2.int_inv;exact B5 pins s σ H _ _ v u Q I rx ry ⟨i,j,rfl,rfl,fin⟩
   |_=>cases hb
  |tup xs =>
   cases d2 with
   |tup ys =>
    have hb:((fI xs).bind fun a=>(fI ys).map fun b=>jF a b)=some b:=hb;rw[ab] at hb;obtain⟨ks,h1,hb⟩:=hb;rw[aa] at hb;obtain⟨ls,h2,rfl⟩:=hb;obtain rfl:=fC h1;obtain rfl:=fC h2;obtain⟨p,vs,rfl,a1,a2⟩:=r1.tup_inv;obtain⟨q,ws,rfl,b1,b2⟩:=r2.tup_inv;cases rx;cases ry;obtain⟨its,rv,p1,_⟩:=I.tuple a1;obtain⟨its2,rv2,p2,_⟩:=I.tuple b1;exact wQ p1 p2 (iS a2 (by simpa using rv)) (iS b2 (by simpa using rv2)) (by omega) (ep _ rfl)
   |_=>cases hb
  |_=>cases d2<;>cases hb
 |Gt=>exact onInts (fun _ _=>rfl) (nope .Gt (.inl rfl)) B0
 |GtE=>exact onInts (fun _ _=>rfl) (nope .GtE (.inr rfl)) BX
 |Eq =>
  have hb:D.eqf 40 d1 d2=some b:=by cases d1<;>cases d2<;>exact hb
  exact (pK I 40 X.A d1 d2 x y G1 G2 v u b hu r1 r2 rx ry hb).1 _ _ _ _ (ep b rfl)
 |NotEq =>
  have hb:(D.eqf 40 d1 d2).map (!·)=some b:=by cases d1<;>cases d2<;>exact hb
  rw[aa] at hb;obtain⟨c,hc,rfl⟩:=hb;exact Bq I 40 X.A d1 d2 x y G1 G2 v u c hu r1 r2 rx ry hc _ _ _ _ (ep _ rfl)
 |Is =>
  cases d2 with
  |non =>
   obtain⟨rfl,rfl⟩:=r2.non_inv;refine yT pins s σ H _ _ v u Q I rx ry ⟨rfl,?_⟩;have:decide (x=V.non)=b:=by
    cases r1<;>simp_all [iy,pe]
   rw[this];exact fin
  |bl c =>
   cases d1 with
   |bl a =>
    cases hb;obtain⟨rfl,rfl⟩:=r1.bl_inv;obtain⟨rfl,rfl⟩:=r2.bl_inv;cases rx;cases ry;exact wpAny_is_plain rfl (ep _ (by cases a<;>cases c<;>rfl))
   |_=>cases hb
  |_=>cases d1<;>cases hb
 |IsNot =>
  cases d2 with
  |non =>
   obtain⟨rfl,rfl⟩:=r2.non_inv;refine xB pins s σ H _ _ v u Q I rx ry ⟨rfl,?_⟩;have:(!decide (x=V.non))=b:=by
    cases r1<;>simp_all [iy,pe]
   rw[this];exact fin
  |bl c =>
   cases d1 with
   |bl a =>
    cases hb;obtain⟨rfl,rfl⟩:=r1.bl_inv;obtain⟨rfl,rfl⟩:=r2.bl_inv;cases rx;cases ry;exact wpAny_isNot_plain rfl (ep _ (by cases a<;>cases c<;>rfl))
   |_=>cases hb
  |_=>cases d1<;>cases hb
 |In =>
  have hb:inD d1 d2=some b:=by cases d1<;>cases d2<;>exact hb
  cases d2 with
  |lst ys =>
   simp only[inD] at hb;by_cases hc:(d1.eQ&&ys.all D.eQ)=true
   ·rw[if_pos hc] at hb;cases hb;rw[ah] at hc;obtain⟨p,vs,g,rfl,rfl,a1,a2⟩:=r2.lst_inv;refine kZ pins s σ H _ _ v u Q I rx ry ⟨p,vs,rfl,.inl (.inl a1),gF r1 hc.1,fA a2 hc.2,?_⟩;rw[jH r1 hc.1 a2 hc.2];exact fin
   ·rw[if_neg hc] at hb;cases hb
  |tup ys =>
   simp only[inD] at hb;by_cases hc:(d1.eQ&&ys.all D.eQ)=true
   ·rw[if_pos hc] at hb;cases hb;rw[ah] at hc;obtain⟨p,vs,rfl,a1,a2⟩:=r2.tup_inv;refine kZ pins s σ H _ _ v u Q I rx ry ⟨p,vs,rfl,.inr a1,gF r1 hc.1,fA a2 hc.2,?_⟩;rw[jH r1 hc.1 a2 hc.2];exact fin
   ·rw[if_neg hc] at hb;cases hb
  |str z =>
   cases d1 with
   |str w =>
    cases hb;obtain⟨rfl,rfl⟩:=r1.str_inv;obtain⟨rfl,rfl⟩:=r2.str_inv;exact rE pins s σ H _ _ v u Q I rx ry ⟨w,z,rfl,rfl,fin⟩
   |_=>cases hb
  |mpi ks=>exact (gT (by omega) I r1 r2 rx ry rfl hb).1 fun s' I'=>⟨.bl b,H,I',rfl,fin⟩
  |dct kvs=>exact (rO hx.2 I r1 r2 rx ry hb).1 fun s' I'=>⟨.bl b,H,I',rfl,fin⟩
  |mpt ks=>exact (gT (by omega) I r1 r2 rx ry rfl hb).1 fun s' I'=>⟨.bl b,H,I',rfl,fin⟩
  |mpz ks=>exact (gT (by omega) I r1 r2 rx ry rfl hb).1 fun s' I'=>⟨.bl b,H,I',rfl,fin⟩
  |_=>cases hb
 |NotIn =>
  have hb:(inD d1 d2).map (!·)=some b:=by cases d1<;>cases d2<;>exact hb
  rw[aa] at hb;obtain⟨c,hi,rfl⟩:=hb;clear hb;cases d2 with
  |lst ys =>
   simp only[inD] at hi;by_cases hc:(d1.eQ&&ys.all D.eQ)=true
   ·rw[if_pos hc] at hi;cases hi;rw[ah] at hc;obtain⟨p,vs,g,rfl,rfl,a1,a2⟩:=r2.lst_inv;refine iQ pins s σ H _ _ v u Q I rx ry ⟨p,vs,rfl,.inl (.inl a1),gF r1 hc.1,fA a2 hc.2,?_⟩;rw[jH r1 hc.1 a2 hc.2];exact fin
   ·rw[if_neg hc] at hi;cases hi
  |tup ys =>
   simp only[inD] at hi;by_cases hc:(d1.eQ&&ys.all D.eQ)=true
   ·rw[if_pos hc] at hi;cases hi;rw[ah] at hc;obtain⟨p,vs,rfl,a1,a2⟩:=r2.tup_inv;refine iQ pins s σ H _ _ v u Q I rx ry ⟨p,vs,rfl,.inr a1,gF r1 hc.1,fA a2 hc.2,?_⟩;rw[jH r1 hc.1 a2 hc.2];exact fin
   ·rw[if_neg hc] at hi;cases hi
  |str z =>
   cases d1 with
   |str w =>
    cases hi;obtain⟨rfl,rfl⟩:=r1.str_inv;obtain⟨rfl,rfl⟩:=r2.str_inv;exact lL pins s σ H _ _ v u Q I rx ry ⟨w,z,rfl,rfl,fin⟩
   |_=>cases hi
  |mpi ks=>exact (gT (by omega) I r1 r2 rx ry rfl hi).2 fun s' I'=>⟨.bl _,H,I',rfl,fin⟩
  |dct kvs=>exact (rO hx.2 I r1 r2 rx ry hi).2 fun s' I'=>⟨.bl _,H,I',rfl,fin⟩
  |mpt ks=>exact (gT (by omega) I r1 r2 rx ry rfl hi).2 fun s' I'=>⟨.bl _,H,I',rfl,fin⟩
  |mpz ks=>exact (gT (by omega) I r1 r2 rx ry rfl hi).2 fun s' I'=>⟨.bl _,H,I',rfl,fin⟩
  |_=>cases hi
theorem Ag (n:Nat)(i:Int):Pc.hW n i=L2.hW n i:=rfl
theorem xI (hx:vm X.w X.K):A2 X (Bw X.K):=by
 intro value slice pins s σ H x y v u Q I rx ry h hs;obtain⟨d1,d2,d,G,rs,hd,k⟩:=h;obtain⟨G1,G2,r1,r2,rfl⟩:=rs.inv2;cases d2 with
 |int i =>
  obtain⟨rfl,rfl⟩:=r2.int_inv;rw[ba] at k;have seq:∀{xs:List D}{vs:List V}{g:List Addr},aG X.K H xs vs g->((hW xs.length i).bind fun j=>xs[j]?)=some d->∃ w g',zW vs i=some w/\Rep X.K H d w g'/\g'.Sublist g:=fun {xs vs g} r e=>by
   rw[ab] at e;obtain⟨j,e1,e2⟩:=e;obtain⟨w,g',a,b,c⟩:=r.get e2;refine⟨w,g',?_,b,c⟩;unfold zW;rw[<-r.len,<-Ag,e1];exact a
  cases d1 with
  |lst xs =>
   obtain⟨p,vs,g,rfl,rfl,a1,a2⟩:=r1.lst_inv;obtain⟨w,g',e1,e2,e3⟩:=seq a2 hd;exact wV value slice pins s σ H _ _ v u Q I rx ry ⟨p,vs,i,w,rfl,rfl,.inl a1,e1,k w g' e2 (e3.trans (List.sublist_cons_self _ _))⟩ hs
  |tup xs =>
   obtain⟨p,vs,rfl,a1,a2⟩:=r1.tup_inv;obtain⟨w,g',e1,e2,e3⟩:=seq a2 hd;exact AL value slice pins s σ H _ _ v u Q I rx ry ⟨p,vs,i,w,rfl,rfl,a1,e1,k w g' e2 e3⟩ hs
  |str z =>
   obtain⟨rfl,rfl⟩:=r1.str_inv;simp only[nH] at hd;by_cases hl:z.length<=lim
   ·rw[if_pos hl,aa] at hd;obtain⟨c,hc,rfl⟩:=hd;exact AR value slice pins s σ H _ _ v u Q I rx ry ⟨z,i,c,rfl,rfl,eD hl,hc,k _ [] (.str _) (f6 _)⟩ hs
   ·rw[if_neg hl] at hd;cases hd
  |dct kvs =>
   cases r1 with
   |dct hp =>
    simp only[nH] at hd;rw[aa] at hd;obtain⟨z,hz,rfl⟩:=hd;cases rx;obtain⟨t,rfl⟩:=ry;obtain⟨vs,dd,p3,_⟩:=oO hx I hp;obtain⟨u',ru,hu⟩:=(p3 (.inl i)).1 z hz;have fin:EP X pins σ Q u' { s with toks:=s.toks+1 }:=⟨vV z,H,I.tok _,ru,k _ [] (qm z) (f6 _)⟩;exact subscriptTail_builtinR (x:=u') dd.mapOf.typeIs slot_dict_getitem.lookup (wpAny_getItem_of (Q:=fun r s'=>r=u'/\EP X pins σ Q r s') (dC X.prog X.w i t) dd.mapOf hu ⟨rfl,fin⟩) hs
  |mpi ks =>
   cases r1 with
   |@mpi p _ xs hr kr =>
    simp only[nH] at hd;rw[aa] at hd;obtain⟨e,he,rfl⟩:=hd;obtain⟨v',hv',mr⟩:=kr.val i he;cases rx;obtain⟨t,rfl⟩:=ry;obtain⟨z,lo,vs,rel,dd⟩:=jg I.hok (.inl hr);obtain⟨u',hu,ru⟩:∃ u',valueAt vs (.inl i)=some u'/\RelV v' u':=by
     have:=rel.val (.inl i);rw[hv'] at this;cases q:valueAt vs (.inl i) with
     |none=>rw[q] at this;exact this.elim
     |some u'=>rw[q] at this;exact⟨u',rfl,this⟩
    have fin:EP X pins σ Q u' { s with toks:=s.toks+1 }:=⟨v',H,I.tok _,ru,k _ [] mr.rep (f6 _)⟩;exact subscriptTail_builtinR (x:=u') dd.mapOf.typeIs slot_dict_getitem.lookup (wpAny_getItem_of (Q:=fun r s'=>r=u'/\EP X pins σ Q r s') (dC X.prog X.w i t) dd.mapOf hu ⟨rfl,fin⟩) hs
  |mpz ks =>
   cases r1 with
   |@mpz p _ xs ob hr kr =>
    simp only[nH] at hd;rw[aa] at hd;obtain⟨e,he,rfl⟩:=hd;obtain⟨v',hv',mr⟩:=kr.val i he;cases rx;obtain⟨t,rfl⟩:=ry;obtain⟨z,lo,vs,rel,dd⟩:=jg I.hok (.inr ⟨_,hr⟩);obtain⟨u',hu,ru⟩:∃ u',valueAt vs (.inl i)=some u'/\RelV v' u':=by
     have:=rel.val (.inl i);rw[hv'] at this;cases q:valueAt vs (.inl i) with
     |none=>rw[q] at this;exact this.elim
     |some u'=>rw[q] at this;exact⟨u',rfl,this⟩
    have fin:EP X pins σ Q u' { s with toks:=s.toks+1 }:=⟨v',H,I.tok _,ru,k _ [] mr.rep (f6 _)⟩;exact subscriptTail_builtinR (x:=u') dd.mapOf.typeIs slot_dict_getitem.lookup (wpAny_getItem_of (Q:=fun r s'=>r=u'/\EP X pins σ Q r s') (dC X.prog X.w i t) dd.mapOf hu ⟨rfl,fin⟩) hs
  |_=>cases hd
 |str i =>
  obtain⟨rfl,rfl⟩:=r2.str_inv;rw[ba] at k;cases d1 with
  |dct kvs =>
   cases r1 with
   |dct hp =>
    simp only[nH] at hd;rw[aa] at hd;obtain⟨z,hz,rfl⟩:=hd;cases rx;obtain⟨t,rfl⟩:=ry;obtain⟨vs,dd,p3,_⟩:=oO hx I hp;obtain⟨u',ru,hu⟩:=(p3 (.inr i)).1 z hz;have fin:EP X pins σ Q u' { s with toks:=s.toks+1 }:=⟨vV z,H,I.tok _,ru,k _ [] (qm z) (f6 _)⟩;exact subscriptTail_builtinR (x:=u') dd.mapOf.typeIs slot_dict_getitem.lookup (wpAny_getItem_of (Q:=fun r s'=>r=u'/\EP X pins σ Q r s') (cO X.prog X.w i t) dd.mapOf hu ⟨rfl,fin⟩) hs
  |_=>cases hd
 |_=>cases d1<;>cases hd
end
section
variable {X:Cx}{T:Tb}{a b c:Expr}{ca cb cc:Ex}{pos:Pos}
theorem AV {i:Nat}{x:Str}(hN:X.N[i]? = some x)(hv:Av X.env.scope x)(hd:(x==("__debug__" : Str))=false) (hcd:(x==("__classdict__" : Str))=false):PE X (.Name x pos) (tE X.K T (.var i)):=by
 refine be (uY hN hv hd hcd) fun σ H Q ⟨P,env,F,re,p,hev,k⟩=>?_
 unfold ev at hev;cases hs:env[i]? with
 |none=>rw[hs] at hev;cases hev
 |some o =>
  cases o with
  |none=>rw[hs] at hev;cases hev
  |some q =>
   obtain⟨d,t⟩:=q;rw[hs] at hev;simp only[Rs.ok.injEq] at hev;subst hev;obtain⟨v,e1,rp⟩:=re.val i d t hs;refine⟨v,e1,k v H (F i) (aI.refl _) rp ?_⟩;cases hf:d.flat with
   |true =>
    rw[rp.flat hf];exact bB.nil
   |false =>
    simp only[Bool.false_eq_true,if_false];have ow:aV t=true->bB env F H (.mv [i]) H (F i):=fun o=>by
     obtain⟨n1,n2,n3⟩:=re.one i d t hs o;refine⟨fun a ha=>.inr ⟨i,d,t,ha,hs,fun q hq=>by cases t<;>simp_all [aT,aV,Rt.roots]⟩,fun R e=>?_⟩;cases e;exact⟨n1,n2,fun a ha=>.inr ⟨i,d,t,by simp,ha,hs,o⟩⟩
    cases t with
    |own=>exact ow rfl
    |lk=>exact ow rfl
    |sh R=>exact⟨fun a ha=>.inr ⟨i,d,.sh R,ha,hs,fun q hq=>hq⟩,fun R' e=>by cases e⟩
theorem gK {e:Expr}{d:D}{v:V}(h:PE X e (tC v))(hr:∀ H,Rep X.K H d v []):PE X e (tE X.K T (.cst d)):=by
 refine be h fun σ H Q ⟨P,env,F,re,p,hev,k⟩=>?_
 unfold ev at hev;cases hev;exact k v H [] (aI.refl _) (hr H) bB.nil
theorem AJ {e:Expr}{i:Nat}{v:V}(h:PE X e (tC v))(hr:∀ H,Rep X.K H (T.gl i) v []):PE X e (tE X.K T (.glb i)):=by
 refine be h fun σ H Q ⟨P,env,F,re,p,hev,k⟩=>?_
 unfold ev at hev;cases hev;exact k v H [] (aI.refl _) (hr H) bB.nil
theorem y2 (ha:PE X a (tE X.K T ca)):PE X (.UnaryOp .USub a pos) (tE X.K T (.neg ca)):=by
 refine be (Be zq ha) fun σ H Q ⟨P,env,F,re,p,hev,k⟩=>?_
 unfold ev at hev;obtain⟨q,h1,hev⟩:=Rs.bind_ok hev;refine⟨P,env,F,re,q,h1,fun v H1 G s rp rt=>?_⟩;cases hq:q.1 with
 |int i =>
  rw[hq] at hev rp;cases hev;obtain⟨rfl,rfl⟩:=rp.int_inv;exact⟨i,rfl,k _ H1 [] s (.int _) bB.nil⟩
 |_=>rw[hq] at hev;cases hev
theorem yu {op:CmpOp}(hu:X.A.units+40<cLine/\vm X.w X.K)(ha:PE X a (tE X.K T ca))(hb:PE X b (tE X.K T cb))(hm:behindInMarks op b=false):PT X (.Compare a [op] [b] pos) (k6 X.K T (.cmp op ca cb)):=by
 refine nZ (wx (ph op hu) ha hb hm) fun σ H Q ⟨P,env,F,re,p0,bb,hev,ht,k⟩=>?_
 unfold ev at hev;obtain⟨p,h1,hev⟩:=Rs.bind_ok hev;obtain⟨q,h2,hev⟩:=Rs.bind_ok hev;obtain⟨d,h3,hev⟩:=Rs.bind_ok hev;have h3:=cB h3;cases hev;obtain rfl:d=bb:=bu ht;refine two re h1 h2 fun x y H2 G ar=>⟨p.1,q.1,.bl d,G,ar.reps,by simp[h3],fun v H' G' rp nv=>?_⟩
 obtain⟨rfl,_⟩:=rp.bl_inv;exact⟨d,rfl,k H' (ar.same.trans nv.same)⟩
variable {rest:List Expr}
theorem yF (ha:PE X a (tE X.K T ca))(hb:PE X (.BoolOp .And (b::rest) pos) (tE X.K T cb)):PE X (.BoolOp .And (a::b::rest) pos) (tE X.K T (.and ca cb)):=by
 refine be (Aq ha hb) fun σ H Q ⟨P,env,F,re,p,hev,k⟩=>?_
 unfold ev at hev;obtain⟨q,h1,hev⟩:=Rs.bind_ok hev;refine⟨P,env,F,re,q,h1,fun v H1 G s rp rt=>?_⟩;cases hq:q.1 with
 |bl kb =>
  rw[hq] at hev rp;obtain⟨rfl,rfl⟩:=rp.bl_inv;cases kb with
  |true=>exact⟨true,rfl,by rw[if_pos rfl];exact⟨P,env,F,re.same s,p,hev,fun v H' G s' rp' rt'=>k v H' G (s.trans s') rp' (rt'.back s)⟩⟩
  |false =>
   cases hev;exact⟨false,rfl,by rw[if_neg ax];exact k _ H1 [] s (.bl _) bB.nil⟩
 |_=>rw[hq] at hev;cases hev
theorem Cj (ha:PE X a (tE X.K T ca))(hb:PE X (.BoolOp .Or (b::rest) pos) (tE X.K T cb)):PE X (.BoolOp .Or (a::b::rest) pos) (tE X.K T (.or ca cb)):=by
 refine be (Cv ha hb) fun σ H Q ⟨P,env,F,re,p,hev,k⟩=>?_
 unfold ev at hev;obtain⟨q,h1,hev⟩:=Rs.bind_ok hev;refine⟨P,env,F,re,q,h1,fun v H1 G s rp rt=>?_⟩;cases hq:q.1 with
 |bl kb =>
  rw[hq] at hev rp;obtain⟨rfl,rfl⟩:=rp.bl_inv;cases kb with
  |false=>exact⟨false,rfl,by rw[if_neg ax];exact⟨P,env,F,re.same s,p,hev,fun v H' G s' rp' rt'=>k v H' G (s.trans s') rp' (rt'.back s)⟩⟩
  |true =>
   cases hev;exact⟨true,rfl,by rw[if_pos rfl];exact k _ H1 [] s (.bl _) bB.nil⟩
 |_=>rw[hq] at hev;cases hev
theorem Ad (ha:PE X a (tE X.K T ca)):PE X (.UnaryOp .Not a pos) (tE X.K T (.not ca)):=by
 refine be (zL ha) fun σ H Q ⟨P,env,F,re,p,hev,k⟩=>?_
 unfold ev at hev;obtain⟨q,h1,hev⟩:=Rs.bind_ok hev;refine⟨P,env,F,re,q,h1,fun v H1 G s rp rt=>?_⟩;cases hq:q.1 with
 |bl kb =>
  rw[hq] at hev rp;obtain⟨rfl,rfl⟩:=rp.bl_inv;cases hev;exact⟨kb,rfl,k _ H1 [] s (.bl _) bB.nil⟩
 |_=>rw[hq] at hev;cases hev
theorem zb (ha:PT X a (k6 X.K T ca))(hb:PW X (.BoolOp .And (b::rest) pos) (k6 X.K T cb)):PW X (.BoolOp .And (a::b::rest) pos) (k6 X.K T (.and ca cb)):=by
 intro wh pins s σ H Q I h;refine yL ha hb wh pins s σ H Q I ?_;obtain⟨P,env,F,re,p,bb,hev,ht,k⟩:=h;unfold ev at hev;obtain⟨q,h1,hev⟩:=Rs.bind_ok hev;cases hq:q.1 with
 |bl kb =>
  rw[hq] at hev;cases kb with
  |true=>exact⟨P,env,F,re,q,true,h1,by rw[hq];rfl,fun H' s=>by show if true=true then _ else _;rw[if_pos rfl];exact⟨P,env,F,re.same s,p,bb,hev,ht,fun H2 s2=>k H2 (s.trans s2)⟩⟩
  |false =>
   cases hev;cases ht;exact⟨P,env,F,re,q,false,h1,by rw[hq];rfl,fun H' s=>by show if false=true then _ else _;rw[if_neg ax];exact k H' s⟩
 |_=>rw[hq] at hev;cases hev
theorem Br (ha:PT X a (k6 X.K T ca))(hb:PW X (.BoolOp .Or (b::rest) pos) (k6 X.K T cb)):PW X (.BoolOp .Or (a::b::rest) pos) (k6 X.K T (.or ca cb)):=by
 intro wh pins s σ H Q I h;refine BN ha hb wh pins s σ H Q I ?_;obtain⟨P,env,F,re,p,bb,hev,ht,k⟩:=h;unfold ev at hev;obtain⟨q,h1,hev⟩:=Rs.bind_ok hev;cases hq:q.1 with
 |bl kb =>
  rw[hq] at hev;cases kb with
  |false=>exact⟨P,env,F,re,q,false,h1,by rw[hq];rfl,fun H' s=>by show if false=true then _ else _;rw[if_neg ax];exact⟨P,env,F,re.same s,p,bb,hev,ht,fun H2 s2=>k H2 (s.trans s2)⟩⟩
  |true =>
   cases hev;cases ht;exact⟨P,env,F,re,q,true,h1,by rw[hq];rfl,fun H' s=>by show if true=true then _ else _;rw[if_pos rfl];exact k H' s⟩
 |_=>rw[hq] at hev;cases hev
theorem Af (ha:PT X a (k6 X.K T ca)):PT X (.UnaryOp .Not a pos) (k6 X.K T (.not ca)):=by
 refine nZ (AH ha) fun σ H Q ⟨P,env,F,re,p,bb,hev,ht,k⟩=>?_
 unfold ev at hev;obtain⟨q,h1,hev⟩:=Rs.bind_ok hev;cases hq:q.1 with
 |bl kb =>
  rw[hq] at hev;cases hev;cases ht;exact⟨P,env,F,re,q,kb,h1,by rw[hq];rfl,fun H' s=>k H' s⟩
 |_=>rw[hq] at hev;cases hev
theorem wF {K:Frag}{H:Hp}{d:D}{v:V}{G:List Addr}{b:Bool}(rp:Rep K H d v G)(h:truth d=some b):yY K v H b:=by
 cases rp with
 |dct _=>cases h
 |mpi _=>cases h
 |mpt _=>cases h
 |mpz _=>cases h
 |non=>cases h;rfl
 |bl c=>cases h;rfl
 |int i=>cases h;rfl
 |str z =>
  simp only[truth] at h;by_cases hl:z.length<=lim
  ·rw[if_pos hl] at h;cases h;exact⟨eD hl,rfl⟩
  ·rw[if_neg hl] at h;cases h
 |lst a r =>
  rename_i vs ds g;cases h;refine .inl ⟨vs,.inl a,?_⟩;have:=r.len;cases ds<;>cases vs<;>simp_all
 |tup a r =>
  rename_i vs ds;cases h;refine .inr (.inl ⟨vs,a.sq,?_⟩);have:=r.len;cases ds<;>cases vs<;>simp_all
theorem bP {e:Expr}(h:PE X e (tE X.K T ca))(he:∀ whole,isTrue e X.env whole=(do let v <- whole;standAt e.pos;holding [v] (truthy v))):PT X e (k6 X.K T ca):=by
 refine nZ (rL h he) fun σ H Q ⟨P,env,F,re,p,bb,hev,ht,k⟩=>?_
 exact⟨P,env,F,re,p,hev,fun v H' G s rp rt=>⟨bb,wF rp ht,k H' s⟩⟩
theorem AX (hc:PT X c (k6 X.K T cc))(ha:PE X a (tE X.K T ca))(hb:PE X b (tE X.K T cb)):PE X (.IfExp c a b pos) (tE X.K T (.ite cc ca cb)):=by
 refine be (vb hc ha hb) fun σ H Q ⟨P,env,F,re,p,hev,k⟩=>?_
 unfold ev at hev;obtain⟨q,h1,hev⟩:=Rs.bind_ok hev;obtain⟨kb,h2,hev⟩:=Rs.bind_ok hev;refine⟨P,env,F,re,q,kb,h1,cB h2,fun H' s=>?_⟩;cases kb with
 |true=>rw[if_pos rfl];exact⟨P,env,F,re.same s,p,hev,fun v H2 G s' rp' rt'=>k v H2 G (s.trans s') rp' (rt'.back s)⟩
 |false=>rw[if_neg ax];exact⟨P,env,F,re.same s,p,hev,fun v H2 G s' rp' rt'=>k v H2 G (s.trans s') rp' (rt'.back s)⟩
variable {es:List Expr}{cs:kB}
theorem uI:PA X [] (rJ X.K T .nil):=by
 refine vj oD fun σ H Q ⟨P,env,F,re,l,hev,k⟩=>?_
 unfold bE at hev;cases hev;exact k [] H [] (.nil (aI.refl _))
theorem oX (ha:PE X a (tE X.K T ca))(hr:PA X es (rJ X.K T cs))(hs:starEach (a::es) X.env=(false,eval a X.env)::starEach es X.env):PA X (a::es) (rJ X.K T (.cons ca cs)):=by
 refine vj (jz ha hr hs) fun σ H Q ⟨P,env,F,re,l,hev,k⟩=>?_
 unfold bE at hev;obtain⟨p,h1,hev⟩:=Rs.bind_ok hev;obtain⟨q,h2,hev⟩:=Rs.bind_ok hev;cases hev;exact⟨P,env,F,re,p,h1,fun v H1 G s rp rt=>⟨P,env,F,re.same s,q,h2,fun vs H2 G' ar=>k (v::vs) H2 _ (.cons s rp rt ar)⟩⟩
theorem bB.addNew {env:En}{F:Nat->List Addr}{H H1:Hp}{r:Rt}{G:List Addr}{p:Addr}{vs:List V}(h:bB env F H r H1 G)(e:aI H H1)(hp:H1 p=none)(hl:∀ a∈G,H1 a≠none):bB env F H r (upd H1 p (.lst vs)) (p::G) where
 cont:=fun a ha=>by
  rcases gp.mp ha with rfl | ha
  ·exact .inl (aI.no e hp)
  ·exact h.cont a ha
 mv:=fun R hr=>by
  obtain⟨a,b,c⟩:=h.mv R hr;refine⟨List.nodup_cons.mpr ⟨fun z=>hl p z hp,a⟩,fun x hx=>?_,fun x hx=>?_⟩
  ·rcases gp.mp hx with rfl | hx
   ·exact⟨.l _,aM⟩
   ·obtain⟨ws,q⟩:=b x hx;exact⟨ws,aI.new hp _ _ q⟩
  ·rcases gp.mp hx with rfl | hx
   ·exact .inl (aI.no e hp)
   ·exact c x hx
theorem yR (h:PA X es (rJ X.K T cs)):PE X (.List es pos) (tE X.K T (.lst cs)):=by
 refine be (sD h) fun σ H Q ⟨P,env,F,re,p,hev,k⟩=>?_
 unfold ev at hev;obtain⟨l,h1,hev⟩:=Rs.bind_ok hev;by_cases hl:l.length<=lim
 ·rw[if_pos hl] at hev;cases hev;refine⟨P,env,F,re,l,h1,fun vs H1 G ar=>?_⟩;have rs:=ar.reps;have hlen:=rs.len;rw[aj] at hlen;refine⟨by rw[<-hlen];exact eD hl,fun q hq=>?_⟩;have e:=aI.new (o:=.lst vs) hq;exact k _ _ (q::G) (ar.same.trans e) (.lst (.inl aM) (rs.same e)) ((ar.comb re).addNew ar.same hq fun a ha=>rs.nn ha)
 ·rw[if_neg hl] at hev;cases hev
theorem Ax {x1:Nat}(h:PA X es (rJ X.K T cs)):PE X (.Tuple es x1 pos) (tE X.K T (.tup cs)):=by
 refine be (An h) fun σ H Q ⟨P,env,F,re,p,hev,k⟩=>?_
 unfold ev at hev;obtain⟨l,h1,hev⟩:=Rs.bind_ok hev;by_cases hl:l.length<=lim
 ·rw[if_pos hl] at hev;cases hev;refine⟨P,env,F,re,l,h1,fun vs H1 G ar=>?_⟩;have rs:=ar.reps;have hlen:=rs.len;rw[aj] at hlen;refine⟨by rw[<-hlen];exact eD hl,fun q hq=>?_⟩;have e:=aI.new (o:=.tup vs) hq;exact k _ _ G (ar.same.trans e) (.tup (.inl aM) (rs.same e)) ((ar.comb re).later e)
 ·rw[if_neg hl] at hev;cases hev
def yG (K:Frag)(n:Nat)(f:List D->Rs (D×Bool)):Sp:=fun vs H Q E=>∃ ds G,ds.length=n/\aG K H ds vs G/\∃ r,f ds = .ok r/\∀ v H' G',aI H H'->Rep K H' r.1 v G'->(∀ a∈G',H a=none\/a∈G)->(r.2=true->G'.Nodup/\∀ a∈G',H a=none/\∃ vs:ML,H' a=some vs.o)->Q v H'
theorem p7 {K:Frag}{n:Nat}{f:List D->Rs (D×Bool)}{vs:List V}{H:Hp}{Q:VK}{E:XK}(h:yG K n f vs H Q E):vs.length=n:=by
 obtain⟨ds,G,h1,h2,_⟩:=h;rw[<-h1,h2.len]
theorem lI {f:Nat}{n:Nat}{σ:L2.St}{H:Hp}{Q:VK}(hn:∀ ds r,T.cl f ds = .ok r->ds.length=n)(h:tE X.K T (.call f cs) σ H Q):sJ (yG X.K n (T.cl f)) [] E0 (rJ X.K T cs) σ H Q:=by
 obtain⟨P,env,F,re,p,hev,k⟩:=h;unfold ev at hev;obtain⟨l,h1,hev⟩:=Rs.bind_ok hev;obtain⟨r,h2,hev⟩:=Rs.bind_ok hev;cases hev;refine⟨P,env,F,re,l,h1,fun vs H1 G ar=>?_⟩;show yG X.K n (T.cl f) (vs ++ []) H1 Q E0;rw[ba];refine⟨l.map (·.1),G,hn _ _ h2,ar.reps,r,h2,fun v H' G' s rp sub fr=>k v H' G' (ar.same.trans s) rp ?_⟩;cases hr:r.2 with
 |true =>
  obtain⟨a,b⟩:=fr hr;have c:∀ x∈G',H x=none:=fun x hx=>aI.no ar.same (b x hx).1
  exact⟨fun x hx=>.inl (c x hx),fun R e=>⟨a,fun x hx=>(b x hx).2,fun x hx=>.inl (c x hx)⟩⟩
 |false =>
  refine⟨fun x hx=>?_,fun R e=>by cases e⟩;rcases sub x hx with q | q
  ·exact .inl (aI.no ar.same q)
  ·exact ar.cont x q
end
def qU (K:Frag)(b:Ab):List V->Hp->VK->Prop:=fun xs H Q=>∃ ds d G,aG K H ds xs G/\mN b ds=some d/\∀ v H' G',Rep K H' d v G'->fX H H' G d G'->Q v H'
section
variable {X:Cx}{T:Tb}
theorem m6 {b:Ab}{cs:kB}{σ:L2.St}{H:Hp}{Q:VK}(h:tE X.K T (.blt b cs) σ H Q):tCB (qU X.K b) (rJ X.K T cs) σ H Q:=by
 obtain⟨P,env,F,re,p,hev,k⟩:=h;unfold ev at hev;obtain⟨l,h1,hev⟩:=Rs.bind_ok hev;obtain⟨d,h2,hev⟩:=Rs.bind_ok hev;cases hev;exact⟨P,env,F,re,l,h1,fun vs H1 G ar=>⟨l.map (·.1),d,G,ar.reps,cB h2,fun v H' G' rp nv=>k v H' G' (ar.same.trans nv.same) rp (bB.new ar nv fun _ z=>z)⟩⟩
theorem aG.of1 {K:Frag}{H:Hp}{d:D}{xs:List V}{G:List Addr}(h:aG K H [d] xs G):∃ x,xs=[x]/\Rep K H d x G:=by
 cases h with
 |cons r s=>cases s;exact⟨_,rfl,by rw[ba];exact r⟩
theorem aG.of2 {K:Frag}{H:Hp}{d e:D}{xs:List V}{G:List Addr}(h:aG K H [d,e] xs G):∃ x y G1 G2,xs=[x,y]/\Rep K H d x G1/\Rep K H e y G2:=by
 cases h with
 |cons r s =>
  cases s with
  |cons r' s'=>cases s';exact⟨_,_,_,_,rfl,r,r'⟩
theorem zI {prog:Program}{w:World}(d:Addr)(hd:(d==sysModules)=false):MeetsIn prog w (Builtin.«dict.__len__» ⟨[.ref d],[]⟩) (fun _ R s=>∃ o es ep,s.heap.get? d=some o/\o.ExactDict/\o.data = .dict es ep/\R (.ok (.ret (.int es.size s.toks))) { s with toks:=s.toks+1 }):=by
 intro A R s h;obtain⟨o,es,ep,h1,h2,h3,h⟩:=h;unfold Builtin.«dict.__len__»
 wp_walk
 rw[h3];unfold Builtin.Dict.pendingCount;rw[hd]
 wp_walk
 simpa using h
theorem qJ:fT X (.builtin "len") (qU X.K .len):=by
 intro pins s σ H xs us Q I r h;obtain⟨ds,d,G,rs,hd,k⟩:=h
 match ds,hd with
 |[.lst ys],hd =>
  cases hd;obtain⟨x,rfl,rp⟩:=rs.of1;obtain⟨p,vs,g,rfl,rfl,a1,a2⟩:=rp.lst_inv;exact iB pins s σ H _ us Q I r ⟨p,vs,rfl,.inl (.inl a1),by rw[<-a2.len];exact k _ H [] (.int _) fX.nil⟩
 |[.tup ys],hd =>
  cases hd;obtain⟨x,rfl,rp⟩:=rs.of1;obtain⟨p,vs,rfl,a1,a2⟩:=rp.tup_inv;exact iB pins s σ H _ us Q I r ⟨p,vs,rfl,.inr a1,by rw[<-a2.len];exact k _ H [] (.int _) fX.nil⟩
 |[.str z],hd =>
  simp only[mN,xY] at hd;by_cases hl:z.length<=lim
  ·rw[if_pos hl] at hd;cases hd;obtain⟨x,rfl,rp⟩:=rs.of1;obtain⟨rfl,rfl⟩:=rp.str_inv;exact ma pins s σ H _ us Q I r ⟨z,rfl,eD hl,k _ H [] (.int _) fX.nil⟩
  ·rw[if_neg hl] at hd;cases hd
 |[.mpt ks],hd =>
  cases hd;obtain⟨x,rfl,rp⟩:=rs.of1;obtain⟨u,rfl,rx⟩:=r.one;cases rp with
  |@mpt p _ hr =>
   obtain rfl:u = .ref p:=rx;obtain⟨z,lo,xs,rel,dd⟩:=m7 I.hok hr;have hty:=dd.typeIs;obtain⟨o,es,ep,h1,h2,h3,h4,_,_⟩:=dd;have hl:ks.length=es.size:=by
    have e1:=Paired.length rel;have e2:=fm List.length h4;unfold lN at e1;rw[aj] at e1 e2;rw[e1,<-e2,cn]
   have hz:ks.length<=sizeLine:=by
    unfold lN at z
    rwa [aj] at z
   rw[sizeLine_eq] at hz;refine call_len_slot (n:=(ks.length:Int)) hty PySem.F.slot_dict_len (fun Q' hQ'=>call_meetsIn PySem.F.slot_dict_len hty PySem.F.entry_dict_len (PySem.F.args_dict_len_1 _) (zI p lo) ⟨o,es,ep,h1,h2,h3,?_⟩) (by omega) (by omega) ⟨.int _,H,(I.tok _).tok _,⟨_,rfl⟩,k _ H [] (.int _) fX.nil⟩;rw[<-hl];exact hQ'
theorem m5 {pins:List (Addr×Obj)}{s:Shared}{σ:L2.St}{H:Hp}{xs:List V}{us:List Value}{Q:VK}(I:Inv X pins σ H s)(r:aL xs us){ds:List D}{d:D}{G:List Addr}(rs:aG X.K H ds xs G)(hd:mN .list ds=some d)(k:∀ v H' G',Rep X.K H' d v G'->fX H H' G d G'->Q v H')(hn:∀ ks,ds≠[.mpi ks]):wpAny (model X.prog X.w) X.A (call (.type "list") us) (EP X pins σ Q) X.xe s:=by
 match ds,hd with
 |[.mpi ks],hd=>exact absurd rfl (hn ks)
 |[.lst ys],hd =>
  cases hd;obtain⟨x,rfl,rp⟩:=rs.of1;obtain⟨p,vs,g,rfl,rfl,a1,a2⟩:=rp.lst_inv;refine iE pins s σ H _ us Q I r ⟨p,vs,rfl,.inl (.inl a1),fun l hl=>?_⟩;obtain⟨n1,n2⟩:=i6 (G0:=p::g) a2 (fun a ha=>ak _ ha) hl;exact k _ _ _ n1 n2
 |[.tup ys],hd =>
  cases hd;obtain⟨x,rfl,rp⟩:=rs.of1;obtain⟨p,vs,rfl,a1,a2⟩:=rp.tup_inv;refine iE pins s σ H _ us Q I r ⟨p,vs,rfl,.inr a1,fun l hl=>?_⟩;obtain⟨n1,n2⟩:=i6 (G0:=G) a2 (fun a ha=>ha) hl;exact k _ _ _ n1 n2
end
def ik (K:Frag)(P:Addr->Prop)(H0:Hp)(J:It)(ds:List D)(G:List Addr):Prop:=∀ H,iV P H0 H->(∀(i:Nat) (d:D),ds[i]? = some d->J.go i H/\∀ x H',J.yld i H x H'->aI H H'/\∃ G',Rep K H' d x G'/\∀ a∈G',a∈G)/\J.stop ds.length H
noncomputable def tI (K:Frag)(T:Tb)(it:rW):TI:=fun σ H R=>∃ P env F,RE K P env σ H F/\∃ p,gW T it env = .ok p/\∀ J H' G,aI H H'->bB env F H (.sh p.2) H' G->(∀ a∈G,H' a≠none)->(∀ P',(∀ a∈G,P' a)->ik K P' H' J p.1 G)->R J H'
theorem qS {K:Frag}{P:Addr->Prop}{H0:Hp}{p:Addr}{vs:List V}{ds:List D}{G:List Addr}(h1:Rd H0 p (.lst vs))(h2:aG K H0 ds vs G)(hp:∀ a∈p::G,P a):ik K P H0 (Itl K p) ds (p::G):=fun H e=>by
 have ep:=e.keep p (hp p ao);have h1':Rd H p (.lst vs):=by
  rcases h1 with q | ⟨o,q⟩
  ·exact .inl (ep.trans q)
  ·exact .inr ⟨o,ep.trans q⟩
 have h2':=e.reps h2 fun a ha=>hp a (ak _ ha)
 refine⟨fun i d hd=>?_,⟨vs,.inl h1',by rw[h2.len];exact aq _⟩⟩;obtain⟨v,G',a,b,c⟩:=h2'.get hd;refine⟨⟨vs,v,.inl h1',a⟩,fun x H' ⟨e1,e2⟩=>?_⟩;subst e1;have:=e2 vs (.inl h1');rw[a] at this;cases this;exact⟨aI.refl _,G',b,fun z hz=>ak _ (c.subset hz)⟩
theorem uO {K:Frag}{P:Addr->Prop}{H0:Hp}{p:Addr}{vs:List V}{ds:List D}{G:List Addr}(h1:iX K H0 p vs)(h2:aG K H0 ds vs G)(hp:∀ a∈G,P a):ik K P H0 (Itt K p) ds G:=fun H e=>by
 have h1':=e.tqT h1;have h2':=e.reps h2 hp;refine⟨fun i d hd=>?_,⟨vs,h1'.sq,by rw[h2.len];exact aq _⟩⟩;obtain⟨v,G',a,b,c⟩:=h2'.get hd;refine⟨⟨vs,v,h1'.sq,a⟩,fun x H' ⟨e1,e2⟩=>?_⟩;subst e1;have:=e2 vs h1'.sq;rw[a] at this;cases this;exact⟨aI.refl _,G',b,fun z hz=>c.subset hz⟩
noncomputable def B9 (xs:List V):It:=⟨fun i _=>i<xs.length,fun i H x H'=>H'=H/\xs[i]? = some x,fun i _=>xs.length<=i⟩
theorem lC {K:Frag}{P:Addr->Prop}{H0:Hp}{vs:List V}{ds:List D}(hr:∀ H,aG K H ds vs []):ik K P H0 (B9 vs) ds []:=fun H e=>by
 have hl:=(hr H).len;refine⟨fun i d hd=>?_,by show vs.length<=ds.length;omega⟩;obtain⟨v,G',a,b,c⟩:=(hr H).get hd;refine⟨by show i<vs.length;rw[<-hl];exact (List.getElem?_eq_some_iff.mp hd).1,fun x H' ⟨e1,e2⟩=>?_⟩;subst e1;rw[a] at e2;cases e2;exact⟨aI.refl _,G',b,fun z hz=>c.subset hz⟩
theorem kO {P:Program}{w:World}{K:Frag}{tg:Expr}{it:Addr}{xs:List V}{Pv:Nat->Value->Prop}{St:Nat->Heap->Prop}(W:∀ A:Around,A.handled=none->Walks P w A it [it] [it] xs.length Pv St)(hP:∀ i v,Pv i v->∃ x,xs[i]? = some x/\RelV x v)
  (ob:∀ i h,St i h->∃ o n vs,h.get? it=some o/\o.cls = .type n/\o.data = .fields vs/\["enumerate","zip","dict_itemiterator","dict_reverseitemiterator","odict_iterator","itertools.zip_longest","itertools.pairwise"].contains n=false)
  (fr:∀ i h h',St i h->(∀ o,h.get? it=some o->h'.get? it=some o)->St i h') (le:∀ i h,St i h->i<=xs.length) (slf:∀(A:Around) (i:Nat) (s:Shared) (Q E:Value->Shared->Prop),St i s.heap->Q (.ref it) s->wpAny (model P w) A (pyIter (.ref it)) Q E s):Turn P w K tg (B9 xs) [it] it St where
 mem:=by simp
 obj:=fun i h st b hb=>by
  have e:b=it:=by simpa using hb
  subst e;obtain⟨o,n,vs,h1,h2,h3,_⟩:=ob i h st;exact⟨o,h1,fun v z=>by rw[h3] at z;cases z⟩
 keep:=fun i h h' st k=>fr i h h' st fun o e=>k it (by simp) o e
 item:=by
  intro X hp hw hK hc i pins s σ H E I hf st hg;subst hp hw hK;obtain⟨f0,f1,f2,f3,f4,f5⟩:=hf it (by simp);refine (W X.A (I.ok.hd hc)).item i s _ _ hg st fun v h' tk hv st' kk=>?_
  obtain⟨x,ex,rx⟩:=hP i v hv;have I1:Inv X pins σ H { s with heap:=h',toks:=tk }:=I.turned (fun b o hb e=>kk b o (by simpa using hb) e) f0 f1 f3 f4 f5;obtain⟨o,n,vs,h1,h2,h3,h4⟩:=ob (i+1) h' st';exact⟨v,rfl,p8 (s:={ s with heap:=h',toks:=tk }) (n:=n) h1 h2 h3 h4 ⟨x,H,I1,rx,⟨rfl,ex⟩,st',fun b hb=>(hf b hb).1⟩⟩
 done:=by
  intro X hp hw hK hc i pins s σ H E I hf st hg;subst hp hw hK;obtain⟨f0,f1,f2,f3,f4,f5⟩:=hf it (by simp);have hi:i=xs.length:=Nat.le_antisymm (le i _ st) hg;subst hi;exact (W X.A (I.ok.hd hc)).done s _ _ st fun h' tk kk=>⟨rfl,I.turned (fun b o hb e=>kk b o (by simpa using hb) e) f0 f1 f3 f4 f5⟩
 self:=fun A i s Q E st h=>slf A i s Q E st h
noncomputable def fG (a c:Int)(n:Nat):List V:=(List.range n).map fun (i:Nat)=>.int (a+(i:Int)*c)
theorem jY (a c:Int)(n:Nat):(fG a c n).length=n:=by simp[fG]
theorem jL {K:Frag}{H:Hp}(c:Int):∀(n:Nat) (a:Int),aG K H (aS a c n) (fG a c n) []
 |0,a=>.nil
 | n+1,a=>by
  have e:fG a c (n+1) = .int a::fG (a+c) c n:=by
   unfold fG;rw[fv,aw,gd];congr 1
   ·simp
   ·refine dn fun i _=>?_
    simp only[Function.comp_apply,V.int.injEq,Nat.succ_eq_add_one]
    push_cast
    rw[Int.add_mul];omega
  rw[e];show aG K H (.int a::aS (a+c) c n) _ ([] ++ []);exact .cons (.int a) (jL c n (a+c))
theorem iN (a b c:Int)(hc:c≠0):0<=Builtin.Range.rangeSize a b c:=by
 unfold Builtin.Range.rangeSize;split
 ·rename_i h;split
  ·have:0<=(b - a - 1) / c:=Int.ediv_nonneg (by omega) (by omega);omega
  ·omega
 ·split
  ·have:0<=(a - b - 1) / (-c):=Int.ediv_nonneg (by omega) (by omega);omega
  ·omega
theorem mY {a b c:Int}(ha:eT a=true)(hb:eT b=true)(hc:c≠0)(hs:c.natAbs<1073741824):Builtin.Range.small a b c=true:=by
 unfold eT at ha hb;have ha:=of_decide_eq_true ha;have hb:=of_decide_eq_true hb;have hn:=iN a b c hc;have hu:Builtin.Range.rangeSize a b c<2 ^ 63:=by
  unfold Builtin.Range.rangeSize;split
  ·split
   ·have:=Int.ediv_le_self (b:=c) (a:=b - a - 1) (by omega);omega
   ·decide
  ·split
   ·have:=Int.ediv_le_self (b:=-c) (a:=a - b - 1) (by omega);omega
   ·decide
 unfold Builtin.Range.small;simp only[Builtin.Range.rangeFitsLong,Bool.and_eq_true,Bool.or_eq_true,decide_eq_true_eq,beq_iff_eq];refine⟨⟨⟨⟨⟨by omega,by omega⟩,by omega,by omega⟩,by omega,by omega⟩,by omega,hu⟩,.inr ?_⟩;split<;>simp only[Bool.and_eq_true,decide_eq_true_eq]<;>omega
section
variable {X:Cx}{tg:Expr}
theorem i0 {pins:List (Addr×Obj)}{σ:L2.St}{H:Hp}{s:Shared}{R:It->Hp->Prop}{E:Value->Shared->Prop}{lo hi c:Int}{t u v:Tok}{tk:Nat}(I:Inv X pins σ H s)(h1:eT lo=true)(h2:eT hi=true)(h3:c≠0)(h4:c.natAbs<1073741824)
  (q:R (B9 (fG lo c (Builtin.Range.rangeSize lo hi c).toNat)) H):wpAny (model X.prog X.w) X.A (pyIter (.ref s.heap.objs.size)) (zH X pins σ tg R) E { s with heap:=s.heap.push { cls:=.type "range",data:=.fields #[.int lo t,.int hi u,.int c v] },toks:=tk }:=by
 refine wpAny_pyIter_range (IsRange.new ..) (mY h1 h2 h3 h4) ?_;have I1:Inv X pins σ H { s with heap:=s.heap.push { cls:=.type "range",data:=.fields #[.int lo t,.int hi u,.int c v] },toks:=tk }:=I.kept fun b o e=>Heap.get?_push_of_some _ e
 have hn:=iN lo hi c h3;let n:=(Builtin.Range.rangeSize lo hi c).toNat;refine⟨(s.heap.push { cls:=.type "range",data:=.fields #[.int lo t,.int hi u,.int c v] }).objs.size,[(s.heap.push { cls:=.type "range",data:=.fields #[.int lo t,.int hi u,.int c v] }).objs.size],
  (fun i h=>i<=n/\IsRangeIter h (s.heap.push { cls:=.type "range",data:=.fields #[.int lo t,.int hi u,.int c v] }).objs.size (lo+(i:Nat)*c) ((n:Int) - (i:Nat)) c),_,H,rfl,
  I1.kept (t':=tk) fun b o e=>Heap.get?_push_of_some _ e,kO (Pv:=fun i v=>i<n/\∃ t,v = .int (lo+i*c) t) (fun A hA=>?_) (fun i v hv=>?_) (fun i h st=>?_) (fun i h h' st k=>⟨st.1,k _ st.2⟩) (fun i h st=>by rw[jY];exact st.1) (fun A i s Q E st h=>wpAny_pyIter_rangeiter st.2 h),?_,fun b hb=>?_,q⟩
 ·rw[jY];have W:=Walks.range (prog:=X.prog) (w:=X.w) hA (s.heap.push { cls:=.type "range",data:=.fields #[.int lo t,.int hi u,.int c v] }).objs.size lo c n;exact⟨W.sub,fun i h h' st k=>⟨st.1,W.frame i h h' st.2 k⟩,fun i s Q E hi st hQ=>W.item i s Q E hi st.2 fun v h' tk hv st' kk=>hQ v h' tk ⟨hi,hv⟩ ⟨hi,st'⟩ kk,fun s Q E st hQ=>W.done s Q E st.2 hQ,fun i s Q E st h=>W.self i s Q E st.2 h⟩
 ·obtain⟨hi',t',rfl⟩:=hv;exact⟨.int (lo+i*c),by unfold fG;rw[List.getElem?_map,List.getElem?_range hi'];rfl,t',rfl⟩
 ·exact⟨_,_,_,st.2,rfl,rfl,by decide⟩
 ·refine⟨cw _,?_⟩;have e1:lo+((0:Nat):Int)*c=lo:=by simp
  have e2:((n:Nat):Int) - ((0:Nat):Int)=Builtin.Range.rangeSize lo hi c:=by omega
  rw[e1,e2];exact Heap.get?_push_size _ rfl
 ·have e:b=(s.heap.push { cls:=.type "range",data:=.fields #[.int lo t,.int hi u,.int c v] }).objs.size:=by simpa using hb
  subst e;exact I1.fpOk (aq _) (I1.hok.fresh (aq _))
end
section
variable {X:Cx}{tg:Expr}{T:Tb}{pins:List (Addr×Obj)}{σ:L2.St}{H:Hp}{s:Shared}{R:It->Hp->Prop}{E:Value->Shared->Prop}
theorem xl {a:Addr}{xs:List V}(I:Inv X pins σ H s)(hq:ko X.K H a xs)(q:R (Itl X.K a) H):wpAny (model X.prog X.w) X.A (pyIter (.ref a)) (zH X pins σ tg R) E s:=by
 obtain⟨its,rv,p,hz⟩:=I.list hq;refine wpAny_pyIter_list p.isList ?_;refine⟨s.heap.objs.size,[s.heap.objs.size],_,_,H,rfl,I.kept (t':=s.toks) fun b o e=>Heap.get?_push_of_some _ e,rh a _,⟨_,Heap.get?_push_size _ rfl,rfl,rfl⟩,fun b hb=>?_,q⟩;have e:b=s.heap.objs.size:=by simpa using hb
 subst e;exact I.fpOk (aq _) (I.hok.fresh (aq _))
theorem tW {a:Addr}{xs:List V}(I:Inv X pins σ H s)(hq:iq X.K H a xs)(q:R (Itt X.K a) H):wpAny (model X.prog X.w) X.A (pyIter (.ref a)) (zH X pins σ tg R) E s:=by
 obtain⟨its,rv,p,hz⟩:=I.tuple hq;refine wpAny_pyIter_tuple (show s.heap.IsTuple a its.toArray from p) ?_;refine⟨s.heap.objs.size,[s.heap.objs.size],_,_,H,rfl,I.kept (t':=s.toks) fun b o e=>Heap.get?_push_of_some _ e,nY a _,⟨_,Heap.get?_push_size _ rfl,rfl,rfl⟩,fun b hb=>?_,q⟩;have e:b=s.heap.objs.size:=by simpa using hb
 subst e;exact I.fpOk (aq _) (I.hok.fresh (aq _))
noncomputable def ItZ (d:Addr)(o:Obj)(xs:List (Key×V)):It:=⟨fun i H=>H d=some (.frz o (.dK xs))/\i<xs.length,fun i H x H'=>H'=H/\∃ kv,xs[i]? = some kv/\x=kV kv.1,fun i H=>H d=some (.frz o (.dK xs))/\xs.length<=i⟩
theorem qF {P:Program}{w:World}{K:Frag}{tg:Expr}{it d:Addr}{o:Obj}{xs:List (Key×V)}{vs:List (Key×Value)}{ep:Nat}(hne:d≠it)(rel:KV xs vs)(hat:∀ h:Heap,h.get? d=some o->h.DictAt (aN P w) d vs ep):Turn P w K tg (ItZ d o xs) [it] it (fun i h=>i<=vs.length/\h.IsKeyIter it d i vs.length ep) where
 mem:=by simp
 obj:=fun i h st b hb=>by
  have e:b=it:=by simpa using hb
  subst e;obtain⟨_,o',h1,h2,h3⟩:=st;exact⟨o',h1,fun v z=>by rw[h3] at z;cases z⟩
 keep:=fun i h h' st k=>⟨st.1,st.2.at fun o e=>k it (by simp) o e⟩
 item:=by
  intro X hp hw hK hc i pins s σ H E I hf st hg;subst hp hw hK;obtain⟨f0,f1,f2,f3,f4,f5⟩:=hf it (by simp);obtain⟨hz,hlt⟩:=hg;have ho:s.heap.get? d=some o:=(I.hok d _ hz).1;have hl:=rel.length;refine (Walks.dictKeys (I.ok.hd hc) it d hne vs ep).item i s _ _ (by omega) ⟨st.2,hat _ ho⟩ fun v h' tk hv st' kk=>?_
  obtain⟨k,x,hx,hk⟩:=hv;have I1:Inv X pins σ H { s with heap:=h',toks:=tk }:=I.turned (fun b o hb e=>kk b o (by simpa using hb) e) f0 f1 f3 f4 f5;obtain⟨oi,h1,h2,h3⟩:=st'.1;obtain⟨kv,e1⟩:∃ kv,xs[i]? = some kv:=⟨xs[i],List.getElem?_eq_getElem hlt⟩;have ek:kv.1=k:=by
   have:=fm (fun l:List Key=>l[i]?) rel.keys;simp only[List.getElem?_map,e1,hx,Option.map_some,Option.some.injEq] at this;exact this
  have rx:RelV (kV kv.1) v:=by
   rw[ek];rcases aU (show jh k v=true from hk) with ⟨i,t,rfl,rfl⟩ | ⟨x,t,rfl,rfl⟩
   ·exact⟨t,rfl⟩
   ·exact⟨t,rfl⟩
  exact⟨v,rfl,p8 (s:={ s with heap:=h',toks:=tk }) (n:="dict_keyiterator") h1 h2 h3 (by decide) ⟨kV kv.1,H,I1,rx,⟨rfl,kv,e1,rfl⟩,⟨by omega,st'.1⟩,fun b hb=>(hf b hb).1⟩⟩
 done:=by
  intro X hp hw hK hc i pins s σ H E I hf st hg;subst hp hw hK;obtain⟨f0,f1,f2,f3,f4,f5⟩:=hf it (by simp);obtain⟨hz,hge⟩:=hg;have ho:s.heap.get? d=some o:=(I.hok d _ hz).1;have hl:=rel.length;have hi:i=vs.length:=by have:=st.1;omega
  subst hi;exact (Walks.dictKeys (I.ok.hd hc) it d hne vs ep).done s _ _ ⟨st.2,hat _ ho⟩ fun h' tk kk=>⟨rfl,I.turned (fun b o hb e=>kk b o (by simpa using hb) e) f0 f1 f3 f4 f5⟩
 self:=fun A i s Q E st h=>wpAny_pyIter_keyiter st.2 h
theorem wq {a:Addr}{o:Obj}{xs:List (Key×V)}(I:Inv X pins σ H s)(hq:H a=some (.frz o (.dK xs)))(q:R (ItZ a o xs) H):wpAny (model X.prog X.w) X.A (pyIter (.ref a)) (zH X pins σ tg R) E s:=by
 have ho:s.heap.get? a=some o:=(I.hok a _ hq).1;obtain⟨z,lo,vs,rel,dd⟩:=jg I.hok (.inr ⟨_,hq⟩);obtain⟨ep,o',es,h1,h2⟩:=dd.dictAt;rw[ho] at h1;cases h1;refine wpAny_pyIter_dict lo ⟨o,es,ho,h2⟩ ?_;refine⟨s.heap.objs.size,[s.heap.objs.size],_,_,H,rfl,I.kept (t':=s.toks) fun b o e=>Heap.get?_push_of_some _ e,qF (vs:=vs) (ep:=ep) (cg (Heap.lt_size ho)) rel (fun h e=>⟨o,es,e,h2⟩),⟨cw _,⟨_,Heap.get?_push_size _ rfl,rfl,rfl⟩⟩,fun b hb=>?_,q⟩;have e:b=s.heap.objs.size:=by simpa using hb
 subst e;exact I.fpOk (aq _) (I.hok.fresh (aq _))
theorem qX {K:Frag}{P:Addr->Prop}{H0:Hp}{p:Addr}{o:Obj}{xs:List (Key×V)}{ks:List (Int×MV)}(h1:H0 p=some (.frz o (.dK xs)))(h2:gX K H0 ks xs):ik K P H0 (ItZ p o xs) (ks.map fun q=>.int q.1) []:=fun H e=>by
 have h1':=e.fz _ _ _ h1;have hl:=h2.len;refine⟨fun i d hd=>?_,⟨h1',by rw[aj];omega⟩⟩;have hi:i<ks.length:=by have:=(List.getElem?_eq_some_iff.mp hd).1;rwa [aj] at this
 refine⟨⟨h1',by omega⟩,fun x H' ⟨e1,kv,e2,e3⟩=>?_⟩;subst e1 e3;refine⟨aI.refl _,[],?_,fun a ha=>nomatch ha⟩;rw[List.getElem?_map] at hd;have key:∀{ks:List (Int×MV)}{xs:List (Key×V)}{i:Nat}{kv:Key×V}{q:Int×MV},gX K H0 ks xs->xs[i]? = some kv->ks[i]? = some q->kv.1 = .inl q.1:=by
  intro ks
  induction ks with
  |nil=>intro xs i kv q _ _ h;cases h
  |cons a r ih =>
   intro xs i kv q h e1 e2;cases xs with
   |nil=>cases e1
   |cons x xs =>
    cases i with
    |zero=>cases e1;cases e2;exact h.1
    |succ i=>exact ih h.2.2 e1 e2
 cases hq:ks[i]? with
 |none=>rw[hq] at hd;cases hd
 |some q =>
  rw[hq] at hd;cases hd;rw[key h2 e2 hq];exact .int q.1
noncomputable def md (z:Str):List V:=z.cps.toList.map fun c=>.str ⟨#[c]⟩
theorem Aa {z:Str}{t:Tok}(I:Inv X pins σ H s)(q:R (B9 (md z)) H):wpAny (model X.prog X.w) X.A (pyIter (.str z t)) (zH X pins σ tg R) E s:=by
 have hlen:(md z).length=z.cps.size:=by simp[md]
 have core:∀(nm:String) (hn:["enumerate","zip","dict_itemiterator","dict_reverseitemiterator","odict_iterator","itertools.zip_longest","itertools.pairwise"].contains nm=false)
   (W:∀ A:Around,A.handled=none->Walks X.prog X.w A s.heap.objs.size [s.heap.objs.size] [s.heap.objs.size] z.cps.size (SignAt z) (fun i h=>h.IsStrIter s.heap.objs.size nm z t i))
   (slf:∀(A:Around) (i:Nat) (s':Shared) (Q E:Value->Shared->Prop),s'.heap.IsStrIter s.heap.objs.size nm z t i->Q (.ref s.heap.objs.size) s'->wpAny (model X.prog X.w) A (pyIter (.ref s.heap.objs.size)) Q E s'),
   zH X pins σ tg R (.ref s.heap.objs.size) { s with heap:=s.heap.push { cls:=.type nm,data:=.fields #[.str z t,.int 0 0] } }:=by
  intro nm hn W slf;refine⟨s.heap.objs.size,[s.heap.objs.size],(fun i h=>i<=z.cps.size/\h.IsStrIter s.heap.objs.size nm z t i),_,H,rfl,I.kept (t':=s.toks) fun b o e=>Heap.get?_push_of_some _ e,
   kO (Pv:=SignAt z) (fun A hA=>?_) (fun i v hv=>?_) (fun i h st=>?_) (fun i h h' st k=>⟨st.1,let ⟨o,ho,r⟩:=st.2;⟨o,k o ho,r⟩⟩) (fun i h st=>by rw[hlen];exact st.1) (fun A i s Q E st h=>slf A i s Q E st.2 h),⟨cw _,⟨_,Heap.get?_push_size _ rfl,rfl,rfl⟩⟩,fun b hb=>?_,q⟩
  ·rw[hlen];have W:=W A hA;exact⟨W.sub,fun i h h' st k=>⟨st.1,W.frame i h h' st.2 k⟩,fun i s Q E hi st hQ=>W.item i s Q E hi st.2 fun v h' tk hv st' kk=>hQ v h' tk hv ⟨hi,st'⟩ kk,fun s Q E st hQ=>W.done s Q E st.2 hQ,fun i s Q E st h=>W.self i s Q E st.2 h⟩
  ·obtain⟨c,u,e,rfl⟩:=hv;exact⟨.str ⟨#[c]⟩,by simp[md];exact e,u,rfl⟩
  ·obtain⟨o,ho,hc,hd⟩:=st.2;exact⟨o,nm,_,ho,hc,hd,hn⟩
  ·have e:b=s.heap.objs.size:=by simpa using hb
   subst e;exact I.fpOk (aq _) (I.hok.fresh (aq _))
 cases ha:z.cps.all (· < 128)
 ·exact wpAny_pyIter_wide ha (core "str_iterator" (by decide) (fun A' hA=>Walks.strWide hA _ z t) fun A i s' Q E st h=>wpAny_pyIter_striter_wide st h)
 ·exact wpAny_pyIter_ascii ha (core "str_ascii_iterator" (by decide) (fun A' hA=>Walks.strAscii hA _ z t) fun A i s' Q E st h=>wpAny_pyIter_striter_ascii st h)
theorem j4 {K:Frag}{H:Hp}:∀(cs:List Nat),aG K H (cs.map fun c=>D.str ⟨#[c]⟩) (cs.map fun c=>V.str ⟨#[c]⟩) []
 |[]=>.nil
 | c::cs=>by
  show aG K H (_::_) (_::_) ([] ++ []);exact .cons (.str _) (j4 cs)
theorem sM {e:Expr}{c:Ex}(h:PE X e (tE X.K T c)):PI X tg e (tI X.K T (.seq c)):=by
 intro pins s σ H R I hq;obtain⟨P,env,F,re,p,hev,k⟩:=hq;unfold gW at hev;obtain⟨q,h1,hev⟩:=Rs.bind_ok hev;obtain⟨l,h2,hev⟩:=Rs.bind_ok hev;have h2:=cB h2;cases hev;refine bV (h pins s σ H (fun v H'=>∃ G,aI H H'/\Rep X.K H' q.1 v G/\bB env F H q.2 H' G) I ⟨P,env,F,re,q,h1,fun v H' G s rp rt=>⟨G,s,rp,rt⟩⟩) fun u s1 ⟨v,H1,I1,r1,G,e,rp,rt⟩=>?_
 have rt':bB env F H (.sh q.2.roots) H1 G:=rt.part (fun _ h=>h) (fun _ h=>h) fun R e=>by cases e
 cases hd:q.1 with
 |lst xs =>
  rw[hd] at rp h2;cases h2;obtain⟨a,vs,g,rfl,rfl,a1,a2⟩:=rp.lst_inv;cases r1;exact xl I1 (.inl a1) (k _ H1 (a::g) e rt' (fun b hb=>rp.nn hb) fun P' hP=>qS a1 a2 hP)
 |tup xs =>
  rw[hd] at rp h2;cases h2;obtain⟨a,vs,rfl,a1,a2⟩:=rp.tup_invT;cases r1;exact tW I1 a1.sq (k _ H1 G e rt' (fun b hb=>rp.nn hb) fun P' hP=>uO a1 a2 hP)
 |str z =>
  rw[hd] at rp h2;simp only[sR] at h2;by_cases hl:z.length<=lim
  ·rw[if_pos hl] at h2;cases h2;obtain⟨rfl,rfl⟩:=rp.str_inv;obtain⟨t,rfl⟩:=r1;exact Aa I1 (k _ H1 [] e bB.nil (fun _ h=>(nomatch h)) fun P' hP=>lC fun H=>j4 _)
  ·rw[if_neg hl] at h2;cases h2
 |mpz ks =>
  rw[hd] at rp h2;cases h2;cases rp with
  |@mpz a _ xs o hz kr =>
   cases r1;exact wq I1 hz (k _ H1 [] e rt' (fun _ h=>(nomatch h)) fun P' hP=>qX hz kr)
 |_=>rw[hd] at h2;cases h2
theorem jc (a b:Int):(Builtin.Range.rangeSize a b 1).toNat=(b - a).toNat:=by
 rw[rangeSize_one];split<;>omega
theorem Ai {es:List Expr}{cs:kB}{it:rW}{p pos:Pos}{e0:Expr}{rest:List Expr}(hes:es=e0::rest)(hg:Gl X "range") (hm:X.mg "range" = none) (ha:PA X es (rJ X.K T cs)) (hs:starEach es X.env=(false,eval e0 X.env)::starEach rest X.env) (hpl:(backTo pos (starEach rest X.env)).any (·.1)=false)
  (hit:∀ env p,gW T it env = .ok p->p.2=[]/\∃ l,bE T cs env = .ok l/\((∃ j,l.map (·.1)=[.int j]/\eT j=true/\p.1=aS 0 1 j.toNat)\/(∃ i j,l.map (·.1)=[.int i,.int j]/\eT i=true/\eT j=true/\p.1=aS i 1 (j - i).toNat) \/
   ∃ i j k,l.map (·.1)=[.int i,.int j,.int k]/\eT i=true/\eT j=true/\k≠0/\k.natAbs<1073741824/\p.1=aS i k (Builtin.Range.rangeSize i j k).toNat)) :
  PI X tg (.Call (.Name "range" p) es [] pos) (tI X.K T it):=by
 subst hes;intro pins s σ H R I hq;obtain⟨P,env,F,re,q,hev,k⟩:=hq;obtain⟨hq2,l,hl,hc⟩:=hit env q hev;refine Call_ (j8 I hg hm boot_range (gc (bV (ha pos pins s σ H (fun vs H'=>∃ G,Args X.K env F H H' l vs G) I ⟨P,env,F,re,l,hl,fun vs H' G ar=>⟨G,ar⟩⟩) fun us s1 ⟨vs,H1,I1,r1,G,ar⟩=>?_) hs hpl));have rs:=ar.reps;have fin:∀(a c:Int) (n:Nat),q.1=aS a c n->R (B9 (fG a c n)) H1:=fun a c n e=>by
  refine k _ H1 [] ar.same bB.nil (fun _ h=>(nomatch h)) fun P' _=>?_
  rw[e];exact lC fun H=>jL c n a
 have one:∀{d:D}{ds:List D}{vs:List V}{us:List Value}{G:List Addr},aG X.K H1 (d::ds) vs G->aL vs us->∀ i,d = .int i->∃ t us' vs' G',us = .int i t::us'/\vs = .int i::vs'/\aG X.K H1 ds vs' G'/\aL vs' us':=by
  intro d ds vs us G r rv i e;subst e;cases r with
  |cons r rr =>
   obtain⟨rfl,rfl⟩:=r.int_inv;cases rv with
   |cons x y =>
    obtain⟨t,rfl⟩:=x;exact⟨t,_,_,_,rfl,rfl,rr,y⟩
 have nil:∀{vs:List V}{us:List Value}{G:List Addr},aG X.K H1 [] vs G->aL vs us->us=[]:=by
  intro vs us G r rv;cases r;cases rv;rfl
 rcases hc with ⟨j,e1,e2,e3⟩ | ⟨i,j,e1,e2,e3,e4⟩ | ⟨i,j,c,e1,e2,e3,e4,e5,e6⟩
 ·rw[e1] at rs;obtain⟨t,us',vs',G',rfl,_,rs,r1⟩:=one rs r1 j rfl;obtain rfl:=nil rs r1;refine call_range_1 (i0 (c:=1) I1 (by decide) e2 (by decide) (by decide) ?_);refine fin _ _ _ ?_;rw[e3,jc];simp
 ·rw[e1] at rs;obtain⟨t,us',vs',G',rfl,_,rs,r1⟩:=one rs r1 i rfl;obtain⟨t',us'',vs'',G'',rfl,_,rs,r1⟩:=one rs r1 j rfl;obtain rfl:=nil rs r1;refine call_range_2 (i0 (c:=1) I1 e2 e3 (by decide) (by decide) ?_);refine fin _ _ _ ?_;rw[e4,jc]
 ·rw[e1] at rs;obtain⟨t,us',vs',G',rfl,_,rs,r1⟩:=one rs r1 i rfl;obtain⟨t',us'',vs'',G'',rfl,_,rs,r1⟩:=one rs r1 j rfl;obtain⟨t3,us3,vs3,G3,rfl,_,rs,r1⟩:=one rs r1 c rfl;obtain rfl:=nil rs r1;refine call_range_3 e4 (i0 (c:=c) I1 e2 e3 e4 e5 ?_) (.inl (PyProof.noPylong_small e5));exact fin _ _ _ e6
end
theorem tQ {h:Heap}{o o':Obj}{b:Addr}(e:(h.push o).get? b=some o'):(b=h.objs.size/\o'=o)\/h.get? b=some o':=by
 obtain⟨e1,e2⟩:=Heap.get?_some_iff.mp e;by_cases hb:b=h.objs.size
 ·left;subst hb;refine⟨rfl,?_⟩;have:(h.push o).objs[h.objs.size]? = some o:=by cases h;simp[Heap.push]
  rw[this] at e1;exact (bu e1).symm
 ·right;refine Heap.get?_some_iff.mpr ⟨?_,e2⟩;cases h;simpa[Heap.push,Array.getElem?_push,hb] using e1
theorem yJ (n b:Nat)(h:b=n+1\/b=n):n<=b:=by omega
section
variable {X:Cx}{pins:List (Addr×Obj)}{σ:L2.St}{H:Hp}{s:Shared}
theorem iI {h':Heap}{t':Nat}{ch:List Addr}(I:Inv X pins σ H s)(k:∀ b o,b∉ch->s.heap.get? b=some o->h'.get? b=some o)(hf:∀ b∈ch,hJ X pins H b):Inv X pins σ H { s with heap:=h',toks:=t' }:=by
 have nit:∀ b u,H b=some u->b∉ch:=fun b u e z=>by
  have:=(hf b z).1;rw[this] at e;cases e
 refine I.step (g':=s.gens) (d':=s.drawn) (ch:=ch) (fun b hb=>?_) (fun b o _ _ hc e _=>k b o hc e) (fun b o _ _ hc e _=>⟨o.slots,k b o hc e⟩) (fun _ _ _ _ n=>n)
  (fun b o hc e=>⟨o,k b o hc e⟩) (fun _ _ e=>e) (fun _ _ _ e=>e) (fun b ps e=>⟨#[],by rw[e];simp⟩) (fun m hm=>?_) (fun b u e=>?_) I.bare
 ·obtain⟨f0,f1,f2,f3,f4,f5⟩:=hf b hb;exact⟨f3,f1,f4,f5⟩
 ·obtain⟨o,es,ep,ho,r⟩:=hm;exact⟨o,es,ep,k _ o (fun z=>(hf _ z).2.1 rfl) ho,r⟩
 ·refine (I.hok b u e).stay (fun c v hc q=>k c v ?_ q) (fun _ q=>q) fun _ _ q=>q
  rcases hc with z | z
  ·rw[z];exact nit b u e
  ·exact nit c _ z
theorem paired {h':Heap}{t':Nat}{ch:List Addr}{x y:V}{u v:Value}(I:Inv X pins σ H s)(hu:RelV x u)(hv:RelV y v)(hT:h'.get? s.heap.objs.size=some { cls:=.type "tuple",data:=.seq #[u,v] })
  (k:∀ b o,b∉ch->s.heap.get? b=some o->h'.get? b=some o) (hf:∀ b∈ch,hJ X pins H b) (hl:∀ b∈ch,b<s.heap.objs.size):Inv X pins σ (upd H s.heap.objs.size (.tup [x,y])) { s with heap:=h',toks:=t' }:=by
 have I1:Inv X pins σ (upd H s.heap.objs.size (.tup [x,y])) { s with heap:=s.heap.push { cls:=.type "tuple",data:=.seq #[u,v] },toks:=t' } :=
  I.laid (fun _ _ q=>Heap.get?_push_of_some _ q) (aq _) ⟨by show 2<=sizeLine;decide,[u,v],.cons hu (.cons hv .nil),⟨_,Heap.get?_push_size _ rfl,rfl,_,rfl⟩⟩
 refine iI (s:={ s with heap:=s.heap.push { cls:=.type "tuple",data:=.seq #[u,v] },toks:=t' }) (ch:=ch) I1 (fun b o hb q=>?_) fun b hb=>?_
 ·rcases tQ q with ⟨rfl,rfl⟩ | q
  ·exact hT
  ·exact k b o hb q
 ·obtain⟨f0,f⟩:=hf b hb;exact⟨by rw[aJ (cg (hl b hb))];exact f0,f⟩
end
noncomputable def Ite (K:Frag)(l:Addr):It:=⟨fun i H=>∃ xs x,ko K H l xs/\xs[i]? = some x,fun i H v H'=>∃ T x,v = .ref T/\H T=none/\(∀ xs,ko K H l xs->xs[i]? = some x)/\H'=upd H T (.tup [.int i,x]),fun i H=>∃ xs,ko K H l xs/\xs.length<=i⟩
theorem rA {P:Program}{w:World}{K:Frag}{elts:List Expr}{x1:Nat}{pos:Pos}(l e it:Addr)(hne:e≠it):Turn P w K (.Tuple elts x1 pos) (Ite K l) [e,it] e (fun i h=>(∃ old,IsEnum h e it (i:Nat) old)/\h.IsListIter it l i) where
 mem:=by simp
 obj:=fun i h st b hb=>by
  obtain⟨⟨old,he⟩,hit⟩:=st;have hb:b=e\/b=it:=by simpa using hb
  rcases hb with rfl | rfl
  ·exact⟨_,he,fun v z=>by cases z⟩
  ·obtain⟨o,e,c,d⟩:=hit;exact⟨o,e,fun v z=>by rw[d] at z;cases z⟩
 keep:=fun i h h' st k=>⟨let ⟨old,he⟩:=st.1;⟨old,k e (by simp) _ he⟩,st.2.at fun o z=>k it (by simp) o z⟩
 item:=by
  intro X hP hw hK hc i pins s σ H E I hf st hg;subst hP hw hK;obtain⟨xs,x,hq,hx⟩:=hg;obtain⟨its,rv,p,hz⟩:=I.list hq;obtain⟨u,hu,ru⟩:=rv.get hx;obtain⟨⟨old,he⟩,hit⟩:=st;have lts:∀ b∈[e,it],b<s.heap.objs.size:=fun b hb=>by
   have hb:b=e\/b=it:=by simpa using hb
   rcases hb with rfl | rfl
   ·exact Heap.lt_size he
   ·obtain⟨o,e,_⟩:=hit;exact Heap.lt_size e
  refine wpAny_pyNext_enum_item he hit p.isList (x:=u) (by simpa using hu) hne fun h' ho hit' hT hsz hk=>?_
  have I2:Inv X pins σ (upd H s.heap.objs.size (.tup [.int i,x])) { s with heap:=h',toks:=s.toks+1 } :=
   paired (ch:=[e,it]) I ⟨s.toks,rfl⟩ ru hT (fun b o hb q=>hk b o (fun z=>hb (by simp[z])) (fun z=>hb (by simp[z])) q) hf lts
  have f2:∀ b∈[e,it],hJ X pins (upd H s.heap.objs.size (.tup [.int i,x])) b:=fun b hb=>by
   obtain⟨f0,f⟩:=hf b hb;exact⟨by rw[aJ (cg (lts b hb))];exact f0,f⟩
  refine⟨_,rfl,wpAny_letOwnedTupleGo_enum (s:={ s with heap:=h',toks:=s.toks+1 }) ho fun h2 he2 hs2=>?_⟩;refine⟨.ref s.heap.objs.size,_,iI (ch:=[e]) I2 (fun b o hb q=>hs2.extBut b o (fun z=>hb (by simp[z])) q) (fun b hb=>f2 b (by simp at hb;simp[hb])),rfl,⟨_,x,rfl,I.fresh,fun ys hy=>by rw[I.list_inj hy hq];exact hx,rfl⟩,⟨⟨_,by simpa using he2⟩,hit'.at fun o z=>hs2.extBut it o (Ne.symm hne) z⟩,fun b hb=>(f2 b hb).1⟩
 done:=by
  intro X hP hw hK hc i pins s σ H E I hf st hg;subst hP hw hK;obtain⟨xs,hq,hx⟩:=hg;obtain⟨its,rv,p,hz⟩:=I.list hq;obtain⟨⟨old,he⟩,hit⟩:=st;have hl:=rv.length;exact wpAny_pyNext_enum_end (I.ok.hd hc) he hit p.isList (by simp;omega) fun h' eb=>⟨rfl,iI (t':=s.toks) (ch:=[it]) I (fun b o hb q=>eb b o (fun z=>hb (by simp[z])) q) fun b hb=>hf b (by simp at hb;simp[hb])⟩
 self:=fun A i s Q E st h=>by
  obtain⟨⟨old,he⟩,_⟩:=st;exact wpAny_pyIter_enum he h
theorem qO {K:Frag}{P:Addr->Prop}{H0:Hp}{p:Addr}{vs:List V}{ds:List D}{G:List Addr}(h1:Rd H0 p (.lst vs))(h2:aG K H0 ds vs G)(hp:∀ a∈p::G,P a):ik K P H0 (Ite K p) (ds.zipIdx.map fun q=>.tup [.int q.2,q.1]) (p::G):=fun H e=>by
 have ep:=e.keep p (hp p ao);have h1':Rd H p (.lst vs):=by
  rcases h1 with q | ⟨o,q⟩
  ·exact .inl (ep.trans q)
  ·exact .inr ⟨o,ep.trans q⟩
 have h2':=e.reps h2 fun a ha=>hp a (ak _ ha)
 refine⟨fun i d hd=>?_,⟨vs,.inl h1',by rw[aj,List.length_zipIdx,h2.len];exact aq _⟩⟩;have hd:∃ d',ds[i]? = some d'/\d = .tup [.int i,d']:=by
  rw[List.getElem?_map,List.getElem?_zipIdx] at hd;cases q:ds[i]? with
  |none=>rw[q] at hd;cases hd
  |some d'=>rw[q] at hd;simp at hd;exact⟨d',rfl,hd.symm⟩
 obtain⟨d',hd',rfl⟩:=hd;obtain⟨v,G',a,b,c⟩:=h2'.get hd';refine⟨⟨vs,v,.inl h1',a⟩,fun x H' ⟨T,x',e1,e2,e3,e4⟩=>?_⟩;subst e1 e4;have:=e3 vs (.inl h1');rw[a] at this;cases this;have sm:aI H (upd H T (.tup [.int i,v])):=aI.new e2;refine⟨sm,G',.tup (.inl aM) ?_,fun z hz=>ak _ (c.subset hz)⟩;have r:=aG.cons (Rep.int (K:=K) (H:=upd H T (.tup [.int i,v])) (i:Int)) (aG.cons (b.same sm) .nil);rw[ba,fh] at r;exact r
section
variable {X:Cx}{T:Tb}
theorem kL {env:En}{F:Nat->List Addr}{H H':Hp}{l:List (D×Rt)}{vs:List V}{G:List Addr}{R:List Nat}(ar:Args X.K env F H H' l vs G)(h:∀ q,q∈aP (l.map (·.2))->q∈R):bB env F H (.sh R) H' G where
 cont:=fun a ha=>(ar.cont a ha).imp id fun ⟨i,d,t,x,y,z⟩=>⟨i,d,t,x,y,fun q hq=>h q (z q hq)⟩
 mv:=fun R e=>by cases e
end
def tS (K:Frag)(T:Tb)(c:St):TS:=fun D σ H=>∃ P Z env F,RE K P env σ H F/\(∀ i,∀ a∈F i,Z a)/\(∀ a,¬ P a->Z a)/\post K P Z env F H D (aY T c env)
def xR (K:Frag)(T:Tb)(c:cG):TS:=fun D σ H=>∃ P Z env F,RE K P env σ H F/\(∀ i,∀ a∈F i,Z a)/\(∀ a,¬ P a->Z a)/\post K P Z env F H D (aF T c env)
section
variable {K:Frag}{P Z:Addr->Prop}{env:En}{σ:L2.St}{H:Hp}{F:Nat->List Addr}{D:Ends}
theorem bJ {α:Type}{x:Rs α}{k:α->Fl}(h:post K P Z env F H D (fH env x k)):∃ a,x = .ok a/\post K P Z env F H D (k a):=by
 cases x with
 |ok a=>exact⟨a,rfl,h⟩
 |exc e=>exact h.elim
 |bad=>exact h.elim
theorem After.same {H':Hp}(re:RE K P env σ H F)(hz:∀ i,∀ a∈F i,Z a)(e:aI H H'):After K P Z env F H env σ H' F:=⟨re.same e,hz,iV.of_same re.pl e,oT.refl _ _⟩
theorem AB {H':Hp}{r:Rt}{G:List Addr}(re:RE K P env σ H F)(hz:∀ i,∀ a∈F i,Z a)(zp:∀ a,¬ P a->Z a)(rt:bB env F H r H' G):∀ a∈G,Z a:=fun a ha=>by
 rcases rt.cont a ha with q | ⟨j,_,_,f,_⟩
 ·exact zp a fun z=>re.pl a z q
 ·exact hz j a f
end
section
variable {X:Cx}{T:Tb}{pos:Pos}{e:Expr}{c:Ex}
theorem wI:km X [] (xR X.K T .nil):=by
 refine qg xp fun D σ H ⟨P,Z,env,F,re,hz,zp,h⟩=>?_
 unfold aF at h;exact h σ H F (After.same re hz (aI.refl _))
theorem rP {st:Stmt}{rest:List Stmt}{cs:St}{cr:cG}(h1:PS X st (tS X.K T cs))(h2:km X rest (xR X.K T cr)):km X (st::rest) (xR X.K T (.cons cs cr)):=by
 refine qg (sQ h1 h2) fun D σ H ⟨P,Z,env,F,re,hz,zp,h⟩=>⟨P,Z,env,F,re,hz,zp,?_⟩
 unfold aF at h;cases hs:aY T cs env with
 |nx env' =>
  rw[hs] at h;exact fun σ' H' F' af=>⟨P,Z,env',F',af.re,af.z,zp,post.trans af h⟩
 |bk env'=>rw[hs] at h;exact h
 |ct env'=>rw[hs] at h;exact h
 |rt d fr=>rw[hs] at h;exact h
 |xc e env'=>rw[hs] at h;exact h
 |bad=>rw[hs] at h;exact h
theorem xk:PS X (.Pass pos) (tS X.K T .pass):=by
 refine cA xC fun D σ H ⟨P,Z,env,F,re,hz,zp,h⟩=>?_
 unfold aY at h;exact h σ H F (After.same re hz (aI.refl _))
theorem Aw {x:Str}{j:Nat}{pos':Pos}:PS X (.Expr (.Constant (.str x) j pos) pos') (tS X.K T .pass):=by
 refine cA zu fun D σ H ⟨P,Z,env,F,re,hz,zp,h⟩=>?_
 unfold aY at h;exact h σ H F (After.same re hz (aI.refl _))
theorem wD:PS X (.Return none pos) (tS X.K T .retN):=by
 refine cA xn fun D σ H ⟨P,Z,env,F,re,hz,zp,h⟩=>?_
 unfold aY at h;exact h .non H [] .non (iV.refl _) (fun _ h=>(nomatch h)) fun _=>⟨cj,fun _ h=>(nomatch h)⟩
theorem yH (he:PE X e (tE X.K T c)):PS X (.Return (some e) pos) (tS X.K T (.ret c)):=by
 refine cA (yy he) fun D σ H ⟨P,Z,env,F,re,hz,zp,h⟩=>?_
 unfold aY at h;obtain⟨p,hp,h⟩:=bJ h;refine⟨P,env,F,re,p,hp,fun v H' G s rp rt=>h v H' G rp (iV.of_same re.pl s) (AB re hz zp rt) fun fr=>?_⟩;cases hr:p.2 with
 |sh R=>rw[hr] at fr;cases fr
 |mv R =>
  rw[hr] at fr;obtain⟨a,b,d⟩:=rt.mv R hr;refine⟨a,fun x hx=>⟨fun z=>?_,b x hx⟩⟩;rcases d x hx with q | ⟨i,d2,t2,hi,f,e2,o2⟩
  ·exact re.pl x z q
  ·have:=fe.mp fr i hi;split at this
   ·rename_i d' q;exact re.wr i d' q x f z
   ·cases this
theorem wj (he:PE X e (tE X.K T c))(hs:swapsWith e none pos.line X.env=pure false):PS X (.Expr e pos) (tS X.K T (.expr c)):=by
 refine cA (jr he hs) fun D σ H ⟨P,Z,env,F,re,hz,zp,h⟩=>?_
 unfold aY at h;obtain⟨p,hp,h⟩:=bJ h;exact⟨P,env,F,re,p,hp,fun v H' G s rp rt=>h σ H' F (After.same re hz s)⟩
theorem AO {a b:List Stmt}{ca cb:cG}(hc:PT X e (k6 X.K T c))(ha:km X a (xR X.K T ca))(hb:km X b (xR X.K T cb)):PS X (.If e a b pos) (tS X.K T (.ite c ca cb)):=by
 refine cA (Cn hc ha hb) fun D σ H ⟨P,Z,env,F,re,hz,zp,h⟩=>?_
 unfold aY at h;obtain⟨p,hp,h⟩:=bJ h;cases ht:truth p.1 with
 |none=>rw[ht] at h;exact h.elim
 |some k =>
  rw[ht] at h;refine⟨P,env,F,re,p,k,hp,ht,fun H' s=>?_⟩;have af:=After.same (Z:=Z) re hz s;cases k with
  |true=>show if true=true then _ else _;rw[if_pos rfl];exact⟨P,Z,env,F,af.re,hz,zp,post.trans af h⟩
  |false=>show if false=true then _ else _;rw[if_neg ax];exact⟨P,Z,env,F,af.re,hz,zp,post.trans af h⟩
theorem t4 {i:Nat}{x:Str}{pos':Pos}{mv:Bool}(hN:X.N.Nodup)(hi:X.N[i]? = some x)(hx:Loc X.env.scope x)(he:PE X e (tE X.K T c))(hs:swapsWith e (some (.Name x pos')) pos.line X.env=pure false)(hf:X.fn x=true\/X.env.scope.names.lookup x=some .local) :
  PS X (.Assign [.Name x pos'] e pos) (tS X.K T (.asg (.nm i) c mv)):=by
 refine cA (zh hN hi hx he hs hf) fun D σ H ⟨P,Z,env,F,re,hz,zp,h⟩=>?_
 unfold aY at h;obtain⟨p,hp,h⟩:=bJ h;exact⟨P,env,F,re,p,hp,fun v H' G s rp rt=>sS re hz zp s rp rt h⟩
noncomputable def fL:List Nat->ym
 |[]=>Bp
 |i::is=>yf (kP i) (fL is)
theorem hZ:∀{is:List Nat}{vs:List V}{σ:L2.St}{H:Hp}{Q:L2.St->Hp->Prop},is.length=vs.length->Q (setM is vs σ) H->fL is vs σ H Q
 |[],[],_,_,_,_,q=>⟨rfl,q⟩
 |i::is,v::vs,σ,H,Q,hl,q=>⟨v,vs,rfl,hZ (is:=is) (vs:=vs) (by simpa using hl) q⟩
 |[],_::_,_,_,_,hl,_=>by simp at hl
 |_::_,[],_,_,_,hl,_=>by simp at hl
theorem wU {tg:Expr}{is:List Nat}{mv:Bool}(hg:PG X tg (ui X.K is.length (fL is)))(he:PE X e (tE X.K T c))(hs:swapsWithSole [tg] e pos.line X.env=pure false)(hw:swappedStores [tg] e X.env=pure none)(h1:(assignEach [tg] X.env).map (·.2)=[assign tg X.env]) :
  PS X (.Assign [tg] e pos) (tS X.K T (.asg (.tp is) c mv)):=by
 refine cA (tZ he hg hs hw h1) fun D σ H ⟨P,Z,env,F,re,hz,zp,h⟩=>?_
 unfold aY at h;obtain⟨p,hp,h⟩:=bJ h;refine⟨P,env,F,re,p,hp,fun v H' G s rp rt=>?_⟩;have re':=re.same s;have ez:=AB re hz zp rt;have jm:=iV.of_same (P:=P) re.pl s;unfold qB at h;cases hd:p.1 with
 |tup ds =>
  rw[hd] at h rp;obtain⟨a,vs,rfl,a1,a2⟩:=rp.tup_inv;have fin:∀{o:Option En},post X.K P Z env F H D (vO o)->(∀ env',o=some env'->∃ F',RE X.K P env' (setM is vs σ) H' F'/\(∀ i,∀ a∈F' i,Z a)/\oT env F env' F'/\is.length=vs.length)->ui X.K is.length (fL is) (.ref a) σ H' D.nx:=fun {o} h q=>by
   cases o with
   |none=>exact h.elim
   |some env' =>
    obtain⟨F',b1,b2,b3,b4⟩:=q env' rfl;exact⟨a,vs,rfl,a1,b4.symm,hZ b4 (h _ H' F' ⟨b1,b2,jm,b3⟩)⟩
  have shared:post X.K P Z env F H D (if is.all (fun i=>!p.2.roots.contains i) then vO (bindM (fun d=>cD d p.2.roots) is ds env) else .bad)->ui X.K is.length (fL is) (.ref a) σ H' D.nx:=fun h=>by
   by_cases hc:is.all (fun i=>!p.2.roots.contains i)=true
   ·rw[if_pos hc] at h;refine fin h fun env' he'=>j3 re' hz a2 ez (fun x hx j d' t' ej o m=>?_) he'
    rcases rt.cont x hx with q | ⟨k,d2,t2,f,e2,sr⟩
    ·exact absurd q (re.nn ej m)
    ·exact sr j ((re.one j d' t' ej o).2.2 x m k d2 t2 e2 f)
   ·rw[if_neg hc] at h;exact h.elim
  cases hr:p.2 with
  |sh R=>rw[hr] at h shared;exact shared h
  |mv R =>
   cases R with
   |cons r0 R0=>rw[hr] at h shared;exact shared h
   |nil =>
    rw[hr] at h;obtain⟨m1,m2,m3⟩:=rt.mv [] hr;have fresh:∀ a∈G,H a=none:=fun a ha=>by
     rcases m3 a ha with q | ⟨_,_,_,q,_⟩
     ·exact q
     ·cases q
    exact fin h fun env' he'=>kY re' hz a2 m1 m2 (fun x hx z=>re.pl x z (fresh x hx)) ez (fun x hx j m=>by
     obtain⟨d2,t2,e2⟩:=re.at' m;exact re.nn e2 m (fresh x hx)) he'
 |_=>rw[hd] at h;exact h.elim
theorem Al {b:List Stmt}{cb:cG}(hp:PassesOwn (model X.prog X.w) X.A X.env X.xe)(hc:PT X e (k6 X.K T c))(hb:km X b (xR X.K T cb)):PS X (.While e b [] pos) (tS X.K T (.whl c cb)):=by
 refine cA (tP hp hc hb) fun D σ H ⟨P,Z,env,F,re,hz,zp,h⟩=>?_
 unfold aY at h;refine⟨fun m σ' H'=>∃ env' F',After X.K P Z env F H env' σ' H' F'/\post X.K P Z env' F' H' D (eJ (fun env=>(ev T c env).bind fun p=>fS (truth p.1)) (aF T cb) m env'),⟨T.fuel,env,F,After.same re hz (aI.refl _),h⟩,fun m σ1 H1 ⟨env1,F1,af,h1⟩=>?_⟩;cases m with
 |zero=>exact h1.elim
 |succ m =>
  unfold eJ at h1;obtain⟨k,hk,h1⟩:=bJ h1;obtain⟨p,hp1,hk⟩:=Rs.bind_ok hk;refine⟨P,env1,F1,af.re,p,k,hp1,cB hk,fun H2 s2=>?_⟩;have af2:=After.same (Z:=Z) af.re af.z s2;cases k with
  |false =>
   show if false=true then _ else _
   rw[if_neg ax];simp only[Bool.false_eq_true,if_false] at h1;exact h1 σ1 H2 F1 af2
  |true =>
   show if true=true then _ else _
   rw[if_pos rfl];simp only[if_true] at h1;refine⟨fun σ' H'=>∃ env' F',After X.K P Z env F H env' σ' H' F'/\post X.K P Z env' F' H' D (eJ (fun env=>(ev T c env).bind fun p=>fS (truth p.1)) (aF T cb) m env'),fun σ' H' q=>⟨m,Nat.lt_succ_self _,q⟩,P,Z,env1,F1,af2.re,af.z,zp,?_⟩;have h1:=post.trans af2 h1;cases hs:aF T cb env1 with
   |nx e'=>rw[hs] at h1;exact fun σ' H' F' af3=>⟨e',F',af.trans (af2.trans af3),post.trans af3 h1⟩
   |ct e'=>rw[hs] at h1;exact fun σ' H' F' af3=>⟨e',F',af.trans (af2.trans af3),post.trans af3 h1⟩
   |bk e'=>rw[hs] at h1;exact h1
   |rt d fr=>rw[hs] at h1;exact h1
   |xc x e'=>rw[hs] at h1;exact h1
   |bad=>rw[hs] at h1;exact h1
noncomputable def oS (K:Frag):kE->TG
 |.nm i=>kP i
 |.tp is=>ui K is.length (fL is)
theorem mL {K:Frag}{P Z:Addr->Prop}{env env':En}{σ:L2.St}{H:Hp}{F:Nat->List Addr}{t:kE}{d:Pc.D}{v:V}{G:List Addr}{R:List Nat}{Q:L2.St->Hp->Prop}(re:RE K P env σ H F)(hz:∀ i,∀ a∈F i,Z a)(rp:Rep K H d v G)(gz:∀ a∈G,Z a)
  (hs:∀ a∈G,∀(j:Nat) (d':Pc.D) (t':Tg),env[j]? = some (some (d',t'))->aV t'=true->a∈F j->j∈R) (hb:cF R t d env=some env') (hQ:∀ σ' F',RE K P env' σ' H F'->(∀ i,∀ a∈F' i,Z a)->oT env F env' F'->Q σ' H):oS K t v σ H Q:=by
 cases t with
 |nm i =>
  simp only[cF] at hb;by_cases hi:i<env.length
  ·rw[if_pos hi] at hb;cases hb;exact hQ _ _ (pz re hi rp hs) (k9 hz gz) (jG hi nE)
  ·rw[if_neg hi] at hb;cases hb
 |tp is =>
  cases d with
  |tup ds =>
   simp only[cF] at hb;obtain⟨a,vs,rfl,a1,a2⟩:=rp.tup_inv;obtain⟨F',b1,b2,b3,b4⟩:=j3 re hz a2 gz hs hb;exact⟨a,vs,rfl,a1,b4.symm,hZ b4 (hQ _ F' b1 b2 b3)⟩
  |_=>cases hb
theorem iR {t:kE}{R:List Nat}{b:En->Fl}:∀(ds:List Pc.D) (env:En),(∀ e,bU t R b ds env≠.bk e)/\∀ e,bU t R b ds env≠.ct e
 |[],env=>⟨fun e z=>(by cases z),fun e z=>(by cases z)⟩
 | d::ds,env=>by
  unfold bU;cases cF R t d env with
  |none=>exact⟨fun e z=>(by cases z),fun e z=>(by cases z)⟩
  |some env' =>
   simp only;cases b env' with
   |nx e'=>exact iR ds e'
   |ct e'=>exact iR ds e'
   |bk e'=>exact⟨fun e z=>(by cases z),fun e z=>(by cases z)⟩
   |rt d fr=>exact⟨fun e z=>(by cases z),fun e z=>(by cases z)⟩
   |xc x e'=>exact⟨fun e z=>(by cases z),fun e z=>(by cases z)⟩
   |bad=>exact⟨fun e z=>(by cases z),fun e z=>(by cases z)⟩
theorem AK {tg iter:Expr}{t:kE}{it:rW}{b:List Stmt}{cb:cG}(hp:PassesOwn (model X.prog X.w) X.A X.env X.xe)(hc:X.calm=true)(hi:PI X tg iter (tI X.K T it))(hg:PG X tg (oS X.K t))(hb:km X b (xR X.K T cb))(hs:∀ x,foldedSetIterable iter X.env x=pure x) :
  PS X (.For tg iter b [] pos) (tS X.K T (.forr t it cb)):=by
 refine cA (zr hp hc hi hg hb hs) fun D σ H ⟨P,Z,env,F,re,hz,zp,h⟩=>?_
 unfold aY at h;obtain⟨p,hp,h⟩:=bJ h;refine⟨P,env,F,re,p,hp,fun J H1 G s1 rt nn wk=>?_⟩;have af1:=After.same (Z:=Z) re hz s1;have h:=post.trans af1 h;let P':Addr->Prop:=fun a=>P a\/a∈G
 have wk:=wk P' fun a ha=>.inr ha
 have seen:∀ a∈G,∀(i:Nat) (d:Pc.D) (t:Tg),env[i]? = some (some (d,t))->aV t=true->a∈F i->i∈p.2:=fun a ha i d t e o m=>by
  rcases rt.cont a ha with q | ⟨k,d2,t2,f,e2,sr⟩
  ·exact absurd q (re.nn e m)
  ·exact sr i ((re.one i d t e o).2.2 a m k d2 t2 e2 f)
 have reL:RE X.K P' (lock p.2 env) σ H1 F:=af1.re.locked nn seen;have gz:∀ a∈G,Z a:=AB re hz zp rt;let E':Ends:={ D with nx:=fun σ' H'=>∀ env' F',After X.K P' Z (lock p.2 env) F H1 env' σ' H' F'->D.nx σ' H' };have stepP:∀{f:Fl},(∀ e,f≠.bk e)->(∀ e,f≠.ct e)->post X.K P Z env F H1 D (match f with | .nx e=>.nx (unlock p.2 env e) | x=>x)->post X.K P' Z (lock p.2 env) F H1 D f:=fun {f} nb nc h=>by
  cases f with
  |nx e=>exact fun σ' H' F' af=>h σ' H' F' (af.unlocked af1.re)
  |bk e=>exact absurd rfl (nb e)
  |ct e=>exact absurd rfl (nc e)
  |rt d fr=>exact fun v H' G' rp ev z f=>h v H' G' rp (ev.weak fun _ q=>.inl q) z fun w=>⟨(f w).1,fun a ha=>⟨fun q=>((f w).2 a ha).1 (.inl q),((f w).2 a ha).2⟩⟩
  |xc x e=>exact h
  |bad=>exact h
 have h:=stepP (iR _ _).1 (iR _ _).2 h;have zpL:∀ a,¬ P' a->Z a:=fun a ha=>zp a fun q=>ha (.inl q)
 refine⟨fun i m σ' H'=>m=p.1.length - i/\i<=p.1.length/\∃ env' F',After X.K P' Z (lock p.2 env) F H1 env' σ' H' F'/\post X.K P' Z env' F' H' D (bU t p.2 (aF T cb) (p.1.drop i) env'),⟨p.1.length,by simp,Nat.zero_le _,lock p.2 env,F,After.same reL hz (aI.refl _),by simpa using h⟩,?_⟩;rintro i m σ2 H2 ⟨rfl,hi,env2,F2,af2,h2⟩;obtain⟨w1,w2⟩:=wk H2 af2.ev;by_cases hlt:i<p.1.length
 ·right;have hd:p.1[i]? = some p.1[i]:=by simp[hlt]
  obtain⟨g1,g2⟩:=w1 i _ hd;refine⟨g1,fun σ' H'=>∃ env' F',After X.K P' Z (lock p.2 env) F H1 env' σ' H' F'/\post X.K P' Z env' F' H' D (bU t p.2 (aF T cb) (p.1.drop (i+1)) env'),fun σ' H' q=>⟨p.1.length - (i+1),by omega,rfl,hlt,q⟩,fun x H3 y=>?_⟩;obtain⟨s3,G3,rp3,sub3⟩:=g2 x H3 y;have af3:=After.same (Z:=Z) af2.re af2.z s3;have h2:=post.trans af3 h2;rw[df hlt] at h2;unfold bU at h2;cases hb:cF p.2 t p.1[i] env2 with
  |none=>rw[hb] at h2;exact h2.elim
  |some env4 =>
   rw[hb] at h2;refine mL af3.re af2.z rp3 (fun a ha=>gz a (sub3 a ha)) (fun a ha j d' t' ej o m=>?_) hb fun σ4 F4 re4 z4 lk4=>?_
   ·cases t' with
    |own=>exact absurd (.inr (sub3 a ha)) (af2.re.wr j d' ej a m)
    |lk =>
     obtain⟨e5,e6⟩:=af2.lk j d' ej;rw[e6] at m;obtain⟨t0,e0,o0,_⟩:=eK e5;exact seen a (sub3 a ha) j d' t0 e0 (o0.trans o) m
    |sh Q=>cases o
   ·have af4:After X.K P' Z env2 F2 H3 env4 σ4 H3 F4:=⟨re4,z4,iV.refl _,lk4⟩;refine⟨P',Z,env4,F4,re4,z4,zpL,?_⟩;have h2:=post.trans af4 h2;have all:=(af2.trans af3).trans af4;cases hs:aF T cb env4 with
    |nx e'=>simp only[hs] at h2;exact fun σ' H' F' af5=>⟨e',F',all.trans af5,post.trans af5 h2⟩
    |ct e'=>simp only[hs] at h2;exact fun σ' H' F' af5=>⟨e',F',all.trans af5,post.trans af5 h2⟩
    |bk e'=>simp only[hs] at h2;exact h2
    |rt d fr=>simp only[hs] at h2;exact h2
    |xc x e'=>simp only[hs] at h2;exact h2
    |bad=>simp only[hs] at h2;exact h2
 ·left;have e:i=p.1.length:=by omega
  subst e;rw[f7] at h2;exact⟨w2,h2 σ2 H2 F2 (After.same af2.re af2.z (aI.refl _))⟩
end
noncomputable def fB (cells:List (Str×Addr)):List (Str×NameKind)->List (Str×Addr)->List (Str×Addr)
 |[],acc=>acc
 | (n,k)::r,acc=>fB cells r (if k == .free then (match cells.lookup n with | some c=>(n,c)::acc | none=>acc) else acc)
theorem oH {scope:Scope}{env:Env}(h:∀ x,(x,NameKind.free)∈scope.names->∃ c,env.cells.lookup x=some c):closureFor scope env=pure (fB env.cells scope.names []):=by
 unfold closureFor;have gen:∀(names:List (Str×NameKind)) (acc:List (Str×Addr)),(∀ x,(x,NameKind.free)∈names->∃ c,env.cells.lookup x=some c) ->
   (forIn names acc fun (p:Str×NameKind) (cs:List (Str×Addr))=>(match p with
    | (name,kind)=>if (kind == .free)=true then (do let c <- cellOf env name;pure (ForInStep.yield ((name,c)::cs))) else pure (ForInStep.yield cs):Sem (ForInStep (List (Str×Addr)))))=(pure (fB env.cells names acc):Sem (List (Str×Addr))):=by
  intro names
  induction names with
  |nil=>intro acc _;rfl
  |cons x r ih =>
   intro acc hx;obtain⟨n,k⟩:=x;rw[List.forIn_cons];simp only[fB];have hr:∀ x,(x,NameKind.free)∈r->∃ c,env.cells.lookup x=some c:=fun x hm=>hx x (ak _ hm)
   by_cases hk:(k==NameKind.free)=true
   ·have e:k = .free:=by simpa using hk
    subst e;obtain⟨c,hc⟩:=hx n ao;simp only[hk,if_true,cellOf,hc];exact ih ((n,c)::acc) hr
   ·simp only[hk,if_false];exact ih acc hr
 have:=gen scope.names [] h;simpa using this
theorem kG {cells:List (Str×Addr)}{x:Str}{c:Addr}:∀{names:List (Str×NameKind)}{acc:List (Str×Addr)},(∀ y d,acc.lookup y=some d->cells.lookup y=some d)->(fB cells names acc).lookup x=some c->cells.lookup x=some c
 |[],acc,ha,h=>ha x c h
 | (n,k)::r,acc,ha,h=>by
  simp only[fB] at h;refine kG (names:=r) (fun y d q=>?_) h;by_cases hk:(k==NameKind.free)=true
  ·rw[if_pos hk] at q;cases hc:cells.lookup n with
   |none=>rw[hc] at q;exact ha y d q
   |some e =>
    rw[hc] at q;simp only[List.lookup_cons] at q;cases hy:y==n with
    |true =>
     rw[hy] at q;have:=eq_of_beq hy;subst this;rw[hc];exact q
    |false=>rw[hy] at q;exact ha y d q
  ·rw[if_neg hk] at q;exact ha y d q
theorem lE {cells:List (Str×Addr)}{x:Str}:∀{names:List (Str×NameKind)}{acc:List (Str×Addr)},(∃ c,acc.lookup x=some c)->∃ c,(fB cells names acc).lookup x=some c
 |[],acc,h=>h
 | (n,k)::r,acc,h=>by
  simp only[fB];refine lE (names:=r) ?_;by_cases hk:(k==NameKind.free)=true
  ·rw[if_pos hk];cases hc:cells.lookup n with
   |none=>exact h
   |some e =>
    simp only[List.lookup_cons];cases hy:x==n with
    |true=>exact⟨e,rfl⟩
    |false=>exact h
  ·rw[if_neg hk];exact h
theorem jO {cells:List (Str×Addr)}{x:Str}{c:Addr}(hc:cells.lookup x=some c):∀{names:List (Str×NameKind)}{acc:List (Str×Addr)},(x,NameKind.free)∈names->∃ c,(fB cells names acc).lookup x=some c
 |[],acc,h=>by cases h
 | (n,k)::r,acc,h=>by
  simp only[fB];rcases gp.mp h with e | h
  ·cases e;refine lE (names:=r) ?_;simp only[beq_self_eq_true,if_true,hc,List.lookup_cons];exact⟨c,rfl⟩
  ·exact jO hc (names:=r) h
noncomputable def inner (X:Cx)(scope:Scope)(N':List Str)(C:Addr)(s0:Shared)(H0:Hp)(ex:List Addr):Cx :=
 { X with N:=N',s₀:=s0,H₀:=H0,env:=compEnvC scope (cellsFrom (C+1) scope.names (fB X.env.cells scope.names [])) C X.env,outer:=X.stack,stack:=X.stack,ex:=ex,fn:=fun x=>scope.names.lookup x==some .cell,pn:=[],xe:=fun _ _=>False }
structure cZ (X:Cx)(scope:Scope)(N':List Str)(pick:List (Option Nat)):Prop where
 kind:scope.kind = .function
 cells:∀ y∈scope.names,y.2 = .cell->scope.names.lookup y.1=some .cell
 names:∀ y∈scope.names,y.2 = .local->scope.names.lookup y.1=some .local
 len:pick.length=N'.length
 outer:∀ x,scope.names.lookup x=some .free->(X.env.kindOf x=some .cell\/X.env.kindOf x=some .free)
 free:∀ x,(x,NameKind.free)∈scope.names->scope.names.lookup x=some .free
 pick:∀(i j:Nat) (x:Str),pick[i]? = some (some j)->N'[i]? = some x->scope.names.lookup x=some .free/\X.N[j]? = some x
noncomputable def eI (σ:L2.St)(pick:List (Option Nat)):L2.St:=pick.map fun o=>o.bind fun j=>(σ[j]?).join
theorem dN {env:Env}:∀{names:List (Str×NameKind)}{x:Str}{k:NameKind},(names.map fun (n,k)=>if (k==NameKind.free&&env.scope.kind == .function&&env.kindOf n==some .cell) then (n,NameKind.cell) else (n,k)).lookup x=some k ->
  ∃ k0,names.lookup x=some k0/\(k=k0\/(k0 = .free/\k = .cell))
 |[],_,_,h=>by simp at h
 | (n,k0)::r,x,k,h=>by
  rw[aw] at h;by_cases hc:(k0==NameKind.free&&env.scope.kind == .function&&env.kindOf n==some .cell)=true
  ·simp only[hc,if_true,List.lookup_cons] at h;simp only[List.lookup_cons];cases hx:x==n with
   |true =>
    rw[hx] at h;cases h;rw[ah,ah] at hc;exact⟨k0,rfl,.inr ⟨by simpa using hc.1.1,rfl⟩⟩
   |false=>rw[hx] at h;exact dN h
  ·have hc:(k0==NameKind.free&&env.scope.kind == .function&&env.kindOf n==some .cell)=false:=by simpa using hc
   simp only[hc,Bool.false_eq_true,if_false,List.lookup_cons] at h;simp only[List.lookup_cons];cases hx:x==n with
   |true=>rw[hx] at h;cases h;exact⟨k0,rfl,.inl rfl⟩
   |false=>rw[hx] at h;exact dN h
theorem dZ {env:Env}:∀{names:List (Str×NameKind)}{x:Str},names.lookup x=some .free ->
  (names.map fun (n,k)=>if (k==NameKind.free&&env.scope.kind == .function&&env.kindOf n==some .cell) then (n,NameKind.cell) else (n,k)).lookup x=some .cell \/
  (names.map fun (n,k)=>if (k==NameKind.free&&env.scope.kind == .function&&env.kindOf n==some .cell) then (n,NameKind.cell) else (n,k)).lookup x=some .free
 |[],_,h=>by simp at h
 | (n,k0)::r,x,h=>by
  rw[aw];by_cases hc:(k0==NameKind.free&&env.scope.kind == .function&&env.kindOf n==some .cell)=true
  ·simp only[hc,if_true,List.lookup_cons] at h ⊢;cases hx:x==n with
   |true=>left;rfl
   |false=>rw[hx] at h;exact dZ h
  ·have hc:(k0==NameKind.free&&env.scope.kind == .function&&env.kindOf n==some .cell)=false:=by simpa using hc
   simp only[hc,Bool.false_eq_true,if_false,List.lookup_cons] at h ⊢;cases hx:x==n with
   |true=>rw[hx] at h;cases h;right;rfl
   |false=>rw[hx] at h;exact dZ h
theorem fO:∀(names:List (Str×NameKind)) (n:Nat) (acc:List (Str×Addr)),cellsFrom n names acc=cellsFrom n names []++acc
 |[],_,_=>rfl
 | (nm,k)::r,n,acc=>by
  unfold cellsFrom;split
  ·rw[fO r (n+1) ((nm,n)::acc),fO r (n+1) [(nm,n)],ef];rfl
  ·exact fO r n acc
theorem nQ:∀(names:List (Str×NameKind)) (n:Nat) {x:Str}{c:Addr},(x,c)∈cellsFrom n names []->(x,NameKind.cell)∈names
 |[],_,_,_,h=>by cases h
 | (nm,k)::r,n,x,c,h=>by
  unfold cellsFrom at h;split at h
  ·rename_i hk;rw[fO] at h;rcases List.mem_append.mp h with h | h
   ·exact ak _ (nQ r _ h)
   ·have e:(x,c)=(nm,n):=by simpa using h
    cases e;rw[show k = .cell by simpa using hk];exact ao
  ·exact ak _ (nQ r _ h)
theorem mm:∀(names:List (Str×NameKind)) (n:Nat) {x:Str},(x,NameKind.cell)∈names->∃ c,(cellsFrom n names []).lookup x=some c
 | (nm,k)::r,n,x,h=>by
  unfold cellsFrom;rcases gp.mp h with e | h
  ·cases e;rw[if_pos (by decide),fO,fu];cases (cellsFrom (n+1) r []).lookup nm with
   |some c=>exact⟨c,rfl⟩
   |none=>exact⟨n,by simp⟩
  ·split
   ·obtain⟨c,hc⟩:=mm r (n+1) h;rw[fO,fu,hc];exact⟨c,rfl⟩
   ·exact mm r n h
theorem nfe {M:Model}{A:Around}{E:Value->Shared->Prop}{s:Shared}{scope:Scope}{globals:Addr}{cl:List (Str×Addr)}{qual:Str}{env:Env}{Q:Env->Shared->Prop}
  (h:Q { scope:=scope,locals:=s.heap.objs.size,globals:=globals,cells:=cellsFrom (s.heap.objs.size+1) scope.names cl,qual:=qual,func:=none,code:=env.code,frame:=env.frame,builtins:=env.builtins } { s with heap:=pushCells (s.heap.push { cls:=.type "dict",data:=.dict #[] }) scope.names }) :
  wpAny M A (newFunctionEnv scope globals cl [] qual none .none (some env)) Q E s:=by
 simp only[newFunctionEnv,Option.isSome_some,if_true];refine wpAny_bind (wpAny_alloc (wpAny_bind (wpAny_layCells _ (fun name kind cells=>by cases hkc:kind==NameKind.cell<;>simp[hkc]) _ _ _ _ ?_)));rw[show ({ s with heap:=s.heap.push { cls:=.type "dict",data:=.dict #[] } }:Shared).heap.objs.size=s.heap.objs.size+1 from Heap.size_push ..];exact wpAny_pure h
section
variable {X:Cx}{scope:Scope}{N':List Str}{pick:List (Option Nat)}{pins:List (Addr×Obj)}{σ:L2.St}{H:Hp}{s:Shared}
theorem mU (S:cZ X scope N' pick)(I:Inv X pins σ H s){fp:List Addr}(hf:∀ b∈fp,hJ X pins H b)(hl:∀ b∈fp,b<s.heap.objs.size) :
  Inv (inner X scope N' s.heap.objs.size s H fp) [] (eI σ pick) H { s with heap:=pushCells (s.heap.push { cls:=.type "dict",data:=.dict #[] }) scope.names }:=by
 have old:∀ x c,(fB X.env.cells scope.names []).lookup x=some c->X.env.cells.lookup x=some c:=fun x c h=>kG (acc:=[]) (fun y d q=>by simp at q) h
 have hk:∀ b o,s.heap.get? b=some o->(pushCells (s.heap.push { cls:=.type "dict",data:=.dict #[] }) scope.names).get? b=some o:=fun b o e=>pushCells_keeps _ _ b o (Heap.get?_push_of_some _ e)
 have hn:(pushCells (s.heap.push { cls:=.type "dict",data:=.dict #[] }) scope.names).Ns s.heap.objs.size (fun _=>none):=(Heap.Ns.new s.heap (.type "dict")).keeps (pushCells_keeps _ _);have ok:=cellsFrom_ok scope.names (s.heap.push { cls:=.type "dict",data:=.dict #[] }) (s.heap.objs.size+1) [] ⟨fun _ _ hm=>(nomatch hm),List.Pairwise.nil⟩ (by rw[Heap.size_push];exact aq _);rw[Heap.size_push] at ok;generalize hh:pushCells (s.heap.push { cls:=.type "dict",data:=.dict #[] }) scope.names=h' at *;have oldlt:∀ x c,X.env.cells.lookup x=some c->c<s.heap.objs.size:=fun x c h=>by
  obtain⟨v,hv⟩:=I.cell x c h;exact hv.lt
 have look:∀ x c,(cellsFrom (s.heap.objs.size+1) scope.names (fB X.env.cells scope.names [])).lookup x=some c->((x,c)∈cellsFrom (s.heap.objs.size+1) scope.names []/\s.heap.objs.size+1<=c)\/((x,NameKind.cell)∉scope.names/\X.env.cells.lookup x=some c):=fun x c h=>by
  rw[fO,fu] at h;cases q:(cellsFrom (s.heap.objs.size+1) scope.names []).lookup x with
  |some c' =>
   rw[q] at h;cases h;have hm:=bt q;exact .inl ⟨hm,(ok.empty _ _ hm).2⟩
  |none =>
   rw[q] at h;refine .inr ⟨fun z=>?_,old x c h⟩;obtain⟨c',hc'⟩:=mm scope.names (s.heap.objs.size+1) z;rw[q] at hc';cases hc'
 have sees:∀ x c,scope.names.lookup x=some .free->(fB X.env.cells scope.names []).lookup x=some c->(cellsFrom (s.heap.objs.size+1) scope.names (fB X.env.cells scope.names [])).lookup x=some c:=fun x c hx h=>by
  rw[fO,fu];cases q:(cellsFrom (s.heap.objs.size+1) scope.names []).lookup x with
  |some c' =>
   have:=S.cells _ (nQ _ _ (bt q)) rfl;rw[hx] at this;cases this
  |none=>rw[h];rfl
 refine⟨⟨I.ok.mod,S.kind,I.ok.glob,I.ok.blt,aq _,fun x y c h1 h2=>?inj,fun x hx=>?_,fun x c hx h=>?cab,I.ok.hd,I.ok.frames,.inl rfl,fun b hb=>?_,I.bs,bj I.ok.bsz I.sz,fun b o e hb=>?_,fun b hb hb'=>?_,I.stack,I.stkFree⟩,
  rfl,I.bare,Un.kept hk,⟨_,hn,fun i x v h1 h2 h3=>?_⟩,fun x c h=>?_,I.hok.fresh (Nat.le_refl _),fun x c h=>?frc,fun p hp=>absurd (show p∈([]:List (Addr×Obj)) from hp) (by simp),I.hok.kept hk,?_⟩
 case inj =>
  rcases look x c h1 with ⟨m1,l1⟩ | ⟨_,o1⟩<;>rcases look y c h2 with ⟨m2,l2⟩ | ⟨_,o2⟩
  ·exact name_of_addr ok.apart m1 m2
  ·exact absurd (az (oldlt y c o2) (Nat.le_of_succ_le l1)) (da _)
  ·exact absurd (az (oldlt x c o1) (Nat.le_of_succ_le l2)) (da _)
  ·exact I.ok.inj x y c o1 o2
 case cab =>
  have hx:scope.names.lookup x=some .cell:=by simpa[inner] using hx
  rcases look x c h with ⟨_,l1⟩ | ⟨n1,_⟩
  ·exact bj (Nat.le_succ _) l1
  ·exact absurd (bt hx) n1
 case frc =>
  rcases look x c h with ⟨_,l1⟩ | ⟨_,o1⟩
  ·exact I.hok.fresh (bj (Nat.le_succ _) l1)
  ·exact I.freeC x c o1
 ·have hx:(relabel scope X.env).names.lookup x=some .cell\/(relabel scope X.env).names.lookup x=some .free:=hx;have hfree:scope.names.lookup x=some .free\/scope.names.lookup x=some .cell:=by
   rcases hx with hx | hx
   ·obtain⟨k0,h1,h2 | ⟨h2,_⟩⟩:=dN hx
    ·subst h2;exact .inr h1
    ·rw[h2] at h1;exact .inl h1
   ·obtain⟨k0,h1,h2 | ⟨h2,h3⟩⟩:=dN hx
    ·subst h2;exact .inl h1
    ·cases h3
  rcases hfree with hfree | hfree
  ·obtain⟨c,hc⟩:=I.ok.has x (S.outer x hfree);obtain⟨c',hc'⟩:=jO (acc:=[]) hc (bt hfree);exact⟨c',sees x c' hfree hc'⟩
  ·obtain⟨c,hc⟩:=mm scope.names (s.heap.objs.size+1) (bt hfree);refine⟨c,?_⟩;show (cellsFrom (s.heap.objs.size+1) scope.names (fB X.env.cells scope.names [])).lookup x=some c;rw[fO,fu,hc];rfl
 ·refine⟨cg (hl b hb),fun x c h=>?_⟩;rcases look x c h with ⟨_,l1⟩ | ⟨_,o1⟩
  ·exact fun e=>da _ (az (hl b hb) (e ▸ Nat.le_of_succ_le l1))
  ·exact (hf b hb).2.2.2.2.1 x c o1
 ·obtain⟨f0,f1,f2,f3,f4,f5⟩:=hf b hb;rcases f3 with f3 | f3
  ·exact I.ok.noex b o e f3
  ·exact absurd (az (Heap.lt_size e) (bj I.ok.bsz f3)) (da _)
 ·obtain⟨f0,f1,f2,f3,f4,f5⟩:=hf b hb;exact (gp.mp (I.stkSub b hb')).elim f1 f2
 ·
  have h2':(pick.map fun o=>o.bind fun j=>(σ[j]?).join)[i]? = some (some v):=h2;rw[List.getElem?_map] at h2';cases hp:pick[i]? with
  |none=>rw[hp] at h2';cases h2'
  |some o =>
   rw[hp] at h2';cases o with
   |none=>simp at h2'
   |some j =>
    simp only[Option.map_some,Option.bind_some,Option.some.injEq] at h2';have hj:σ[j]? = some (some v):=by
     cases q:σ[j]? with
     |none=>rw[q] at h2';cases h2'
     |some o=>rw[q] at h2';cases o with
      |none=>cases h2'
      |some w=>simp at h2';rw[h2']
    obtain⟨k1,k2⟩:=S.pick i j x hp h1;obtain⟨m0,hn0,hl0⟩:=I.loc;have vis:Av X.env.scope x:=by
     rcases S.outer x k1 with q | q
     ·exact .inr (.inl q)
     ·exact .inr (.inr q)
    obtain⟨u,r,lk⟩:=hl0 j x v k2 hj vis;refine⟨u,r,?_⟩;rcases lk with ⟨z,_⟩ | ⟨_,c,hc,hcell⟩
    ·rcases S.outer x k1 with q | q<;>· rw[z] at q;cases q
    ·obtain⟨c',hc'⟩:=jO (names:=scope.names) (acc:=[]) hc (bt k1);have:=old x c' hc';rw[hc] at this;cases this;refine .inr ⟨dZ k1,c,sees x c k1 hc',?_⟩;obtain⟨o,ho,hd⟩:=hcell;exact⟨o,hk c o ho,hd⟩
 ·rcases look x c h with ⟨m1,_⟩ | ⟨_,o1⟩
  ·exact⟨none,(ok.empty _ _ m1).1⟩
  ·obtain⟨v,o,ho,hd⟩:=I.cell x c o1;exact⟨v,o,hk c o ho,hd⟩
 ·show (pick.map _).length=N'.length;rw[aj,S.len]
end
noncomputable abbrev pV (ifs:List Expr)(env:Env):Sem Bool:=forIn ifs true fun c r=>if r=true then do let ok <- isTrue c env (eval c env);pure (ForInStep.yield ok) else pure (ForInStep.yield r)
noncomputable def A5 (X:Cx)(ifs:List Expr)(t:TT):Prop :=
 ∀(pins:List (Addr×Obj)) (s:Shared) (σ:L2.St) (H:Hp) (Q:Bool->Hp->Prop),Inv X pins σ H s->t σ H Q->wpAny (model X.prog X.w) X.A (pV ifs X.env) (TP X pins σ Q) X.xe s
theorem vZ {X:Cx}:A5 X [] (fun _ H Q=>Q true H):=fun _ _ _ H Q I h=>wpAny_tests_nil ⟨H,I,h⟩
theorem vy {X:Cx}{c:Expr}{t:TT}(h:PT X c t):A5 X [c] t:=fun pins s σ H Q I q=>wpAny_tests_one (h pins s σ H Q I q)
section
variable {prog:Program}{w:World}{A:Around}{R:Result->Shared->Prop}{s:Shared}
theorem mJ {elt target iter:Expr}{ifs:List Expr}{scope:Scope}{pos:Pos}{it acc:Value}{env:Env}(I:Nat->Shared->Prop)
  (turn:∀ n s,I n s->wpAny (model prog w) A (pyNext it) (fun r s₁=>match r with
   |none=>R (.ok .next) s₁
   |some v=>wpAny (model prog w) A (letOwnedTupleGo target it v) (fun _ s₀=>wpAny (model prog w) A (assign target env v) (fun _ s₂ =>
     wpAny (model prog w) A (pV ifs env) (fun ok s₃ =>
      if ok=true then wpAny (model prog w) A (eval elt env) (fun x s₄ =>
       wpAny (model prog w) A (call (.builtin "list.append") [acc,x]) (fun _ s₅=>∃ m,m<n/\I m s₅) (fun _ _=>False) s₄) (fun _ _=>False) s₃
      else ∃ m,m<n/\I m s₃) (fun _ _=>False) s₂) (fun _ _=>False) s₀) (fun _ _=>False) s₁) (fun _ _=>False) s)
  (n:Nat) (h:I n s):codeAny (model prog w) A (.compLoop (.ListComp elt [⟨target,iter,ifs,0⟩] scope pos) 0 it acc env) R s:=by
 refine codeAny_loop rfl I (fun n s hI=>?_) n h;show wpAny _ A ((compTurn (.ListComp elt [⟨target,iter,ifs,0⟩] scope pos) 0 it acc env).onRaise (fun x=>do noteFrame x env;theTreesLotGoes x)) _ _ s;refine wpAny_noted ?_;rw[compTurn_list];refine wpAny_bind (wpAny_standAt (wpAny_bind (wpAny_mono (turn n s hI) (fun r s₁ h₁=>?_) fun _ _ h'=>h'.elim)));cases r with
 |none=>exact wpAny_pure h₁
 |some v =>
  refine wpAny_bind (wpAny_mono h₁ (fun _ s₀ h₀=>?_) fun _ _ h'=>h'.elim);refine wpAny_bind (wpAny_mono h₀ (fun _ s₂ h₂=>wpAny_bind (wpAny_mono h₂ (fun ok s₃ h₃=>?_) fun _ _ h'=>h'.elim)) fun _ _ h'=>h'.elim);cases ok with
  |false=>exact wpAny_pure ⟨rfl,h₃⟩
  |true =>
   exact wpAny_bind (wpAny_bind (wpAny_mono h₃ (fun x s₄ h₄=>wpAny_bind (wpAny_mono h₄ (fun _ s₅ h₅=>wpAny_pure (wpAny_pure ⟨rfl,h₅⟩)) fun _ _ h'=>h'.elim)) fun _ _ h'=>h'.elim))
end
def uH (pick:List (Option Nat))(wi:TI)(g:TG)(tt:TT)(te:TE):TE:=fun σ H Q=>wi σ H fun J H1=>∀ l,H1 l=none->∃ W:Nat->Nat->Hp->Prop,(∃ m,W 0 m (upd H1 l (.lst [])))/\∀ i m H,W i m H ->
 (J.stop i H/\Q (.ref l) H)\/(J.go i H/\∃ N:Hp->Prop,(∀ H',N H'->∃ m',m'<m/\W (i+1) m' H')/\∀ x H',J.yld i H x H'->g x (eI σ pick) H' fun σ2 H2 =>
  tt σ2 H2 fun b H3=>if b=true then te σ2 H3 fun y H4=>∃ xs,H4 l=some (.lst xs)/\xs.length<sizeLine/\N (upd H4 l (.lst (xs ++ [y]))) else N H3)
section
variable {X:Cx}{scope:Scope}{N':List Str}{pick:List (Option Nat)}{tg iter elt:Expr}{ifs:List Expr}{pos:Pos}{wi:TI}{g:TG}{tt:TT}{te:TE}
theorem kh (S:cZ X scope N' pick)(hc:X.calm=true)(hin:∀ C s0 H0 ex,PG (inner X scope N' C s0 H0 ex) tg g/\A5 (inner X scope N' C s0 H0 ex) ifs tt/\PE (inner X scope N' C s0 H0 ex) elt te)
  (gk:∀(v:V) (σ:L2.St) (H:Hp) (Q:L2.St->Hp->Prop),g v σ H Q->g v σ H fun σ' H'=>Q σ' H'/\σ'.length=σ.length/\∀(i:Nat) u,pick[i]?≠some none->σ[i]? = some u->σ'[i]? = some u)
  {pins:List (Addr×Obj)}{σ:L2.St}{H:Hp}{s:Shared}{it:Addr}{fp:List Addr}{tn:Nat->Heap->Prop}{J:It}{E:Value->Shared->Prop}{RR:Value->Addr->Result->Shared->Prop}(I:Inv X pins σ H s) (T:Turn X.prog X.w X.K tg J fp it tn) (st:tn 0 s.heap) (hf:∀ b∈fp,hJ X pins H b)
  (Q:VK) (h:∀ l,H l=none->∃ W:Nat->Nat->Hp->Prop,(∃ m,W 0 m (upd H l (.lst [])))/\∀ i m H,W i m H ->
   (J.stop i H/\Q (.ref l) H)\/(J.go i H/\∃ N:Hp->Prop,(∀ H',N H'->∃ m',m'<m/\W (i+1) m' H')/\∀ x H',J.yld i H x H'->g x (eI σ pick) H' fun σ2 H2 =>
    tt σ2 H2 fun b H3=>if b=true then te σ2 H3 fun y H4=>∃ xs,H4 l=some (.lst xs)/\xs.length<sizeLine/\N (upd H4 l (.lst (xs ++ [y]))) else N H3))
  (hR:∀(l C:Addr) (s':Shared) (H':Hp) (m:Str->Option Value),s'.heap.Ns C m->hJ X pins H' C->Q (.ref l) H'->Inv X pins σ H' s'->RR (.ref l) C (.ok .next) s') :
  wpAny (model X.prog X.w) X.A (newList []) (fun acc s₃=>wpAny (model X.prog X.w) X.A (newFunctionEnv scope X.env.globals (fB X.env.cells scope.names []) [] X.env.qual none .none (some X.env)) (fun cenv s₄ =>
   codeAny (model X.prog X.w) X.A (.compStart (.ListComp elt [⟨tg,iter,ifs,0⟩] scope pos) 0 (.ref it) acc { cenv with scope:=relabel scope X.env }) (RR acc cenv.locals) s₄) E s₃) E s:=by
 have hltI:∀ b∈fp,b<s.heap.objs.size:=fun b hb=>let ⟨o,e,_⟩:=T.obj 0 _ st b hb;Heap.lt_size e
 refine wpAny_newObj_type (nfe ?_);dsimp only;have I3:Inv X pins σ (upd H s.heap.objs.size (.lst [])) { s with heap:=s.heap.push { cls:=.type "list",data:=.seq ([]:List Value).toArray } }:=I.lnew (ys:=[]) (its:=[]) (t':=s.toks) .nil (cw _);obtain⟨W,⟨m0,w0⟩,turn⟩:=h s.heap.objs.size I.fresh;have hC:(s.heap.push { cls:=.type "list",dict:=none,data:=.seq ([]:List Value).toArray }).objs.size=s.heap.objs.size+1:=Heap.size_push ..;have hf3:∀ b∈fp,hJ X pins (upd H s.heap.objs.size (.lst [])) b:=fun b hb=>⟨by rw[aJ (cg (hltI b hb))];exact (hf b hb).1,(hf b hb).2⟩
 have keep3:∀ b o,(s.heap.push { cls:=.type "list",dict:=none,data:=.seq ([]:List Value).toArray }).get? b=some o->(pushCells ((s.heap.push { cls:=.type "list",dict:=none,data:=.seq ([]:List Value).toArray }).push { cls:=.type "dict",data:=.dict #[] }) scope.names).get? b=some o:=fun b o e=>pushCells_keeps _ _ b o (Heap.get?_push_of_some _ e)
 have I4:=mU (s:={ s with heap:=s.heap.push { cls:=.type "list",dict:=none,data:=.seq ([]:List Value).toArray } }) S I3 hf3 (fun b hb=>by show b<(s.heap.push _).objs.size;rw[hC];exact gn (hltI b hb));dsimp only at I4;generalize hh₁:pushCells ((s.heap.push { cls:=.type "list",dict:=none,data:=.seq ([]:List Value).toArray }).push { cls:=.type "dict",data:=.dict #[] }) scope.names=h₁ at *;have st4:tn 0 h₁:=T.keep 0 _ _ st fun b hb o e=>keep3 b o (Heap.get?_push_of_some _ e)
 generalize hY:inner X scope N' (s.heap.push { cls:=.type "list",dict:=none,data:=.seq ([]:List Value).toArray }).objs.size { s with heap:=s.heap.push { cls:=.type "list",dict:=none,data:=.seq ([]:List Value).toArray } } (upd H s.heap.objs.size (.lst [])) fp=Y at I4;have hYin:=hin (s.heap.push { cls:=.type "list",dict:=none,data:=.seq ([]:List Value).toArray }).objs.size { s with heap:=s.heap.push { cls:=.type "list",dict:=none,data:=.seq ([]:List Value).toArray } } (upd H s.heap.objs.size (.lst [])) fp;rw[hY] at hYin;obtain⟨yg,yt,ye⟩:=hYin;have yE:Y.env=compEnvC scope (cellsFrom ((s.heap.push { cls:=.type "list",dict:=none,data:=.seq ([]:List Value).toArray }).objs.size+1) scope.names (fB X.env.cells scope.names [])) (s.heap.push { cls:=.type "list",dict:=none,data:=.seq ([]:List Value).toArray }).objs.size X.env:=by rw[<-hY];rfl
 have hCL:(s.heap.push { cls:=.type "list",dict:=none,data:=.seq ([]:List Value).toArray }).objs.size≠X.env.locals:=by
  rw[hC];exact Nat.ne_of_gt (gn I.lt)
 have back:∀{H5:Hp}{s5:Shared},Inv Y [] (eI σ pick) H5 s5->Q (.ref s.heap.objs.size) H5->RR (.ref s.heap.objs.size) (s.heap.push { cls:=.type "list",dict:=none,data:=.seq ([]:List Value).toArray }).objs.size (.ok .next) s5:=fun {H5 s5} I5 q=>by
  subst hY;obtain⟨m,hn,_⟩:=I5.loc;have J5:Inv X pins σ H5 s5:=Inv.call' I3 I5.os I5.base I5.hok I5.bare fun b hb=>by
   obtain⟨f0,f1,f2,f3,f4,f5⟩:=hf b hb;exact⟨f3,f1,f4,f5⟩
  have lt3:∀{b:Addr}{o:Obj},s.heap.get? b=some o->b≠(s.heap.push { cls:=.type "list",dict:=none,data:=.seq ([]:List Value).toArray }).objs.size:=fun e=>by rw[hC];exact cg (gn (Heap.lt_size e))
  refine hR _ _ s5 H5 m hn ⟨I5.free,hCL,I.nofs (by rw[hC];exact Nat.le_succ _),.inr (by rw[hC];exact Nat.le_succ_of_le I.sz),fun x c e z=>?_,fun p hp z=>?_⟩ q J5
  ·obtain⟨v,o,ho,_⟩:=I.cell x c e;exact lt3 ho z
  ·exact lt3 (I.pin p hp).1 z
 have yP:Y.prog=X.prog:=by rw[<-hY];rfl
 have yw:Y.w=X.w:=by rw[<-hY];rfl
 have yK:Y.K=X.K:=by rw[<-hY];rfl
 have yA:Y.A=X.A:=by rw[<-hY];rfl
 have yc:Y.calm=true:=by rw[<-hY];exact hc
 have yx:Y.xe=fun _ _=>False:=by rw[<-hY];rfl
 have yp:Y.pn=[]:=by rw[<-hY];rfl
 have yex:Y.ex=fp:=by rw[<-hY];rfl
 have stat:∀{H':Hp},(∀ b∈fp,H' b=none)->∀ b∈fp,hJ Y [] H' b:=fun {H'} hn b hb=>by
  have hb':b∈Y.ex:=by rw[yex];exact hb
  obtain⟨x1,x2⟩:=I4.ok.exf b hb';exact⟨hn b hb,x1,I4.ok.exfs b hb',.inl hb',x2,fun p hp=>by rw[yp] at hp;cases hp⟩
 rw[<-yP,<-yw,<-yA];have loop:codeAny (model Y.prog Y.w) Y.A (.compLoop (.ListComp elt [⟨tg,iter,ifs,0⟩] scope pos) 0 (.ref it) (.ref s.heap.objs.size) Y.env) (RR (.ref s.heap.objs.size) (s.heap.push { cls:=.type "list",dict:=none,data:=.seq ([]:List Value).toArray }).objs.size) { s with heap:=h₁ }:=by
  refine mJ (fun n s5=>∃ i H5,Inv Y [] (eI σ pick) H5 s5/\tn i s5.heap/\(∀ b∈fp,H5 b=none)/\W i n H5) ?_ m0 ⟨0,_,I4,st4,fun b hb=>(hf3 b hb).1,w0⟩;rintro n s5 ⟨i,H5,I5,st5,fr5,w5⟩;rcases turn i n H5 w5 with ⟨stop,qn⟩ | ⟨go,N,hN,step⟩
  ·have d:=T.done Y yP yw yK yc i [] s5 (eI σ pick) H5 (fun _ _=>False) I5 (stat fr5) st5 stop;rw[<-yP,<-yw] at d;refine bV d fun r s6 ⟨hr,I6⟩=>?_
   subst hr;exact back I6 qn
  ·have d:=T.item Y yP yw yK yc i [] s5 (eI σ pick) H5 (fun _ _=>False) I5 (stat fr5) st5 go;rw[<-yP,<-yw] at d;refine bV d fun r s6 ⟨u,hr,h6⟩=>?_
   subst hr;refine bV h6 fun _ s7 ⟨x,H7,I7,r7,y7,st7,fr7⟩=>?_
   have I7':=I7.pinned (stat fr7) (T.obj _ _ st7);have yg':=yg _ s7 (eI σ pick) H7 x u _ I7' r7 (gk _ _ _ _ (step x H7 y7));rw[yx] at yg';refine bV yg' fun _ s8 ⟨σ8,H8,I8,q8,l8,k8⟩=>?_
   have yt':=yt _ s8 σ8 H8 _ I8 q8;rw[yx] at yt';refine bV yt' fun b s9 ⟨H9,I9,q9⟩=>?_
   have again:∀{σ':L2.St}{H':Hp}{s':Shared},Inv Y ([]++j6 fp s7.heap) σ' H' s'->σ'=σ8->N H'->∃ m,m<n/\∃ i H5,Inv Y [] (eI σ pick) H5 s'/\tn i s'.heap/\(∀ b∈fp,H5 b=none)/\W i m H5:=fun {σ' H' s'} J e nn=>by
    subst e;obtain⟨m',hm,w'⟩:=hN H' nn;refine⟨m',hm,i+1,H',(J.unpinned).weak (l8.symm) (fun j v e=>?_),T.keep _ _ _ st7 fun b hb o e=>(J.pin (b,o) (ai _ (ai _ (dW hb e)))).1,fun b hb=>?_,w'⟩
    ·refine k8 j _ (fun z=>?_) e;unfold eI at e;rw[List.getElem?_map,z] at e;simp at e
    ·obtain⟨o,e,_⟩:=T.obj _ _ st7 b hb;exact (J.pin (b,o) (ai _ (ai _ (dW hb e)))).2.1
   cases b with
   |false =>
    rw[if_neg ax];exact again I9 rfl q9
   |true =>
    rw[if_pos rfl];have q9:te σ8 H9 fun y H4=>∃ xs,H4 s.heap.objs.size=some (.lst xs)/\xs.length<sizeLine/\N (upd H4 s.heap.objs.size (.lst (xs ++ [y]))):=q9
    have ye':=ye _ s9 σ8 H9 _ I9 q9;rw[yx] at ye';refine bV ye' fun v s10 ⟨y,H10,I10,r10,xs,e10,z10,n10⟩=>?_
    have ap:=lp _ s10 σ8 H10 (.ref s.heap.objs.size) [y] (.ref s.heap.objs.size) [v] (fun _ H'=>N H') I10 rfl (.cons r10 .nil) ⟨s.heap.objs.size,xs,y,rfl,rfl,e10,z10,n10⟩;rw[yx] at ap;exact bV ap fun _ s11 ⟨_,H11,I11,_,n11⟩=>again I11 rfl n11
 show codeAny (model Y.prog Y.w) Y.A (.compStart (.ListComp elt [⟨tg,iter,ifs,0⟩] scope pos) 0 (.ref it) (.ref s.heap.objs.size) (compEnvC scope (cellsFrom ((s.heap.push { cls:=.type "list",dict:=none,data:=.seq ([]:List Value).toArray }).objs.size+1) scope.names (fB X.env.cells scope.names [])) (s.heap.push { cls:=.type "list",dict:=none,data:=.seq ([]:List Value).toArray }).objs.size X.env))
  (RR (.ref s.heap.objs.size) (s.heap.push { cls:=.type "list",dict:=none,data:=.seq ([]:List Value).toArray }).objs.size) { s with heap:=h₁ }
 rw[<-yE];refine codeAny_compStart_list loop ?_;have l2:=loop;rw[yP,yw] at l2 ⊢;exact T.self Y.A 0 _ _ _ st4 l2
theorem eF (S:cZ X scope N' pick)(hh:∀ x,(X.env.kindOf x=some .cell\/X.env.kindOf x=some .free)->∃ c,X.env.cells.lookup x=some c):closureFor scope X.env=pure (fB X.env.cells scope.names []) :=
 oH fun x hx=>hh x (S.outer x (S.free x hx))
theorem vC (S:cZ X scope N' pick)(hc:X.calm=true)(hi:PI X tg iter wi)(hin:∀ C s0 H0 ex,PG (inner X scope N' C s0 H0 ex) tg g/\A5 (inner X scope N' C s0 H0 ex) ifs tt/\PE (inner X scope N' C s0 H0 ex) elt te)
  (gk:∀(v:V) (σ:L2.St) (H:Hp) (Q:L2.St->Hp->Prop),g v σ H Q->g v σ H fun σ' H'=>Q σ' H'/\σ'.length=σ.length/\∀(i:Nat) u,pick[i]?≠some none->σ[i]? = some u->σ'[i]? = some u) (hs:∀ x,foldedSetIterable iter X.env x=pure x) :
  PE X (.ListComp elt [⟨tg,iter,ifs,0⟩] scope pos) (uH pick wi g tt te):=by
 intro pins s σ H Q I h;rw[eval_ListComp];refine wpAny_comprehension_free (use:=none) rfl hs (eF S I.ok.has) S.kind S.names (bV (hi pins s σ H _ I h) fun v s1 h1=>bV h1 fun itv s2 h2=>?_);obtain⟨it,fp,tn,J,H2,e,I2,T,st2,f2,q⟩:=h2;subst e;refine kh (RR:=fun acc C=>compPost (model X.prog X.w) X.A X.xe none (EP X pins σ Q) acc C) S hc hin gk I2 T st2 f2 Q q fun l C s' H' m hn fc hq J0=>?_
 obtain⟨f0,f1,f2,f3,f4,f5⟩:=fc;exact⟨m,hn,fun h' sb=>⟨.ref l,H',J0.turned (t':=s'.toks) (fun b o hb e=>sb.extBut b o hb e) f0 f1 f3 f4 f5,rfl,hq⟩⟩
theorem oB {i:Nat}{x:Str}{pos' spos:Pos}(S:cZ X scope N' pick)(hc:X.calm=true)(hi:PI X tg iter wi)(hin:∀ C s0 H0 ex,PG (inner X scope N' C s0 H0 ex) tg g/\A5 (inner X scope N' C s0 H0 ex) ifs tt/\PE (inner X scope N' C s0 H0 ex) elt te)
  (gk:∀(v:V) (σ:L2.St) (H:Hp) (Q:L2.St->Hp->Prop),g v σ H Q->g v σ H fun σ' H'=>Q σ' H'/\σ'.length=σ.length/\∀(i:Nat) u,pick[i]?≠some none->σ[i]? = some u->σ'[i]? = some u) (hs:∀ x,foldedSetIterable iter X.env x=pure x)
  (hN:X.N.Nodup) (hx:X.N[i]? = some x) (hl:Loc X.env.scope x) (hf:X.fn x=true\/X.env.scope.names.lookup x=some .local) (hsw:swapsWith (.ListComp elt [⟨tg,iter,ifs,0⟩] scope pos) (some (.Name x pos')) spos.line X.env=pure true) :
  PS X (.Assign [.Name x pos'] (.ListComp elt [⟨tg,iter,ifs,0⟩] scope pos) spos) (vI (uH pick wi g tt te) (kP i)):=by
 intro pins s σ H D I h;rw[exec_Assign_Name_used _ _ _ _ hsw];refine wpAny_bind (wpAny_standAt (wpAny_bind ?_));show wpAny _ X.A (do let _ <- comprehension (.ListComp elt [⟨tg,iter,ifs,0⟩] scope pos) scope X.env _ (newList []) false (eval iter X.env) (some (assign (.Name x pos') X.env))) _ _ s;refine wpAny_bind (wpAny_mono (wpAny_comprehension_free (use:=some (assign (.Name x pos') X.env)) (Q:=fun _ s'=>SP X pins D .next s') rfl hs (eF S I.ok.has) S.kind S.names
  (bV (hi pins s σ H _ I h) fun v s1 h1=>bV h1 fun itv s2 h2=>?_)) (fun _ s' hq=>wpAny_pure (wpAny_pure hq)) fun _ _ e=>e)
 obtain⟨it,fp,tn,J,H2,e,I2,T,st2,f2,q⟩:=h2;subst e;refine kh (RR:=fun acc C=>compPost (model X.prog X.w) X.A X.xe (some (assign (.Name x pos') X.env)) (fun _ s'=>SP X pins D .next s') acc C) S hc hin gk I2 T st2 f2 (fun x H1=>kP i x σ H1 D.nx) q fun l C s' H' m hn fc hq J0=>?_
 obtain⟨o,es,ep,ho,hd,hr⟩:=id hn;have J1:=J0.pinned (fp:=[C]) (fun b hb=>by rw[gh.mp hb];exact fc) fun b hb=>by rw[gh.mp hb];exact⟨o,ho,fun v z=>by rw[hd] at z;cases z⟩
 show wpAny (model X.prog X.w) X.A (assign (.Name x pos') X.env (.ref l)) _ _ s';refine wpAny_assign_Name (jU J1 hN hx hl (v:=.ref l) rfl (fun s2 I2=>?_) hf);have hC2:=(I2.pin (C,o) (List.mem_append_right _ (List.mem_append_right _ (dW (by simp) ho)))).1;obtain⟨f0,f1,f2,f3,f4,f5⟩:=fc;refine⟨m,⟨o,es,ep,hC2,hd,hr⟩,fun h' sb=>?_⟩;exact⟨_,H',I2.unpinned.turned (t':=s2.toks) (fun b o hb e=>sb.extBut b o hb e) f0 f1 f3 f4 f5,hq⟩
end
noncomputable def dA (own:Nat)(pick:List Nat):List (Option Nat):=List.replicate own none++pick.map some
theorem l9 (σ:L2.St)(pk:List (Option Nat)):(eI σ pk).length=pk.length:=by simp[eI]
theorem kD (env:En)(own:Nat)(pick:List Nat):(eO env own pick).length=own+pick.length:=by simp[eO]
noncomputable def kX (F:Nat->List Addr)(env:En)(own:Nat)(pick:List Nat):Nat->List Addr:=fun i=>match (eO env own pick)[i]? with
 | some (some _)=>match pick[i - own]? with
  |some j=>F j
  |none=>[]
 |_=>[]
theorem eC {env:En}{own:Nat}{pick:List Nat}{i:Nat}{d:D}{t:Tg}(h:(eO env own pick)[i]? = some (some (d,t))):t = .sh []/\own<=i/\∃ j t0,pick[i - own]? = some j/\env[j]? = some (some (d,t0)):=by
 unfold eO at h;by_cases hi:i<own
 ·rw[List.getElem?_append_left (by simpa using hi),List.getElem?_replicate] at h;split at h<;>cases h
 ·have hi:own<=i:=gr hi;rw[List.getElem?_append_right (by simpa using hi),List.length_replicate,List.getElem?_map] at h;cases hp:pick[i - own]? with
  |none=>rw[hp] at h;cases h
  |some j =>
   rw[hp] at h;simp only[Option.map_some,Option.some.injEq] at h;split at h
   ·rename_i d0 t0 q;cases h;exact⟨rfl,hi,j,t0,rfl,q⟩
   ·cases h
section
variable {K:Frag}{P:Addr->Prop}{env:En}{σ:L2.St}{H:Hp}{F:Nat->List Addr}
theorem RE.picked (re:RE K P env σ H F)(own:Nat)(pick:List Nat):RE K (fun _=>False) (eO env own pick) (eI σ (dA own pick)) H (kX F env own pick) where
 len:=by rw[kD,l9];simp[dA]
 val:=fun i d t h=>by
  obtain⟨rfl,hi,j,t0,hp,he⟩:=eC h;obtain⟨v,e,r⟩:=re.val j d t0 he;refine⟨v,?_,?_⟩
  ·unfold eI dA;rw[List.getElem?_map,List.getElem?_append_right (by simpa using hi),List.length_replicate,List.getElem?_map,hp];simp[e]
  ·unfold kX;rw[h,hp];exact r
 emp:=fun i h=>by
  unfold kX;split
  ·rename_i p q;exact absurd q (h p.1 p.2)
  ·rfl
 one:=fun i d t h o=>by
  obtain⟨rfl,_⟩:=eC h;cases o
 wr:=fun i d h=>by
  obtain⟨q,_⟩:=eC h;cases q
 pl:=fun _ h=>h.elim
theorem qz {own:Nat}{pick:List Nat}{i:Nat}{a:Addr}(re:RE K P env σ H F)(h:a∈kX F env own pick i):∃ j∈pick,∃ d t,a∈F j/\env[j]? = some (some (d,t)):=by
 unfold kX at h;split at h
 ·rename_i p q;obtain⟨_,hi,j,t0,hp,he⟩:=eC (d:=p.1) (t:=p.2) q;rw[hp] at h;exact⟨j,List.mem_of_getElem? hp,p.1,t0,h,he⟩
 ·cases h
end
noncomputable def zw (K:Frag)(T:Tb):kj->TT
 |.none=>fun _ H Q=>Q true H
 |.some c=>k6 K T c
section
variable {X:Cx}{T:Tb}{scope:Scope}{N':List Str}{own:Nat}{pick:List Nat}{t:kE}{it:rW}{c:kj}{e:Ex}
theorem yU {σ:L2.St}{H:Hp}{Q:Bool->Hp->Prop}{P:Addr->Prop}{env:En}{F:Nat->List Addr}{k:Bool}(re:RE X.K P env σ H F)(hk:A0 T c env = .ok k)(q:∀ H',aI H H'->Q k H'):zw X.K T c σ H Q:=by
 cases c with
 |none =>
  unfold A0 at hk;cases hk;exact q H (aI.refl _)
 |some c =>
  unfold A0 at hk;obtain⟨p,h1,h2⟩:=Rs.bind_ok hk;exact⟨P,env,F,re,p,k,h1,cB h2,q⟩
theorem kH {σ:L2.St}{H:Hp}{Q:VK}(h:tE X.K T (.comp own pick t it c e) σ H Q):uH (dA own pick) (tI X.K T it) (oS X.K t) (zw X.K T c) (tE X.K T e) σ H Q:=by
 obtain⟨P,env,F,re,p0,hev,k⟩:=h;unfold ev at hev;obtain⟨p,h1,hev⟩:=Rs.bind_ok hev;obtain⟨tot,h2,hev⟩:=Rs.bind_ok hev;have hlim:p.1.length<=lim:=Decidable.byContradiction fun hn=>by rw[if_neg hn] at hev;cases hev
 rw[if_pos hlim] at hev;cases hev;refine⟨P,env,F,re,p,h1,fun J H1 Gs s1 rt nn wk l hl=>?_⟩;have re1:=re.same s1;have wk:=wk (fun a=>a∈Gs) fun a ha=>ha
 let S0:Addr->Prop:=fun a=>a∈Gs\/∃ j∈pick,∃ d t,a∈F j/\env[j]? = some (some (d,t))
 have S0n:∀ a,S0 a->H1 a≠none:=fun a ha=>by
  rcases ha with ha | ⟨j,_,d,t,m,ej⟩
  ·exact nn a ha
  ·exact re1.nn ej m
 have lS:¬ S0 l:=fun z=>S0n l z hl
 refine⟨fun i m H2=>m=p.1.length - i/\i<=p.1.length/\∃(acc rest:List (D×Rt)) (vs:List V) (G:List Addr),iZ (fun d=>iU (cF [] t d (eO env own pick)) (A0 T c) (ev T e)) (p.1.drop i) = .ok rest/\tot=acc++rest/\acc.length<=i/\H2 l=some (.lst vs)/\aG X.K H2 (acc.map (·.1)) vs G/\aI H1 H2/\l∉G /\
  (∀ a∈G,H1 a=none\/S0 a)/\(acc.all (fun q=>q.1.flat || ir q.2)=true->G.Nodup/\∀ a∈G,H1 a=none/\∃ ws:ML,H2 a=some ws.o),?_,?_⟩
 ·refine⟨p.1.length,by simp,Nat.zero_le _,[],tot,[],[],by simpa using h2,rfl,Nat.le_refl _,aM,.nil,aI.new hl,by simp,fun _ h=>(nomatch h),fun _=>⟨List.nodup_nil,fun _ h=>(nomatch h)⟩⟩
 ·rintro i m H2 ⟨rfl,hi,acc,rest,vs,G,hgo,htot,hacc,hl2,rs,s2,hlG,hG,hfr⟩;obtain⟨w1,w2⟩:=wk H2 (iV.of_same (fun a ha=>nn a ha) s2);by_cases hlt:i<p.1.length
  ·right;have hd:p.1[i]? = some p.1[i]:=by simp[hlt]
   obtain⟨g1,g2⟩:=w1 i _ hd;refine⟨g1,fun H3=>i+1<=p.1.length/\∃(acc rest:List (D×Rt)) (vs:List V) (G:List Addr),iZ (fun d=>iU (cF [] t d (eO env own pick)) (A0 T c) (ev T e)) (p.1.drop (i+1)) = .ok rest/\tot=acc++rest/\acc.length<=i+1/\H3 l=some (.lst vs)/\aG X.K H3 (acc.map (·.1)) vs G/\aI H1 H3/\l∉G /\
    (∀ a∈G,H1 a=none\/S0 a)/\(acc.all (fun q=>q.1.flat || ir q.2)=true->G.Nodup/\∀ a∈G,H1 a=none/\∃ ws:ML,H3 a=some ws.o),fun H3 q=>⟨p.1.length - (i+1),by omega,rfl,q⟩,fun x H3 y=>?_⟩
   obtain⟨s3,G3,rp3,sub3⟩:=g2 x H3 y;rw[df hlt] at hgo;unfold iZ at hgo;obtain⟨o,hstep,hgo⟩:=Rs.bind_ok hgo;obtain⟨rest',hrest,hgo⟩:=Rs.bind_ok hgo;cases hb:cF [] t p.1[i] (eO env own pick) with
   |none=>rw[hb] at hstep;cases hstep
   |some env4 =>
    rw[hb] at hstep;unfold iU at hstep;obtain⟨kc,hkc,hstep⟩:=Rs.bind_ok hstep;have rep:=(re1.same (s2.trans s3)).picked own pick;let Z:Addr->Prop:=fun a=>S0 a
    have zF:∀ i,∀ a∈kX F env own pick i,Z a:=fun i a ha=>by
     obtain⟨j,hj,d,t,m,ej⟩:=qz (re1.same (s2.trans s3)) ha;exact .inr ⟨j,hj,d,t,m,ej⟩
    refine mL (Z:=Z) rep zF rp3 (fun a ha=>.inl (sub3 a ha)) (fun a ha j d' t' ej o m=>?_) hb fun σ4 F4 re4 z4 _=>?_
    ·obtain⟨rfl,_⟩:=eC ej;cases o
    ·refine yU re4 hkc fun H5 s5=>?_
     have base5:=s2.trans (s3.trans s5);have l5:H5 l=some (.lst vs):=s5 _ _ (s3 _ _ hl2);cases kc with
     |false =>
      show if false=true then _ else _
      rw[if_neg ax];simp only[Bool.false_eq_true,if_false] at hstep;cases hstep;cases hgo;refine⟨hlt,acc,rest',vs,G,hrest,htot,Nat.le_succ_of_le hacc,l5,rs.same (s3.trans s5),base5,hlG,hG,fun f=>?_⟩;obtain⟨n1,n2⟩:=hfr f;exact⟨n1,fun a ha=>⟨(n2 a ha).1,let ⟨ws,q⟩:=(n2 a ha).2;⟨ws,s5 _ _ (s3 _ _ q)⟩⟩⟩
     |true =>
      show if true=true then _ else _
      rw[if_pos rfl];simp only[if_true] at hstep;obtain⟨q,hq,hstep⟩:=Rs.bind_ok hstep;cases hstep;cases hgo;refine⟨_,env4,F4,re4.same s5,q,hq,fun yv H6 Gy s6 rpy rty=>?_⟩;have l6:H6 l=some (.lst vs):=s6 _ _ l5;have base6:=base5.trans s6;have old6:=s3.trans (s5.trans s6);have yS:∀ a∈Gy,H5 a=none\/S0 a:=fun a ha=>(rty.cont a ha).imp id fun ⟨i,d,t,m,_⟩=>z4 i a m
      have ly:l∉Gy:=fun z=>by
       rcases yS l z with q | q
       ·rw[l5] at q;cases q
       ·exact lS q
      have len6:vs.length=acc.length:=by have:=rs.len;rw[aj] at this;exact this.symm
      refine⟨vs,l6,Nat.lt_of_le_of_lt (Nat.le_trans (Nat.le_of_eq len6) (Nat.le_trans hacc (Nat.le_of_lt (Nat.lt_of_lt_of_le hlt hlim)))) (by decide),hlt,acc ++ [q],rest',vs ++ [yv],G++(Gy ++ []),hrest,by rw[htot];simp,by simp;exact hacc,aM,?_,?_,?_,?_,?_⟩
      ·rw[fi];exact (aG.append (rs.same old6) (.cons rpy .nil)).upd l6 (by simp;exact⟨hlG,ly⟩)
      ·intro b o e;rw[aJ (fun z=>by subst z;rw[hl] at e;cases e)];exact base6 _ _ e
      ·simp;exact⟨hlG,ly⟩
      ·intro a ha;rw[ba] at ha;rcases List.mem_append.mp ha with ha | ha
       ·exact hG a ha
       ·exact (yS a ha).imp (aI.no base5) id
      ·intro f;rw[List.all_append,ah] at f;obtain⟨n1,n2⟩:=hfr f.1;have fy:Gy.Nodup/\∀ a∈Gy,H5 a=none/\∃ ws:ML,H6 a=some ws.o:=by
        have f2:q.1.flat=true\/ir q.2=true:=by simpa using f.2
        rcases f2 with f2 | f2
        ·rw[rpy.flat f2];exact⟨cj,fun _ h=>(nomatch h)⟩
        ·have:q.2 = .mv []:=by
          cases hr:q.2 with
          |sh R=>rw[hr] at f2;cases f2
          |mv R=>cases R with
           |nil=>rfl
           |cons a b=>rw[hr] at f2;cases f2
         obtain⟨m1,m2,m3⟩:=rty.mv [] this;refine⟨m1,fun a ha=>⟨?_,m2 a ha⟩⟩;rcases m3 a ha with z | ⟨_,_,_,z,_⟩
         ·exact z
         ·cases z
       rw[ba];refine⟨dz.mpr ⟨n1,fy.1,fun a ha b hb z=>?_⟩,fun a ha=>?_⟩
       ·subst z;obtain⟨_,ws,w⟩:=n2 a ha;have:=s5 _ _ (s3 _ _ w);rw[(fy.2 a hb).1] at this;cases this
       ·have ne:a≠l:=fun z=>by
         subst z;rcases List.mem_append.mp ha with ha | ha
         ·exact hlG ha
         ·exact ly ha
        rcases List.mem_append.mp ha with ha | ha
        ·obtain⟨u1,ws,w⟩:=n2 a ha;exact⟨u1,ws,by rw[aJ ne];exact old6 _ _ w⟩
        ·obtain⟨u1,ws,w⟩:=fy.2 a ha;exact⟨aI.no base5 u1,ws,by rw[aJ ne];exact w⟩
  ·left;have ei:i=p.1.length:=by omega
   subst ei;refine⟨w2,?_⟩;rw[f7] at hgo;unfold iZ at hgo;cases hgo;rw[ba] at htot;subst htot;refine k _ H2 (l::G) (s1.trans s2) (.lst (.inl hl2) rs) ?_;have hl0:=aI.no s1 hl;cases hf:tot.all (fun q=>q.1.flat || ir q.2) with
   |true =>
    obtain⟨n1,n2⟩:=hfr hf;have new:∀ a∈l::G,H a=none:=fun a ha=>by
     rcases gp.mp ha with rfl | ha
     ·exact hl0
     ·exact aI.no s1 (n2 a ha).1
    refine⟨fun a ha=>.inl (new a ha),fun R e=>⟨List.nodup_cons.mpr ⟨hlG,n1⟩,fun a ha=>?_,fun a ha=>.inl (new a ha)⟩⟩;rcases gp.mp ha with rfl | ha
    ·exact⟨.l _,hl2⟩
    ·exact (n2 a ha).2
   |false =>
    refine⟨fun a ha=>?_,fun R e=>by cases e⟩;rcases gp.mp ha with rfl | ha
    ·exact .inl hl0
    ·rcases hG a ha with q | q | ⟨j,hj,d,t,m,ej⟩
     ·exact .inl (aI.no s1 q)
     ·exact (rt.cont a q).imp id fun ⟨i,d,t,x,y,z⟩=>⟨i,d,t,x,y,fun r hr=>ay _ (z r hr)⟩
     ·refine .inr ⟨j,d,t,m,ej,fun r hr=>ai _ ?_⟩;unfold lj;rw[List.mem_flatten];exact⟨aT j t,List.mem_map.mpr ⟨j,hj,by rw[ej]⟩,hr⟩
theorem kJ {K:Frag}{t:kE}{pk:List (Option Nat)}(ht:∀ i,(t = .nm i\/∃ is,t = .tp is/\i∈is)->pk[i]? = some none)(v:V)(σ:L2.St)(H:Hp)(Q:L2.St->Hp->Prop)(h:oS K t v σ H Q) :
  oS K t v σ H fun σ' H'=>Q σ' H'/\σ'.length=σ.length/\∀(i:Nat) u,pk[i]?≠some none->σ[i]? = some u->σ'[i]? = some u:=by
 cases t with
 |nm i=>exact⟨h,by simp,fun j u hj e=>by rw[List.getElem?_set_ne];exact e;rintro rfl;exact hj (ht i (.inl rfl))⟩
 |tp is =>
  obtain⟨a,xs,e1,e2,e3,h⟩:=h;refine⟨a,xs,e1,e2,e3,?_⟩;have gen:∀(is:List Nat) (xs:List V) (σ1:L2.St),(∀ i∈is,pk[i]? = some none)->σ1.length=σ.length->(∀(i:Nat) u,pk[i]?≠some none->σ[i]? = some u->σ1[i]? = some u)->fL is xs σ1 H Q->fL is xs σ1 H fun σ' H'=>Q σ' H'/\σ'.length=σ.length/\∀(i:Nat) u,pk[i]?≠some none->σ[i]? = some u->σ'[i]? = some u:=by
   intro is
   induction is with
   |nil=>intro xs σ1 _ hl hk h;exact⟨h.1,h.2,hl,hk⟩
   |cons j js ih =>
    intro xs σ1 hi hl hk h;obtain⟨v,r,e,h⟩:=h;refine⟨v,r,e,ih r (σ1.set j (some v)) (fun i hm=>hi i (List.mem_cons_of_mem _ hm)) (by simp[hl]) (fun i u hi' e'=>?_) h⟩;rw[List.getElem?_set_ne];exact hk i u hi' e';rintro rfl;exact hi' (hi j ao)
  exact gen is xs σ (fun i hm=>ht i (.inr ⟨is,rfl,hm⟩)) rfl (fun _ _ _ e=>e) h
end
def jT (K:Frag)(T:Tb)(x:Nat)(path:kj):TE:=fun σ H Q=>∃ P env F po v p,RE K P env σ H F/\jm T path env = .ok po/\σ[x]? = some (some v)/\PV K H v po p/\∀ H',aI H H'->Q (.ref p) H'
section
variable {X:Cx}{T:Tb}{pos:Pos}{i:Nat}{x:Str}
theorem zC (hN:X.N[i]? = some x)(hv:Av X.env.scope x)(hd:(x==("__debug__" : Str))=false) (hcd:(x==("__classdict__" : Str))=false):PE X (.Name x pos) (jT X.K T i .none):=by
 refine be (uY hN hv hd hcd) fun σ H Q ⟨P,env,F,po,v,p,re,hpo,hv,pv,k⟩=>?_
 unfold jm at hpo;cases hpo;cases pv;exact⟨_,hv,k H (aI.refl _)⟩
end
def qT (K:Frag)(m:mO):V->List V->Hp->VK->Prop:=fun x vs H Q=>∃ l ws xs ds Gx G ys,x = .ref l/\H l=some (.lst ws)/\aG K H xs ws Gx/\aG K H ds vs G/\qW m xs ds=some ys/\ys.length<=lim/\l∉Gx/\l∉G/\Gx.Nodup /\
 ∀ us Gy v,aG K (upd H l (.lst us)) ys us Gy->(∀ a∈Gy,a∈Gx\/(m.copies=false/\a∈G))->((∀ a∈Gx,a∉G)->G.Nodup\/m.copies=true->Gy.Nodup)->Q v (upd H l (.lst us))
section
variable {X:Cx}
def rY:V->List V->Hp->VK->Prop:=fun x vs H Q=>∃ l b xs zs,x = .ref l/\vs=[.ref b]/\H l=some (.lst xs)/\Rd H b (.lst zs)/\xs.length+zs.length<=sizeLine/\Q .non (upd H l (.lst (xs++zs)))
theorem nU:MtM X "list.extend" rY:=by
 intro pins s σ H x vs v us Q I rx rv h;obtain⟨l,b,xs,zs,rfl,rfl,hH,hB,hz,q⟩:=h;cases rx;obtain⟨u,rfl,ru⟩:=rv.one;cases ru;obtain⟨z,its,n,r,hl,e⟩:=I.lstM hH;obtain⟨z2,its2,n2,r2,hl2,e2⟩:=Inv.lstR I hB;have hsz:its.toArray.size+its2.toArray.size<=sizeLine:=by rw[ae,ae];omega
 have hlong:¬ (!its.toArray.isEmpty&&Builtin.List.listTooLong (its.toArray.size+its2.toArray.size))=true:=by
  rw[mW hsz,Bool.and_false];exact ax
 refine call_meets F.slot_list_extend ⟨_,e,rfl⟩ F.entry_list_extend (F.args_list_extend_2 _ _)
  (AutoSeq1.list_extend_list_list_0 l its.toArray n b its2.toArray n2 hlong (by rw[ae];omega) (by omega)) ⟨e,e2,?_⟩
 refine⟨.non,_,I.lset (its':=its++its2) hH e (by simp) (r.append r2) ?_,rfl,q⟩;rw[au];omega
theorem oJ:MtM X "list.append" (qT X.K .append):=by
 intro pins s σ H x vs v us Q I rx rv h;obtain⟨l,ws,xs,ds,Gx,G,ys,rfl,hl,r1,r2,hm,hlen,n1,n2,nd,k⟩:=h
 match ds,hm with
 |[d],hm =>
  cases hm;obtain⟨y,rfl,rp⟩:=r2.of1;refine lp pins s σ H _ _ v us Q I rx rv ⟨l,ws,y,rfl,rfl,hl,?_,k (ws ++ [y]) (Gx++(G ++ [])) _ ?_ (fun a ha=>?_) fun dj o=>?_⟩
  ·rw[<-r1.len];simp only[List.length_append,List.length_singleton] at hlen;exact az (az (Nat.lt_succ_self _) hlen) oI
  ·exact (r1.append (.cons rp .nil)).upd hl (by simp;exact⟨n1,n2⟩)
  ·simp at ha;exact ha.imp id fun z=>⟨rfl,z⟩
  ·rcases o with o | o
   ·rw[ba];exact dz.mpr ⟨nd,o,fun a ha b hb z=>by subst z;exact dj a ha hb⟩
   ·cases o
theorem nO:MtM X "list.extend" (qT X.K .extend):=by
 intro pins s σ H x vs v us Q I rx rv h;obtain⟨l,ws,xs,ds,Gx,G,ys,rfl,hl,r1,r2,hm,hlen,n1,n2,nd,k⟩:=h
 match ds,hm with
 |[.lst zs],hm =>
  simp only[qW] at hm;by_cases hf:D.flats zs=true
  ·rw[if_pos hf] at hm;cases hm;obtain⟨y,rfl,rp⟩:=r2.of1;obtain⟨b,wz,gz,rfl,rfl,a1,a2⟩:=rp.lst_inv;have eg:gz=[]:=a2.flat hf;subst eg;refine nU pins s σ H _ _ v us Q I rx rv ⟨l,b,ws,wz,rfl,rfl,hl,a1,?_,k (ws++wz) (Gx ++ []) _ ?_ (fun a ha=>?_) fun _ _=>?_⟩
   ·rw[<-r1.len,<-a2.len];simp only[List.length_append] at hlen;exact bj hlen oI
   ·exact (r1.append a2).upd hl (by simp;exact n1)
   ·simp at ha;exact .inl ha
   ·rw[ba];exact nd
  ·rw[if_neg hf] at hm;cases hm
theorem jV {T:Tb}{i:Nat}{path:kj}{m:mO}{cs:kB}{D:Ends}{σ:L2.St}{H:Hp}(h:tS X.K T (.mut i path m cs) D σ H):uJ (tBM X.K "list" (qT X.K m) (jT X.K T i path) (rJ X.K T cs)) D σ H:=by
 obtain⟨P,Z,env,F,re,hz,zp,h⟩:=h;unfold aY at h;cases hx:ownAt env i with
 |none=>rw[hx] at h;exact h.elim
 |some d =>
  rw[hx] at h;obtain⟨po,hpo,h⟩:=bJ h;cases hat:d.at1 po with
  |none=>rw[hat] at h;exact h.elim
  |some xs =>
   rw[hat] at h;obtain⟨l,hl,h⟩:=bJ h;cases hm:qW m xs (l.map (·.1)) with
   |none=>rw[hm] at h;exact h.elim
   |some ys =>
    rw[hm] at h;have hx':=dX hx;obtain⟨v,hv,_⟩:=re.val i d .own hx';obtain⟨p,pv,f⟩:=la re hx hv hat;refine⟨P,env,F,po,v,p,re,hpo,hv,pv,fun H1 s1=>?_⟩;obtain⟨ws1,g1,e1,_⟩:=f H1 s1;refine⟨.inl ⟨rfl,ws1,.inl (.inl e1)⟩,P,env,F,re.same s1,l,hl,fun vs H2 G ar=>?_⟩;have s2:=s1.trans ar.same;obtain⟨ws,Gx,a1,a2,a3,a4,a5,a6,fs⟩:=f H2 s2;by_cases hroot:(aP (l.map (·.2))).contains i=true
    ·simp only[hroot,if_true] at h;exact h.elim
    simp only[hroot,if_false] at h;have disj:∀ a∈F i,a∉G:=fun a ha hg=>by
     rcases ar.cont a hg with q | ⟨j,d2,t2,m2,e2,sr⟩
     ·exact (re.same s1).nn hx' ha q
     ·exact hroot (by simpa using sr i ((re.one i d .own hx' rfl).2.2 a ha j d2 t2 e2 m2))
    have nG:=disj p a3;refine⟨p,ws,xs,l.map (·.1),Gx,G,ys,rfl,a1,a2,ar.reps,hm,qH h,a6,nG,a5,fun us Gy w rs sub nd=>?_⟩;refine mR (N:=if m.copies then [] else G) re hz zp s2 hx hv a3 (fun R hR ndR=>?_) (fun hN hNd=>?_) h
    ·cases hc:m.copies with
     |true=>exact⟨cj,fun _ h=>(nomatch h),fun _ h=>(nomatch h)⟩
     |false =>
      rw[hc] at hR;obtain⟨n1,n2,n3⟩:=Args.mv (re.same s1) ar hR ndR;exact⟨n1,n2,fun a ha=>(n3 a ha).imp (aI.no s1) id⟩
    ·have ngy:Gy.Nodup:=nd (fun a ha=>disj a (a4 a ha)) (by
      cases hc:m.copies with
      |true=>exact .inr rfl
      |false=>rw[hc] at hNd;exact .inl hNd)
     obtain⟨G',b1,b2,b3⟩:=fs ys us Gy rs ngy (fun z=>(sub p z).elim a6 fun q=>nG q.2) fun a ha=>(sub a ha).imp id fun q z=>disj a z q.2
     refine⟨G',b1,b2,fun a ha=>?_⟩;rcases b3 a ha with q | q
     ·exact .inl q
     ·rcases sub a q with z | ⟨z1,z2⟩
      ·exact .inl (a4 a z)
      ·rw[z1];exact .inr z2
theorem qV {T:Tb}{i:Nat}{path:kj}{m:mO}{D:Ends}{σ:L2.St}{H:Hp}(h:tS X.K T (.mut i path m .nil) D σ H):uJ (Cu X.K "list" (qT X.K m) (jT X.K T i path)) D σ H:=by
 obtain⟨P,env,F,po,v,p,re,hpo,hv,pv,k⟩:=jV h;refine⟨P,env,F,po,v,p,re,hpo,hv,pv,fun H' s=>?_⟩;obtain⟨ty,P',env',F',re',l,hl,f⟩:=k H' s;unfold bE at hl;cases hl;exact⟨ty,f [] H' [] (.nil (aI.refl _))⟩
theorem tR {T:Tb}{i:Nat}{path:kj}{c e:Ex}{D:Ends}{σ:L2.St}{H:Hp}(h:tS X.K T (.setix i path c e) D σ H):vI (tE X.K T e) (BR (jT X.K T i path) (tE X.K T c) xM) D σ H:=by
 obtain⟨P,Z,env,F,re,hz,zp,h⟩:=h;unfold aY at h;cases hx:ownAt env i with
 |none=>rw[hx] at h;exact h.elim
 |some d =>
  rw[hx] at h;obtain⟨q,hq,h⟩:=bJ h;obtain⟨po,hpo,h⟩:=bJ h;cases hat:d.at1 po with
  |none=>rw[hat] at h;exact h.elim
  |some xs =>
   rw[hat] at h;obtain⟨qi,hqi,h⟩:=bJ h;cases hqq:qi.1 with
   |int n =>
    rw[hqq] at h;cases hj:hW xs.length n with
    |none=>simp only[hj] at h;exact h.elim
    |some j =>
     simp only[hj] at h;have hx':=dX hx;obtain⟨v,hv,_⟩:=re.val i d .own hx';refine⟨P,env,F,re,q,hq,fun w H1 G s1 rp rt=>?_⟩;have re1:=re.same s1;obtain⟨p,pv,f⟩:=la re1 hx hv hat;refine⟨P,env,F,po,v,p,re1,hpo,hv,pv,fun H2 s2=>⟨P,env,F,re1.same s2,qi,hqi,fun wi H3 Gi s3 rpi rti=>?_⟩⟩;rw[hqq] at rpi;obtain⟨rfl,_⟩:=rpi.int_inv;obtain⟨ws,Gx,a1,a2,a3,a4,a5,a6,fs⟩:=f H3 (s2.trans s3);have jl:=yW hj;refine⟨p,ws,n,j,rfl,rfl,a1,by rw[<-a2.len];exact hj,?_⟩;have hroots:∀ R,q.2 = .mv R->i∉R->∀ a∈F i,a∉G:=fun R hr hiR a ha hg=>by
      rcases rt.cont a hg with z | ⟨k,d2,t2,m2,e2,sr⟩
      ·exact re.nn hx' ha z
      ·have:=sr i ((re.one i d .own hx' rfl).2.2 a ha k d2 t2 e2 m2);rw[hr] at this;exact hiR this
     have s13:=s2.trans s3;refine mR (N:=G) re hz zp (s1.trans s13) hx hv a3 (fun R hR ndR=>?_) (fun hN hNd=>?_) h
     ·have hr:q.2 = .mv R:=by
       cases hr:q.2 with
       |sh Q=>rw[hr] at hR;cases hR
       |mv Q=>rw[hr] at hR;simp[cU] at hR;rw[hR]
      obtain⟨n1,n2,n3⟩:=rt.mv R hr;exact⟨n1,fun a ha=>let ⟨ws,z⟩:=n2 a ha;⟨ws,s13 _ _ z⟩,n3⟩
     ·obtain⟨u,A,B,C,e1,e2,r1,g⟩:=a2.split (i:=j) (d:=xs[j]) (List.getElem?_eq_getElem jl);subst e2;have hpG:p∉G:=fun z=>hN p z a3
      have pAC:∀ b∈A++C,b≠p:=fun b hb z=>by
       rw[z] at hb;refine a6 ?_;rcases List.mem_append.mp hb with hb | hb
       ·exact ay _ hb
       ·exact ai _ (ai _ hb)
      have rs:=g (upd H3 p (.lst (ws.set j w))) q.1 w G (fun _ _=>iJ a1) (ig (ws:=.l _) a1) (fun b hb _ h=>(aJ (pAC b hb)).trans h) ((rp.same s13).upd a1 hpG);have gsub:∀ a∈A++(G++C),a∈A++(B++C)\/a∈G:=fun a ha=>by
       simp only[List.mem_append] at ha ⊢;rcases ha with ha | ha | ha
       ·exact .inl (.inl ha)
       ·exact .inr ha
       ·exact .inl (.inr (.inr ha))
      have ng:(A++(G++C)).Nodup:=by
       rw[dz] at a5;obtain⟨nA,nB,nAB⟩:=a5;rw[dz] at nB;obtain⟨_,nC,_⟩:=nB;rw[dz];refine⟨nA,dz.mpr ⟨hNd,nC,fun a ha b hb z=>?_⟩,fun a ha b hb z=>?_⟩
       ·subst z;exact hN a ha (a4 a (by simp[hb]))
       ·subst z;rcases List.mem_append.mp hb with hb | hb
        ·exact hN a hb (a4 a (by simp[ha]))
        ·exact nAB a ha a (by simp[hb]) rfl
      obtain⟨G',b1,b2,b3⟩:=fs (xs.set j q.1) (ws.set j w) _ rs ng (fun z=>(gsub p z).elim a6 hpG) fun a ha=>(gsub a ha).imp id fun z y=>hN a z y
      refine⟨G',b1,b2,fun a ha=>?_⟩;rcases b3 a ha with z | z
      ·exact .inl z
      ·exact (gsub a z).imp (a4 a) id
   |_=>rw[hqq] at h;exact h.elim
end
section
variable {X:Cx}
noncomputable def gS:List String:=["int","bool","str","list","tuple"]
theorem ty_type {T:String}(h:T∈gS):typeOf (.type T)=pure (.type "type"):=by
 simp only[gS,List.mem_cons,List.not_mem_nil,or_false] at h;rcases h with rfl | rfl | rfl | rfl | rfl<;>kernel_rfl
def CW (K:Frag):List V->Hp->VK->Prop:=fun xs H Q=>∃ x T d G,xs=[x,.ty T]/\T∈gS/\((∀ kvs,d≠.dct kvs)/\(∀ ks,d≠.mpi ks)/\(∀ ks,d≠.mpt ks)/\∀ ks,d≠.mpz ks)/\Rep K H d x G/\Q (.bl (sY T d)) H
theorem qv:fT X (.builtin "isinstance") (CW X.K):=by
 intro pins s σ H xs us Q I r h;obtain⟨x,T,d,G,rfl,hT,hnd,rp,q⟩:=h;obtain⟨u,w,rfl,rx,rt⟩:=r.two;obtain rfl:w=Value.type T:=rt;have hty:=ty_type hT;have yes:∀{Tx:String},s.TypeIs u Tx->isSubtype (.type Tx) (.type T)=pure true->sY T d=true->wpAny (model X.prog X.w) X.A (call (.builtin "isinstance") [u,.type T]) (EP X pins σ Q) X.xe s:=fun h1 h2 h3 =>
  call_isinstance (isinstance_true hty h2) ⟨h1,⟨.bl true,H,I,rfl,by rw[h3] at q;exact q⟩⟩
 have no:sY T d=false->EP X pins σ Q (.bool false) { s with toks:=s.toks+1 }:=fun h=>⟨.bl false,H,I.tok _,rfl,by rw[h] at q;exact q⟩
 simp only[gS,List.mem_cons,List.not_mem_nil,or_false] at hT;cases d with
 |dct kvs=>exact absurd rfl (hnd.1 kvs)
 |mpi ks=>exact absurd rfl (hnd.2.1 ks)
 |mpt ks=>exact absurd rfl (hnd.2.2.1 ks)
 |mpz ks=>exact absurd rfl (hnd.2.2.2 ks)
 |non =>
  obtain⟨rfl,_⟩:=rp.non_inv;cases rx;rcases hT with rfl | rfl | rfl | rfl | rfl
  ·exact call_isinstance (isinstance_false_none (by decide) hty F.sub_NoneType_int) (no rfl)
  ·exact call_isinstance (isinstance_false_none (by decide) hty F.sub_NoneType_bool) (no rfl)
  ·exact call_isinstance (isinstance_false_none (by decide) hty F.sub_NoneType_str) (no rfl)
  ·exact call_isinstance (isinstance_false_none (by decide) hty F.sub_NoneType_list) (no rfl)
  ·exact call_isinstance (isinstance_false_none (by decide) hty F.sub_NoneType_tuple) (no rfl)
 |bl b =>
  obtain⟨rfl,_⟩:=rp.bl_inv;cases rx;rcases hT with rfl | rfl | rfl | rfl | rfl
  ·exact yes (PySem.typeIs_bool s b) F.sub_bool_int rfl
  ·exact yes (PySem.typeIs_bool s b) F.sub_bool_bool rfl
  ·exact call_isinstance (isinstance_false_bool (by decide) hty F.sub_bool_str) (no rfl)
  ·exact call_isinstance (isinstance_false_bool (by decide) hty F.sub_bool_list) (no rfl)
  ·exact call_isinstance (isinstance_false_bool (by decide) hty F.sub_bool_tuple) (no rfl)
 |int i =>
  obtain⟨rfl,_⟩:=rp.int_inv;obtain⟨t,rfl⟩:=rx;rcases hT with rfl | rfl | rfl | rfl | rfl
  ·exact yes (typeIs_int s i t) F.sub_int_int rfl
  ·exact call_isinstance (isinstance_false_int (by decide) hty F.sub_int_bool) (no rfl)
  ·exact call_isinstance (isinstance_false_int (by decide) hty F.sub_int_str) (no rfl)
  ·exact call_isinstance (isinstance_false_int (by decide) hty F.sub_int_list) (no rfl)
  ·exact call_isinstance (isinstance_false_int (by decide) hty F.sub_int_tuple) (no rfl)
 |str z =>
  obtain⟨rfl,_⟩:=rp.str_inv;obtain⟨t,rfl⟩:=rx;rcases hT with rfl | rfl | rfl | rfl | rfl
  ·exact call_isinstance (isinstance_false_str (by decide) hty F.sub_str_int) (no rfl)
  ·exact call_isinstance (isinstance_false_str (by decide) hty F.sub_str_bool) (no rfl)
  ·exact yes (typeIs_str s z t) F.sub_str_str rfl
  ·exact call_isinstance (isinstance_false_str (by decide) hty F.sub_str_list) (no rfl)
  ·exact call_isinstance (isinstance_false_str (by decide) hty F.sub_str_tuple) (no rfl)
 |lst ds =>
  obtain⟨p,vs,g,rfl,_,a1,_⟩:=rp.lst_inv;cases rx;obtain⟨its,_,pl,_⟩:=I.list (.inl a1);obtain⟨o,ho,hc,_⟩:=pl.isList;rcases hT with rfl | rfl | rfl | rfl | rfl
  ·exact call_isinstance (isinstance_false_list (by decide) hty F.sub_list_int) ⟨⟨o,ho,hc⟩,no rfl⟩
  ·exact call_isinstance (isinstance_false_list (by decide) hty F.sub_list_bool) ⟨⟨o,ho,hc⟩,no rfl⟩
  ·exact call_isinstance (isinstance_false_list (by decide) hty F.sub_list_str) ⟨⟨o,ho,hc⟩,no rfl⟩
  ·exact yes ⟨o,ho,hc⟩ F.sub_list_list rfl
  ·exact call_isinstance (isinstance_false_list (by decide) hty F.sub_list_tuple) ⟨⟨o,ho,hc⟩,no rfl⟩
 |tup ds =>
  obtain⟨p,vs,rfl,a1,_⟩:=rp.tup_inv;cases rx;obtain⟨its,_,pl,_⟩:=I.tuple a1;obtain⟨o,ho,hc,_⟩:=pl;rcases hT with rfl | rfl | rfl | rfl | rfl
  ·exact call_isinstance (isinstance_false_tuple (by decide) hty F.sub_tuple_int) ⟨⟨o,ho,hc⟩,no rfl⟩
  ·exact call_isinstance (isinstance_false_tuple (by decide) hty F.sub_tuple_bool) ⟨⟨o,ho,hc⟩,no rfl⟩
  ·exact call_isinstance (isinstance_false_tuple (by decide) hty F.sub_tuple_str) ⟨⟨o,ho,hc⟩,no rfl⟩
  ·exact call_isinstance (isinstance_false_tuple (by decide) hty F.sub_tuple_list) ⟨⟨o,ho,hc⟩,no rfl⟩
  ·exact yes ⟨o,ho,hc⟩ F.sub_tuple_tuple rfl
theorem tK {T:Tb}{b:String}{c:Ex}{σ:L2.St}{H:Hp}{Q:VK}(hb:b∈gS)(h:tE X.K T (.blt (.isi b) (.cons c .nil)) σ H Q):tCB (CW X.K) (sX (tE X.K T c) (sX (tC (.ty b)) zy)) σ H Q:=by
 obtain⟨P,env,F,re,p,hev,k⟩:=h;unfold ev bE bE at hev;obtain⟨l,h1,hev⟩:=Rs.bind_ok hev;obtain⟨q,h2,h1⟩:=Rs.bind_ok h1;cases h1;obtain⟨d',h3,hev⟩:=Rs.bind_ok hev;have h3:mN (.isi b) [q.1]=some d':=cB h3;have hnd:(∀ kvs,q.1≠.dct kvs)/\(∀ ks,q.1≠.mpi ks)/\(∀ ks,q.1≠.mpt ks)/\∀ ks,q.1≠.mpz ks:=⟨fun kvs e=>(by rw[e] at h3;cases h3),fun kvs e=>(by rw[e] at h3;cases h3),fun kvs e=>(by rw[e] at h3;cases h3),fun kvs e=>(by rw[e] at h3;cases h3)⟩;have hd:d' = .bl (sY b q.1):=by
  cases hq:q.1 with
  |dct kvs=>exact absurd hq (hnd.1 kvs)
  |mpi ks=>exact absurd hq (hnd.2.1 ks)
  |mpt ks=>exact absurd hq (hnd.2.2.1 ks)
  |mpz ks=>exact absurd hq (hnd.2.2.2 ks)
  |_=>rw[hq] at h3;cases h3;rfl
 subst hd;cases hev;exact⟨P,env,F,re,q,h2,fun v H1 G s rp rt=>⟨v,b,q.1,G,rfl,hb,hnd,rp,k _ H1 [] s (.bl _) bB.nil⟩⟩
end
section
variable {X:Cx}{T:Tb}
theorem gX.map {K:Frag}{H:Hp}(k:Int){m:MV}{v:V}(hm:nI K H m v):∀{q:List (Int×MV)}{x:List (Key×V)},gX K H q x->gX K H (q.map fun z=>if z.1=k then (z.1,m) else z) (x.map fun z=>if z.1=Sum.inl k then (z.1,v) else z)
 |[],[],_=>trivial
 | (j,n)::q,p::x,⟨a,b,c⟩=>by
  refine⟨?_,?_,c.map k hm⟩
  ·show (if p.1=Sum.inl k then (p.1,v) else p).1=Sum.inl (if j=k then (j,m) else (j,n)).1;rw[show (if p.1=Sum.inl k then (p.1,v) else p).1=p.1 by split<;>rfl,show (if j=k then (j,m) else (j,n)).1=j by split<;>rfl];exact a
  ·show nI K H (if j=k then (j,m) else (j,n)).2 (if p.1=Sum.inl k then (p.1,v) else p).2;by_cases e:j=k
   ·rw[if_pos e,if_pos (by rw[a,<-e])];exact hm
   ·rw[if_neg e,if_neg (by rw[a];exact fun z=>e (by injection z))];exact b
 |[],_::_,h=>h.elim
 |_::_,[],h=>h.elim
theorem gX.snoc {K:Frag}{H:Hp}(k:Int){m:MV}{v:V}(hm:nI K H m v):∀{q:List (Int×MV)}{x:List (Key×V)},gX K H q x->gX K H (q ++ [(k,m)]) (x ++ [(.inl k,v)])
 |[],[],_=>⟨rfl,hm,trivial⟩
 |_::_,_::_,⟨a,b,c⟩=>⟨a,b,c.snoc k hm⟩
 |[],_::_,h=>h.elim
 |_::_,[],h=>h.elim
theorem gX.put {K:Frag}{H:Hp}(k:Int){m:MV}{v:V}(hm:nI K H m v){q:List (Int×MV)}{x:List (Key×V)}(h:gX K H q x):gX K H (qG q k m) (putK x (.inl k) v):=by
 unfold qG putK;rw[h.any k];split
 ·exact h.map k hm
 ·exact h.snoc k hm
theorem lq {K:Frag}{H:Hp}:∀{xs:List D}{k:List Int}{vs:List V}{G:List Addr},fI xs=some k->aG K H xs vs G->vs=k.map V.int
 |[],k,vs,G,h,r=>by cases h;cases r;rfl
 | .int i::xs,k,vs,G,h,r=>by
  have h:(fI xs).map (i :: ·)=some k:=h;rw[aa] at h;obtain⟨k',h1,rfl⟩:=h;cases r with
  |cons r1 r2 =>
   obtain⟨rfl,_⟩:=r1.int_inv;rw[lq h1 r2];rfl
 |.non::_,_,_,_,h,_=>by cases h
 |.bl _::_,_,_,_,h,_=>by cases h
 |.str _::_,_,_,_,h,_=>by cases h
 |.lst _::_,_,_,_,h,_=>by cases h
 |.tup _::_,_,_,_,h,_=>by cases h
 |.dct _::_,_,_,_,h,_=>by cases h
 |.mpi _::_,_,_,_,h,_=>by cases h
 |.mpt _::_,_,_,_,h,_=>by cases h
 |.mpz _::_,_,_,_,h,_=>by cases h
theorem yI {K:Frag}{H:Hp}{d:D}{m:MV}{v:V}{G:List Addr}(h:yz d=some m)(r:Rep K H d v G):nI K H m v:=by
 cases d with
 |bl b =>
  cases b with
  |true=>cases h;cases r;rfl
  |false=>cases h
 |int i=>cases h;cases r;rfl
 |tup xs =>
  have h:(fI xs).map MV.tup=some m:=h;rw[aa] at h;obtain⟨k,h1,rfl⟩:=h;obtain⟨q,vs,rfl,a1,a2⟩:=r.tup_invT;rw[lq h1 a2] at a1;exact⟨q,rfl,a1⟩
 |_=>cases h
theorem vv {K:Frag}{H:Hp}{p:Addr}{o o':ML}(h:H p=some o.o)(b:Addr)(vs:List V)(t:iX K H b vs):iX K (upd H p o'.o) b vs:=by
 rcases t with t | t
 ·refine .inl ((aJ fun e=>?_).trans t);subst e;rw[h] at t;cases o<;>cases t
 ·exact .inr t
theorem wL (ks:List (List Int))(n:List Int):putK (lN ks) (n.map .inl) (.bl true)=lN (uE ks n):=by
 unfold putK uE;rw[lT];split
 ·unfold lN;rw[gd];refine dn fun k _=>?_
  show (if (k.map Sum.inl:List Key)=n.map Sum.inl then ((k.map Sum.inl:List Key),V.bl true) else (k.map Sum.inl,V.bl true))=_;split<;>rfl
 ·unfold lN;rw[fi];rfl
theorem oZ {K:Frag}{P:Addr->Prop}{env:En}{σ:L2.St}{H:Hp}{F:Nat->List Addr}(re:RE K P env σ H F){i:Nat}{ks:List (Int×MV)}(hx:env[i]? = some (some (.mpi ks,.own))):∃ p xs,σ[i]? = some (some (.ref p))/\F i=[p]/\H p=some (.dK xs)/\gX K H ks xs:=by
 obtain⟨v,hv,rp⟩:=re.val i _ _ hx;obtain⟨_,lv,_⟩:=re.one i _ _ hx rfl;generalize hF:F i=G at rp lv;cases rp with
 |@mpi p _ xs h kr=>exact⟨p,xs,hv,rfl,h,kr⟩
theorem wW {K:Frag}{P:Addr->Prop}{env:En}{σ:L2.St}{H:Hp}{F:Nat->List Addr}(re:RE K P env σ H F){i:Nat}{ks:List (List Int)}(hx:env[i]? = some (some (.mpt ks,.own))):∃ p,σ[i]? = some (some (.ref p))/\F i=[p]/\H p=some (.dT (lN ks)):=by
 obtain⟨v,hv,rp⟩:=re.val i _ _ hx;obtain⟨_,lv,_⟩:=re.one i _ _ hx rfl;generalize hF:F i=G at rp lv;cases rp with
 |@mpt p _ h =>
  refine⟨p,hv,rfl,?_⟩;obtain⟨vs,q⟩:=lv p (by simp);rcases h with h | ⟨o,h⟩
  ·exact h
  ·rw[q] at h;cases vs<;>cases h
theorem pC {K:Frag}{H:Hp}{q:Addr}{i j:Int}(h:iX K H q [.int i,.int j]):H q=some (.tup ([i,j].map (kV∘Sum.inl))):=by
 rcases h with h | ⟨h,_⟩
 ·exact h
 ·cases h
theorem uV {pins:List (Addr×Obj)}{σ:L2.St}{H:Hp}{s:Shared}{a:Addr}(I:Inv X pins σ H s)(e:H a=some (.dK [])):Inv X pins σ (upd H a (.dT [])) s:=by
 obtain⟨z,hd,vs,rel,o,es,ep,h1,h2,h3,h4,h5,h6⟩:=uC I.hok e;cases rel;have hes:es.toList=[]:=by
  cases q:es.toList with
  |nil=>rfl
  |cons x r=>rw[q] at h5;cases h5
 exact jt (t':=s.toks) I (by rw[e];exact True.intro) ⟨rfl,fun _ _=>rfl⟩ ⟨o,h1⟩ ⟨cw _,hd,[],.nil,o,es,ep,h1,h2,h3,hes,cj⟩
def xP (H:Hp)(a:Addr)(y v:V)(H':Hp):Prop:=kA H a y v H'\/∃ k b,H a=some (.dK [])/\y = .ref b/\H b=some (.tup (k.map kV))/\H'=upd H a (.dT (putK [] k v))
def ur (td ty tv:TE):TS:=fun D σ H=>tv σ H fun v H1=>td σ H1 fun x H2=>ty σ H2 fun y H3=>∃ a H4,x = .ref a/\xP H3 a y v H4/\D.nx σ H4
theorem vw (H:Hp)(a:Addr)(o o':HO):upd (upd H a o) a o'=upd H a o':=by
 funext b;by_cases h:b=a
 ·subst h;rw[aM,aM]
 ·rw[aJ h,aJ h,aJ h]
theorem uZ {o i value:Expr}{pos pos':Pos}{td ty tv:TE}(hu:X.A.units+1<cLine)(ho:PE X o td)(hi:PE X i ty)(hv:PE X value tv)(hs:swapsWith value (some (.Subscript o i pos')) pos.line X.env=pure false) :
  PS X (.Assign [.Subscript o i pos'] value pos) (ur td ty tv):=by
 intro pins s σ H D I h;refine wpAny_Assign_Subscript (bV (hv pins s σ H _ I h) fun r s1 ⟨v,H1,I1,rv,q1⟩=>bV (ho pins s1 σ H1 _ I1 q1) fun u s2 ⟨x,H2,I2,rx,q2⟩=>bV (hi pins s2 σ H2 _ I2 q2) fun iv s3 ⟨y,H3,I3,ry,a,H4,ex,g,q3⟩=>?_) hs;subst ex;obtain rfl:u=Value.ref a:=rx;rcases g with g | ⟨k,b,e1,e2,e3,e4⟩
 ·exact kQ hu I3 g ry rv fun s4 I4=>⟨σ,H4,I4,q3⟩
 ·subst e2 e4;have hb:b≠a:=fun z=>by subst z;rw[e1] at e3;cases e3
  refine kQ hu (uV I3 e1) (kA.t (kvs:=[]) aM (by rw[aJ hb];exact e3) (by decide)) ry rv fun s4 I4=>⟨σ,_,I4,?_⟩
  rw[vw];exact q3
theorem nz {d:D}(h:rf d=true):d = .bl true:=by
 unfold rf at h;split at h
 ·rfl
 ·cases h
theorem sH {K:Frag}{P:Addr->Prop}{env:En}{σ:L2.St}{H:Hp}{F:Nat->List Addr}(re:RE K P env σ H F){i:Nat}{d d' y u:D}(hx:env[i]? = some (some (d,.own)))(hp:vg d y u=some d') :
  ∃ p,∃ m:ML,σ[i]? = some (some (.ref p))/\F i=[p]/\H p=some m.o/\∀ H3 wi Gi wv Gv,aI H H3->Rep K H3 y wi Gi->Rep K H3 u wv Gv->∃ m':ML,xP H3 p wi wv (upd H3 p m'.o)/\Rep K (upd H3 p m'.o) d' (.ref p) [p]:=by
 unfold vg at hp;split at hp
 ·rename_i ks n;by_cases hl:ks.length<lim
  ·rw[if_pos hl,aa] at hp;obtain⟨mv,hmv,rfl⟩:=hp;obtain⟨p,xs,hv,hF,hH,kr⟩:=oZ re hx;refine⟨p,.k xs,hv,hF,hH,fun H3 wi Gi wv Gv sm rp ru=>?_⟩;have h3:H3 p=some (ML.k xs).o:=sm _ _ hH;have kr3:=kr.keep fun _ _=>aI.tqT sm
   have mr:=yI hmv ru;obtain⟨rfl,_⟩:=rp.int_inv;refine⟨.k (putK xs (.inl n) wv),.inl (kA.k (k:=.inl n) h3 ?_),.mpi aM ((kr3.put n mr).keep fun b vs=>vv (o':=.k _) h3 b vs)⟩;rw[kr.len,sizeLine_eq];unfold lim at hl;omega
  ·rw[if_neg hl] at hp;cases hp
 ·rename_i a b;by_cases ht:rf u=true
  ·rw[if_pos ht] at hp;cases hp;obtain rfl:=nz ht;obtain⟨p,xs,hv,hF,hH,kr⟩:=oZ re hx;cases xs with
   |cons _ _=>exact kr.elim
   |nil =>
    refine⟨p,.k [],hv,hF,hH,fun H3 wi Gi wv Gv sm rp ru=>⟨.t (lN [[a,b]]),.inr ?_,.mpt (.inl aM)⟩⟩;obtain⟨q,vs,rfl,a1,a2⟩:=rp.tup_invT;obtain⟨rfl,rfl⟩:=jv a2;cases ru;exact⟨[a,b].map Sum.inl,q,sm _ _ hH,rfl,pC a1,rfl⟩
  ·rw[if_neg ht] at hp;cases hp
 ·rename_i ks a b;by_cases ht:(rf u&&decide (ks.length<lim))=true
  ·rw[if_pos ht] at hp;cases hp;rw[ah] at ht;have hl:=of_decide_eq_true ht.2;obtain rfl:=nz ht.1;obtain⟨p,hv,hF,hH⟩:=wW re hx;refine⟨p,.t (lN ks),hv,hF,hH,fun H3 wi Gi wv Gv sm rp ru=>⟨.t (lN (uE ks [a,b])),.inl ?_,.mpt (.inl aM)⟩⟩;obtain⟨q,vs,rfl,a1,a2⟩:=rp.tup_invT;obtain⟨rfl,rfl⟩:=jv a2;cases ru;show kA H3 p _ _ (upd H3 p (.dT (lN (uE ks [a,b]))));rw[<-wL];refine kA.t (sm _ _ hH) (pC a1) ?_;unfold lN;rw[aj,sizeLine_eq];unfold lim at hl;omega
  ·rw[if_neg ht] at hp;cases hp
 ·cases hp
theorem qx {i:Nat}{c e:Ex}{D:Ends}{σ:L2.St}{H:Hp}(h:tS X.K T (.putd i c e) D σ H):ur (jT X.K T i .none) (tE X.K T c) (tE X.K T e) D σ H:=by
 obtain⟨P,Z,env,F,re,hz,zp,h⟩:=h;unfold aY at h;cases hx:ownAt env i with
 |none=>rw[hx] at h;exact h.elim
 |some d =>
  rw[hx] at h;obtain⟨u,hu,h⟩:=bJ h;obtain⟨q,hq,h⟩:=bJ h;cases hp:vg d q.1 u.1 with
  |none=>rw[hp] at h;exact h.elim
  |some d' =>
   rw[hp] at h;have hx':=dX hx;obtain⟨p,m,hv,hF,hH,inv⟩:=sH re hx' hp;refine⟨P,env,F,re,u,hu,fun wv H1 Gv s1 rpv rtv=>⟨P,env,F,none,.ref p,p,re.same s1,by unfold jm;rfl,hv,.top p,fun H2 s2=>⟨P,env,F,re.same (s1.trans s2),q,hq,fun wi H3 Gi s3 rpi rti=>?_⟩⟩⟩;have e:=(s1.trans s2).trans s3;have hp3:H3 p=some m.o:=e _ _ hH;obtain⟨m',i1,i2⟩:=inv H3 wi Gi wv Gv e rpi (rpv.same (s2.trans s3));refine⟨p,upd H3 p m'.o,rfl,i1,?_⟩;have hpx:p∈F i:=by rw[hF];simp
   have re1:=re.same e;have re2:=re1.mutateM (vs:=m') (R:=[]) (N:=[]) (G:=[p]) (d':=d') hx' hv hpx i2 (by simp) (fun a ha=>.inl (by rw[hF];exact ha)) (fun a ha=>nomatch ha);have nPp:¬ P p:=re.wr i _ hx' p hpx;refine h σ _ _ ⟨re2,fun j a ha=>?_,(iV.of_same re.pl e).trans ⟨fun a z=>aJ (fun q=>nPp (q ▸ z)),fun b xs r=>?_,ig hp3⟩,fun j dj ej=>?_⟩
   ·unfold kq at ha;split at ha
    ·exact hz i a (by rw[hF];exact ha)
    ·split at ha
     ·exact hz j a ha
     ·cases ha
   ·refine (aJ (fun q=>?_)).trans r;subst q;rw[hp3] at r;cases m<;>cases r
   ·by_cases hj:j=i
    ·subst hj;rw[List.getElem?_set_self (by rw[bX];exact (List.getElem?_eq_some_iff.mp hx').1)] at ej;cases ej
    ·rw[List.getElem?_set_ne (cz hj)] at ej;refine⟨(bO ej).1,?_⟩;unfold kq;rw[if_neg hj,ej]
theorem k7 {K:Frag}{H:Hp}:∀ ks:List (Int×MV),aG K H (ks.map fun q=>D.int q.1) (ks.map fun q=>V.int q.1) []
 |[]=>.nil
 |k::ks=>.cons (G:=[]) (G':=[]) (.int k.1) (k7 ks)
theorem lJ {P:Program}{w:World}{K:Frag}{H:Hp}:∀{ks:List (Int×MV)}{xs:List (Key×V)}{vs:List (Key×Value)}{us:List Value},gX K H ks xs->KV xs vs->us.length=vs.length->(∀(j:Nat) u,us[j]? = some u->∃ k x,vs[j]? = some (k,x)/\(aN P w).is k u=true)->aL (ks.map fun q=>V.int q.1) us
 | [],[],_,us,_,r,hl,_=>by
  cases r;rw[List.length_eq_zero_iff.mp hl];exact .nil
 |[],_::_,_,_,h,_,_,_=>h.elim
 |_::_,[],_,_,h,_,_,_=>h.elim
 | (k,m)::ks,x::xs,_,us,⟨hk0,_,kr⟩,r,hl,h=>by
  have r:Paired _ (x::xs) _:=r;cases r with
  |@cons _ q _ qs h1 t =>
   cases us with
   |nil=>cases hl
   |cons u us =>
    obtain⟨k',y,e,hk⟩:=h 0 u rfl;have e:some q=some (k',y):=e;cases e;have h1:x.1=k':=h1.1;rw[hk0] at h1;have h1:(Sum.inl k:Key)=k':=h1;subst h1;obtain⟨i,t',e1,e2⟩ | ⟨x',t',e1,_⟩:=aU (show jh (.inl k) u=true from hk)
    ·cases e1;exact .cons ⟨t',e2⟩ (lJ kr t (gv hl) fun j u hu=>h (j+1) u hu)
    ·cases e1
theorem n6 (hc:X.calm=true):fT X (.type "list") (qU X.K .list):=by
 intro pins s σ H xs us Q I r h;obtain⟨ds,d,G,rs,hd,k⟩:=h;by_cases hm:∃ ks,ds=[.mpi ks]
 ·obtain⟨ks,rfl⟩:=hm;simp only[mN,uT] at hd;by_cases hl:ks.length<=lim
  ·rw[if_pos hl] at hd;cases hd;obtain⟨x,rfl,rp⟩:=rs.of1;obtain⟨u,rfl,rx⟩:=r.one;cases rp with
   |@mpi p _ xs hr kr =>
    obtain rfl:u = .ref p:=rx;obtain⟨z,lo,vs,rel,dd⟩:=jg I.hok (.inl hr);obtain⟨ep,hat⟩:=dd.dictAt;have hlen:vs.length=ks.length:=by rw[<-rel.length,kr.len]
    refine PySem.W.kdl_call (PySem.W.kdl_dict (knd:=aN X.prog X.w) (kvs:=vs) (ep:=ep) lo) (I.ok.hd hc) hat (by rw[hlen,sizeLine_eq];unfold lim at hl;omega) fun h' tk acc c hk hD hacc=>?_
    have hv:aL (ks.map fun q=>V.int q.1) acc.toList:=lJ kr rel (by rw[cn];exact hacc.1) fun j u hu=>hacc.2 j u (by rw[<-Array.getElem?_toList];exact hu)
    refine⟨.ref s.heap.objs.size,upd H s.heap.objs.size (.lst (ks.map fun q=>V.int q.1)),I.laid hk (aq _) ⟨by rw[aj,sizeLine_eq];unfold lim at hl;omega,acc.toList,c,hv,by rw[hD,Array.toArray_toList]⟩,rfl,?_⟩;obtain⟨n1,n2⟩:=i6 (G0:=[p]) (k7 (K:=X.K) (H:=H) ks) (fun a ha=>nomatch ha) I.fresh;exact k _ _ _ n1 n2
  ·rw[if_neg hl] at hd;cases hd
 ·exact m5 I r rs hd k fun ks e=>hm ⟨ks,e⟩
end
section
variable {prog:Program}{w:World}{A:Around}
def TupI (h:Heap)(v:Value)(k:List Int):Prop:=∃ a o its n,v = .ref a/\h.get? a=some o/\o.cls = .type "tuple"/\o.data = .seq its n/\IntsAre its.toList k
end
theorem kU:∀ k:List Int,D.flats (k.map D.int)=true
 |[]=>rfl
 |_::k=>kU k
section
variable {X:Cx}{pins:List (Addr×Obj)}{σ:L2.St}{H:Hp}{s:Shared}
theorem kR (I:Inv X pins σ H s):∀{ys:List D}{ks:List (List Int)}{vs:List V}{G:List Addr}{us:List Value},ji ys=some ks->aG X.K H ys vs G->aL vs us->ks.length=us.length/\(∀ i k,ks[i]? = some k->TupI s.heap (us.getD i .none) k)/\(∀ k∈ks,k≠[])/\G=[]
 | [],ks,_,_,_,h,.nil,.nil=>by
  cases h;exact⟨rfl,fun i k h=>(by simp at h),fun k h=>(nomatch h),rfl⟩
 | .tup xs::r,ks,_,_,_,h,.cons r1 r2,.cons (b:=u) v1 v2=>by
  have h:((fI xs).bind fun k=>if k.isEmpty then none else (ji r).map (k :: ·))=some ks:=h;rw[ab] at h;obtain⟨k,h1,h2⟩:=h;by_cases he:k.isEmpty=true
  ·rw[if_pos he] at h2;cases h2
  ·rw[if_neg he,aa] at h2;obtain⟨ks',h3,rfl⟩:=h2;obtain⟨l,t,ne,g⟩:=kR I h3 r2 v2;have:=fC h1;subst this;have gf:=r1.flat (kU k);obtain⟨p,vs',rfl,a1,a2⟩:=r1.tup_inv;obtain rfl:u = .ref p:=v1;obtain⟨its,rv,⟨o,e1,e2,n,e3⟩,_⟩:=I.tuple a1;refine⟨by simp[l],fun i k' hk=>?_,fun k' hk=>?_,by rw[gf,g];rfl⟩
   ·cases i with
    |zero =>
     have hk:some k=some k':=hk;cases hk;exact⟨p,o,_,n,rfl,e1,e2,e3,iS a2 rv⟩
    |succ i=>exact t i k' hk
   ·rcases gp.mp hk with rfl | hk
    ·intro z;subst z;exact he rfl
    ·exact ne k' hk
end
section
variable {X:Cx}
end
section
variable {X:Cx}{T:Tb}
end
structure StrIt (ty:String):Prop where
 item:∀{prog:Program}{w:World}{A:Around}{E:Value->Shared->Prop}{s:Shared}{it:Addr}{x:Str}{t:Tok}{i c:Nat}{Q:Value->Shared->Prop},s.heap.IsStrIter it ty x t i->x.cps[i]? = some c ->
  (∀ h',h'.IsStrIter it ty x t (i+1)->Heap.SameBut it s.heap h'->Q (.str ⟨#[c]⟩ s.toks) { s with heap:=h',toks:=s.toks+1 })->wpAny (model prog w) A (Builtin.SmallTypes.nextOf (.ref it)) Q E s
 done:∀{prog:Program}{w:World}{A:Around}{E:Value->Shared->Prop}{s:Shared}{it:Addr}{x:Str}{t:Tok}{i:Nat}{Q:Value->Shared->Prop},A.handled=none->s.heap.IsStrIter it ty x t i->x.cps[i]? = none ->
  (∀ h' e,Heap.ExtBut it s.heap h'->(∃ o,h'.get? e=some o/\o.cls = .type "StopIteration")->E (.ref e) { s with heap:=h' })->wpAny (model prog w) A (Builtin.SmallTypes.nextOf (.ref it)) Q E s
 n1:ty≠"list"
section
variable {prog:Program}{w:World}{A:Around}{E:Value->Shared->Prop}{s:Shared}{z TI TO i1 i2 l1:Addr}{k1 k2:Nat}{xs:Array Value}{x a b:Value}{y:Str}{t:Tok}{c:Nat}{ty:String}
end
section
variable {prog:Program}{w:World}{A:Around}{E:Value->Shared->Prop}{s:Shared}
end
theorem qE {d:D}{l:List D}(h:qc d=some l):d = .lst l\/∃ y,d = .str y/\l=y.cps.toList.map fun c=>D.str ⟨#[c]⟩:=by
 cases d<;>simp[qc] at h
 ·exact .inr ⟨_,rfl,h.symm⟩
 ·rw[h];exact .inl rfl
section
variable {X:Cx}{T:Tb}
end
noncomputable def Bo (y:Str):It:=⟨fun i H=>∃ c,y.cps[i]? = some c,fun i H v H'=>∃ T c,v = .ref T/\H T=none/\y.cps[i]? = some c/\H'=upd H T (.tup [.int i,.str ⟨#[c]⟩]),fun i H=>i=y.cps.size⟩
def yn (ty:String)(y:Str)(t:Tok):Prop:=∀{prog:Program}{w:World}{A:Around},A.handled=none->∀(it:Addr),Draws prog w A it [it] y.cps.size (fun i v=>∃ c u,y.cps[i]? = some c/\v=Value.str { cps:=#[c] } u) fun i h=>h.IsStrIter it ty y t i
theorem nW {P:Program}{w:World}{K:Frag}{elts:List Expr}{x1:Nat}{pos:Pos}{ty:String}{y:Str}{t:Tok}(S:yn ty y t)(e it:Addr)(hne:e≠it):Turn P w K (.Tuple elts x1 pos) (Bo y) [e,it] e (fun i h=>(∃ old,IsEnum h e it (i:Nat) old)/\h.IsStrIter it ty y t i) where
 mem:=by simp
 obj:=fun i h st b hb=>by
  obtain⟨⟨old,he⟩,hit⟩:=st;have hb:b=e\/b=it:=by simpa using hb
  rcases hb with rfl | rfl
  ·exact⟨_,he,fun v z=>by cases z⟩
  ·obtain⟨o,e,c,d⟩:=hit;exact⟨o,e,fun v z=>by rw[d] at z;cases z⟩
 keep:=fun i h h' st k=>by
  obtain⟨⟨old,he⟩,⟨o,e1,r⟩⟩:=st;exact⟨⟨old,k e (by simp) _ he⟩,⟨o,k it (by simp) o e1,r⟩⟩
 item:=by
  intro X hP hw hK hc i pins s σ H E I hf st hg;subst hP hw hK;obtain⟨c,hc0⟩:=hg;obtain⟨⟨old,he⟩,hit⟩:=st;have lts:∀ b∈[e,it],b<s.heap.objs.size:=fun b hb=>by
   have hb:b=e\/b=it:=by simpa using hb
   rcases hb with rfl | rfl
   ·exact Heap.lt_size he
   ·obtain⟨o,e,_⟩:=hit;exact Heap.lt_size e
  have hi:i<y.cps.size:=(Array.getElem?_eq_some_iff.mp hc0).1;refine wpAny_pyNext_enum_itemD (S (A:=X.A.in1) (I.ok.hd hc) it) he hit hi hne (by simpa using hne) fun x h' tk hx ho hit' hT hsz hk=>?_
  obtain⟨c',u,hc',rfl⟩:=hx;rw[hc0] at hc';cases hc';have I2:Inv X pins σ (upd H s.heap.objs.size (.tup [.int i,.str ⟨#[c]⟩])) { s with heap:=h',toks:=tk+1 } :=
   paired (ch:=[e,it]) I ⟨tk,rfl⟩ ⟨u,rfl⟩ hT (fun b o hb q=>hk b o (fun z=>hb (by simp[z])) (fun z=>hb (by simp[z])) q) hf lts
  have f2:∀ b∈[e,it],hJ X pins (upd H s.heap.objs.size (.tup [.int i,.str ⟨#[c]⟩])) b:=fun b hb=>by
   obtain⟨f0,f⟩:=hf b hb;exact⟨by rw[aJ (cg (lts b hb))];exact f0,f⟩
  refine⟨_,rfl,wpAny_letOwnedTupleGo_enum (s:={ s with heap:=h',toks:=tk+1 }) ho fun h2 he2 hs2=>?_⟩;refine⟨.ref s.heap.objs.size,_,iI (ch:=[e]) I2 (fun b o hb q=>hs2.extBut b o (fun z=>hb (by simp[z])) q) (fun b hb=>f2 b (by simp at hb;simp[hb])),rfl,⟨_,c,rfl,I.fresh,hc0,rfl⟩,⟨⟨_,by simpa using he2⟩,hit'.extBut hs2.extBut (Ne.symm hne)⟩,fun b hb=>(f2 b hb).1⟩
 done:=by
  intro X hP hw hK hc i pins s σ H E I hf st hg;subst hP hw hK;obtain⟨⟨old,he⟩,hit⟩:=st;have hg:i=y.cps.size:=hg;subst hg;exact wpAny_pyNext_enum_endD (S (A:=X.A.in1) (I.ok.hd hc) it) he hit fun h' eb=>⟨rfl,iI (t':=s.toks) (ch:=[it]) I (fun b o hb q=>eb b o (fun z=>hb (by simp[z])) q) fun b hb=>hf b (by simp at hb;simp[hb])⟩
 self:=fun A i s Q E st h=>by
  obtain⟨⟨old,he⟩,_⟩:=st;exact wpAny_pyIter_enum he h
theorem oo {K:Frag}{P:Addr->Prop}{H0:Hp}{y:Str}:ik K P H0 (Bo y) ((y.cps.toList.map fun c=>D.str ⟨#[c]⟩).zipIdx.map fun q=>.tup [.int q.2,q.1]) []:=fun H e=>by
 refine⟨fun i d hd=>?_,show _=_ by rw[aj,List.length_zipIdx,aj,cn]⟩;obtain⟨c,hc,rfl⟩:∃ c,y.cps[i]? = some c/\d = .tup [.int i,.str ⟨#[c]⟩]:=by
  rw[List.getElem?_map,List.getElem?_zipIdx,List.getElem?_map,Array.getElem?_toList] at hd;cases q:y.cps[i]? with
  |none=>rw[q] at hd;cases hd
  |some c=>rw[q] at hd;simp at hd;exact⟨c,rfl,hd.symm⟩
 refine⟨⟨c,hc⟩,fun x H' ⟨T,c',e1,e2,e3,e4⟩=>?_⟩;subst e1 e4;rw[hc] at e3;cases e3;exact⟨aI.new e2,[]++([] ++ []),.tup (.inl aM) (.cons (.int _) (.cons (.str _) .nil)),fun z hz=>by simpa using hz⟩
section
variable {X:Cx}{T:Tb}
theorem wC {e:Expr}{c:Ex}{elts:List Expr}{x1:Nat}{p tp pos:Pos}(hg:Gl X "enumerate") (hm:X.mg "enumerate" = none) (ha:PA X [e] (rJ X.K T (.cons c .nil))) (hs:starEach [e] X.env=(false,eval e X.env)::starEach [] X.env):PI X (.Tuple elts x1 tp) (.Call (.Name "enumerate" p) [e] [] pos) (tI X.K T (.enum c)):=by
 intro pins s σ H R I hq;obtain⟨P,env,F,re,q,hev,k⟩:=hq;unfold gW at hev;obtain⟨r,h1,hev⟩:=Rs.bind_ok hev;obtain⟨l,h2,hev⟩:=Rs.bind_ok hev;cases hev;have hl:bE T (.cons c .nil) env = .ok [r]:=by unfold bE;rw[h1];unfold bE;rfl
 refine Call_ (j8 I hg hm boot_enumerate (gc (bV (ha pos pins s σ H (fun vs H'=>∃ G,Args X.K env F H H' [r] vs G) I ⟨P,env,F,re,[r],hl,fun vs H' G ar=>⟨G,ar⟩⟩) fun us s1 ⟨vs,H1,I1,r1,G,ar⟩=>?_) hs rfl));have rs:aG X.K H1 [r.1] vs G:=ar.reps;obtain⟨x,rfl,rp⟩:=rs.of1;obtain⟨u,rfl,ru⟩:=r1.one;have fp:∀ b∈[s1.heap.objs.size+1,s1.heap.objs.size],hJ X pins H1 b:=fun b hb=>by
  simp only[List.mem_cons,List.not_mem_nil,or_false] at hb;have hb:s1.heap.objs.size<=b:=yJ _ _ hb;exact I1.fpOk hb (I1.hok.fresh hb)
 rcases qE (cB h2) with e2 | ⟨y,e2,rfl⟩
 ·rw[e2] at rp;obtain⟨a,vs,g,rfl,rfl,a1,a2⟩:=rp.lst_inv;cases ru;obtain⟨its,rv,pl,hz⟩:=I1.list (.inl a1);exact call_enumerate_list pl.isList fun h' he hit hsz hk=>wpAny_pyIter_enum he ⟨_,[s1.heap.objs.size+1,s1.heap.objs.size],_,_,H1,rfl,I1.kept (t':=s1.toks) hk,rA a _ _ (Nat.succ_ne_self _),⟨⟨_,he⟩,hit⟩,fp,k _ H1 (a::g) ar.same (kL ar fun q hq=>by simpa[aP] using hq) (fun b hb=>rp.nn hb) fun P' hP=>qO a1 a2 hP⟩
 ·rw[e2] at rp;obtain⟨rfl,rfl⟩:=rp.str_inv;obtain⟨tk,rfl⟩:=ru;have dr:yn (strIterType y) y tk:=by
   intro prog w A hA it;unfold strIterType;split
   ·exact Draws.strAscii hA it y tk
   ·exact Draws.strWide hA it y tk
  exact call_enumerate_str fun h' he hit hsz hk=>wpAny_pyIter_enum he ⟨_,[s1.heap.objs.size+1,s1.heap.objs.size],_,_,H1,rfl,I1.kept (t':=s1.toks) hk,nW dr _ _ (Nat.succ_ne_self _),⟨⟨_,he⟩,hit⟩,fp,k _ H1 [] ar.same (kL ar fun q hq=>by simpa[aP] using hq) (fun b hb=>(nomatch hb)) fun P' hP=>oo⟩
end
section
variable {prog:Program}{w:World}{A:Around}{E:Value->Shared->Prop}{s:Shared}
end
section
variable {X:Cx}{T:Tb}
end
section
variable {X:Cx}{T:Tb}
end
section
variable {prog:Program}{w:World}{A:Around}{R:Result->Shared->Prop}{it:Addr}{fp wr:List Addr}{n:Nat}{P:Nat->Value->Prop}{Sta:Nat->Heap->Prop}{dv:Value}{bx:Addr}
end
section
variable {X:Cx}{T:Tb}
end
theorem qp:∀{vs:List Value}{ns:List Int},IntsAre vs ns->vs.length=ns.length/\∀(i:Nat) v,vs[i]? = some v->∃ n t,ns[i]? = some n/\v = .int n t
 |_,_,.nil=>⟨rfl,fun i v h=>by simp at h⟩
 | _,_,.cons n t r=>by
  obtain⟨l,g⟩:=qp r;refine⟨by simp[l],fun i v h=>?_⟩;cases i with
  |zero =>
   rw[List.getElem?_cons_zero] at h;cases h;exact⟨n,t,rfl,rfl⟩
  |succ i =>
   rw[List.getElem?_cons_succ] at h;obtain⟨m,u,h1,h2⟩:=g i v h;exact⟨m,u,by rw[List.getElem?_cons_succ];exact h1,h2⟩
theorem eX {lt:Nat->Nat->Bool}{n:Nat}:∀(k j m:Nat),j+k=n->m<n->bZ lt k j m<n
 |0,_,m,_,h=>h
 | k+1,j,m,e,h=>by
  unfold bZ;refine eX k (j+1) _ (by omega) ?_;split
  ·omega
  ·exact h
theorem pW:(toString "min" ++ toString ".loop" : String) = "min.loop":=by decide
section
variable {prog:Program}{w:World}{A:Around}{R:Result->Shared->Prop}{it:Addr}{fp wr:List Addr}{n:Nat}{P:Nat->Value->Prop}{Sta:Nat->Heap->Prop}{bx:Addr}{val:Nat->Value}{lt:Nat->Nat->Bool}{h0:Heap}
def Kp (wr:List Addr)(bx:Addr)(h0 h:Heap):Prop:=∀ b o,b∉wr->b≠bx->h0.get? b=some o->h.get? b=some o
theorem vz (W:Walks prog w A.in1 it fp wr n P Sta)(hval:∀ i v,P i v->v=val i)(hb:bx∉fp)
  (hcmp:∀(i j:Nat) (s':Shared) (Q E:Value->Shared->Prop),i<n->j<n->Kp wr bx h0 s'.heap->Q (.bool (lt i j)) s'->wpAny (model prog w) A.in1 (richCompare .Lt (val i) (val j)) Q E s') :
  ∀(k j:Nat) (s:Shared) (m:Nat) (c:Nat),n - j=k->j<=n->m<n->Sta j s.heap->Kp wr bx h0 s.heap->s.heap.get? bx=some { cls:=.type "list",dict:=none,data:=.seq #[val m,val m] c,slots:=#[] } ->
  (∀ hp tk,Kp wr bx h0 hp->R (.ok (.ret (val (bZ lt k j m)))) { s with heap:=hp,toks:=tk }) ->
  codeAny (model prog w) A (.builtin "min.loop" ⟨[.ref it,.none,.ref bx],[]⟩) R s:=by
 have hw:bx∉wr:=fun h=>hb (W.sub _ h)
 intro k
 induction k with
 |zero =>
  intro j s m c hk hj hm st kp hB q;have e:j=n:=by omega
  subst e;refine codeAny_builtin F.entry_min_loop (by
   rw[Around.under_plainId F.plain_min_loop _];show wpAny _ A.in1 (seqItems? (.ref bx) >>= _) _ _ s;refine wpAny_bind (wpAny_seqItems hB rfl (wpAny_bind (wpAny_tryCatch (W.done s _ _ st fun hp tk hk'=>?_))));have hB':=hk' bx _ hw hB;show wpAny _ A.in1 (updateSeq bx (fun _=>#[]) >>= _) _ _ _;exact wpAny_bind (wpAny_updateSeq hB' rfl (wpAny_bind (wpAny_letGo (wpAny_pure (q _ tk fun b o h1 h2 e=>(Heap.get?_update_other _ _ (cz h2)).trans (hk' b o h1 (kp b o h1 h2 e))))))))
 |succ k ih =>
  intro j s m c hk hj hm st kp hB q;have hlt:j<n:=by omega
  refine codeAny_builtin F.entry_min_loop (by
   rw[Around.under_plainId F.plain_min_loop _];show wpAny _ A.in1 (seqItems? (.ref bx) >>= _) _ _ s;refine wpAny_bind (wpAny_seqItems hB rfl (wpAny_bind (wpAny_tryCatch (W.item j s _ _ hlt st fun v hp tk hv st' hk'=>?_))));have hB':=hk' bx _ hw hB;have hve:=hval j v hv;subst hve;have kp':Kp wr bx h0 hp:=fun b o h1 h2 e=>hk' b o h1 (kp b o h1 h2 e)
   show wpAny _ A.in1 (tryCatch (holding [val j,val j] (richCompare .Lt (val j) (val m) >>= _)) _ >>= _) _ _ _;refine wpAny_bind (wpAny_tryCatch (wpAny_holding (wpAny_bind (hcmp j m _ _ _ hlt hm kp' (wpAny_bind (wpAny_holding (wpAny_truthy_bool (wpAny_bind (wpAny_letGo (wpAny_pure ?_))))))))));cases hg:lt j m with
   |true =>
    simp only[if_true];refine wpAny_bind (wpAny_updateSeq hB' rfl (wpAny_bind (wpAny_letGo ?_)));rw[pW];refine wpAny_pure ⟨plainId_quiet F.plain_min_loop _,ih (j+1) _ j _ (by omega) hlt hlt (W.frame _ _ _ st' fun b hbf o e=>(Heap.get?_update_other _ _ (fun h:bx=b=>hb (h ▸ hbf))).trans e) (fun b o h1 h2 e=>(Heap.get?_update_other _ _ (cz h2)).trans (kp' b o h1 h2 e)) (Heap.get?_update_self _ hB' rfl) fun hp2 tk2 hk2=>?_⟩;have:=q hp2 tk2 hk2;unfold bZ at this
    rwa [hg,if_pos rfl] at this
   |false =>
    simp only[Bool.false_eq_true,if_false];refine wpAny_bind (wpAny_letGo ?_);rw[pW];refine wpAny_pure ⟨plainId_quiet F.plain_min_loop _,ih (j+1) _ m c (by omega) hlt hm st' kp' hB' fun hp2 tk2 hk2=>?_⟩;have:=q hp2 tk2 hk2;unfold bZ at this
    rwa [hg,if_neg (by decide)] at this)
theorem uz (W:Walks prog w A.in1 it fp wr n P Sta)(hval:∀ i v,P i v->v=val i)(hb:bx∉fp)(hn:0<n)
  (hcmp:∀(i j:Nat) (s':Shared) (Q E:Value->Shared->Prop),i<n->j<n->Kp wr bx h0 s'.heap->Q (.bool (lt i j)) s'->wpAny (model prog w) A.in1 (richCompare .Lt (val i) (val j)) Q E s')
  {s:Shared}{c:Nat}(st:Sta 0 s.heap) (kp:Kp wr bx h0 s.heap) (hB:s.heap.get? bx=some { cls:=.type "list",dict:=none,data:=.seq #[] c,slots:=#[] })
  (q:∀ hp tk,Kp wr bx h0 hp->R (.ok (.ret (val (bZ lt (n - 1) 1 0)))) { s with heap:=hp,toks:=tk }) :
  codeAny (model prog w) A (.builtin "min.loop" ⟨[.ref it,.none,.ref bx],[]⟩) R s:=by
 have hw:bx∉wr:=fun h=>hb (W.sub _ h)
 refine codeAny_builtin F.entry_min_loop (by
  rw[Around.under_plainId F.plain_min_loop _];show wpAny _ A.in1 (seqItems? (.ref bx) >>= _) _ _ s;refine wpAny_bind (wpAny_seqItems hB rfl (wpAny_bind (wpAny_tryCatch (W.item 0 s _ _ hn st fun v hp tk hv st' hk'=>?_))));have hB':=hk' bx _ hw hB;have hve:=hval 0 v hv;subst hve;have kp':Kp wr bx h0 hp:=fun b o h1 h2 e=>hk' b o h1 (kp b o h1 h2 e)
  show wpAny _ A.in1 (updateSeq bx (fun _=>#[val 0,val 0]) >>= _) _ _ _;refine wpAny_bind (wpAny_updateSeq hB' rfl ?_);rw[pW];refine wpAny_pure ⟨plainId_quiet F.plain_min_loop _,vz W hval hb hcmp (n - 1) 1 _ 0 _ rfl hn hn (W.frame _ _ _ st' fun b hbf o e=>(Heap.get?_update_other _ _ (fun h:bx=b=>hb (h ▸ hbf))).trans e) (fun b o h1 h2 e=>(Heap.get?_update_other _ _ (cz h2)).trans (kp' b o h1 h2 e)) (Heap.get?_update_self _ hB' rfl) fun hp2 tk2 hk2=>?_⟩;exact q _ tk2 hk2)
end
theorem qD {prog:Program}{w:World}{A:Around}{E:Value->Shared->Prop}{s:Shared}{x:Value}{Q:Value->Shared->Prop}
  (h:wpAny (model prog w) A.in1 (pyIter x) (fun iv s₂=>∃ it fp wr n P Sta,∃(val:Nat->Value) (lt:Nat->Nat->Bool),iv = .ref it/\Walks prog w A.in1 it fp wr n P Sta/\Sta 0 s₂.heap/\(∀ b∈fp,b<s₂.heap.objs.size)/\0<n/\(∀ i v,P i v->v=val i) /\
   (∀(i j:Nat) (s':Shared) (Q E:Value->Shared->Prop),i<n->j<n->(∀ b o,b∉wr->s₂.heap.get? b=some o->s'.heap.get? b=some o)->Q (.bool (lt i j)) s'->wpAny (model prog w) A.in1 (richCompare .Lt (val i) (val j)) Q E s') /\
   ∀ hp tk,(∀ b o,b∉wr->s₂.heap.get? b=some o->hp.get? b=some o)->Q (val (bZ lt (n - 1) 1 0)) { s₂ with heap:=hp,toks:=tk }) E s) :
  wpAny (model prog w) A (call (.builtin "min") [x]) Q E s:=by
 refine wpAny_call (codeAny_call_builtin F.plain_min F.entry_min ?_);have hc:wpAny (model prog w) A.in1 (Builtin.«min» ⟨[x],[]⟩) (fun fin s'=>match fin with
   |.done f=>(match (Except.ok f:Result) with | .ok (.ret v)=>Q v s' | .ok _=>False | .error e=>E e s')
   |.again c=>c.quiet=true/\codeAny (model prog w) A c (fun r s2=>match r with | .ok (.ret v)=>Q v s2 | .ok _=>False | .error e=>E e s2) s') E s:=by
  show wpAny _ A.in1 (Builtin.Builtins.bindParams "min" ["key","default"] 0 ⟨[],[]⟩ >>= _) _ _ s;refine wpAny_bind (wpAny_of_eq (show Builtin.Builtins.bindParams "min" ["key","default"] 0 ⟨[],[]⟩=pure [none,none] from rfl) (wpAny_bind (wpAny_pure (wpAny_bind (wpAny_mono h (fun iv s₂ h₂=>?_) fun _ _ e=>e)))));obtain⟨it,fp,wr,n,P,Sta,val,lt,rfl,W,st,hfp,hn,hval,hcmp,q⟩:=h₂;refine wpAny_bind (wpAny_newObj_type ?_);rw[pW];have fresh:∀ b o,s₂.heap.get? b=some o->b≠s₂.heap.objs.size:=fun b o e=>cg (Heap.lt_size e)
  refine wpAny_pure ⟨plainId_quiet F.plain_min_loop _,uz (h0:=s₂.heap) (lt:=lt) W hval (fun hm=>da _ (hfp _ hm)) hn (fun i j s' Q E hi hj kp hQ=>hcmp i j s' Q E hi hj (fun b o hbw e=>kp b o hbw (fresh b o e) e) hQ) (W.frame _ _ _ st fun b _ o e=>Heap.get?_push_of_some _ e) (fun b o _ _ e=>Heap.get?_push_of_some _ e) (Heap.get?_push_size _ rfl) fun hp tk hk=>?_⟩;exact q hp tk fun b o hbw e=>hk b o hbw (fresh b o e) e
 have ha:=PySem.F.args_min1 x;simp only[checkBuiltinCall,F.kind_min];cases hsig:Manifest.signature? "min" with
 |none=>exact wpAny_pure hc
 |some sig =>
  simp only[argsOk,hsig] at ha;have h2:Bind.checkArgs "min" sig ⟨[x],[]⟩=pure ():=ha;show wpAny _ A.in1 (Bind.checkArgs "min" sig ⟨[x],[]⟩) _ _ s;rw[h2];exact wpAny_pure hc
section
variable {X:Cx}{pins:List (Addr×Obj)}{σ:L2.St}{H:Hp}{s:Shared}
theorem vk (hc:X.calm=true)(I:Inv X pins σ H s){p:Addr}{vs:List V}{its:List Value}{Q:VK}(rv:aL vs its)(pl:s.heap.IsList p its.toArray)(hn:0<its.length)(lt:Nat->Nat->Bool)
  (hcmp:∀(i j:Nat) (u v:Value),its[i]? = some u->its[j]? = some v->∀(s':Shared) (Q E:Value->Shared->Prop),(∀ b o,s.heap.get? b=some o->s'.heap.get? b=some o)->Q (.bool (lt i j)) s'->wpAny (model X.prog X.w) X.A.in1 (richCompare .Lt u v) Q E s')
  (k:∀ v,vs[bZ lt (its.length - 1) 1 0]? = some v->Q v H):wpAny (model X.prog X.w) X.A (call (.builtin "min") [.ref p]) (EP X pins σ Q) X.xe s:=by
 have hlt:p<s.heap.objs.size:=by
  obtain⟨o,ho,_⟩:=pl;exact Heap.lt_size ho
 have atN:∀ i,i<its.length->its[i]? = some (its.getD i .none):=fun i hi=>by
  simp[List.getD,List.getElem?_eq_getElem hi]
 refine qD (wpAny_pyIter_list pl ⟨s.heap.objs.size,[s.heap.objs.size,p],[s.heap.objs.size],its.toArray.size,_,_,fun i=>its.getD i .none,lt,rfl,Walks.list (A:=X.A.in1) (show X.A.in1.handled=none from I.ok.hd hc) s.heap.objs.size p (cg hlt) its.toArray,⟨⟨_,Heap.get?_push_size _ rfl,rfl,rfl⟩,pl.at fun o e=>Heap.get?_push_of_some _ e⟩,fun c hb=>?_,by rw[ae];exact hn,fun i v hP=>?_,fun i j s' Q' E' hi hj kp hQ=>?_,fun hp tk hk=>?_⟩)
 ·simp only[List.mem_cons,List.not_mem_nil,or_false] at hb;rw[Heap.size_push];rcases hb with rfl | rfl
  ·exact Nat.lt_succ_self _
  ·exact gn hlt
 ·have hP:its.toArray[i]? = some v:=hP;rw[List.getElem?_toArray] at hP;simp[List.getD,hP]
 ·rw[ae] at hi hj;exact hcmp i j _ _ (atN i hi) (atN j hj) s' Q' E' (fun b o e=>kp b o (by
   intro z;rw[gh] at z;subst z;exact da _ (Heap.lt_size e)) (Heap.get?_push_of_some _ e)) hQ
 ·have J1:Inv X pins σ H { s with heap:=s.heap.push { cls:=.type "list_iterator",data:=.fields #[.ref p,.int 0 0] } }:=I.kept (t':=s.toks) fun b o e=>Heap.get?_push_of_some _ e
  obtain⟨f0,f1,f2,f3,f4,f5⟩:=I.fpOk (b:=s.heap.objs.size) (aq _) (I.hok.fresh (aq _));have J2:=J1.turned (t':=tk) (fun b o hb e=>hk b o (by simpa using hb) e) f0 f1 f3 f4 f5;rw[ae];have hb:bZ lt (its.length - 1) 1 0<its.length:=eX _ _ _ (by omega) hn;have hvb:bZ lt (its.length - 1) 1 0<vs.length:=by rw[rv.length];exact hb
  obtain⟨u,e1,e2⟩:=rv.get (List.getElem?_eq_getElem hvb);have:its.getD (bZ lt (its.length - 1) 1 0) .none=u:=by
   have:=atN _ hb;rw[e1] at this;cases this;rfl
  show EP X pins σ Q (its.getD (bZ lt (its.length - 1) 1 0) .none) _;rw[this];exact⟨_,H,J2,e2,k _ (List.getElem?_eq_getElem hvb)⟩
theorem oK {its:List Value}{ns:List Int}(hi:IntsAre its ns)(i j:Nat)(u v:Value)(hu:its[i]? = some u)(hv:its[j]? = some v)(s':Shared)(Q E:Value->Shared->Prop)(h:Q (.bool (decide (ns.getD i 0<ns.getD j 0))) s'):wpAny (model X.prog X.w) X.A.in1 (richCompare .Lt u v) Q E s':=by
 obtain⟨_,hat⟩:=qp hi;obtain⟨a,t,h1,rfl⟩:=hat i u hu;obtain⟨b,t',h2,rfl⟩:=hat j v hv;have e1:ns.getD i 0=a:=by simp[List.getD,h1]
 have e2:ns.getD j 0=b:=by simp[List.getD,h2]
 rw[e1,e2] at h;exact HT.jS _ _ _ _ _ _ _ _ _ _ h
theorem ox (hu:X.A.units+1<cLine){a b:Addr}{xs ys:List Value}{ns ms:List Int}(h1:IsTup s.heap a xs.toArray)(h2:IsTup s.heap b ys.toArray)(i1:IntsAre xs ns)(i2:IntsAre ys ms)(s':Shared)(Q E:Value->Shared->Prop)(kp:∀ b o,s.heap.get? b=some o->s'.heap.get? b=some o)(h:Q (.bool (HT.lexLt ns ms)) s') :
  wpAny (model X.prog X.w) X.A.in1 (richCompare .Lt (.ref a) (.ref b)) Q E s':=by
 obtain⟨o,ho,r⟩:=h1;obtain⟨o',ho',r'⟩:=h2;exact (HT.nV (A:=X.A.in1) ⟨o,kp _ _ ho,r⟩ ⟨o',kp _ _ ho',r'⟩ (by simpa using i1) (by simpa using i2) hu h:wpAny (model X.prog X.w) X.A.in1 (compareOp .Lt (.ref a) (.ref b)) Q E s')
end
theorem qf:∀ a b:List Int,gZ a b=HT.lexLt a b
 |[],[]=>rfl
 |[],_::_=>rfl
 |_::_,[]=>rfl
 | x::a,y::b=>by
  show (if x==y then gZ a b else decide (x<y))=_;rw[HT.jE,qf a b];by_cases e:x=y
  ·rw[if_pos e,if_pos (by rw[e];exact dt y)]
  ·rw[if_neg e,if_neg (by rw[beq_iff_eq];exact e)]
section
variable {X:Cx}
theorem oz (hc:X.calm=true)(hu:X.A.units+40<cLine):fT X (.builtin "min") (qU X.K .min2):=by
 intro pins s σ H xs us Q I r h;obtain⟨ds,d,G,rs,hd,k⟩:=h
 match ds,hd with
 |[.int i,.int j],hd =>
  cases hd;obtain⟨x,y,G1,G2,rfl,rp,rp'⟩:=rs.of2;obtain⟨rfl,rfl⟩:=rp.int_inv;obtain⟨rfl,rfl⟩:=rp'.int_inv;exact qu hc pins s σ H _ us Q I r ⟨i,j,rfl,k _ H [] (.int _) fX.nil⟩
 |[.lst ys],hd =>
  have hd:minD ys=some d:=hd;obtain⟨x,rfl,rp⟩:=rs.of1;obtain⟨l,vs,g,rfl,rfl,a1,a2⟩:=rp.lst_inv;obtain⟨u,rfl,rx⟩:=r.one;obtain rfl:u = .ref l:=rx;obtain⟨its,rv,pl,_⟩:=I.list (.inl a1);have hlen:its.length=ys.length:=by rw[<-rv.length,<-a2.len]
  unfold minD at hd;by_cases he:ys.isEmpty=true
  ·rw[if_pos he] at hd;cases hd
  rw[if_neg he] at hd;have hn:0<its.length:=by
   rw[hlen];cases ys with
   |nil=>exact absurd rfl he
   |cons _ _=>exact Nat.succ_pos _
  have fin:∀ lt:Nat->Nat->Bool,ys[bZ lt (ys.length - 1) 1 0]? = some d->(d.flat=true\/g=[])->∀ v,vs[bZ lt (its.length - 1) 1 0]? = some v->Q v H:=fun lt hy hf v hv=>by
   rw[hlen] at hv;obtain⟨v',G',e1,e2,e3⟩:=a2.get hy;rw[hv] at e1;cases e1;have:G'=[]:=by
    rcases hf with hf | rfl
    ·exact e2.flat hf
    ·exact List.sublist_nil.mp e3
   subst this;exact k _ H [] e2 fX.nil
  cases hk:fI ys with
  |some ns =>
   rw[hk] at hd;have hy:=fC hk;have ia:IntsAre its ns:=by
    rw[hy] at a2;exact iS a2 rv
   refine vk hc I rv pl.isList hn _ (fun i j u v hi hj s' Q' E' _ h=>oK ia i j u v hi hj s' Q' E' h) (fin _ hd (.inl ?_));rw[hy] at hd;obtain⟨n,_,rfl⟩:=List.mem_map.mp (List.mem_of_getElem? hd);rfl
  |none =>
   rw[hk] at hd;dsimp only at hd;rw[ab] at hd;obtain⟨ks,hks,hd⟩:=hd;obtain⟨kl,kt,kn,kg⟩:=kR I hks a2 rv;refine vk hc I rv pl.isList hn _ (fun i j u v hi hj s' Q' E' kp h=>?_) (fin _ hd (.inr kg));have at1:∀(i:Nat) (u:Value),its[i]? = some u->∃ a xs,u = .ref a/\IsTup s.heap a xs.toArray/\IntsAre xs (ks.getD i []):=fun i u hi=>by
    have hlt:i<ks.length:=by rw[kl];exact (List.getElem?_eq_some_iff.mp hi).1
    obtain⟨a,o,xs,n,e1,e2,e3,e4,e5⟩:=kt i _ (List.getElem?_eq_getElem hlt);have hgu:its.getD i .none=u:=by rw[List.getD_eq_getElem?_getD,hi];rfl
    rw[hgu] at e1;refine⟨a,xs.toList,e1,⟨o,e2,e3,n,by rw[e4]⟩,?_⟩;rw[List.getD_eq_getElem?_getD,List.getElem?_eq_getElem hlt];exact e5
   obtain⟨a,xs,rfl,t1,i1⟩:=at1 i u hi;obtain⟨b,zs,rfl,t2,i2⟩:=at1 j v hj;rw[qf] at h;exact ox (by omega) t1 t2 i1 i2 s' Q' E' kp h
end
section
variable {X:Cx}
end
section
variable {X:Cx}
theorem kT:∀{xs:List D}{k:List Str},vf xs=some k->xs=k.map D.str
 |[],k,h=>by cases h;rfl
 | .str i::r,k,h=>by
  have h:(vf r).map (i :: ·)=some k:=h;rw[aa] at h;obtain⟨k',h1,rfl⟩:=h;rw[kT h1];rfl
theorem j5 {K:Frag}{H:Hp}:∀{ns:List Str}{vs:List V}{G:List Addr}{us:List Value},aG K H (ns.map D.str) vs G->aL vs us->StrsAre us ns
 |[],_,_,_,.nil,.nil=>.nil
 | n::ns,_,_,_,.cons h r,.cons x y=>by
  obtain⟨rfl,_⟩:=h.str_inv;obtain⟨t,rfl⟩:=x;exact .cons _ _ (j5 r y)
def rJoin (K:Frag):V->List V->Hp->VK->Prop:=fun x xs H Q=>∃(z:Str) (p:Addr) (ys:List Str) (G:List Addr),x = .str z/\xs=[.ref p]/\Rep K H (.lst (ys.map .str)) (.ref p) G/\(ys.map (·.length)).sum+ys.length*z.length<=lim/\Q (.str (Str.join z ys)) H
theorem xv:Ci X "str.join" (rJoin X.K):=by
 intro pins s σ H x xs v us Q I rx r h;obtain⟨z,p,ys,G,rfl,rfl,rp,hl,q⟩:=h;obtain⟨t,rfl⟩:=rx;obtain⟨u,rfl,ru⟩:=r.one;cases ru;obtain⟨p',vs,g,e,rfl,a1,a2⟩:=rp.lst_inv;cases e;obtain⟨its,rv,pl,_⟩:=I.list (.inl a1);refine join_list pl.isList (by simpa using j5 a2 rv) (Nat.le_trans hl (by decide)) fun t' k=>⟨.str _,H,I.kept (t':=k) fun b o e=>e,?_,q⟩
 show RelV (.str _) (.str (Builtin.Str.glued z ys) t');rw[StrLaws.glued_eq_join];exact⟨t',rfl⟩
theorem qI {T:Tb}{co ce:Ex}{σ:L2.St}{H:Hp}{Q:VK}(h:tE X.K T (.mth .sjoin co (.cons ce .nil)) σ H Q):tBM X.K "str" (rJoin X.K) (tE X.K T co) (rJ X.K T (.cons ce .nil)) σ H Q:=by
 obtain⟨P,env,F,re,p,hev,k⟩:=h;unfold ev at hev;obtain⟨q,h1,hev⟩:=Rs.bind_ok hev;obtain⟨l,h2,hev⟩:=Rs.bind_ok hev;obtain⟨d,h3,hev⟩:=Rs.bind_ok hev;have h3:=cB h3;cases hev;have inv:∃(z:Str) (ys:List Str),q.1 = .str z/\l.map (·.1)=[.lst (ys.map .str)]/\(ys.map (·.length)).sum+ys.length*z.length<=lim/\d = .str (Str.join z ys):=by
  generalize q.1=a at h3;generalize l.map (·.1)=bs at h3
  match a,bs,h3 with
  |.str z,[.lst xs],h3 =>
   have h3:((vf xs).bind fun ys=>if (ys.map (·.length)).sum+ys.length*z.length<=lim then some (D.str (Str.join z ys)) else none)=some d:=h3;rw[ab] at h3;obtain⟨ys,hy,h3⟩:=h3;by_cases hc:(ys.map (·.length)).sum+ys.length*z.length<=lim
   ·rw[if_pos hc] at h3;cases h3;exact⟨z,ys,rfl,by rw[kT hy],hc,rfl⟩
   ·rw[if_neg hc] at h3;cases h3
 obtain⟨z,ys,e1,e2,hc,rfl⟩:=inv;refine⟨P,env,F,re,q,h1,fun v H1 G s rp rt=>?_⟩;rw[e1] at rp;obtain⟨rfl,rfl⟩:=rp.str_inv;refine⟨rfl,P,env,F,re.same s,l,h2,fun ws H2 G' ar=>?_⟩;have rs:=ar.reps;rw[e2] at rs;obtain⟨x,rfl,rp2⟩:=rs.of1;obtain⟨p',vs,g,rfl,rfl,a1,a2⟩:=id rp2.lst_inv;exact⟨z,p',ys,_,rfl,rfl,rp2,hc,k _ H2 [] (s.trans ar.same) (.str _) bB.nil⟩
end
structure Sc where
 N:List Str
 sc:Scope
 fns:List Str
 pQ:List Str
 eY:List Str
noncomputable def idxOf:List Str->Str->Option Nat
 |[],_=>none
 |y::r,x=>if y=x then some 0 else (idxOf r x).map (· + 1)
theorem bL:∀{l:List Str}{x:Str}{i:Nat},idxOf l x=some i->l[i]? = some x
 | y::r,x,i,h=>by
  simp only[idxOf] at h;by_cases e:y=x
  ·rw[if_pos e] at h;cases h;rw[e];rfl
  ·rw[if_neg e,aa] at h;obtain⟨j,hj,rfl⟩:=h;simpa using bL hj
noncomputable def cL (sc:Scope)(x:Str):Option NameKind:=sc.names.lookup x
noncomputable def nj (sc:Scope)(x:Str):Bool:=match cL sc x with
 |some .local=>true
 |some .cell=>true
 |some .free=>true
 |_=>false
noncomputable def ja (sc:Scope)(x:Str):Bool:=match cL sc x with
 |some .local=>true
 |some .cell=>true
 |_=>false
noncomputable def nJ (sc:Scope)(x:Str):Bool:=match cL sc x with
 |some .globalImplicit=>true
 |_=>false
noncomputable def cJ (x:Str):Bool:=!(x==("__debug__" : Str)) && !(x==("__classdict__" : Str)) && !(x==("__name__" : Str))
noncomputable def notStar:Expr->Bool
 |.Starred _ _=>false
 |_=>true
noncomputable def fE:Expr->Bool
 |.Set _ _ _=>false
 |_=>true
noncomputable def gE:Expr->Bool
 |.Slice _ _ _ _=>false
 |_=>true
noncomputable def eN:Expr->Bool
 |.ListComp _ _ _ _=>true
 |.SetComp _ _ _ _=>true
 |.DictComp _ _ _ _ _=>true
 |_=>false
noncomputable def cP (f:Expr->Option Ex):List Expr->Option kB
 |[]=>some .nil
 |e::es=>if notStar e then (f e).bind fun c=>(cP f es).map fun cs=>.cons c cs else none
noncomputable def B4 (f:Expr->Option Ex)(op:BoolOp):List Expr->Option Ex
 |[]=>none
 |[a]=>f a
 |a::r=>(f a).bind fun c=>(B4 f op r).map fun d=>match op with
  |.And=>.and c d
  |.Or=>.or c d
noncomputable def jP (S:Sc):List Expr->Option (List Nat)
 |[]=>some []
 |.Name x _::r=>if ja S.sc x then (idxOf S.N x).bind fun i=>(jP S r).map fun is=>i::is else none
 |_::_=>none
noncomputable def qN (S:Sc):Expr->Option kE
 |.Name x _=>if ja S.sc x then (idxOf S.N x).map .nm else none
 |.Tuple es _ _=>(jP S es).map .tp
 |_=>none
noncomputable def tG (f:Expr->Option Ex):Option Expr->Option kj
 |none=>some .none
 |some e=>(f e).map .some
noncomputable def rl (S:Sc)(x:Str):Bool:=nJ S.sc x&&S.eY.contains x
noncomputable def isTup:Expr->Bool
 |.Tuple _ _ _=>true
 |_=>false
noncomputable def A4 (S:Sc)(f:Expr->Option Ex)(tp:Bool):Expr->Option rW
 | .Call (.Name x p) es [] pos=>if x = "range" then (if rl S "range" then (match cP f es with
   | some (.cons a .nil)=>some (.rng1 a)
   | some (.cons a (.cons b .nil))=>some (.rng2 a b)
   | some (.cons a (.cons b (.cons c .nil)))=>some (.rng3 a b c)
   |_=>none) else none) else if x = "enumerate" then (if rl S "enumerate" && tp then (match es with
   |[e]=>if notStar e then (f e).map .enum else none
   |_=>none) else none) else if x = "reversed" then none else if x = "zip" then none else (f (.Call (.Name x p) es [] pos)).map .seq
 |e=>if fE e then (f e).map .seq else none
noncomputable def aW (sc:Scope):List Str:=(sc.names.filter fun p=>(p.2 == .local || p.2 == .cell)&&p.1 != (".0" : Str)).map (·.1)
noncomputable def aX (sc:Scope):List Str:=(sc.names.filter fun p=>p.2 == .free).map (·.1)
noncomputable def iT:List (Option Nat)->Option (List Nat)
 |[]=>some []
 |some i::r=>(iT r).map (i :: ·)
 |none::_=>none
noncomputable def i8 (S:Sc)(sc:Scope):Bool :=
 sc.kind == .function&&sc.names.all (fun p=>p.2 != .cell || cL sc p.1==some .cell)&&sc.names.all (fun p=>p.2 != .local || cL sc p.1==some .local)&&sc.names.all (fun p=>p.2 != .free || (cL sc p.1==some .free&&(cL S.sc p.1==some .cell || cL S.sc p.1==some .free))) &&
 decide (aW sc++aX sc).Nodup
noncomputable def rB (own:Nat):kE->Bool
 |.nm i=>decide (i<own)
 |.tp is=>is.all fun i=>decide (i<own)
noncomputable def BE (x:Str):Option Ab:=if x = "len" then some .len else if x = "list" then some .list else if x = "min" then some .min2 else none
noncomputable def zj (t:Str):Option String:=if t = "int" then some "int" else if t = "bool" then some "bool" else if t = "str" then some "str" else if t = "list" then some "list" else if t = "tuple" then some "tuple" else none
noncomputable def BC (S:Sc)(f:Expr->Option Ex):List Expr->Option Ex
 |[a,.Name t _]=>if nJ S.sc t&&S.eY.contains t&&cJ t&&notStar a then (zj t).bind fun u=>(f a).map fun ca=>.blt (.isi u) (.cons ca .nil) else none
 |_=>none
noncomputable def lG:List Expr->Bool
 | [.Call (.Name r _) [_] [] _]=>r==("reversed" : Str)
 |_=>false
noncomputable def CL (S:Sc)(f:Expr->Option Ex):List Expr->Option Ex
 |_=>none
noncomputable def lF:List Expr->Bool
 | [.Call (.Name r _) _ [] _]=>r==("range" : Str)
 |_=>false
noncomputable def BP (S:Sc)(f:Expr->Option Ex):List Expr->Option Ex
 |_=>none
noncomputable def pH (S:Sc)(f:Expr->Option Ex)(x:Str)(es:List Expr):Option Ex :=
 if cJ x&&nJ S.sc x then (match idxOf S.fns x with
  |some i=>(cP f es).map fun cs=>.call i cs
  |none=>if S.eY.contains x then (if x = "isinstance" then BC S f es else if x = "list"/\lG es=true then CL S f es else if x = "list"/\lF es=true then BP S f es else match es with
    |[]=>none
    |e::r=>(BE x).bind fun b=>(cP f (e::r)).map fun cs=>.blt b cs) else none) else none
noncomputable def sd (S:Sc)(f:Expr->Option Ex)(x:Str)(a d:Expr)(k:Str):Option Ex :=
 none
noncomputable def rV:Expr->Bool
 |.Name _ _=>true
 |.Subscript _ _ _=>true
 |.Constant _ _ _=>true
 |_=>false
noncomputable def vx (f:Expr->Option Ex)(o:Expr)(name:Str)(es:List Expr)(apos cpos:Pos):Option Ex:=match es with
 |[e]=>if apos.endLine==cpos.line&&rV o then if name = "join" then (f o).bind fun co=>(cP f [e]).bind fun cs=>(match cs with
  |.cons ce .nil=>some (.mth .sjoin co (.cons ce .nil))
  |_=>none)
  else none
  else none
 |_=>none
noncomputable def Bh (f:Expr->Option Ex):List Expr->Option kj
 |[]=>some .none
 |[c]=>(f c).map .some
 |_=>none
noncomputable def mI (S:Sc)(f:Sc->Expr->Option Ex)(elt tg iter:Expr)(ifs:List Expr)(sc:Scope):Option Ex :=
 if i8 S sc&&fE iter then
  (A4 S (f S) (isTup tg) iter).bind fun it=>(iT ((aX sc).map (idxOf S.N))).bind fun pick =>
   (qN { S with N:=aW sc++aX sc,sc:=sc } tg).bind fun t=>if rB (aW sc).length t then
    (Bh (f { S with N:=aW sc++aX sc,sc:=sc }) ifs).bind fun c=>(f { S with N:=aW sc++aX sc,sc:=sc } elt).map fun ce=>.comp (aW sc).length pick t it c ce
   else none
 else none
noncomputable def ug (S:Sc)(x:Str):Option Ex:=if cJ x then (if nj S.sc x then (idxOf S.N x).map .var else if nJ S.sc x then (idxOf S.pQ x).map .glb else none) else none
noncomputable def BG:Const->Option Ex
 |.int i=>some (.cst (.int i))
 |.bool b=>some (.cst (.bl b))
 |.none=>some (.cst .non)
 |.str s=>some (.cst (.str s))
 |_=>none
noncomputable def cUn (op:UnaryOp)(o:Option Ex):Option Ex:=match op with
 |.USub=>o.map .neg
 |.Not=>o.map .not
 |_=>none
noncomputable def uh (f:Expr->Option Ex)(a:Expr)(op:CmpOp)(b:Expr):Option Ex:=if behindInMarks op b then none else (f a).bind fun ca=>(f b).map fun cb=>.cmp op ca cb
noncomputable def xX (f:Expr->Option Ex)(a:Expr)(op op':CmpOp)(b c:Expr):Option Ex:=none
noncomputable def CG (f:Expr->Option Ex)(a:Expr):List CmpOp->List Expr->Option Ex
 |[],_=>none
 |[op],bs=>(match bs with
  |[]=>none
  |[b]=>uh f a op b
  |_::_::_=>none)
 |op::op'::ops,bs=>(match ops with
  |[]=>(match bs with
   |[]=>none
   |[_]=>none
   |b::c::r=>(match r with
    |[]=>xX f a op op' b c
    |_::_=>none))
  |_::_=>none)
noncomputable def yd (f:Expr->Option Ex)(a b:Expr):Option Ex:=match b with
 |.Slice lo hi st _=>(match st with
  |none=>(f a).bind fun ca=>(tG f lo).bind fun l=>(tG f hi).map fun h=>.sl ca l h
  |some _=>none)
 |b=>if gE b then (f a).bind fun ca=>(f b).map fun cb=>.ix ca cb else none
noncomputable def tf (S:Sc)(f:Expr->Option Ex)(x:Str)(es:List Expr):List Keyword->Option Ex
 |[]=>pH S f x es
 |[⟨k,d,_⟩]=>(match k with
  |none=>none
  |some k=>(match es with
   |[]=>none
   |[a]=>sd S f x a d k
   |_::_::_=>none))
 |_::_::_=>none
noncomputable def tM (S:Sc)(f:Expr->Option Ex)(g:Expr)(es:List Expr)(ks:List Keyword)(cpos:Pos):Option Ex:=match g with
 |.Name x _=>tf S f x es ks
 |.Attribute o name apos=>(match ks with
  |[]=>vx f o name es apos cpos
  |_::_=>none)
 |_=>none
noncomputable def cLC (S:Sc)(f:Sc->Expr->Option Ex)(elt:Expr)(sc:Scope):List Comprehension->Option Ex
 |[]=>none
 |[⟨tg,iter,ifs,as⟩]=>if as=0 then mI S f elt tg iter ifs sc else none
 |_::_::_=>none
noncomputable def yB:Expr->Bool
 |.List [] _=>true
 |_=>false
noncomputable def oY:Expr->Option Expr
 |.List [e] _=>(match e with
  |.Tuple es k p=>if es.any yB then some (.Tuple es k p) else none
  |_=>none)
 |_=>none
noncomputable def isAdd:Operator->Bool
 |.Add=>true
 |_=>false
noncomputable def As (f:Expr->Option Ex)(a:Expr)(op:Operator)(b:Expr):Option Ex:=match oY b with
 |some e=>if isAdd op then (f a).bind fun ca=>(f e).map fun ce=>.snoc ca ce else none
 |none=>(f a).bind fun ca=>(f b).map fun cb=>.bin op ca cb
noncomputable def tT:Option Expr->Option Str
 | some (.Name x _)=>some x
 |_=>none
noncomputable def zU:Expr->Option Int
 | .Constant (.int v) _ _=>some v
 |_=>none
noncomputable def tY (S:Sc):List (Option Expr)->List Expr->Option (List (Nat×Int))
 |[],[]=>some []
 |k::ks,e::vs=>(tT k).bind fun x=>(zU e).bind fun v=>if cJ x&&nJ S.sc x then (idxOf S.pQ x).bind fun i=>(tY S ks vs).map fun l=>(i,v)::l else none
 |_,_=>none
noncomputable def yX (S:Sc):List (Option Expr)->List Expr->Option Ex
 |[],[]=>none
 |k::ks,vs=>if (k::ks).length<=15 then (tY S (k::ks) vs).map .ddsp else none
 |_,_=>none
noncomputable def cE:Nat->Sc->Expr->Option Ex
 |0,_,_=>none
 |n+1,S,e=>match e with
  |.Name x _=>ug S x
  |.Constant c _ _=>BG c
  |.BinOp a op b _=>As (cE n S) a op b
  |.UnaryOp op a _=>cUn op (cE n S a)
  |.BoolOp op es _=>B4 (cE n S) op es
  |.Compare a ops bs _=>CG (cE n S) a ops bs
  |.IfExp c a b _=>(cE n S c).bind fun cc=>(cE n S a).bind fun ca=>(cE n S b).map fun cb=>.ite cc ca cb
  |.List es _=>(cP (cE n S) es).map .lst
  |.Tuple es _ _=>(cP (cE n S) es).map .tup
  |.Subscript a b _=>yd (cE n S) a b
  |.Call g es ks pos=>tM S (cE n S) g es ks pos
  |.ListComp elt gens sc _=>cLC S (cE n) elt sc gens
  |.Dict ks vs _=>yX S ks vs
  |_=>none
structure Ctx (X:Cx)(S:Sc)(T:Tb):Prop where
 N:X.N=S.N
 nd:S.N.Nodup
 vis:∀ x,nj S.sc x=true->Av X.env.scope x
 loc:∀ x,ja S.sc x=true->Loc X.env.scope x/\(X.fn x=true\/X.env.scope.names.lookup x=some .local)
 gl:∀ x,nJ S.sc x=true->Gl X x
 cel:∀ x,(cL S.sc x=some .cell\/cL S.sc x=some .free)->(X.env.kindOf x=some .cell\/X.env.kindOf x=some .free)
 units:X.A.units+40<cLine/\vm X.w X.K
 calm:X.calm=true
 fns:∀ i x,idxOf S.fns x=some i->∃ f fd ps k,mo X.prog X.w X.K X.mg X.base Ar k f fd ps (yG X.K ps.length (T.cl i))/\fY k X.A/\X.mg x=some (.ref f)/\PySem.W.keepIn X.K (.ref f)=true/\Binds X.K fd ps []/\∀ ds r,T.cl i ds = .ok r->ds.length=ps.length
 pQ:∀ i x,idxOf S.pQ x=some i->∃ v u,X.mg x=some u/\RelV v u/\∀ H,Rep X.K H (T.gl i) v []
 eY:∀ x,S.eY.contains x=true->X.mg x=none
theorem bF {e:Expr}{es:List Expr}{env:Env}(h:notStar e=true):starEach (e::es) env=(false,eval e env)::starEach es env:=by
 cases e<;>first | rfl | (cases h)
theorem oE {e:Expr}{env:Env}(h:fE e=true)(x:Value):foldedSetIterable e env x=pure x:=by
 cases e<;>first | rfl | (cases h)
theorem t8 {e:Expr}(h:gE e=true):lW e:=by
 intro o i;cases e<;>first | rfl | (cases h)
theorem bG {f:Expr->Option Ex}{e:Expr}{es:List Expr}{cs:kB}(h:cP f (e::es)=some cs):notStar e=true/\∃ c d,f e=some c/\cP f es=some d/\cs = .cons c d:=by
 unfold cP at h;by_cases hs:notStar e=true
 ·rw[if_pos hs] at h;rw[ab] at h;obtain⟨c,h1,h2⟩:=h;rw[aa] at h2;obtain⟨d,h2,rfl⟩:=h2;exact⟨hs,c,d,h1,h2,rfl⟩
 ·rw[if_neg hs] at h;cases h
theorem cY {f:Expr->Option Ex}{env:Env}{pos:Pos}:∀{es:List Expr}{cs:kB},cP f es=some cs->(backTo pos (starEach es env)).any (·.1)=false
 |[],cs,_=>rfl
 | e::es,cs,h=>by
  obtain⟨hs,c,d,_,h2,_⟩:=bG h;rw[bF hs];show (false || (backTo pos (starEach es env)).any (·.1))=false;rw[cY h2];rfl
theorem cI {x:Str}(h:cJ x=true):(x==("__debug__" : Str))=false/\(x==("__classdict__" : Str))=false/\x≠"__name__":=by
 unfold cJ at h;rw[ah,ah] at h;obtain⟨⟨h1,h2⟩,h3⟩:=h;refine⟨by simpa using h1,by simpa using h2,fun e=>?_⟩;subst e;simp at h3
theorem zm {X:Cx}{T:Tb}{c a b:Expr}{cc ca cb:Ex}{pos:Pos}(hc:PT X c (k6 X.K T cc))(ha:PT X a (k6 X.K T ca))(hb:PT X b (k6 X.K T cb)):PT X (.IfExp c a b pos) (k6 X.K T (.ite cc ca cb)):=by
 intro pins s σ H Q I h;obtain⟨P,env,F,re,p,bb,hev,ht,k⟩:=h;unfold ev at hev;obtain⟨q,h1,hev⟩:=Rs.bind_ok hev;obtain⟨kb,h2,hev⟩:=Rs.bind_ok hev;refine isTrue_IfExp (bV (hc pins s σ H (fun d H'=>d=kb/\aI H H') I ⟨P,env,F,re,q,kb,h1,cB h2,fun H' s=>⟨rfl,s⟩⟩) fun d s1 ⟨H1,I1,e,s⟩=>?_);subst e;cases d with
 |true=>exact ha pins s1 σ H1 Q I1 ⟨P,env,F,re.same s,p,bb,hev,ht,fun H' s'=>k H' (s.trans s')⟩
 |false=>exact hb pins s1 σ H1 Q I1 ⟨P,env,F,re.same s,p,bb,hev,ht,fun H' s'=>k H' (s.trans s')⟩
theorem tU {T:Tb}{a:Ex}{env:En}{p}(hev:gW T (.rng1 a) env = .ok p):p.2=[]/\∃ l,bE T (.cons a .nil) env = .ok l/\((∃ j,l.map (·.1)=[.int j]/\eT j=true/\p.1=aS 0 1 j.toNat)\/(∃ i j,l.map (·.1)=[.int i,.int j]/\eT i=true/\eT j=true/\p.1=aS i 1 (j - i).toNat) \/
   ∃ i j k,l.map (·.1)=[.int i,.int j,.int k]/\eT i=true/\eT j=true/\k≠0/\k.natAbs<1073741824/\p.1=aS i k (Builtin.Range.rangeSize i j k).toNat):=by
 unfold gW at hev;obtain⟨q,h1,hev⟩:=Rs.bind_ok hev;split at hev
 ·rename_i j hj;split at hev
  ·rename_i ho;cases hev;exact⟨rfl,[q],by unfold bE;rw[h1];unfold bE;rfl,.inl ⟨j,by simp[hj],ho,rfl⟩⟩
  ·cases hev
 ·cases hev
theorem ub {T:Tb}{a b:Ex}{env:En}{p}(hev:gW T (.rng2 a b) env = .ok p):p.2=[]/\∃ l,bE T (.cons a (.cons b .nil)) env = .ok l/\((∃ j,l.map (·.1)=[.int j]/\eT j=true/\p.1=aS 0 1 j.toNat)\/(∃ i j,l.map (·.1)=[.int i,.int j]/\eT i=true/\eT j=true/\p.1=aS i 1 (j - i).toNat) \/
   ∃ i j k,l.map (·.1)=[.int i,.int j,.int k]/\eT i=true/\eT j=true/\k≠0/\k.natAbs<1073741824/\p.1=aS i k (Builtin.Range.rangeSize i j k).toNat):=by
 unfold gW at hev;obtain⟨q,h1,hev⟩:=Rs.bind_ok hev;obtain⟨r,h2,hev⟩:=Rs.bind_ok hev;split at hev
 ·rename_i i j hi hj;split at hev
  ·rename_i ho;cases hev;rw[ah] at ho;exact⟨rfl,[q,r],by unfold bE;rw[h1];unfold bE;rw[h2];unfold bE;rfl,.inr (.inl ⟨i,j,by simp[hi,hj],ho.1,ho.2,rfl⟩)⟩
  ·cases hev
 ·cases hev
theorem sy {T:Tb}{a b c:Ex}{env:En}{p}(hev:gW T (.rng3 a b c) env = .ok p):p.2=[]/\∃ l,bE T (.cons a (.cons b (.cons c .nil))) env = .ok l/\((∃ j,l.map (·.1)=[.int j]/\eT j=true/\p.1=aS 0 1 j.toNat)\/(∃ i j,l.map (·.1)=[.int i,.int j]/\eT i=true/\eT j=true/\p.1=aS i 1 (j - i).toNat) \/
   ∃ i j k,l.map (·.1)=[.int i,.int j,.int k]/\eT i=true/\eT j=true/\k≠0/\k.natAbs<1073741824/\p.1=aS i k (Builtin.Range.rangeSize i j k).toNat):=by
 unfold gW at hev;obtain⟨q,h1,hev⟩:=Rs.bind_ok hev;obtain⟨r,h2,hev⟩:=Rs.bind_ok hev;obtain⟨t,h3,hev⟩:=Rs.bind_ok hev;split at hev
 ·rename_i i j k hi hj hk;split at hev
  ·rename_i ho;cases hev;simp only[Bool.and_eq_true,bne_iff_ne,decide_eq_true_eq] at ho;exact⟨rfl,[q,r,t],by unfold bE;rw[h1];unfold bE;rw[h2];unfold bE;rw[h3];unfold bE;rfl,.inr (.inr ⟨i,j,k,by simp[hi,hj,hk],ho.1.1.1,ho.1.1.2,ho.1.2,ho.2,rfl⟩)⟩
  ·cases hev
 ·cases hev
def SE (X:Cx)(T:Tb)(e:Expr)(c:Ex):Prop:=PE X e (tE X.K T c)/\PT X e (k6 X.K T c)
section
variable {X:Cx}{S:Sc}{T:Tb}
theorem dB {f:Expr->Option Ex}(hf:∀ e c,f e=some c->SE X T e c):∀{es:List Expr}{cs:kB},cP f es=some cs->PA X es (rJ X.K T cs)
 |[],cs,h=>by cases h;exact uI
 | e::es,cs,h=>by
  obtain⟨hs,c,d,h1,h2,rfl⟩:=bG h;exact oX (hf e c h1).1 (dB hf h2) (bF hs)
theorem xS {f:Expr->Option Ex}{op:BoolOp}{pos:Pos}(hf:∀ e c,f e=some c->SE X T e c):∀{es:List Expr}{c:Ex},B4 f op es=some c->PE X (.BoolOp op es pos) (tE X.K T c)/\PW X (.BoolOp op es pos) (k6 X.K T c)
 |[],c,h=>by cases h
 | [a],c,h=>by
  have h:f a=some c:=h;have ⟨h1,h2⟩:=hf a c h;refine⟨zk h1,?_⟩;cases op with
  |And=>exact wb h2
  |Or=>exact AF h2
 | a::b::r,c,h=>by
  unfold B4 at h;rw[ab] at h;obtain⟨ca,h1,h2⟩:=h;rw[aa] at h2;obtain⟨cb,h2,h3⟩:=h2;subst h3;have ⟨ia,ta⟩:=hf a ca h1;have ⟨ib,tb⟩:=xS (pos:=pos) hf h2;cases op with
  |And=>exact⟨yF ia ib,zb ta tb⟩
  |Or=>exact⟨Cj ia ib,Br ta tb⟩
theorem mK (C:Ctx X S T):∀{es:List Expr}{is:List Nat},jP S es=some is->Bg X es (fL is)/\(assignEach es X.env).length=is.length/\(assignEach es X.env).findIdx? (·.1)=none:=by
 intro es
 induction es with
 |nil=>intro is h;cases h;exact⟨wX,rfl,rfl⟩
 |cons e es ih =>
  intro is h;cases e with
  |Name x p =>
   unfold jP at h;by_cases hl:ja S.sc x=true
   ·rw[if_pos hl,ab] at h;obtain⟨i,h1,h2⟩:=h;rw[aa] at h2;obtain⟨js,h2,rfl⟩:=h2;obtain⟨a,b,c⟩:=ih h2;have hN:=C.nd;rw[<-C.N] at hN;have hi:=bL h1;rw[<-C.N] at hi;refine⟨uM (pS hN hi (C.loc x hl).1 (C.loc x hl).2) a,?_,?_⟩
    ·show (assignEach es X.env).length+1=js.length+1;rw[b]
    ·show List.findIdx? (·.1) ((false,_)::assignEach es X.env)=none;rw[List.findIdx?_cons];simp[c]
   ·rw[if_neg hl] at h;cases h
  |_=>cases h
theorem tz (C:Ctx X S T){e:Expr}{t:kE}(h:qN S e=some t):PG X e (oS X.K t):=by
 cases e with
 |Name x p =>
  unfold qN at h;dsimp only at h;by_cases hl:ja S.sc x=true
  ·rw[if_pos hl,aa] at h;obtain⟨i,h1,rfl⟩:=h;have hN:=C.nd;rw[<-C.N] at hN;have hi:=bL h1;rw[<-C.N] at hi;exact pS hN hi (C.loc x hl).1 (C.loc x hl).2
  ·rw[if_neg hl] at h;cases h
 |Tuple es a b =>
  unfold qN at h;rw[aa] at h;obtain⟨is,h1,rfl⟩:=h;obtain⟨a,b,c⟩:=mK C h1;exact um C.calm a b c
 |_=>cases h
theorem yl (C:Ctx X S T){f:Expr->Option Ex}(hf:∀ e c,f e=some c->SE X T e c){tg e:Expr}{it:rW}(h:A4 S f (isTup tg) e=some it):PI X tg e (tI X.K T it):=by
 unfold A4 at h;split at h
 ·rename_i x p es pos;by_cases hx:x = "range"
  ·subst hx;rw[if_pos rfl] at h;by_cases hg:rl S "range" = true
   ·rw[if_pos hg] at h;have hg2:nJ S.sc "range" = true/\S.eY.contains "range" = true:=by
     unfold rl at hg
     rwa [ah] at hg
    cases hc:cP f es with
    |none=>rw[hc] at h;cases h
    |some cs =>
     rw[hc] at h;cases es with
     |nil=>cases hc;cases h
     |cons e0 rest =>
      obtain⟨hs,c0,d0,_,hd,rfl⟩:=bG hc;refine Ai rfl (C.gl _ hg2.1) (C.eY _ hg2.2) (dB hf hc) (bF hs) (cY hd) ?_;intro env p hev;cases d0 with
      |nil =>
       cases h;exact tU hev
      |cons c1 d1 =>
       cases d1 with
       |nil =>
        cases h;exact ub hev
       |cons c2 d2 =>
        cases d2 with
        |nil =>
         cases h;exact sy hev
        |cons c3 d3=>cases h
   ·rw[if_neg hg] at h;cases h
  rw[if_neg hx] at h;by_cases hx:x = "enumerate"
  ·subst hx;rw[if_pos rfl] at h;by_cases hg:(rl S "enumerate" && isTup tg)=true
   ·rw[if_pos hg] at h;rw[ah] at hg;have hg2:nJ S.sc "enumerate" = true/\S.eY.contains "enumerate" = true:=by
     have:=hg.1;unfold rl at this
     rwa [ah] at this
    cases tg with
    |Tuple elts x1 tp =>
     split at h
     ·rename_i e0;by_cases hs:notStar e0=true
      ·rw[if_pos hs,aa] at h;obtain⟨c,h1,rfl⟩:=h;exact wC (C.gl _ hg2.1) (C.eY _ hg2.2) (oX (hf _ _ h1).1 uI (bF hs)) (bF hs)
      ·rw[if_neg hs] at h;cases h
     ·cases h
    |_=>cases hg.2
   ·rw[if_neg hg] at h;cases h
  rw[if_neg hx] at h;by_cases hx:x = "reversed"
  ·subst hx;rw[if_pos rfl] at h;cases h
  rw[if_neg hx] at h;by_cases hx:x = "zip"
  ·subst hx;rw[if_pos rfl] at h;cases h
  ·rw[if_neg hx,aa] at h;obtain⟨c,h1,rfl⟩:=h;exact sM (hf _ _ h1).1
 ·by_cases hn:fE e=true
  ·rw[if_pos hn,aa] at h;obtain⟨c,h1,rfl⟩:=h;exact sM (hf _ _ h1).1
  ·rw[if_neg hn] at h;cases h
end
theorem fN {env:Env}:∀{names:List (Str×NameKind)}{x:Str}{k:NameKind},names.lookup x=some k->k≠.free ->
  (names.map fun (n,k)=>if (k==NameKind.free&&env.scope.kind == .function&&env.kindOf n==some .cell) then (n,NameKind.cell) else (n,k)).lookup x=some k
 |[],_,_,h,_=>by simp at h
 | (n,k0)::r,x,k,h,hk=>by
  rw[aw];by_cases hc:(k0==NameKind.free&&env.scope.kind == .function&&env.kindOf n==some .cell)=true
  ·simp only[hc,if_true,List.lookup_cons] at h ⊢;cases hx:x==n with
   |true =>
    rw[hx] at h;cases h;rw[ah,ah] at hc;exact absurd (by simpa using hc.1.1) hk
   |false=>rw[hx] at h;exact fN h hk
  ·have hc:(k0==NameKind.free&&env.scope.kind == .function&&env.kindOf n==some .cell)=false:=by simpa using hc
   simp only[hc,Bool.false_eq_true,if_false,List.lookup_cons] at h ⊢;cases hx:x==n with
   |true=>rw[hx] at h;exact h
   |false=>rw[hx] at h;exact fN h hk
theorem jf:∀{l:List (Option Nat)}{p:List Nat},iT l=some p->l=p.map some
 |[],p,h=>by cases h;rfl
 | some i::r,p,h=>by
  simp only[iT,Option.map_eq_some_iff] at h;obtain⟨q,h1,rfl⟩:=h;rw[jf h1];rfl
 |none::r,p,h=>by cases h
theorem jX {S:Sc}{sc:Scope}(h:i8 S sc=true):sc.kind = .function/\(∀ y∈sc.names,y.2 = .cell->sc.names.lookup y.1=some .cell)/\(∀ y∈sc.names,y.2 = .local->sc.names.lookup y.1=some .local) /\
  (∀ y∈sc.names,y.2 = .free->sc.names.lookup y.1=some .free/\(cL S.sc y.1=some .cell\/cL S.sc y.1=some .free))/\(aW sc++aX sc).Nodup:=by
 unfold i8 at h;simp only[Bool.and_eq_true,List.all_eq_true,Bool.or_eq_true,beq_iff_eq,bne_iff_ne,decide_eq_true_eq,cL] at h;obtain⟨⟨⟨⟨h1,h2⟩,h3⟩,h4⟩,h5⟩:=h;refine⟨h1,fun y hy e=>?_,fun y hy e=>?_,fun y hy e=>?_,h5⟩
 ·rcases h2 y hy with h | h
  ·exact absurd e h
  ·exact h
 ·rcases h3 y hy with h | h
  ·exact absurd e h
  ·exact h
 ·rcases h4 y hy with h | h
  ·exact absurd e h
  ·exact h
section
variable {X:Cx}{S:Sc}{T:Tb}{sc:Scope}{pick:List Nat}
theorem n4 (C:Ctx X S T)(h:i8 S sc=true)(hp:iT ((aX sc).map (idxOf S.N))=some pick):cZ X sc (aW sc++aX sc) (dA (aW sc).length pick):=by
 obtain⟨h1,h2,h3,h4,h5⟩:=jX h;have hp:=jf hp;have hlen:(aX sc).length=pick.length:=by simpa using congrArg List.length hp
 refine⟨h1,h2,h3,by simp[dA,hlen],fun x hx=>C.cel x (h4 _ (PySem.mem_of_lookup hx) rfl).2,fun x hx=>(h4 _ hx rfl).1,fun i j x hi hx=>?_⟩;unfold dA at hi;by_cases hlt:i<(aW sc).length
 ·rw[List.getElem?_append_left (by simpa using hlt),List.getElem?_replicate] at hi;split at hi<;>cases hi
 ·have hle:=gr hlt;rw[List.getElem?_append_right (by simpa using hle),List.length_replicate,<-hp,List.getElem?_map] at hi;rw[List.getElem?_append_right hle] at hx;rw[hx] at hi;simp only[Option.map_some,Option.some.injEq] at hi;have hm:=List.mem_of_getElem? hx;unfold aX at hm;rw[List.mem_map] at hm;obtain⟨p,hp1,rfl⟩:=hm;rw[List.mem_filter] at hp1;have hf:p.2 = .free:=by simpa using hp1.2
  refine⟨(h4 p hp1.1 hf).1,?_⟩;rw[C.N];exact bL hi
theorem qC (C:Ctx X S T)(h:i8 S sc=true)(Ca:Addr)(s0:Shared)(H0:Hp)(ex:List Addr):Ctx (inner X sc (aW sc++aX sc) Ca s0 H0 ex) { S with N:=aW sc++aX sc,sc:=sc } T:=by
 obtain⟨h1,h2,h3,h4,h5⟩:=jX h;have keep:∀ x k,sc.names.lookup x=some k->k≠.free->(relabel sc X.env).names.lookup x=some k:=fun x k e hk=>fN e hk
 refine⟨rfl,h5,fun x hx=>?_,fun x hx=>?_,fun x hx=>?_,fun x hx=>?_,C.units,C.calm,C.fns,C.pQ,C.eY⟩
 ·unfold nj cL at hx;dsimp only at hx;split at hx
  ·rename_i e;exact .inl (keep _ _ e (by simp))
  ·rename_i e;exact .inr (.inl (keep _ _ e (by simp)))
  ·rename_i e;exact .inr (dZ e)
  ·cases hx
 ·unfold ja cL at hx;dsimp only at hx;split at hx
  ·rename_i e;exact⟨.inl (keep _ _ e (by simp)),.inr (keep _ _ e (by simp))⟩
  ·rename_i e;exact⟨.inr (keep _ _ e (by simp)),.inl (by show (sc.names.lookup x==some NameKind.cell)=true;rw[e];rfl)⟩
  ·cases hx
 ·unfold nJ cL at hx;dsimp only at hx;split at hx
  ·rename_i e;exact keep _ _ e (by simp)
  ·cases hx
 ·unfold cL at hx;rcases hx with hx | hx
  ·exact .inl (keep _ _ hx (by simp))
  ·exact dZ hx
end
theorem i5 (n d:Nat)(o:Option Int):bA n d o=HT.bA n d o:=by cases o<;>rfl
theorem vP (n d:Nat)(hd:d<=n)(o:Option Int):bA n d o<=n\/∃ i,o=some i/\i<0/\(n:Int)<i+n:=by
 cases o with
 |none=>exact .inl hd
 |some i =>
  left;simp only[bA];split<;>omega
theorem mq {n d:Nat}(hd:d<=n)(o:Option Int):bA n d o<=n:=by
 rcases vP n d hd o with h | ⟨i,_,h1,h2⟩
 ·exact h
 ·omega
theorem zA (lo hi:Option Int)(n:Nat):Builtin.Str.strSliceIndices lo hi 1 n=(List.range (bA n n hi - bA n 0 lo)).map (bA n 0 lo + ·):=by
 unfold Builtin.Str.strSliceIndices;have h1:∀(o:Option Int) (d:Nat),d<=n->(match o with | none=>(d:Int) | some i=>if (1:Int) > 0 then max 0 (min (if i<0 then i+(n:Int) else i) n) else max (-1) (min (if i<0 then i+(n:Int) else i) (n - 1)))=((bA n d o:Nat):Int):=by
  intro o d hd;cases o with
  |none=>rfl
  |some i =>
   simp only[bA];rw[if_pos (by decide)];by_cases hi:i<0
   ·rw[if_pos hi,if_pos hi];omega
   ·rw[if_neg hi,if_neg hi];omega
 have e1:=h1 lo 0 (cw _);have e2:=h1 hi n (aq _);dsimp only;rw[if_pos (by decide),if_pos (by decide)];refine Eq.trans ?_ (sliceRange_one (bA n 0 lo) (bA n n hi));have gen:∀ a b a' b':Int,a=a'->b=b'->sliceRange a b 1=sliceRange a' b' 1:=fun a b a' b' h h'=>by rw[h,h']
 exact gen _ _ _ _ e1 e2
theorem zG {X:Cx}:x4 X (fun x lo hi H Q=>∃ z,x = .str z/\z.length<=lim/\Q (.str ⟨(cut z.cps.toList lo hi).toArray⟩) H):=by
 intro pins s σ H x v vl vu lo hi sl Q I rx hs pl pu h;obtain⟨z,rfl,hzl,q⟩:=h;obtain⟨t,rfl⟩:=rx;have part:∀{v:Value}{o:Option Int},IsPart v o->∃ l:Option (Int×Tok),partValue l=v/\l.map (·.1)=o:=fun h=>by
  cases h with
  |none=>exact⟨none,rfl,rfl⟩
  |int i t=>exact⟨some (i,t),rfl,rfl⟩
 obtain⟨l,rfl,rfl⟩:=part pl;obtain⟨u,rfl,rfl⟩:=part pu;refine⟨"str",_,PySem.F.slot_str_getitem.lookup,typeIs_str s z t,wpAny_getItem_str_slice (l:=l) (u:=u) (st:=none) hs rfl ?_⟩;have hp:slicePicked z l u none=(List.range (bA z.length z.length (u.map (·.1)) - bA z.length 0 (l.map (·.1)))).map (bA z.length 0 (l.map (·.1)) + ·):=zA _ _ _;have hc:(slicePicked z l u none).filterMap (z.cps[·]?)=cut z.cps.toList (l.map (·.1)) (u.map (·.1)):=by
  rw[hp,pick_run];rfl
 unfold sliceMade;split
 ·rename_i hw;have hl:(slicePicked z l u none).length=z.length:=by
   have:=(ah _ _ ▸ hw).2;simpa using this
  rw[hp,aj,dg] at hl;have hz:(⟨(cut z.cps.toList (l.map (·.1)) (u.map (·.1))).toArray⟩:Str)=z:=by
   have a1:=mq (n:=z.length) (cw _) (l.map (·.1));have a2:=mq (n:=z.length) (aq _) (u.map (·.1));have:cut z.cps.toList (l.map (·.1)) (u.map (·.1))=z.cps.toList:=by
    have hlen:z.cps.toList.length=z.length:=rfl;unfold cut;rw[hlen];dsimp only;by_cases h0:z.length=0
    ·have:z.cps.toList=[]:=List.eq_nil_of_length_eq_zero (hlen.trans h0);rw[this];simp
    ·rw[show bA z.length 0 (l.map (·.1))=0 by omega,show bA z.length z.length (u.map (·.1))=z.length by omega,List.drop_zero,Nat.sub_zero];exact gx (Nat.le_of_eq hlen)
   rw[this]
  rw[hz] at q;exact⟨.str z,H,I,⟨t,rfl⟩,q⟩
 ·rw[hc];refine⟨?_,.str _,H,I.tok _,⟨_,rfl⟩,q⟩;show (cut z.cps.toList (l.map (·.1)) (u.map (·.1))).toArray.size<=sizeLine;rw[ae];refine bj ?_ (eD hzl);unfold cut;rw[bw,bz];exact bj (Nat.min_le_right _ _) (Nat.sub_le _ _)
section
variable {X:Cx}{T:Tb}{a:Expr}{ca:Ex}{lo hi:Option Expr}{cl ch:kj}{pos p2:Pos}
noncomputable def tO (K:Frag)(T:Tb)(c:kj):TO:=fun σ H Q=>∃ P env F,RE K P env σ H F/\∃ o,jm T c env = .ok o/\∀ H',aI H H'->Q o H'
theorem su {X:Cx}{e:Option Expr}{t t':TO}(h:PO X e t)(k:∀ σ H Q,t' σ H Q->t σ H Q):PO X e t':=fun pins s σ H Q I q=>h pins s σ H Q I (k σ H Q q)
theorem xx:PO X none (tO X.K T .none):=su vK fun σ H Q ⟨P,env,F,re,o,h,k⟩=>by
 unfold jm at h;cases h;exact k H (aI.refl _)
theorem wA (h:PE X a (tE X.K T ca)):PO X (some a) (tO X.K T (.some ca)):=su (xa h) fun σ H Q ⟨P,env,F,re,o,h,k⟩=>by
 unfold jm at h;obtain⟨p,h1,h2⟩:=Rs.bind_ok h;refine⟨P,env,F,re,p,h1,fun v H' G s rp rt=>?_⟩;split at h2
 ·rename_i i hi;cases h2;rw[hi] at rp;obtain⟨rfl,rfl⟩:=rp.int_inv;exact⟨i,rfl,k H' s⟩
 ·cases h2
theorem Bf (ha:PE X a (tE X.K T ca))(hl:PO X lo (tO X.K T cl))(hh:PO X hi (tO X.K T ch)):PE X (.Subscript a (.Slice lo hi none p2) pos) (tE X.K T (.sl ca cl ch)):=by
 refine be (sk (wM.or (zG.or y3)) ha hl hh) fun σ H Q ⟨P,env,F,re,p,hev,k⟩=>?_
 unfold ev at hev;obtain⟨q,h1,hev⟩:=Rs.bind_ok hev;obtain⟨ol,h2,hev⟩:=Rs.bind_ok hev;obtain⟨oh,h3,hev⟩:=Rs.bind_ok hev;obtain⟨d,h4,hev⟩:=Rs.bind_ok hev;have h4:=cB h4;cases hev;refine⟨P,env,F,re,q,h1,fun v H1 G s rp rt=>⟨P,env,F,re.same s,ol,h2,fun H2 s2=>⟨P,env,F,re.same (s.trans s2),oh,h3,fun H3 s3=>?_⟩⟩⟩;have s23:=s2.trans s3;cases hq:q.1 with
 |lst xs =>
  rw[hq] at rp h4;cases h4;obtain⟨pa,vs,G',rfl,rfl,hr,rs⟩:=Rep.lst_inv (rp.same s23);refine .inl ⟨pa,vs,rfl,.inl hr,fun pn hn=>?_⟩;obtain⟨G1,r1,u1⟩:=rs.drop (bA xs.length 0 ol);obtain⟨G2,r2,u2⟩:=r1.take (bA xs.length xs.length oh - bA xs.length 0 ol);have hc:ku vs ol oh=(vs.drop (bA xs.length 0 ol)).take (bA xs.length xs.length oh - bA xs.length 0 ol):=by
   unfold ku;rw[rs.len,i5,i5]
  rw[hc];have sub:∀ a∈G2,a∈pa::G':=fun a ha=>ak _ (u1.mem (u2.mem ha))
  obtain⟨rp',nv⟩:=i6 (G0:=pa::G') r2 sub hn;have ar:Args X.K env F H H3 [q] [.ref pa] ((pa::G') ++ []):=.cons s (by rw[hq];exact rp) rt (.nil s23);rw[ba] at ar;exact k _ _ _ ((s.trans s23).trans nv.same) rp' (bB.new ar nv (by simp[aP]))
 |str z =>
  rw[hq] at rp h4;obtain⟨rfl,rfl⟩:=rp.str_inv;have h4:(if z.length<=lim then some (D.str ⟨(cut z.cps.toList ol oh).toArray⟩) else none)=some d:=h4;by_cases hz:z.length<=lim
  ·rw[if_pos hz] at h4;cases h4;exact .inr (.inl ⟨z,rfl,hz,k _ H3 [] (s.trans s23) (.str _) bB.nil⟩)
  ·rw[if_neg hz] at h4;cases h4
 |tup xs =>
  rw[hq] at rp h4;have h4:(if bA xs.length 0 ol=0/\bA xs.length xs.length oh=xs.length then none else some (D.tup (cut xs ol oh)))=some d:=h4;by_cases hw:bA xs.length 0 ol=0/\bA xs.length xs.length oh=xs.length
  ·rw[if_pos hw] at h4;cases h4
  ·rw[if_neg hw] at h4;cases h4;obtain⟨pa,vs,rfl,hr,rs⟩:=Rep.tup_inv (rp.same s23);refine .inr (.inr ⟨pa,vs,rfl,hr,by rw[<-rs.len,<-i5,<-i5];exact hw,fun pn hn=>?_⟩);obtain⟨G1,r1,u1⟩:=rs.drop (bA xs.length 0 ol);obtain⟨G2,r2,u2⟩:=r1.take (bA xs.length xs.length oh - bA xs.length 0 ol);have hc:ku vs ol oh=(vs.drop (bA xs.length 0 ol)).take (bA xs.length xs.length oh - bA xs.length 0 ol):=by
    unfold ku;rw[rs.len,i5,i5]
   rw[hc];obtain⟨rp',nv⟩:=rR (G0:=G) r2 (fun a ha=>u1.mem (u2.mem ha)) hn;have ar:Args X.K env F H H3 [q] [.ref pa] (G ++ []):=.cons s (by rw[hq];exact rp) rt (.nil s23);rw[ba] at ar;exact k _ _ _ ((s.trans s23).trans nv.same) rp' (bB.new ar nv (by simp[aP]))
 |_=>rw[hq] at h4;cases h4
end
section
variable {X:Cx}{S:Sc}{T:Tb}
theorem sE {f:Expr->Option Ex}(hf:∀ e c,f e=some c->SE X T e c){o:Option Expr}{c:kj}(h:tG f o=some c):PO X o (tO X.K T c):=by
 cases o with
 |none=>cases h;exact xx
 |some e =>
  have h:(f e).map kj.some=some c:=h;rw[aa] at h;obtain⟨d,h1,rfl⟩:=h;exact wA (hf e d h1).1
theorem BA {x id:String}{b:Ab}{f:Expr->Option Ex}(hf:∀ e c,f e=some c->SE X T e c){e:Expr}{r:List Expr}{cs:kB}{p pos:Pos}(hr:fT X (.builtin id) (qU X.K b))(hv:bootBuiltins x=some (.builtin id))(hg:Gl X x)(hm:X.mg x=none)(hn:cJ x=true)(ha:cP f (e::r)=some cs) :
  PE X (.Call (.Name x p) (e::r) [] pos) (tE X.K T (.blt b cs)):=by
 obtain⟨hs,_,_,_,h2,_⟩:=bG ha;obtain⟨n1,n2,n3⟩:=cI hn;exact be (mP hr hg hm hv (dB hf ha) n3 n1 (bF hs) (cY h2)) fun σ H Q h=>m6 h
theorem bltT {x id:String}{b:Ab}{f:Expr->Option Ex}(hf:∀ e c,f e=some c->SE X T e c){e:Expr}{r:List Expr}{cs:kB}{p pos:Pos}(hr:fT X (.type id) (qU X.K b))(hv:bootBuiltins x=some (.type id))(hg:Gl X x)(hm:X.mg x=none)(hn:cJ x=true)(ha:cP f (e::r)=some cs) :
  PE X (.Call (.Name x p) (e::r) [] pos) (tE X.K T (.blt b cs)):=by
 obtain⟨hs,_,_,_,h2,_⟩:=bG ha;obtain⟨n1,n2,n3⟩:=cI hn;exact be (qY hr hg hm hv (dB hf ha) n3 n1 (bF hs) (cY h2)) fun σ H Q h=>m6 h
theorem uF {t:Str}{u:String}(h:zj t=some u):u∈gS/\bootBuiltins t=some (.type u):=by
 unfold zj at h;split at h
 ·rename_i e;cases h;subst e;exact⟨by decide,boot_int⟩
 split at h
 ·rename_i e;cases h;subst e;exact⟨by decide,boot_bool⟩
 split at h
 ·rename_i e;cases h;subst e;exact⟨by decide,boot_str⟩
 split at h
 ·rename_i e;cases h;subst e;exact⟨by decide,boot_list⟩
 split at h
 ·rename_i e;cases h;subst e;exact⟨by decide,boot_tuple⟩
 cases h
theorem wJ (C:Ctx X S T){f:Expr->Option Ex}(hf:∀ e c,f e=some c->SE X T e c){x:Str}{es:List Expr}{c:Ex}{p pos:Pos}(h:pH S f x es=some c):PE X (.Call (.Name x p) es [] pos) (tE X.K T c):=by
 unfold pH at h;by_cases hk:(cJ x&&nJ S.sc x)=true
 ·rw[if_pos hk] at h;rw[ah] at hk;obtain⟨hn,hg⟩:=hk;have hg:=C.gl x hg;obtain⟨n1,n2,n3⟩:=cI hn;cases hi:idxOf S.fns x with
  |some i =>
   rw[hi] at h;dsimp only at h;rw[aa] at h;obtain⟨cs,h1,rfl⟩:=h;obtain⟨fa,fd,ps,k,FO,hr,hm,hkp,hb,hl⟩:=C.fns i x hi;cases es with
   |nil =>
    cases h1;refine be (uL FO hr hg hm hkp hb .nil xT n1) fun σ H Q h=>?_
    have:=lI hl h;obtain⟨P,env,F,re,l,hev,k⟩:=this;unfold bE at hev;cases hev;exact k [] H [] (.nil (aI.refl _))
   |cons e r =>
    obtain⟨hs,_,_,_,h2,_⟩:=bG h1;exact be (xw FO hr hg hm hkp hb .nil xT (dB hf h1) n1 (bF hs) (cY h2)) fun σ H Q h=>lI hl h
  |none =>
   rw[hi] at h;dsimp only at h;by_cases hb:S.eY.contains x=true
   ·rw[if_pos hb] at h;have hm:=C.eY x hb;by_cases hx:x = "isinstance"
    ·rw[if_pos hx] at h;subst hx;unfold BC at h;split at h
     ·rename_i a t pt;by_cases hc:(nJ S.sc t&&S.eY.contains t&&cJ t&&notStar a)=true
      ·rw[if_pos hc] at h;simp only[Bool.and_eq_true] at hc;obtain⟨⟨⟨c1,c2⟩,c3⟩,c4⟩:=hc;rw[ab] at h;obtain⟨u,h1,h2⟩:=h;rw[aa] at h2;obtain⟨ca,h2,rfl⟩:=h2;obtain⟨hu,hbt⟩:=uF h1;obtain⟨m1,m2,m3⟩:=cI c3;refine be (mP qv hg hm boot_isinstance (jz (hf a ca h2).1 (jz (wH (v:=.ty u) (C.gl t c1) (C.eY t c2) hbt rfl m3 m1) oD rfl) (bF c4)) n3 n1 (bF c4) rfl) fun σ H Q h=>tK hu h
      ·rw[if_neg hc] at h;cases h
     ·cases h
    ·rw[if_neg hx] at h;by_cases hlr:x = "list"/\lG es=true
     ·rw[if_pos hlr] at h;obtain⟨rfl,_⟩:=hlr;cases h
     rw[if_neg hlr] at h;by_cases hlg:x = "list"/\lF es=true
     ·rw[if_pos hlg] at h;obtain⟨rfl,_⟩:=hlg;cases h
     rw[if_neg hlg] at h;cases es with
     |nil=>cases h
     |cons e r =>
      dsimp only at h;rw[ab] at h;obtain⟨b,h1,h2⟩:=h;rw[aa] at h2;obtain⟨cs,h2,rfl⟩:=h2;unfold BE at h1;split at h1
      ·rename_i e;cases h1;subst e;exact BA hf qJ boot_len hg hm hn h2
      split at h1
      ·rename_i e;cases h1;subst e;exact bltT hf (n6 C.calm) boot_list hg hm hn h2
      split at h1
      ·rename_i e;cases h1;subst e;exact BA hf (oz C.calm C.units.1) boot_min hg hm hn h2
      cases h1
   ·rw[if_neg hb] at h;cases h
 ·rw[if_neg hk] at h;cases h
theorem y0 {f:Expr->Option Ex}(hf:∀ e c,f e=some c->SE X T e c){o:Expr}{name:Str}{es:List Expr}{c:Ex}{apos cpos:Pos}(h:vx f o name es apos cpos=some c):PE X (.Call (.Attribute o name apos) es [] cpos) (tE X.K T c):=by
 unfold vx at h;split at h
 ·rename_i e;by_cases hk:(apos.endLine==cpos.line&&rV o)=true
  ·rw[if_pos hk] at h;rw[ah] at hk;have hb:attributeBase o name X.env (eval o X.env)=eval o X.env:=by
    obtain⟨_,hk⟩:=hk;cases o<;>first | rfl | (cases hk)
   by_cases hjn:name = "join"
   ·rw[if_pos hjn,ab] at h;subst hjn;obtain⟨co,ho,h⟩:=h;rw[ab] at h;obtain⟨cs,hc,h⟩:=h;obtain⟨ns,ce,d,he,hd,rfl⟩:=bG hc;cases hd;cases h;refine be (uP PySem.F.plainAttrs_str PySem.F.slot_str_join PySem.F.type_str_join xv (hf o co ho).1 (dB hf hc) hb ?_ hk.1 (bF ns) rfl) fun σ H Q h=>qI h
    rw[bF ns];rfl
   rw[if_neg hjn] at h;cases h
  ·rw[if_neg hk] at h;cases h
 ·cases h
theorem qh {own:Nat}{pick:List Nat}{t:kE}(h:rB own t=true)(i:Nat)(hi:t = .nm i\/∃ is,t = .tp is/\i∈is):(dA own pick)[i]? = some none:=by
 have:i<own:=by
  rcases hi with rfl | ⟨is,rfl,hm⟩
  ·simpa[rB] using h
  ·simp only[rB,List.all_eq_true,decide_eq_true_eq] at h;exact h i hm
 unfold dA;rw[List.getElem?_append_left (by simpa using this),List.getElem?_replicate,if_pos this]
structure kM (X:Cx)(S:Sc)(T:Tb)(elt tg iter:Expr)(ifs:List Expr)(sc:Scope)(c:Ex):Prop where
 ex:∃ pick t it ci ce,c = .comp (aW sc).length pick t it ci ce/\cZ X sc (aW sc++aX sc) (dA (aW sc).length pick)/\PI X tg iter (tI X.K T it) /\
  (∀ C s0 H0 ex,PG (inner X sc (aW sc++aX sc) C s0 H0 ex) tg (oS X.K t)/\A5 (inner X sc (aW sc++aX sc) C s0 H0 ex) ifs (zw X.K T ci)/\PE (inner X sc (aW sc++aX sc) C s0 H0 ex) elt (tE X.K T ce)) /\
  rB (aW sc).length t=true/\fE iter=true
theorem jW (C:Ctx X S T){f:Sc->Expr->Option Ex}(hf:∀{X:Cx}{S:Sc},Ctx X S T->∀ e c,f S e=some c->SE X T e c){elt tg iter:Expr}{ifs:List Expr}{sc:Scope}{c:Ex}(h:mI S f elt tg iter ifs sc=some c):kM X S T elt tg iter ifs sc c:=by
 unfold mI at h;by_cases hk:(i8 S sc&&fE iter)=true
 ·rw[if_pos hk] at h;rw[ah] at hk;rw[ab] at h;obtain⟨it,h1,h⟩:=h;rw[ab] at h;obtain⟨pick,h2,h⟩:=h;rw[ab] at h;obtain⟨t,h3,h⟩:=h;by_cases ho:rB (aW sc).length t=true
  ·rw[if_pos ho] at h;rw[ab] at h;obtain⟨ci,h4,h⟩:=h;rw[aa] at h;obtain⟨ce,h5,rfl⟩:=h;refine⟨pick,t,it,ci,ce,rfl,n4 C hk.1 h2,yl C (hf C) h1,fun Ca s0 H0 ex=>?_,ho,hk.2⟩;have C':=qC C hk.1 Ca s0 H0 ex;refine⟨tz C' h3,?_,(hf C' elt ce h5).1⟩;unfold Bh at h4;split at h4
   ·cases h4;exact vZ
   ·rw[aa] at h4;obtain⟨cc,h4,rfl⟩:=h4;exact vy (hf C' _ cc h4).2
   ·cases h4
  ·rw[if_neg ho] at h;cases h
 ·rw[if_neg hk] at h;cases h
theorem xK (C:Ctx X S T){elt tg iter:Expr}{ifs:List Expr}{sc:Scope}{c:Ex}{pos:Pos}(h:kM X S T elt tg iter ifs sc c):PE X (.ListComp elt [⟨tg,iter,ifs,0⟩] sc pos) (tE X.K T c):=by
 obtain⟨pick,t,it,ci,ce,rfl,h1,h2,h3,h4,h5⟩:=h;exact be (vC h1 C.calm h2 h3 (kJ (qh h4)) (oE h5)) fun σ H Q h=>kH h
theorem wu (C:Ctx X S T){f:Expr->Option Ex}(hf:∀ e c,f e=some c->SE X T e c){x kn:Str}{a d:Expr}{c:Ex}{p kp pos:Pos}(h:sd S f x a d kn=some c):PE X (.Call (.Name x p) [a] [⟨some kn,d,kp⟩] pos) (tE X.K T c):=by
 cases h
theorem rm {k:Option Expr}{x:Str}(h:tT k=some x):∃ p,k=some (.Name x p):=by
 cases k with
 |none=>cases h
 |some e=>cases e<;>first | (cases h;exact⟨_,rfl⟩) | (cases h)
theorem vd {e:Expr}{v:Int}(h:zU e=some v):∃ a b,e = .Constant (.int v) a b:=by
 cases e with
 |Constant c a b=>cases c<;>first | (cases h;exact⟨_,_,rfl⟩) | (cases h)
 |_=>cases h
theorem pj (C:Ctx X S T){pos:Pos}:∀{ks:List (Option Expr)}{vs:List Expr}{l:List (Nat×Int)},tY S ks vs=some l->∃ us:List (V×Int),Bi X pos ks vs (us.map fun q=>(tC q.1,tC (.int q.2)))/\Paired (fun (q:Nat×Int) (u:V×Int)=>q.2=u.2/\∀ H,Rep X.K H (T.gl q.1) u.1 []) l us/\ks.all (·.isSome)=true/\ks.length=vs.length/\ks.length=l.length
 |[],[],l,h=>by cases h;exact⟨[],xj,.nil,rfl,rfl,rfl⟩
 | k::ks,e::vs,l,h=>by
  have hA:((tT k).bind fun x=>(zU e).bind fun v=>if cJ x&&nJ S.sc x then (idxOf S.pQ x).bind fun i=>(tY S ks vs).map fun l=>(i,v)::l else none)=some l:=h;clear h;obtain⟨x,hx,hB⟩:=ab.mp hA;clear hA;obtain⟨v,hv,hD⟩:=ab.mp hB;clear hB;obtain⟨p,e1⟩:=rm hx;obtain⟨a,b,e2⟩:=vd hv;rw[e1,e2];by_cases hc:(cJ x&&nJ S.sc x)=true
  ·rw[if_pos hc] at hD;rw[ah] at hc;obtain⟨i,h1,hE⟩:=ab.mp hD;obtain⟨l',h2,rfl⟩:=aa.mp hE;obtain⟨us,g1,g2,g3,g4,g5⟩:=pj C (pos:=pos) h2;obtain⟨u,w,e1,e2,e3⟩:=C.pQ i x h1;obtain⟨n1,n2,n3⟩:=cI hc.1;exact⟨(u,v)::us,uj (pI (C.gl x hc.2) e1 e2 n1) nP g1,.cons ⟨rfl,e3⟩ g2,by rw[dq,g3];rfl,by rw[ag,ag,g4],by rw[ag,ag,g5]⟩
  ·rw[if_neg hc] at hD;cases hD
 |[],_::_,l,h=>by cases h
 |_::_,[],l,h=>by cases h
theorem mG {Q:List (V×V)->Hp->Prop}{σ:L2.St}{H:Hp}:∀{us:List (V×Int)},Q (us.map fun q=>(q.1,.int q.2)) H->jN (us.map fun q=>(tC q.1,tC (.int q.2))) σ H Q
 |[],h=>h
 | (u,i)::us,h=>by
  show jN (us.map fun q=>(tC q.1,tC (.int q.2))) σ H (fun ps H3=>Q ((u,.int i)::ps) H3);exact mG (us:=us) (Q:=fun ps H3=>Q ((u,.int i)::ps) H3) h
theorem wO {K:Frag}{gl:Nat->D}{l:List (Nat×Int)}{us:List (V×Int)}(r:Paired (fun (q:Nat×Int) (u:V×Int)=>q.2=u.2/\∀ H,Rep K H (gl q.1) u.1 []) l us) :
  ∀{ks ks':List (Int×MV)}{xs:List (Key×V)},mD gl l ks=some ks'->(∀ H,gX K H ks xs)->∃ kvs:List (Key×V),(us.map fun q=>(q.1,(.int q.2:V)))=kvs.map (fun kv=>(kV kv.1,kv.2))/\kvs.length=l.length/\∀ H,gX K H ks' (fD xs kvs):=by
 induction r with
 |nil=>intro ks ks' xs h k;cases h;exact⟨[],rfl,rfl,k⟩
 |@cons q u l us h0 t ih =>
  intro ks ks' xs h k;unfold mD at h;split at h
  ·rename_i i hi;have r1:=h0.2 fun _=>none
   rw[hi] at r1;obtain⟨e,_⟩:=r1.int_inv;obtain⟨kvs,e1,e2,e3⟩:=ih (xs:=putK xs (.inl i) (.int q.2)) h (fun H=>(k H).put i (m:=.int q.2) rfl);refine⟨(.inl i,.int q.2)::kvs,?_,by rw[ag,ag,e2],e3⟩;rw[aw,aw,e1,<-h0.1,e];rfl
  ·cases h
theorem AQ (C:Ctx X S T){pos:Pos}{ks:List (Option Expr)}{vs:List Expr}{l:List (Nat×Int)}(h:tY S ks vs=some l)(h0:ks≠[])(h15:ks.length<=15):PE X (.Dict ks vs pos) (tE X.K T (.ddsp l)):=by
 obtain⟨us,g1,g2,g3,g4,g5⟩:=pj C (pos:=pos) h;refine be (xH g1 g3 g4 h0 h15) fun σ H Q ⟨P,env,F,re,p,hev,k⟩=>?_
 unfold ev at hev;obtain⟨ks',h1,hev⟩:=Rs.bind_ok hev;cases hev;intro a ha;obtain⟨kvs,e1,e2,e3⟩:=wO g2 (cB h1) (xs:=[]) fun _=>trivial
 refine mG ⟨aM,kvs,e1,by omega,?_⟩;have eu:upd (upd H a (.dK [])) a (.dK (fD [] kvs))=upd H a (.dK (fD [] kvs)):=by
  funext b;by_cases e:b=a
  ·rw[e,aM,aM]
  ·rw[aJ e,aJ e,aJ e]
 rw[eu];refine k _ _ [a] (aI.new ha) (.mpi (xs:=fD [] kvs) aM (e3 _)) ⟨fun b hb=>?_,fun R hR=>⟨by simp,fun b hb=>?_,fun b hb=>?_⟩⟩
 ·obtain rfl:=gh.mp hb;exact .inl ha
 ·obtain rfl:=gh.mp hb;exact⟨.k _,aM⟩
 ·obtain rfl:=gh.mp hb;exact .inl ha
theorem rF {b e:Expr}(h:oY b=some e):∃ q,b = .List [e] q/\∀ env,starEach [e] env=(false,eval e env)::starEach [] env:=by
 unfold oY at h;split at h
 ·split at h
  ·split at h
   ·cases h;exact⟨_,rfl,fun _=>rfl⟩
   ·cases h
  ·cases h
 ·cases h
theorem vJ {a e:Expr}{ca ce:Ex}{pos q:Pos}(ha:PE X a (tE X.K T ca))(he:PE X e (tE X.K T ce))(hs:∀ env,starEach [e] env=(false,eval e env)::starEach [] env):PE X (.BinOp a .Add (.List [e] q) pos) (tE X.K T (.snoc ca ce)):=by
 refine be (xZ qk ha (sD (jz he oD (hs _)))) fun σ H Q ⟨P,env,F,re,p,hev,k⟩=>?_
 unfold ev at hev;obtain⟨x,h1,hev⟩:=Rs.bind_ok hev;obtain⟨y,h2,hev⟩:=Rs.bind_ok hev;obtain⟨d,h3,hev⟩:=Rs.bind_ok hev;cases hev;have h3:=cB h3;obtain⟨x1,xr⟩:=x;obtain⟨y1,yr⟩:=y;unfold sO at h3;dsimp only at h3;split at h3
 ·rename_i xs;split at h3
  ·rename_i hc;cases h3;rw[ah,bf] at hc;refine⟨P,env,F,re,_,h1,fun v H1 G1 s1 r1 t1=>?_⟩;obtain⟨pa,vs,G1',rfl,rfl,a1,a2⟩:=r1.lst_inv;have eG:G1'=[]:=a2.flat hc.1;subst eG;refine⟨P,env,F,re.same s1,_,h2,fun u H2 G2 s2 r2 t2=>⟨(show (1:Nat)<=sizeLine by decide),fun p' hp'=>?_⟩⟩;obtain⟨nd,ml,nw⟩:=t2.mv [] rfl;have s3:=aI.new (o:=.lst [u]) hp';have a1':Rd (upd H2 p' (.lst [u])) pa (.lst vs):=by
    rcases a1 with q | ⟨o,q⟩
    ·exact .inl ((s2.trans s3) _ _ q)
    ·exact .inr ⟨o,(s2.trans s3) _ _ q⟩
   refine⟨pa,p',vs,[u],rfl,rfl,a1',.inl aM,?_,fun q0 hq0=>?_⟩
   ·have hl:=a2.len;rw[<-hl];exact eD hc.2
   ·have s4:=aI.new (o:=.lst (vs ++ [u])) hq0;have sAll:=s1.trans (s2.trans (s3.trans s4));have new1:∀ z∈G2,H z=none:=fun z hz=>by
     rcases nw z hz with w | ⟨i,_,_,hi,_⟩
     ·exact aI.no s1 w
     ·cases hi
    have nn2:∀ z∈G2,H2 z≠none:=fun z hz=>by
     obtain⟨m,e⟩:=ml z hz;rw[e];simp
    refine k (.ref q0) _ (q0::G2) sAll (.lst (.inl aM) ?_) ⟨fun z hz=>?_,fun R hR=>⟨?_,fun z hz=>?_,fun z hz=>?_⟩⟩
    ·have ra:=a2.same (s2.trans (s3.trans s4));have rb:=r2.same (s3.trans s4);have:=ra.append (.cons rb .nil)
     rwa [fh,ba] at this
    ·rcases gp.mp hz with rfl | hz
     ·exact .inl (aI.no (s1.trans (s2.trans s3)) hq0)
     ·exact .inl (new1 z hz)
    ·refine List.nodup_cons.mpr ⟨fun hz=>?_,nd⟩;have:=aI.no s3 hq0;exact nn2 q0 hz this
    ·rcases gp.mp hz with rfl | hz
     ·exact⟨.l _,aM⟩
     ·obtain⟨m,e⟩:=ml z hz;exact⟨m,(s3.trans s4) z _ e⟩
    ·rcases gp.mp hz with rfl | hz
     ·exact .inl (aI.no (s1.trans (s2.trans s3)) hq0)
     ·exact .inl (new1 z hz)
  ·cases h3
 ·cases h3
theorem dY:∀(n:Nat) {X:Cx}{S:Sc}{T:Tb}(C:Ctx X S T) (e:Expr) (c:Ex),cE n S e=some c->SE X T e c:=by
 intro n
 induction n with
 |zero=>intro X S T C e c h;cases h
 |succ n ih =>
  intro X S T C e c h;have ihX:=ih C;cases e with
  |Name x p =>
   have h:ug S x=some c:=h;unfold ug at h;by_cases hn:cJ x=true
   ·rw[if_pos hn] at h;obtain⟨n1,n2,n3⟩:=cI hn;by_cases hv:nj S.sc x=true
    ·rw[if_pos hv,aa] at h;obtain⟨i,h1,rfl⟩:=h;have hi:=bL h1;rw[<-C.N] at hi;have:=AV (T:=T) (pos:=p) hi (C.vis x hv) n1 n2;exact⟨this,bP this fun _=>rfl⟩
    ·rw[if_neg hv] at h;by_cases hg:nJ S.sc x=true
     ·rw[if_pos hg,aa] at h;obtain⟨i,h1,rfl⟩:=h;obtain⟨v,u,g1,g2,g3⟩:=C.pQ i x h1;have:=AJ (pI (pos:=p) (C.gl x hg) g1 g2 n1) g3;exact⟨this,bP this fun _=>rfl⟩
     ·rw[if_neg hg] at h;cases h
   ·rw[if_neg hn] at h;cases h
  |Constant k x1 p =>
   have h:BG k=some c:=h;cases k with
   |int i=>cases h;exact⟨gK (T:=T) nP fun H=>Rep.int _,bP (gK (T:=T) nP fun H=>Rep.int _) fun _=>rfl⟩
   |bool b=>cases h;exact⟨gK (T:=T) xW fun H=>Rep.bl _,bP (gK (T:=T) xW fun H=>Rep.bl _) fun _=>rfl⟩
   |none=>cases h;exact⟨gK (T:=T) vi fun H=>Rep.non,bP (gK (T:=T) vi fun H=>Rep.non) fun _=>rfl⟩
   |str s=>cases h;exact⟨gK (T:=T) tw fun H=>Rep.str _,bP (gK (T:=T) tw fun H=>Rep.str _) fun _=>rfl⟩
   |_=>cases h
  |BinOp a op b p =>
   have h:As (cE n S) a op b=some c:=h;unfold As at h;cases hlt:oY b with
   |none =>
    rw[hlt] at h;dsimp only at h;rw[ab] at h;obtain⟨ca,h1,h⟩:=h;rw[aa] at h;obtain⟨cb,h2,rfl⟩:=h;have:=Ah (pos:=p) (vY op) (ihX a ca h1).1 (ihX b cb h2).1;exact⟨this,bP this fun _=>rfl⟩
   |some e =>
    rw[hlt] at h;dsimp only at h;by_cases ho:isAdd op=true
    ·rw[if_pos ho] at h;rw[ab] at h;obtain⟨ca,h1,h⟩:=h;rw[aa] at h;obtain⟨ce,h2,rfl⟩:=h;obtain⟨q,hq,hse⟩:=rF hlt;have ho:op = .Add:=by cases op<;>first | rfl | (cases ho)
     subst ho;rw[hq];have:=vJ (pos:=p) (q:=q) (ihX a ca h1).1 (ihX e ce h2).1 hse;exact⟨this,bP this fun _=>rfl⟩
    ·rw[if_neg ho] at h;cases h
  |UnaryOp op a p =>
   have h:cUn op (cE n S a)=some c:=h;cases op with
   |USub =>
    have h:(cE n S a).map .neg=some c:=h;rw[aa] at h;obtain⟨ca,h1,rfl⟩:=h;have:=y2 (pos:=p) (ihX a ca h1).1;exact⟨this,bP this fun _=>rfl⟩
   |Not =>
    have h:(cE n S a).map .not=some c:=h;rw[aa] at h;obtain⟨ca,h1,rfl⟩:=h;exact⟨Ad (ihX a ca h1).1,Af (ihX a ca h1).2⟩
   |_=>cases h
  |BoolOp op es p =>
   have h:B4 (cE n S) op es=some c:=h;have ⟨h1,h2⟩:=xS (pos:=p) ihX h;exact⟨h1,h2.pt⟩
  |Compare a ops bs p =>
   have h:CG (cE n S) a ops bs=some c:=h;cases ops with
   |nil=>cases h
   |cons op r=>cases r with
    |nil=>cases bs with
     |nil=>cases h
     |cons b r2=>cases r2 with
      |cons _ _=>cases h
      |nil =>
       have h:uh (cE n S) a op b=some c:=h;unfold uh at h;by_cases hb:behindInMarks op b=true
       ·rw[if_pos hb] at h;cases h
       ·rw[if_neg hb] at h;have hb:behindInMarks op b=false:=by simpa using hb
        rw[ab] at h;obtain⟨ca,h1,h⟩:=h;rw[aa] at h;obtain⟨cb,h2,rfl⟩:=h;exact⟨yQ (ph op C.units) (ihX a ca h1).1 (ihX b cb h2).1 hb,yu C.units (ihX a ca h1).1 (ihX b cb h2).1 hb⟩
    |cons op' r2=>cases r2 with
     |cons _ _=>cases bs<;>cases h
     |nil=>cases bs with
      |nil=>cases h
      |cons b r3=>cases r3 with
       |nil=>cases h
       |cons d r4=>cases r4 with
        |cons _ _=>cases h
        |nil =>
         have h:xX (cE n S) a op op' b d=some c:=h;cases h
  |IfExp t a b p =>
   have h:((cE n S t).bind fun cc=>(cE n S a).bind fun ca=>(cE n S b).map fun cb=>.ite cc ca cb)=some c:=h;rw[ab] at h;obtain⟨cc,h1,h⟩:=h;rw[ab] at h;obtain⟨ca,h2,h⟩:=h;rw[aa] at h;obtain⟨cb,h3,rfl⟩:=h;exact⟨AX (ihX t cc h1).2 (ihX a ca h2).1 (ihX b cb h3).1,zm (ihX t cc h1).2 (ihX a ca h2).2 (ihX b cb h3).2⟩
  |List es p =>
   have h:(cP (cE n S) es).map .lst=some c:=h;rw[aa] at h;obtain⟨cs,h1,rfl⟩:=h;have:=yR (pos:=p) (dB ihX h1);exact⟨this,bP this fun _=>rfl⟩
  |Dict ks vs p =>
   have h:yX S ks vs=some c:=h;unfold yX at h;split at h
   ·cases h
   ·split at h
    ·rename_i hl;obtain⟨l,h1,rfl⟩:=aa.mp h;have:=AQ (pos:=p) C h1 (by simp) hl;exact⟨this,bP this fun _=>rfl⟩
    ·cases h
   ·cases h
  |Tuple es x1 p =>
   have h:(cP (cE n S) es).map .tup=some c:=h;rw[aa] at h;obtain⟨cs,h1,rfl⟩:=h;have:=Ax (pos:=p) (x1:=x1) (dB ihX h1);exact⟨this,bP this fun _=>rfl⟩
  |Subscript a b p =>
   have h:yd (cE n S) a b=some c:=h;by_cases hb:gE b=true
   ·have h:(if gE b then (cE n S a).bind fun ca=>(cE n S b).map fun cb=>.ix ca cb else none)=some c:=by
     cases b<;>first | exact h | cases hb
    rw[if_pos hb] at h;rw[ab] at h;obtain⟨ca,h1,h⟩:=h;rw[aa] at h;obtain⟨cb,h2,rfl⟩:=h;have:=Bl (pos:=p) (xI C.units.2) (ihX a ca h1).1 (ihX b cb h2).1 (t8 hb);exact⟨this,bP this fun _=>rfl⟩
   ·cases b with
    |Slice lo hi st p2 =>
     cases st with
     |none =>
      have h:((cE n S a).bind fun ca=>(tG (cE n S) lo).bind fun l=>(tG (cE n S) hi).map fun h=>.sl ca l h)=some c:=h;rw[ab] at h;obtain⟨ca,h1,h⟩:=h;rw[ab] at h;obtain⟨cl,h2,h⟩:=h;rw[aa] at h;obtain⟨ch,h3,rfl⟩:=h;have:=Bf (pos:=p) (p2:=p2) (ihX a ca h1).1 (sE ihX h2) (sE ihX h3);exact⟨this,bP this fun _=>rfl⟩
     |some _=>cases h
    |_=>exact absurd rfl hb
  |Call g es ks pos =>
   have h:tM S (cE n S) g es ks pos=some c:=h;cases g with
   |Name x p =>
    have h:tf S (cE n S) x es ks=some c:=h;cases ks with
    |nil =>
     have h:pH S (cE n S) x es=some c:=h;have:=wJ (p:=p) (pos:=pos) C ihX h;exact⟨this,bP this fun _=>rfl⟩
    |cons k r=>cases r with
     |cons _ _=>obtain⟨_,_,_⟩:=k;cases h
     |nil =>
      obtain⟨k,d,kp⟩:=k;cases k with
      |none=>cases h
      |some kn=>cases es with
       |nil=>cases h
       |cons a r2=>cases r2 with
        |cons _ _=>cases h
        |nil =>
         have h:sd S (cE n S) x a d kn=some c:=h;have:=wu (p:=p) (kp:=kp) (pos:=pos) C ihX h;exact⟨this,bP this fun _=>rfl⟩
   |Attribute o name apos =>
    cases ks with
    |nil =>
     have h:vx (cE n S) o name es apos pos=some c:=h;have:=y0 (apos:=apos) (cpos:=pos) ihX h;exact⟨this,bP this fun _=>rfl⟩
    |cons _ _=>cases h
   |_=>cases h
  |ListComp elt gens sc pos =>
   have h:cLC S (cE n) elt sc gens=some c:=h;cases gens with
   |nil=>cases h
   |cons g r=>cases r with
    |cons _ _=>obtain⟨_,_,_,_⟩:=g;cases h
    |nil =>
     obtain⟨tg,iter,ifs,as⟩:=g;have h:(if as=0 then mI S (cE n) elt tg iter ifs sc else none)=some c:=h;by_cases ha:as=0
     ·rw[if_pos ha] at h;subst ha;have:=xK (pos:=pos) C (jW C (fun C'=>ih C') h);exact⟨this,bP this fun _=>rfl⟩
     ·rw[if_neg ha] at h;cases h
  |_=>cases h
end
section
variable {X:Cx}{T:Tb}
end
structure rg (X:Cx)(S:Sc)(T:Tb):Prop where
 c:Ctx X S T
 sc:X.env.scope=S.sc
 fn:S.sc.kind = .function
 own:PassesOwn (model X.prog X.w) X.A X.env X.xe
noncomputable def ya (m:Str):Option mO:=if m = "append" then some .append else if m = "extend" then some .extend else none
noncomputable def uN (m:Str):Option mO:=none
noncomputable def jk (n:Nat)(S:Sc):Expr->Option (Nat×kj)
 |.Name x _=>if cJ x&&nj S.sc x then (idxOf S.N x).map fun i=>(i,.none) else none
 |_=>none
noncomputable def uK:Expr->Bool
 | .Constant (.bool true) _ _=>true
 |.Tuple _ _ _=>true
 |.IfExp _ _ _ _=>true
 |_=>false
noncomputable def mvB (x:Str):Expr->Bool
 |.Name y _=>x==("_law_best" : Str)&&y==("_law_way" : Str)
 |_=>false
noncomputable def vT (n:Nat)(S:Sc)(tg e:Expr):Option St:=match tg with
 |.Name x px=>match e with
  |.ListComp elt [⟨tg',iter,ifs,0⟩] sc p=>if ja S.sc x then (idxOf S.N x).bind fun i=>(cE n S (.ListComp elt [⟨tg',iter,ifs,0⟩] sc p)).map fun c=>.asg (.nm i) c false else none
  |e=>if eN e then none else if ja S.sc x then (idxOf S.N x).bind fun i=>(cE n S e).map fun c=>.asg (.nm i) c (mvB x e) else none
 |.Tuple es k p=>if eN e || isTup e then none else (jP S es).bind fun is=>(cE n S e).map fun c=>.asg (.tp is) c false
 |.Subscript o ix p=>if uK e then (if gE ix then (match jk n S o with
   | some (i,.none)=>(cE n S ix).bind fun ci=>(cE n S e).map fun ce=>.putd i ci ce
   |_=>none) else none) else if eN e || !gE ix then none else (jk n S o).bind fun q=>(cE n S ix).bind fun ci=>(cE n S e).map fun c=>.setix q.1 q.2 ci c
 |_=>none
noncomputable def wN (n:Nat)(S:Sc)(o:Expr)(name:Str)(es:List Expr)(apos cpos:Pos):Option St :=
 if apos.endLine==cpos.line then (if es.isEmpty then (uN name).bind fun m=>(jk n S o).map fun q=>.mut q.1 q.2 m .nil else (ya name).bind fun m=>(jk n S o).bind fun q=>match es with
  |[a]=>(cP (cE n S) [a]).map fun cs=>.mut q.1 q.2 m cs
  |[a,b]=>(cP (cE n S) [a,b]).map fun cs=>.mut q.1 q.2 m cs
  |_=>none)
 else none
noncomputable def qb (n:Nat)(S:Sc)(o:Expr)(name:Str)(es:List Expr)(apos cpos:Pos):Option St:=match es with
 |_=>none
noncomputable def cAug (n:Nat)(S:Sc)(tg:Expr)(op:Operator)(e:Expr):Option St:=none
noncomputable def wZ (n:Nat)(S:Sc)(tg e:Expr):Option St:=none
noncomputable def AZ (n:Nat)(S:Sc)(e:Expr):Option St:=if eN e then none else (cE n S e).map .expr
noncomputable def CO (n:Nat)(S:Sc):Expr->Option St
 |.Constant k x1 p=>(match k with
  |.str _=>some .pass
  |k=>AZ n S (.Constant k x1 p))
 |.Call g es ks cpos=>(match g with
  |.Attribute o name apos=>(match ks with
   |[]=>(match qb n S o name es apos cpos with
    |some c=>some c
    |none=>wN n S o name es apos cpos)
   |k::ks=>AZ n S (.Call (.Attribute o name apos) es (k::ks) cpos))
  |g=>AZ n S (.Call g es ks cpos))
 |e=>AZ n S e
noncomputable def cAs (n:Nat)(S:Sc)(e:Expr):List Expr->Option St
 |[]=>none
 |[tg]=>(match wZ n S tg e with
  |some c=>some c
  |none=>vT n S tg e)
 |_::_::_=>none
noncomputable def cRet (n:Nat)(S:Sc):Option Expr->Option St
 |none=>some .retN
 |some e=>(cE n S e).map .ret
noncomputable def pF:kE->cG->Option Nat
 |_,_=>none
theorem uB {t:kE}{cb:cG}{x:Nat}(h:pF t cb=some x):t = .nm x:=by
 cases h
noncomputable def Cw (n:Nat)(S:Sc)(tg iter:Expr)(ob:Option cG):List Stmt->Option St
 |[]=>if fE iter then (qN S tg).bind fun t=>ob.bind fun cb=>(match pF t cb with
  |some x=>(cE n S iter).map fun c=>.forw x c cb
  |none=>(A4 S (cE n S) (isTup tg) iter).map fun it=>.forr t it cb) else none
 |_::_=>none
noncomputable def CP (S:Sc):Expr->Option St->Option St
 |_,o=>o
theorem t9 {S:Sc}{e:Expr}{o:Option St}{c:St}(h:CP S e o=some c):o=some c:=h
noncomputable def cWhl (n:Nat)(S:Sc)(e:Expr)(ob:Option cG):List Stmt->Option St
 |[]=>(cE n S e).bind fun c=>ob.map fun cb=>.whl c cb
 |_::_=>none
mutual
noncomputable def cS:Nat->Sc->Stmt->Option St
 |0,_,_=>none
 |n+1,S,st=>match st with
  |.Assign tgs e _=>cAs n S e tgs
  |.AugAssign tg op e _=>cAug n S tg op e
  |.Expr e _=>CO n S e
  |.Return o _=>cRet n S o
  |.If e a b _=>(cE n S e).bind fun c=>(pb n S a).bind fun ca=>(pb n S b).map fun cb=>.ite c ca cb
  |.For tg iter b oe _=>CP S iter (Cw n S tg iter (pb n S b) oe)
  |.While e b oe _=>cWhl n S e (pb n S b) oe
  |.Pass _=>some .pass
  |.Raise _ _ _=>some (.expr (.neg (.cst .non)))
  |_=>none
noncomputable def pb:Nat->Sc->List Stmt->Option cG
 |0,_,_=>none
 |_+1,_,[]=>some .nil
 |n+1,S,s::r=>(cS n S s).bind fun c=>(pb n S r).map fun d=>.cons c d
end
theorem mE {e:Expr}{t:Option Expr}{l:Nat}{env:Env}(h:eN e=false):swapsWith e t l env=pure false:=by
 cases e<;>first | rfl | (cases h)
theorem kS {e t:Expr}{l:Nat}{env:Env}(h:eN e=false):swapsWithSole [t] e l env=pure false:=mE h
section
variable {X:Cx}{S:Sc}{T:Tb}
theorem xu {st:Stmt}:PS X st (tS X.K T (.expr (.neg (.cst .non)))):=by
 intro pins s σ H D I h;obtain⟨P,Z,env,F,re,hz,zp,h⟩:=h;exact h.elim
theorem iC (C:Ctx X S T){n:Nat}{o:Expr}{q:Nat×kj}(h:jk n S o=some q):PE X o (jT X.K T q.1 q.2):=by
 unfold jk at h;split at h
 ·rename_i x p;by_cases hk:(cJ x&&nj S.sc x)=true
  ·rw[if_pos hk,aa] at h;rw[ah] at hk;obtain⟨i,h1,rfl⟩:=h;obtain⟨n1,n2,n3⟩:=cI hk.1;have hi:=bL h1;rw[<-C.N] at hi;exact zC hi (C.vis x hk.2) n1 n2
  ·rw[if_neg hk] at h;cases h
 ·cases h
theorem jb {n:Nat}{o:Expr}{q:Nat×kj}{name:Str}{env:Env}(h:jk n S o=some q):attributeBase o name env (eval o env)=eval o env:=by
 unfold jk at h;split at h
 ·rfl
 ·cases h
theorem AW (C:rg X S T){n:Nat}{tg e:Expr}{c:St}{pos:Pos}(h:vT n S tg e=some c):PS X (.Assign [tg] e pos) (tS X.K T c):=by
 have hN:=C.c.nd;rw[<-C.c.N] at hN;unfold vT at h;split at h
 ·rename_i x px;split at h
  ·rename_i elt tg' iter ifs sc p;by_cases hl:ja S.sc x=true
   ·rw[if_pos hl,ab] at h;obtain⟨i,h1,h⟩:=h;rw[aa] at h;obtain⟨ce,h2,rfl⟩:=h;have hi:=bL h1;rw[<-C.c.N] at hi;have hsw:swapsWith (.ListComp elt [⟨tg',iter,ifs,0⟩] sc p) (some (.Name x px)) pos.line X.env=pure (X.env.blockKind == .function&&X.env.kindOf x==some .local&&px.line==p.line && !(sc.names.any fun (n,k)=>n==x&&(k == .local || k == .cell))):=rfl;cases hb:(X.env.blockKind == .function&&X.env.kindOf x==some .local&&px.line==p.line && !(sc.names.any fun (n,k)=>n==x&&(k == .local || k == .cell))) with
    |false =>
     rw[hb] at hsw;exact t4 hN hi (C.c.loc x hl).1 (dY n C.c _ _ h2).1 hsw (C.c.loc x hl).2
    |true =>
     rw[hb] at hsw;cases n with
     |zero=>cases h2
     |succ n =>
      have h2:mI S (cE n) elt tg' iter ifs sc=some ce:=h2;obtain⟨pick,t,it,ci,ce',rfl,g1,g2,g3,g4,g5⟩:=jW C.c (fun C'=>dY n C') h2;refine cA (oB g1 C.c.calm g2 g3 (kJ (qh g4)) (oE g5) hN hi (C.c.loc x hl).1 (C.c.loc x hl).2 hsw) fun D σ H h=>?_
      obtain⟨P,Z,env,F,re,hz,zp,h⟩:=h;unfold aY at h;obtain⟨p,hp,h⟩:=bJ h;exact kH ⟨P,env,F,re,p,hp,fun v H' G s rp rt=>sS re hz zp s rp rt h⟩
   ·rw[if_neg hl] at h;cases h
  ·by_cases hc:eN e=true
   ·rw[if_pos hc] at h;cases h
   ·rw[if_neg hc] at h;by_cases hl:ja S.sc x=true
    ·rw[if_pos hl,ab] at h;obtain⟨i,h1,h⟩:=h;rw[aa] at h;obtain⟨ce,h2,rfl⟩:=h;have hi:=bL h1;rw[<-C.c.N] at hi;exact t4 hN hi (C.c.loc x hl).1 (dY n C.c _ _ h2).1 (mE (by simpa using hc)) (C.c.loc x hl).2
    ·rw[if_neg hl] at h;cases h
 ·rename_i es k p;by_cases hc:(eN e || isTup e)=true
  ·rw[if_pos hc] at h;cases h
  ·rw[if_neg hc,ab] at h;simp only[Bool.or_eq_true,not_or,Bool.not_eq_true] at hc;obtain⟨is,h1,h⟩:=h;rw[aa] at h;obtain⟨ce,h2,rfl⟩:=h;obtain⟨a1,a2,a3⟩:=mK C.c h1;refine wU (um C.c.calm a1 a2 a3) (dY n C.c _ _ h2).1 (kS hc.1) ?_ rfl;obtain⟨_,hc⟩:=hc;cases e<;>first | rfl | (cases hc)
 ·rename_i o ix p;by_cases ht:uK e=true
  ·rw[if_pos ht] at h;by_cases hp:gE ix=true
   ·rw[if_pos hp] at h;split at h
    ·rename_i i hq;rw[ab] at h;obtain⟨ci,h2,h⟩:=h;rw[aa] at h;obtain⟨ce,h3,rfl⟩:=h;have hpth:PE X o (jT X.K T i .none):=iC C.c hq;refine cA (uZ ?_ hpth (dY n C.c _ _ h2).1 (dY n C.c _ _ h3).1 ?_) fun D σ H h=>qx h
     ·have:=C.c.units;omega
     ·cases e<;>first | rfl | (cases ht)
    ·cases h
   ·rw[if_neg hp] at h;cases h
  rw[if_neg ht] at h;by_cases hc:(eN e || !gE ix)=true
  ·rw[if_pos hc] at h;cases h
  ·rw[if_neg hc,ab] at h;simp only[Bool.or_eq_true,not_or,Bool.not_eq_true,Bool.not_eq_false'] at hc;obtain⟨q,h1,h⟩:=h;rw[ab] at h;obtain⟨ci,h2,h⟩:=h;rw[aa] at h;obtain⟨ce,h3,rfl⟩:=h;refine cA (tZ (dY n C.c _ _ h3).1 (yZ (iC C.c h1) (dY n C.c _ _ h2).1 set_list ?_) (kS hc.1) ?_ rfl) fun D σ H h=>tR h
   ·intro v;obtain⟨_,hc⟩:=hc;cases ix<;>first | rfl | (cases hc)
   ·cases e<;>rfl
 ·cases h
theorem AG (C:rg X S T){n:Nat}{o:Expr}{name:Str}{es:List Expr}{c:St}{apos cpos pos:Pos}(h:wN n S o name es apos cpos=some c):PS X (.Expr (.Call (.Attribute o name apos) es [] cpos) pos) (tS X.K T c):=by
 unfold wN at h;by_cases hl:(apos.endLine==cpos.line)=true
 ·rw[if_pos hl] at h;by_cases he:es.isEmpty=true
  ·rw[if_pos he,ab] at h;have he:es=[]:=by simpa using he
   subst he;obtain⟨m,hm,h⟩:=h;rw[aa] at h;obtain⟨q,hq,rfl⟩:=h;have slot:∃ id,PySem.Slot "list" name id/\typeOf (.builtin id)=pure (.type "method_descriptor")/\Ci X id (qT X.K m):=by
    unfold uN at hm;cases hm
   obtain⟨id,s1,s2,s3⟩:=slot;exact cA (jr (Ap gq s1 s2 s3 (iC C.c hq) (jb hq) hl) rfl) fun D σ H h=>qV h
  rw[if_neg he,ab] at h;obtain⟨m,hm,h⟩:=h;rw[ab] at h;obtain⟨q,hq,h⟩:=h;have slot:∃ id,PySem.Slot "list" name id/\typeOf (.builtin id)=pure (.type "method_descriptor")/\Ci X id (qT X.K m):=by
   unfold ya at hm;split at hm
   ·rename_i e;cases hm;subst e;exact⟨_,PySem.F.slot_list_append,by rfl,oJ⟩
   split at hm
   ·rename_i e;cases hm;subst e;exact⟨_,PySem.F.slot_list_extend,by rfl,nO⟩
   cases hm
  obtain⟨id,s1,s2,s3⟩:=slot;split at h
  ·rename_i a;rw[aa] at h;obtain⟨cs,ha,rfl⟩:=h;obtain⟨n1,c1,d1,_,hd,_⟩:=bG ha;refine cA (jr (uP gq s1 s2 s3 (iC C.c hq) (dB (dY n C.c) ha) (jb hq) ?_ hl (bF n1) (cY hd)) rfl) fun D σ H h=>jV h
   rw[bF n1];rfl
  ·rename_i a b;rw[aa] at h;obtain⟨cs,ha,rfl⟩:=h;obtain⟨n1,c1,d1,_,hd,_⟩:=bG ha;obtain⟨n2,_,_,_,_,_⟩:=bG hd;refine cA (jr (uP gq s1 s2 s3 (iC C.c hq) (dB (dY n C.c) ha) (jb hq) ?_ hl (bF n1) (cY hd)) rfl) fun D σ H h=>jV h
   rw[bF n1,bF n2];rfl
  ·cases h
 ·rw[if_neg hl] at h;cases h
theorem vN (C:rg X S T){n:Nat}{o:Expr}{name:Str}{es:List Expr}{c:St}{apos cpos pos:Pos}(h:qb n S o name es apos cpos=some c):PS X (.Expr (.Call (.Attribute o name apos) es [] cpos) pos) (tS X.K T c):=by
 cases h
theorem zl (C:rg X S T){n:Nat}{tg e:Expr}{c:St}{pos:Pos}(h:wZ n S tg e=some c):PS X (.Assign [tg] e pos) (tS X.K T c):=by
 cases h
theorem CF (C:rg X S T):∀(n:Nat),(∀(st:Stmt) (c:St),cS n S st=some c->PS X st (tS X.K T c))/\∀(l:List Stmt) (c:cG),pb n S l=some c->km X l (xR X.K T c):=by
 intro n
 induction n with
 |zero=>exact⟨fun st c h=>(by cases h),fun l c h=>(by cases h)⟩
 |succ n ih =>
  obtain⟨i1,i2⟩:=ih;refine⟨fun st c h=>?_,fun l c h=>?_⟩
  ·cases st with
   |Assign tgs e p =>
    have h:cAs n S e tgs=some c:=h;cases tgs with
    |nil=>cases h
    |cons tg r=>cases r with
     |cons _ _=>cases h
     |nil =>
      have h:(match wZ n S tg e with
       |some c=>some c
       |none=>vT n S tg e)=some c:=h
      cases hp:wZ n S tg e with
      |some c'=>rw[hp] at h;cases h;exact zl C hp
      |none=>rw[hp] at h;exact AW C h
   |AugAssign tg op e p=>cases h
   |Expr e p =>
    have h:CO n S e=some c:=h;have plain:AZ n S e=some c->PS X (.Expr e p) (tS X.K T c):=fun h=>by
     unfold AZ at h;by_cases hc:eN e=true
     ·rw[if_pos hc] at h;cases h
     ·rw[if_neg hc,aa] at h;obtain⟨ce,h1,rfl⟩:=h;exact wj (dY n C.c _ _ h1).1 (mE (by simpa using hc))
    cases e with
    |Constant k x1 q=>cases k with
     |str s=>cases h;exact Aw
     |_=>exact plain h
    |Call g es ks q=>cases g with
     |Attribute o name apos=>cases ks with
      |nil =>
       have h:(match qb n S o name es apos q with
        |some c=>some c
        |none=>wN n S o name es apos q)=some c:=h
       cases ha:qb n S o name es apos q with
       |some c'=>rw[ha] at h;cases h;exact vN C ha
       |none=>rw[ha] at h;exact AG C h
      |cons k ks=>exact plain h
     |_=>exact plain h
    |_=>exact plain h
   |Return o p=>cases o with
    |none=>cases h;exact wD
    |some e =>
     have h:(cE n S e).map .ret=some c:=h;rw[aa] at h;obtain⟨ce,h1,rfl⟩:=h;exact yH (dY n C.c _ _ h1).1
   |If e a b p =>
    have h:((cE n S e).bind fun c=>(pb n S a).bind fun ca=>(pb n S b).map fun cb=>St.ite c ca cb)=some c:=h;rw[ab] at h;obtain⟨cc,h1,h⟩:=h;rw[ab] at h;obtain⟨ca,h2,h⟩:=h;rw[aa] at h;obtain⟨cb,h3,rfl⟩:=h;exact AO (dY n C.c _ _ h1).2 (i2 _ _ h2) (i2 _ _ h3)
   |For tg iter b oe p =>
    have key:∀ c,Cw n S tg iter (pb n S b) oe=some c->PS X (.For tg iter b oe p) (tS X.K T c):=by
     intro c h;cases oe with
      |cons _ _=>cases h
      |nil =>
       have h:(if fE iter then (qN S tg).bind fun t=>(pb n S b).bind fun cb=>(match pF t cb with
        |some x=>(cE n S iter).map fun c=>St.forw x c cb
        |none=>(A4 S (cE n S) (isTup tg) iter).map fun it=>St.forr t it cb) else none)=some c:=h
       by_cases hs:fE iter=true
       ·rw[if_pos hs,ab] at h;obtain⟨t,h1,h⟩:=h;rw[ab] at h;obtain⟨cb,h3,h⟩:=h;cases hx:pF t cb with
        |some x =>
         rw[hx] at h;have h:(cE n S iter).map (fun c=>St.forw x c cb)=some c:=h;rw[aa] at h;obtain⟨ci,h2,rfl⟩:=h;have ht:=uB hx;subst ht;cases hx
        |none =>
         rw[hx] at h;have h:(A4 S (cE n S) (isTup tg) iter).map (fun it=>St.forr t it cb)=some c:=h;rw[aa] at h;obtain⟨it,h2,rfl⟩:=h;exact AK C.own C.c.calm (yl C.c (dY n C.c) h2) (tz C.c h1) (i2 _ _ h3) (oE hs)
       ·rw[if_neg hs] at h;cases h
    exact key c (t9 (S:=S) (e:=iter) h)
   |While e b oe p=>cases oe with
    |cons _ _=>cases h
    |nil =>
     have h:((cE n S e).bind fun c=>(pb n S b).map fun cb=>St.whl c cb)=some c:=h;rw[ab] at h;obtain⟨cc,h1,h⟩:=h;rw[aa] at h;obtain⟨cb,h3,rfl⟩:=h;exact Al C.own (dY n C.c _ _ h1).2 (i2 _ _ h3)
   |Pass p=>cases h;exact xk
   |Raise a b p=>cases h;exact xu
   |_=>cases h
  ·cases l with
   |nil=>cases h;exact wI
   |cons st r =>
    unfold pb at h;rw[ab] at h;obtain⟨cc,h1,h⟩:=h;rw[aa] at h;obtain⟨cb,h3,rfl⟩:=h;exact rP (i1 _ _ h1) (i2 _ _ h3)
end
structure Df where
 nm:Str
 st:Stmt
 ps:List Str
 N:List Str
 body:cG
structure Pg where
 dfs:List Df
 pQ:List Str
 eY:List Str
 gl:Nat->D
 fuel:Nat
noncomputable def Pg.fns (p:Pg):List Fn:=p.dfs.map fun d=>⟨d.ps.length,d.N.length,d.body⟩
noncomputable def Pg.run (p:Pg):Nat->Nat->List D->Rs (D×Bool):=Pc.run p.fns p.gl p.fuel
noncomputable def Pg.sc (p:Pg)(d:Df):Sc:=⟨d.N,aQ d.st,p.dfs.map (·.nm),p.pQ,p.eY⟩
noncomputable def Df.okB (p:Pg)(n:Nat)(d:Df):Bool :=
 decide ((aQ d.st).kind = .function) && !(aQ d.st).isCoroutine && !(aQ d.st).isGenerator&&decide d.N.Nodup&&decide (d.N.take d.ps.length=d.ps)&&d.ps.all (fun x=>ja (aQ d.st) x)&&(aQ d.st).names.all (fun y=>decide (y.2≠.free))
structure Df.Ok (p:Pg)(d:Df):Prop where
 b:∃ n,pb n (p.sc d) (cH d.st)=some d.body
 S:jq d.N d.ps (aQ d.st)
 bd:∀(kV doc pm:Value) (an:Option Addr) (cdv ct:Value) (us:List Value),us.length=d.ps.length->bindArgs (PySem.W.fnOf d.nm d.nm (dJ d.st) (cH d.st) (aQ d.st) .none kV doc pm an cdv ct) ⟨us,[]⟩=pure (d.ps.zip us)
theorem mH {sc:Scope}{x:Str}(h:ja sc x=true):Loc sc x:=by
 unfold ja cL at h;split at h
 ·rename_i e;exact .inl e
 ·rename_i e;exact .inr e
 ·cases h
theorem rX {sc:Scope}{x:Str}(h:nj sc x=true):Av sc x:=by
 unfold nj cL at h;split at h
 ·rename_i e;exact .inl e
 ·rename_i e;exact .inr (.inl e)
 ·rename_i e;exact .inr (.inr e)
 ·cases h
theorem wt {sc:Scope}{x:Str}(h:nJ sc x=true):sc.names.lookup x=some .globalImplicit:=by
 unfold nJ cL at h;split at h
 ·rename_i e;exact e
 ·cases h
theorem len0 {P:List Value->Prop}{us:List Value}(h:us.length=0)(f:P []):P us:=by
 cases us with
 |nil=>exact f
 |cons a r=>cases h
theorem CM {P:List Value->Prop}{us:List Value}(h:us.length=1)(f:∀ a,P [a]):P us:=by
 cases us with
 |nil=>cases h
 |cons a r=>exact len0 (P:=fun r=>P (a::r)) (gv h) (f a)
theorem Cp {P:List Value->Prop}{us:List Value}(h:us.length=2)(f:∀ a b,P [a,b]):P us:=by
 cases us with
 |nil=>cases h
 |cons a r=>exact CM (P:=fun r=>P (a::r)) (gv h) (f a)
theorem BW {P:List Value->Prop}{us:List Value}(h:us.length=3)(f:∀ a b c,P [a,b,c]):P us:=by
 cases us with
 |nil=>cases h
 |cons a r=>exact Cp (P:=fun r=>P (a::r)) (gv h) (f a)
theorem len4 {P:List Value->Prop}{us:List Value}(h:us.length=4)(f:∀ a b c d,P [a,b,c,d]):P us:=by
 cases us with
 |nil=>cases h
 |cons a r=>exact BW (P:=fun r=>P (a::r)) (gv h) (f a)
theorem Df.ok_of {p:Pg}{d:Df}{n:Nat}(h:d.okB p n=true)(hb:pb n (p.sc d) (cH d.st)=some d.body)
  (bd:∀(kV doc pm:Value) (an:Option Addr) (cdv ct:Value) (us:List Value),us.length=d.ps.length->bindArgs (PySem.W.fnOf d.nm d.nm (dJ d.st) (cH d.st) (aQ d.st) .none kV doc pm an cdv ct) ⟨us,[]⟩=pure (d.ps.zip us)):d.Ok p:=by
 unfold Df.okB at h;simp only[Bool.and_eq_true,decide_eq_true_eq,Bool.not_eq_true',List.all_eq_true] at h;obtain⟨⟨⟨⟨⟨⟨h1,h2⟩,h3⟩,h4⟩,h5⟩,h6⟩,h7⟩:=h;exact⟨⟨n,hb⟩,⟨h1,h2,h3,h4,h5,fun x hx=>mH (h6 x hx),h7⟩,bd⟩
structure Pg.In (p:Pg)(K:Frag)(mg:Str->Option Value):Prop where
 fn:∀(i:Nat) (d:Df),p.dfs[i]? = some d->∃ f fd,L2.Ae K d.nm d.nm d.st f fd/\mg d.nm=some (.ref f)
 gl:∀ i x,idxOf p.pQ x=some i->∃ v u,mg x=some u/\RelV v u/\∀ H,Rep K H (p.gl i) v []
 blt:∀ x,p.eY.contains x=true->mg x=none
theorem jj {ds:List D}{n i:Nat}{d:D}{t:Tg}(h:(aO ds n)[i]? = some (some (d,t))):ds[i]? = some d/\t=cD d []:=by
 unfold aO at h;by_cases hi:i<ds.length
 ·rw[List.getElem?_append_left (by simpa using hi),List.getElem?_map] at h;rw[List.getElem?_eq_getElem hi] at h ⊢;simp only[Option.map_some,Option.some.injEq,Prod.mk.injEq] at h;obtain⟨h1,h2⟩:=h;subst h1;exact⟨rfl,h2.symm⟩
 ·rw[List.getElem?_append_right (by simpa using Nat.le_of_not_lt hi),List.getElem?_replicate] at h;split at h<;>cases h
theorem aG.parts {K:Frag}{H:Hp}:∀{ds:List D}{vs:List V}{G:List Addr},aG K H ds vs G->∃ F:Nat->List Addr,(∀ i d,ds[i]? = some d->∃ v,vs[i]? = some v/\Rep K H d v (F i))/\(∀ i,ds[i]? = none->F i=[])/\∀ i,∀ a∈F i,a∈G
 |_,_,_,.nil=>⟨fun _=>[],fun i d h=>(by simp at h),fun _ _=>rfl,fun _ _ h=>(nomatch h)⟩
 | _,_,_,.cons (d:=d) (v:=v) (ds:=ds) (vs:=vs) (G:=G1) (G':=G2) r s=>by
  obtain⟨F,h1,h2,h3⟩:=aG.parts s;refine⟨fun i=>match i with | 0=>G1 | j+1=>F j,fun i e h=>?_,fun i h=>?_,fun i a h=>?_⟩
  ·cases i with
   |zero=>cases h;exact⟨v,rfl,r⟩
   |succ j=>exact h1 j e (by simpa using h)
  ·cases i with
   |zero=>cases h
   |succ j=>exact h2 j (by simpa using h)
  ·cases i with
   |zero=>exact ay _ h
   |succ j=>exact ai _ (h3 j a h)
theorem entry {K:Frag}{H:Hp}{ds:List D}{vs:List V}{G:List Addr}{N:List Str}(hr:aG K H ds vs G)(hl:ds.length<=N.length):∃ F,RE K (fun a=>H a≠none) (aO ds N.length) (L2.start N vs) H F/\∀ i,∀ a∈F i,a∈G:=by
 obtain⟨F,h1,h2,h3⟩:=hr.parts;have flat:∀ i d t,(aO ds N.length)[i]? = some (some (d,t))->aV t=true->F i=[]:=fun i d t h o=>by
  obtain⟨e1,e2⟩:=jj h;obtain⟨v,_,rp⟩:=h1 i d e1;unfold cD at e2;by_cases hf:d.flat=true
  ·exact rp.flat hf
  ·rw[if_neg hf] at e2;subst e2;cases o
 refine⟨F,⟨?_,fun i d t h=>?_,fun i h=>?_,fun i d t h o=>?_,fun i d h a ha=>?_,fun a h=>h⟩,h3⟩
 ·simp only[aO,L2.start,List.length_append,List.length_map,List.length_replicate,hr.len]
 ·obtain⟨e1,e2⟩:=jj h;obtain⟨v,e3,rp⟩:=h1 i d e1;refine⟨v,?_,rp⟩;unfold L2.start;have hi:i<vs.length:=(List.getElem?_eq_some_iff.mp e3).1;rw[List.getElem?_append_left (by simpa using hi),List.getElem?_map,e3];rfl
 ·cases e:ds[i]? with
  |none=>exact h2 i e
  |some d =>
   refine absurd ?_ (h d (cD d []));unfold aO;have hi:i<ds.length:=(List.getElem?_eq_some_iff.mp e).1;rw[List.getElem?_append_left (by simpa using hi),List.getElem?_map,e];rfl
 ·rw[flat i d t h o];exact⟨cj,fun _ h=>(nomatch h),fun _ h=>(nomatch h)⟩
 ·rw[flat i d _ h rfl] at ha;cases ha
theorem qP {α:Type}{g:α->Str}:∀{l:List α}{x:Str}{i:Nat},idxOf (l.map g) x=some i->∃ a,l[i]? = some a/\g a=x:=by
 intro l x i h;have:=bL h;rw[List.getElem?_map,aa] at this;exact this
theorem m4 {H H':Hp}(e:iV (fun a=>H a≠none) H H'):aI H H':=fun b u h=>(e.keep b (by rw[h];exact fun z=>(by cases z))).trans h
section
variable {p:Pg}{P:Program}{w:World}{K:Frag}{mg:Str->Option Value}{base:Heap}
theorem zf (hp:∀ d∈p.dfs,d.Ok p)(hi:p.In K mg)(hh:vm w K):∀(n i:Nat) (d:Df),p.dfs[i]? = some d->∀ f fd,L2.Ae K d.nm d.nm d.st f fd->mo P w K mg base Ar n f fd d.ps (yG K d.ps.length (p.run n i)):=by
 intro n
 induction n with
 |zero =>
  intro i d hd f fd F;refine⟨fun vs H Q E h=>p7 h,fun A outer s H args us vs Q E hr he hb hv hs=>?_⟩;obtain⟨ds,G,_,_,r,h,_⟩:=hs;cases h
 |succ n ih =>
  intro i d hd f fd F;obtain⟨⟨m,hb⟩,S,_⟩:=hp d (List.mem_of_getElem? hd);refine F.ok S (fun vs H Q E h=>p7 h) fun cdv A outer s H vs Q E hr hs=>?_
  have C:rg (oA Ar P w K mg base d.N d.nm (aQ d.st) f cdv A outer s H E).nox (p.sc d) ⟨p.run n,p.gl,p.fuel⟩:=by
   refine⟨⟨rfl,S.nd,fun x h=>rX h,fun x h=>⟨mH h,.inl rfl⟩,fun x h=>wt h,fun x h=>h,?_,rfl,fun j x hj=>?_,fun j x hj=>hi.gl j x hj,fun x h=>hi.blt x h⟩,rfl,S.kind,PassesOwn.never⟩
   ·exact⟨Nat.lt_of_le_of_lt (Nat.add_le_add_left (by decide:40<=64) _) hr.units,hh⟩
   ·obtain⟨e,he,hx⟩:=qP hj;obtain⟨f',fd',F',M'⟩:=hi.fn j e he;have B':=F'.binds (hp e (List.mem_of_getElem? he)).bd;subst hx;refine⟨f',fd',e.ps,n,ih j e he f' fd' F',hr,M',F'.kp,B',fun ds r h=>?_⟩;have h:p.run n j ds = .ok r:=h;cases n with
    |zero=>cases h
    |succ n =>
     unfold Pg.run Pc.run at h;have:p.fns[j]? = some ⟨e.ps.length,e.N.length,e.body⟩:=by unfold Pg.fns;rw[List.getElem?_map,he];rfl
     rw[this] at h;dsimp only at h;by_cases hl:ds.length=e.ps.length
     ·exact hl
     ·rw[if_neg hl] at h;cases h
  refine⟨_,(CF C m).2 _ _ hb,?_⟩;obtain⟨ds,G,hl,rs,r,hrun,k⟩:=hs;unfold Pg.run Pc.run at hrun;have:p.fns[i]? = some ⟨d.ps.length,d.N.length,d.body⟩:=by unfold Pg.fns;rw[List.getElem?_map,hd];rfl
  rw[this] at hrun;dsimp only at hrun;rw[if_pos hl] at hrun;have hN:ds.length<=d.N.length:=by
   rw[hl,<-S.pre,bw];exact Nat.min_le_right _ _
  obtain⟨F0,re,hF⟩:=entry rs hN;refine⟨fun a=>H a≠none,fun a=>H a=none\/a∈G,aO ds d.N.length,F0,re,fun j a ha=>.inr (hF j a ha),fun a h=>.inl (Classical.not_not.mp h),?_⟩;show post K _ _ _ _ H _ (aF ⟨p.run n,p.gl,p.fuel⟩ d.body (aO ds d.N.length));have hrun:(match aF ⟨p.run n,p.gl,p.fuel⟩ d.body (aO ds d.N.length) with
   |.rt d fr=>Rs.ok (d,fr)
   |.nx _=>.ok (.non,true)
   |.xc e _=>.exc e
   |_=>.bad) = .ok r:=hrun
  cases hq:aF ⟨p.run n,p.gl,p.fuel⟩ d.body (aO ds d.N.length) with
  |rt dd fr =>
   rw[hq] at hrun;cases hrun;intro v H' G' rp ev z fz;exact k v H' G' (m4 ev) rp z fun hf=>let ⟨a,b⟩:=fz hf;⟨a,fun x hx=>⟨Classical.not_not.mp (b x hx).1,(b x hx).2⟩⟩
  |nx e =>
   rw[hq] at hrun;cases hrun;intro σ' H' F' af;exact k .non H' [] (m4 af.ev) .non (fun _ h=>(nomatch h)) fun _=>⟨cj,fun _ h=>(nomatch h)⟩
  |bk e=>rw[hq] at hrun;cases hrun
  |ct e=>rw[hq] at hrun;cases hrun
  |xc e e'=>rw[hq] at hrun;cases hrun
  |bad=>rw[hq] at hrun;cases hrun
end
noncomputable def noL (K:Frag):Bool:=K.all fun p=>match p.2.cls with
 |.type n=>!(n == "list")
 |_=>true
theorem lookup_mem:∀{K:Frag}{a:Addr}{o:Obj},K.lookup a=some o->(a,o)∈K
 |[],_,_,h=>by cases h
 | (b,x)::r,a,o,h=>by
  rw[cm] at h;cases e:a==b with
  |true =>
   rw[e] at h;cases h;rw[beq_iff_eq] at e;rw[e];exact ao
  |false=>rw[e] at h;exact ak _ (lookup_mem h)
theorem yq {K:Frag}{a:Addr}{o:Obj}(h:noL K=true)(l:K.lookup a=some o)(c:o.cls = .type "list"):False:=by
 unfold noL at h;rw[fe] at h;have:=h _ (lookup_mem l);rw[c] at this;simp at this
theorem lb {K:Frag}{H:Hp}:∀ ns:List Int,aG K H (ns.map D.int) (ns.map V.int) []
 |[]=>.nil
 |n::r=>.cons (.int n) (lb r)
theorem yO {K:Frag}{H:Hp}{a:Addr}{ns:List Int}{f:List D->Rs (D×Bool)}{E:XK}{fr:Bool}(hL:noL K=true)(hS:ko K H a (ns.map V.int))(hf:f [.lst (ns.map D.int)] = .ok (.bl true,fr)):yG K 1 f [.ref a] H (fun v _=>v = .bl true) E:=by
 rcases hS with h | ⟨o,its,n,h1,h2,_⟩
 ·refine⟨[.lst (ns.map D.int)],[a] ++ [],rfl,.cons (.lst h (lb ns)) .nil,(.bl true,fr),hf,fun v H' G' _ rp _ _=>?_⟩;exact rp.bl_inv.1
 ·exact (yq hL h1 h2).elim
noncomputable def pE (es:List DictEntry):Bool:=es.all (fun e=>match e.val with
  |.int _ _=>true
  |.none=>true
  |_=>false)&&es.any (fun e=>match e.key with
  |.str _ _=>true
  |_=>false)
noncomputable def noS (as:List Addr)(K:Frag):Bool:=K.all fun p=>as.contains p.1 || match p.2.data with
 |.dict es _=>!pE es.toList
 |_=>true
theorem fP.vals {es:List DictEntry}{kvs:List (Key×Option Int)}(h:fP es kvs):es.all (fun e=>match e.val with
  |.int _ _=>true
  |.none=>true
  |_=>false)=true:=by
 induction h with
 |nil=>rfl
 |cons hh hk hv r ih=>rw[dq,hv,ih];rfl
 |si hk hv r ih=>rw[dq,hv,ih];rfl
 |sn hk hv r ih=>rw[dq,hv,ih];rfl
theorem B8 {w:World}{K:Frag}(as:List Addr)(h:noS as K=true)(h0:∀ a∈as,∀ o es ep,K.lookup a=some o->o.data = .dict es ep->∀ e∈es.toList,∀ s t,e.key = .str s t->(a==sysModules)=false/\e.hash=hashStr w s):vm w K:=by
 intro a o es ep hl hd kvs he e hm s t hk;by_cases ha:a∈as
 ·exact h0 a ha o es ep hl hd e hm s t hk
 ·unfold noS at h;rw[fe] at h;have:=h _ (lookup_mem hl);dsimp only at this;rw[hd,show as.contains a=false by rw[Bool.eq_false_iff];intro z;exact ha (List.contains_iff_mem.mp z),Bool.false_or] at this;dsimp only at this;unfold pE at this;rw[he.vals,Bool.true_and,Bool.not_eq_true'] at this;have h2:es.toList.any (fun e=>match e.key with
   |.str _ _=>true
   |_=>false)=true:=by
   rw[List.any_eq_true];exact⟨e,hm,by rw[hk]⟩
  rw[h2] at this;cases this
noncomputable def hashes (w:World):List DictEntry->Prop
 |[]=>True
 |e::r=>(match e.key with
  |.str s _=>e.hash=hashStr w s
  |_=>True)/\hashes w r
theorem CC {w:World}{K:Frag}(h:noS [] K=true):vm w K:=B8 [] h fun a ha=>(nomatch ha)
def Has (K:Frag)(d:Df):Prop:=∃(f:Addr) (oc:Value) (od:Option Addr) (kV dc pm:Value) (an:Option Addr) (cd ct:Value) (sl:Array (Option Value)),
 PySem.W.nsIn K mainGlobals d.nm=some (some (.ref f))/\K.lookup f=some ⟨oc,od,.func (PySem.W.fnOf d.nm d.nm (dJ d.st) (cH d.st) (aQ d.st) .none kV dc pm an cd ct),sl⟩/\PySem.W.codeIn K cd d.nm=true/\PySem.W.keepIn K (.ref f)=true
def lA (K:Frag)(x:Str)(d:D):Prop:=∃ v u,PySem.W.nsIn K mainGlobals x=some (some u)/\RelV v u/\∀ H,Rep K H d v []
noncomputable def rj {α:Type}(P:α->Prop):List α->Prop
 |[]=>True
 |a::r=>P a/\rj P r
theorem gJ {α:Type}{P:α->Prop}:∀{l:List α},rj P l->∀ a∈l,P a
 |[],_,a,h=>by cases h
 | b::r,⟨h1,h2⟩,a,h=>by
  rcases gp.mp h with rfl | h
  ·exact h1
  ·exact gJ h2 a h
structure oR (p:Pg)(K:Frag):Prop where
 fn:rj (Has K) p.dfs
 gl:∀ i x,idxOf p.pQ x=some i->lA K x (p.gl i)
 blt:rj (fun x=>PySem.W.nsIn K mainGlobals x=some none) p.eY
theorem oR.isin {p:Pg}{K:Frag}{h:Heap}{mg:Str->Option Value}(s:oR p K)(X:K.In h)(G:h.Ns mainGlobals mg):p.In K mg where
 fn:=fun i d hd=>by
  obtain⟨f,oc,od,kV,dc,pm,an,cd,ct,sl,a,l,c,k⟩:=gJ s.fn d (List.mem_of_getElem? hd);exact⟨f,_,zM (st:=d.st) l c k,PySem.W.mg_of X G a⟩
 gl:=fun i x hx=>by
  obtain⟨v,u,a,b,c⟩:=s.gl i x hx;exact⟨v,u,PySem.W.mg_of X G a,b,c⟩
 blt:=fun x hx=>PySem.W.mg_none_of X G (gJ s.blt x (by simpa using hx))
theorem walk {l:PySem.W.OpenLaw}{q:Program}{loose:List Str}{XP:(Str->Option Value)->Heap->Prop}{YP:World->Heap->Prop}{d:DefRec}{K:Params->PySem.W.Frag}(p:Pg)(n i:Nat)(x:Str)(e:Df)(hn:l.most=some 63)(hdf:d.params.defaults=[])
  (hY:∀(w:World) (h:Heap),YP w h->(K w.params).In h) (hd:p.dfs[i]? = some e) (hps:e.ps=[x]) (hnm:d.name=e.nm) (hr:fY n callerA) (ok:rj (Df.Ok p) p.dfs) (st:∀ w:World,oR p (K w.params)) (hL:∀ w:World,noL (K w.params)=true) (hH:∀ w:World,vm w (K w.params))
  (law:∀ ns:List Int,ns.length<=63->∃ fr,p.run n i [.lst (ns.map D.int)] = .ok (.bl true,fr)) :
  PySem.W.WalkO q loose XP YP l.row.toRowW d [] (fun f vs=>PySem.call f vs):=by
 refine L2.vB (n:=63) (k:=n) (x:=x) (CX:=fun _=>Ar) (sp:=fun w=>yG (K w.params) 1 (p.run n i)) hn (by decide) hdf hr hY (fun w mg fa h KX G hm=>?_) (fun w H a ns hl _ hS=>?_) fun _ _ _ _ _ z=>z
 ·have I:=(st w).isin KX G;obtain⟨f,fd,F,m⟩:=I.fn i e hd;rw[hnm,m] at hm;obtain rfl:f=fa:=by cases hm;rfl
  refine⟨fd,fun s u=>?_,fun base kb nb=>?_⟩
  ·obtain⟨oc,od,kV,doc,pm,an,cdv,ct,osl,rfl,lk,hcd⟩:=F.ex;have:=(gJ ok e (List.mem_of_getElem? hd)).bd kV doc pm an cdv ct [u] (by rw[hps];rfl);rw[hps] at this;exact .of_eq this
  ·have:=zf (P:=l.prog) (w:=w) (base:=base) (gJ ok) I (hH w) n i e hd f fd F;rw[hps] at this;exact this
 ·obtain⟨fr,h⟩:=law ns hl;exact yO (hL w) hS h
end Pc
end
section
namespace Pc
open PySem
theorem aA {α β:Type}(a:α)(f:α->Rs β):(Rs.ok a).bind f=f a:=rfl
theorem bM {α:Type}(env:En)(a:α)(k:α->Fl):fH env (.ok a) k=k a:=rfl
theorem aD (e:En)(k:En->Fl):(Fl.nx e).andThen k=k e:=rfl
theorem then_rt (d:D)(b:Bool)(k:En->Fl):(Fl.rt d b).andThen k = .rt d b:=rfl
theorem bS {α:Type}(a:α):fS (some a) = .ok a:=rfl
theorem iu (op:Operator)(i j:Int):eR op (.int i) (.int j)=(Pc.binI op i j).map .int:=by cases op<;>rfl
theorem i9 (i:Int)(R:List Nat):gG (.int i) R = .mv []:=rfl
theorem j7:∀ l:List Int,D.flats (l.map D.int)=true
 |[]=>rfl
 |_::r=>j7 r
theorem oF (l:List Int)(R:List Nat):gG (.lst (l.map D.int)) R = .mv []:=by
 unfold gG;rw[if_pos];exact j7 l
end Pc
end
section
namespace Pc
open PySem PySem.Spec PyProof.Rows L2
theorem y4 {K:Frag}{d:Df}{f:Addr}{oc:Value}{od:Option Addr}{kV dc pm:Value}{an:Option Addr}{cd ct:Value}{sl:Array (Option Value)}
 (a:PySem.W.nsIn K mainGlobals d.nm=some (some (.ref f))) (l:K.lookup f=some ⟨oc,od,.func (PySem.W.fnOf d.nm d.nm (dJ d.st) (cH d.st) (aQ d.st) .none kV dc pm an cd ct),sl⟩) (c:PySem.W.codeIn K cd d.nm=true) (k:PySem.W.keepIn K (.ref f)=true):Has K d :=
 ⟨f,oc,od,kV,dc,pm,an,cd,ct,sl,a,l,c,k⟩
theorem gl_int {K:Frag}{x:Str}{i:Int}{t:Tok}(h:PySem.W.nsIn K mainGlobals x=some (some (.int i t))):lA K x (.int i):=⟨.int i,_,h,⟨t,rfl⟩,fun _=>.int i⟩
theorem oa {K:Frag}{x:Str}{a:Addr}{oc:Value}{od:Option Addr}{its:Array Value}{n:Nat}{sl:Array (Option Value)}{ds:List D}{vs:List V}(h:PySem.W.nsIn K mainGlobals x=some (some (.ref a)))
  (l:K.lookup a=some ⟨oc,od,.seq its n,sl⟩) (c:oc = .type "tuple") (hz:its.size<=sizeLine) (hv:aL vs its.toList) (hr:∀ H,aG K H ds vs []) (hp:ua vs=false:=by rfl):lA K x (.tup ds) :=
 ⟨.ref a,_,h,rfl,fun H=>.tup (.inr ⟨hp,_,its,n,l,c,rfl,hz,hv⟩) (hr H)⟩
noncomputable def lO (K:Frag)(g:Nat->D):Nat->List Str->Prop
 |_,[]=>True
 |i,x::r=>lA K x (g i)/\lO K g (i+1) r
theorem mQ {K:Frag}{g:Nat->D}:∀{l:List Str}{k i:Nat}{x:Str},lO K g k l->idxOf l x=some i->lA K x (g (k+i))
 | y::r,k,i,x,⟨h1,h2⟩,e=>by
  unfold idxOf at e;by_cases hx:y=x
  ·rw[if_pos hx] at e;cases e;subst hx;exact h1
  ·rw[if_neg hx,aa] at e;obtain⟨j,hj,rfl⟩:=e;have:=mQ h2 hj;rw[show k+1+j=k+(j+1) by omega] at this;exact this
theorem vU {K:Frag}{g:Nat->D}{l:List Str}(h:lO K g 0 l):∀ i x,idxOf l x=some i->lA K x (g i):=fun i x e=>by
 have:=mQ h e
 rwa [Nat.zero_add] at this
end Pc
end
section
namespace Pc.Hd
open PySem PySem.W L2
noncomputable def sv (x:String)(t:Tok):Value:=.str (Str.ofString x) t
noncomputable def kv (P:Params)(x:String)(t:Tok)(v:Value):DictEntry:=⟨PyData.keyHash P (Str.ofString x),sv x t,v⟩
noncomputable def sg:Stmt->Str
 |.FunctionDef n ..=>n
 |_=>Str.ofString ""
noncomputable def fo (a:Addr)(s:Stmt)(m c:Value):Addr×Obj:=(a,⟨.type "function",none,.func { name:=sg s,qualname:=sg s,params:=dJ s,body:=.stmts (cH s),scope:=aQ s,globals:=mainGlobals,closure:=[],defaults:=.none,kwdefaults:=.none,pyModule:=m,code:=c },#[]⟩)
noncomputable def co (a:Addr)(vs:Array Value):Addr×Obj:=(a,⟨.type "code",none,.fields vs,#[]⟩)
noncomputable def tu (a:Addr)(vs:Array Value):Addr×Obj:=(a,⟨.type "tuple",none,.seq vs 0,#[]⟩)
noncomputable def di (a:Addr)(es:Array DictEntry)(n:Nat):Addr×Obj:=(a,⟨.type "dict",none,.dict es n,#[]⟩)
end Pc.Hd
end
section
namespace Fl64
noncomputable def dbl (a:Nat):Nat:=if 64<=2*a then (2*a)^^^67 else 2*a
noncomputable def CT:Nat->Nat->Nat->Nat->Nat
 |0,p,_,_=>p
 |n+1,p,d,l=>if l=0 then p else CT n (if l%2=1 then p^^^d else p) (dbl d) (l / 2)
noncomputable def tm (a b:Nat):Nat:=CT 6 0 a b
noncomputable def allB (n:Nat)(f:Nat->Bool):Bool:=match n with
 |0=>true
 |k+1=>f k&&allB k f
end Fl64
end
section
namespace Pc
open PySem
noncomputable abbrev sI (i:Int):Slot:=some (.int i,.own)
noncomputable abbrev sN (i:Nat):Slot:=some (.int (i:Int),.own)
noncomputable def ret (f:Fl):Rs (D×Bool):=match f with
 |.rt d fr=>.ok (d,fr)
 |.nx _=>.ok (.non,true)
 |.xc e _=>.exc e
 |_=>.bad
theorem dH {fns:List Fn}{gl:Nat->D}{fuel n i:Nat}{F:Fn}{ds:List D}(h:fns[i]? = some F)(hl:ds.length=F.ps):Pc.run fns gl fuel (n+1) i ds=ret (aF ⟨Pc.run fns gl fuel n,gl,fuel⟩ F.body (aO ds F.slots)):=by
 unfold Pc.run;rw[h];dsimp only;rw[if_pos hl];rfl
theorem iL {a m:Int}(h0:0<=a)(h1:a<m):∃ n:Nat,a=(n:Int)/\(n:Int)<m:=⟨a.toNat,by omega,by omega⟩
theorem uf {x:Int}(h0:0<=x)(h1:x<2147483648):small x=true:=bg ⟨by omega,by omega⟩
theorem il {n k:Nat}(h:k<n):hW n (k:Int)=some k:=by
 unfold hW;rw[if_pos (by omega),if_pos (by omega),dh]
theorem tq (env:En):lock [] env=env:=by
 unfold lock;have:∀(l:En) (k:Nat),(l.mapIdx fun i (s:Slot)=>match s with
  | some (d,.own)=>if ([]:List Nat).contains i then some (d,.lk) else some (d,.own)
  |s=>s)=l:=fun l k=>by
  rw[List.mapIdx_eq_iff];intro i;cases h:l[i]? with
  |none=>rfl
  |some s =>
   cases s with
   |none=>rfl
   |some p=>obtain⟨d,t⟩:=p;cases t<;>rfl
 exact this env 0
theorem oU (e0 env:En):unlock [] e0 env=env:=by
 unfold unlock;rw[List.mapIdx_eq_iff];intro i;cases h:env[i]? with
 |none=>rfl
 |some s =>
  cases s with
  |none=>rfl
  |some p =>
   obtain⟨d,t⟩:=p;cases t with
   |lk =>
    simp only[Option.map_some];split<;>rfl
   |own=>rfl
   |sh R=>rfl
theorem fM {T:Tb}{t:kE}{it:rW}{b:cG}{env e:En}{l:List D}(hit:gW T it env = .ok (l,[]))(h:bU t [] (aF T b) l env = .nx e):aY T (.forr t it b) env = .nx e:=by
 rw[aY,hit,bM];dsimp only;rw[tq,h];dsimp only;rw[oU]
noncomputable abbrev sq (M:List (List D)):D:=.lst (M.map D.lst)
noncomputable def okC:D->Bool
 |.int _=>true
 |.non=>true
 |_=>false
structure Sqr (n:Nat)(M:List (List D)):Prop where
 len:M.length=n
 row:∀ r∈M,r.length=n
 cell:∀ r∈M,∀ d∈r,okC d=true
theorem gH {l:List D}(h:D.flats l=true)(R:List Nat):gG (.lst l) R = .mv []:=by
 unfold gG;rw[if_pos];exact h
theorem i4 {T:Tb}{e:Ex}{env:En}{d:D}(h:ev T e env = .ok (d,.mv [])):ret (aF T (.cons (.ret e) .nil) env) = .ok (d,true):=by
 rw[aF,aY,h,bM];rfl
theorem fV {n:Nat}(h:n<=1000):n<=lim:=bj h (by decide)
theorem vE (T:Tb)(env:En)(e:Ex)(j:Int)(r:Rt)(he:ev T e env = .ok (.int j,r))(h1:eT j=true):gW T (.rng1 e) env = .ok (aS 0 1 j.toNat,[]):=by
 rw[gW,he,aA];show (if eT j=true then Rs.ok (aS 0 1 j.toNat,[]) else .bad)=_;rw[if_pos h1]
theorem B3 {n:Nat}(h:n<=1000):eT (n:Int)=true:=by
 unfold eT;exact bg ⟨Int.le_trans (by decide) (Int.natCast_nonneg n),Int.lt_of_le_of_lt (Int.ofNat_le.mpr h) (by decide)⟩
def aH (s:Slot):Prop:=s=none\/(∃ d,s=some (d,.own))\/(∃ d,s=some (d,.sh []))\/∃ d,s=some (d,.lk)
def Tame (env:En):Prop:=∀ s∈env,aH s
theorem aR:aH none:=.inl rfl
theorem aB (d:D):aH (some (d,.own)):=.inr (.inl ⟨d,rfl⟩)
theorem bQ (d:D):aH (some (d,.sh [])):=.inr (.inr (.inl ⟨d,rfl⟩))
theorem xf (d:D):aH (some (d,.lk)):=.inr (.inr (.inr ⟨d,rfl⟩))
theorem Tame.nil:Tame []:=fun _ h=>(nomatch h)
theorem Tame.cons {s:Slot}{e:En}(h:aH s)(t:Tame e):Tame (s::e):=fun x hx=>by
 rcases gp.mp hx with rfl | hx
 ·exact h
 ·exact t x hx
theorem Tame.set {e:En}{s:Slot}(t:Tame e)(h:aH s)(i:Nat):Tame (e.set i s):=fun x hx=>by
 rcases List.mem_or_eq_of_mem_set hx with q | q
 ·exact t x q
 ·rw[q];exact h
theorem eV {env:En}(h:Tame env)(i:Nat)(d:D)(t:Tg):put env i d t=env.set i (some (d,t)):=by
 unfold put;have:env.map (fun (s:Slot)=>s.map fun (p:D×Tg)=>(p.1,p.2.drop i))=env:=by
  conv=>rhs;rw[<-List.map_id env]
  refine dn fun s hs=>?_
  rcases h s hs with rfl | ⟨d,rfl⟩ | ⟨d,rfl⟩ | ⟨d,rfl⟩<;>rfl
 rw[this]
theorem lu {env:En}(h:Tame env)(R:List Nat):kill R env=env.mapIdx fun i s=>if R.contains i then none else s:=by
 unfold kill;apply List.ext_getElem?;intro i;rw[List.getElem?_mapIdx,List.getElem?_mapIdx];cases q:env[i]? with
 |none=>rfl
 |some s =>
  rcases h s (List.mem_of_getElem? q) with rfl | ⟨d,rfl⟩ | ⟨d,rfl⟩ | ⟨d,rfl⟩
  ·simp
  ·simp[gU]
  ·simp[gU]
  ·simp[gU]
theorem iF {env:En}(h:Tame env)(x:Nat)(s:Slot):(kill [x] env).set x s=env.set x s:=by
 rw[lu h];apply List.ext_getElem?;intro i;by_cases hi:i=x
 ·subst hi;by_cases hl:i<env.length
  ·rw[List.getElem?_set_self (by simpa using hl),List.getElem?_set_self hl]
  ·rw[List.getElem?_eq_none (by simp;omega),List.getElem?_eq_none (by simp;omega)]
 ·rw[List.getElem?_set_ne (cz hi),List.getElem?_set_ne (cz hi),List.getElem?_mapIdx];cases q:env[i]? with
  |none=>rfl
  |some s=>simp[hi]
section
variable {T:Tb}{env:En}
theorem aK {i:Nat}{e:Ex}{d:D}(ht:Tame env)(hi:i<env.length)(h:ev T e env = .ok (d,.mv [])):aY T (.asg (.nm i) e false) env = .nx (env.set i (some (d,.own))):=by
 rw[aY,h,bM];show (if i<env.length then Fl.nx (put env i d .own) else .bad)=_;rw[if_pos hi,eV ht]
theorem eZ {i:Nat}{d:D}(ht:Tame env)(hi:i<env.length):cF [] (.nm i) d env=some (env.set i (some (d,cD d []))):=by
 show (if i<env.length then some (put env i d (cD d [])) else none)=_;rw[if_pos hi,eV ht]
theorem bR {i:Nat}{d:D}(h:env[i]? = some (some (d,.own)))(hf:d.flat=false):ev T (.var i) env = .ok (d,.mv [i]):=by
 rw[ev,h];dsimp only;rw[hf];rfl
theorem aC {i:Nat}{d:D}{t:Tg}(h:env[i]? = some (some (d,t)))(hf:d.flat=true):ev T (.var i) env = .ok (d,.mv []):=by
 rw[ev,h];dsimp only;rw[if_pos hf]
theorem gQ {i:Nat}{d:D}{t:Tg}(h:env[i]? = some (some (d,t))):∃ R,ev T (.var i) env = .ok (d,R):=by
 rw[ev,h];exact⟨_,rfl⟩
theorem my {x:Nat}{e:Ex}{xs:List D}{d:D}(ht:Tame env)(hx:env[x]? = some (some (.lst xs,.own)))(h:ev T e env = .ok (d,.mv []))(hl:xs.length+1<=lim):aY T (.mut x .none .append (.cons e .nil)) env = .nx (env.set x (some (.lst (xs ++ [d]),.own))):=by
 have ho:ownAt env x=some (.lst xs):=by unfold ownAt;rw[hx]
 have hs:bE T (.cons e .nil) env = .ok [(d,.mv [])]:=by
  rw[bE,h,aA];rfl
 rw[aY,ho];simp only[jm,bM,D.at1,hs,List.map_cons,List.map_nil,qW,aP,Rt.roots,List.flatten_cons,List.flatten_nil,List.append_nil,List.contains_nil,Bool.false_eq_true,if_false,mO.copies,fU,cU,Option.map_some];have:(xs ++ [d]).length<=lim:=by rw[au];exact hl
 simp only[List.nodup_nil,decide_true,dG,List.all_nil,Bool.not_false,Bool.and_self,this,if_true,D.set1,Bool.true_and];rw[iF ht]
theorem p6 {x:Nat}{k e:Ex}{xs:List D}{d:D}{l:Int}{m:Nat}{R':Rt}(ht:Tame env)(hx:env[x]? = some (some (.lst xs,.own)))(hk:ev T k env = .ok (.int l,R'))(hm:Pc.hW xs.length l=some m)(h:ev T e env = .ok (d,.mv []))(hl:xs.length<=lim) :
  aY T (.setix x .none k e) env = .nx (env.set x (some (.lst (xs.set m d),.own))):=by
 have ho:ownAt env x=some (.lst xs):=by unfold ownAt;rw[hx]
 have hll:(xs.set m d).length<=lim:=by rw[f9];exact hl
 rw[aY,ho];simp only[h,bM,jm,D.at1,hk,hm,fU,cU,Option.map_some,List.append_nil,List.nodup_nil,decide_true,dG,List.all_nil,List.contains_nil,Bool.not_false,Bool.and_self,hll,if_true,D.set1,Bool.true_and];rw[iF ht]
theorem ite_ff {c:Ex}{a:cG}{R:Rt}(h:ev T c env = .ok (.bl false,R)):aY T (.ite c a .nil) env = .nx env:=by
 rw[aY,h,bM];rfl
theorem u0 {x:Nat}{d:D}(hx:env[x]? = some (some (d,.own))):lock [x] env=env.set x (some (d,.lk)):=by
 unfold lock;apply List.ext_getElem?;intro i;rw[List.getElem?_mapIdx];by_cases hi:i=x
 ·subst hi;have hl:i<env.length:=(List.getElem?_eq_some_iff.mp hx).1;rw[List.getElem?_set_self hl,hx];simp
 ·rw[List.getElem?_set_ne (cz hi)];cases q:env[i]? with
  |none=>rfl
  |some s =>
   cases s with
   |none=>rfl
   |some p =>
    obtain⟨d,t⟩:=p;cases t with
    |own=>simp[hi]
    |lk=>rfl
    |sh R=>rfl
theorem om {x:Nat}{d d':D}{e:En}(hx:env[x]? = some (some (d,.own)))(he:e[x]? = some (some (d',.lk))):unlock [x] env e=e.set x (some (d',.own)):=by
 unfold unlock;apply List.ext_getElem?;intro i;rw[List.getElem?_mapIdx];by_cases hi:i=x
 ·subst hi;have hl:i<e.length:=(List.getElem?_eq_some_iff.mp he).1;rw[List.getElem?_set_self hl,he];simp[hx]
 ·rw[List.getElem?_set_ne (cz hi)];cases q:e[i]? with
  |none=>rfl
  |some s =>
   cases s with
   |none=>rfl
   |some p =>
    obtain⟨d,t⟩:=p;cases t with
    |own=>rfl
    |lk =>
     simp only[Option.map_some];split
     ·simp[hi]
     ·rfl
    |sh R=>rfl
theorem wR {t:kE}{it:rW}{b:cG}{e:En}{l:List D}{x:Nat}{d d':D}(hx:env[x]? = some (some (d,.own)))(hit:gW T it env = .ok (l,[x]))(h:bU t [x] (aF T b) l (env.set x (some (d,.lk))) = .nx e)(he:e[x]? = some (some (d',.lk))):aY T (.forr t it b) env = .nx (e.set x (some (d',.own))):=by
 rw[aY,hit,bM];dsimp only;rw[u0 hx,h];dsimp only;rw[om hx he]
theorem kN {i j:Nat}{x y:D}{R:List Nat}(ht:Tame env)(hi:i<env.length)(hj:j<env.length)(fx:x.flat=true)(fy:y.flat=true):cF R (.tp [i,j]) (.tup [x,y]) env=some ((env.set i (some (x,.own))).set j (some (y,.own))):=by
 show bindM (fun d=>cD d R) [i,j] [x,y] env=_;have tx:cD x R = .own:=by unfold cD;rw[if_pos fx]
 have ty:cD y R = .own:=by unfold cD;rw[if_pos fy]
 simp only[bindM,hi,if_true,tx,ty];rw[eV ht,if_pos (by rw[f9];exact hj),eV (ht.set (aB x) i)]
end
end Pc
end
section
namespace Pc
end Pc
namespace Pc.Sm
open PySem Pc
noncomputable def b6:cG:=(.cons (.ret (.bin .Mod (.bin .Mult (.bin .Add (.bin .Add (.var 0) (.bin .Mult (.var 1) (.var 1))) (.cst (.int (1)))) (.var 2)) (.cst (.int (2305843009213693951)))))
  .nil)
noncomputable def e7:Ex:=.comp 1 [] (.nm 0) (.seq (.sl (.var 0) .none (.some (.cst (.int (63)))))) .none (.bin .Mod (.var 0) (.cst (.int (1000003))))
noncomputable def b7:cG:=(.cons (.ret (.call 6 (.cons (.blt .sum (.cons e7 .nil)) (.cons (.bin .Mod (.blt .len (.cons (.var 0) .nil)) (.cst (.int (64)))) (.cons (.var 1) .nil)))))
  .nil)
noncomputable def b8:cG:=(.cons (.ret (.ix (.lst (.cons (.cst (.int (15))) (.cons (.cst (.int (15))) (.cons (.cst (.int (15))) (.cons (.cst (.int (19))) (.cons (.cst (.int (15))) (.cons (.cst (.int (15))) (.cons (.cst (.int (23))) (.cons (.cst (.int (15))) (.cons (.cst (.int (19))) (.cons (.cst (.int (15))) (.cons (.cst (.int (27))) (.cons (.cst (.int (15))) (.cons (.cst (.int (15))) (.cons (.cst (.int (19))) (.cons (.cst (.int (15))) (.cons (.cst (.int (31))) .nil))))))))))))))))) (.bin .Mod (.var 0) (.cst (.int (16))))))
  .nil)
noncomputable def b9c:cG:=(.cons (.asg (.nm 1) (.bin .Mod (.bin .Mult (.bin .Add (.var 1) (.var 5)) (.cst (.int (40692)))) (.cst (.int (2147483399)))) false)
  (.cons (.mut 4 .none .append (.cons (.ix (.lst (.cons (.cst (.int (0))) (.cons (.cst (.int (1))) (.cons (.cst (.int (0))) (.cons (.cst (.int (1))) (.cons (.cst .non) .nil)))))) (.bin .Mod (.bin .FloorDiv (.var 1) (.cst (.int (7)))) (.cst (.int (5))))) .nil))
  .nil))
noncomputable def s9:St:=.mut 2 .none .append (.cons (.var 4) .nil)
noncomputable def b9r:cG:=(.cons (.asg (.nm 4) (.lst .nil) false)
  (.cons (.forr (.nm 5) (.rng1 (.var 0)) b9c)
  (.cons s9
  .nil)))
noncomputable def b9:cG:=(.cons (.asg (.nm 2) (.lst .nil) false)
  (.cons (.forr (.nm 3) (.rng1 (.var 0)) b9r)
  (.cons (.ret (.var 2))
  .nil)))
theorem tF (p:D×Rt):List.map (fun x:D×Rt=>x.1) [p]=[p.1]:=rfl
theorem map2 (p q:D×Rt):List.map (fun x:D×Rt=>x.1) [p,q]=[p.1,q.1]:=rfl
theorem m9 {T:Tb}{f:Nat}{e1:Ex}{env:En}{d1 r:D}{R1:Rt}(h1:ev T e1 env = .ok (d1,R1))(h:T.cl f [d1] = .ok (r,true)):ev T (.call f (.cons e1 .nil)) env = .ok (r,.mv []):=by
 have:bE T (.cons e1 .nil) env = .ok [(d1,R1)]:=by
  rw[bE,h1,aA];rfl
 rw[ev,this,aA,tF,h,aA];rfl
theorem pd {T:Tb}{f:Nat}{e1 e2:Ex}{env:En}{d1 d2 r:D}{R1 R2:Rt}(h1:ev T e1 env = .ok (d1,R1))(h2:ev T e2 env = .ok (d2,R2))(h:T.cl f [d1,d2] = .ok (r,true)):ev T (.call f (.cons e1 (.cons e2 .nil))) env = .ok (r,.mv []):=by
 have:bE T (.cons e1 (.cons e2 .nil)) env = .ok [(d1,R1),(d2,R2)]:=by
  rw[bE,h1,aA,bE,h2,aA];rfl
 rw[ev,this,aA,map2,h,aA];rfl
noncomputable def e8:Ex:=(.lst (.cons (.cst (.int (15))) (.cons (.cst (.int (15))) (.cons (.cst (.int (15))) (.cons (.cst (.int (19))) (.cons (.cst (.int (15))) (.cons (.cst (.int (15))) (.cons (.cst (.int (23))) (.cons (.cst (.int (15))) (.cons (.cst (.int (19))) (.cons (.cst (.int (15))) (.cons (.cst (.int (27))) (.cons (.cst (.int (15))) (.cons (.cst (.int (15))) (.cons (.cst (.int (19))) (.cons (.cst (.int (15))) (.cons (.cst (.int (31))) .nil)))))))))))))))))
end Pc.Sm
end
section
namespace Fl64
def Gr (l:List Nat):Prop:=∀ g∈l,g<64
noncomputable def hor (x w:Nat)(l:List Nat):Nat:=l.foldl (fun w g=>tm w x^^^g) w
noncomputable abbrev wth (x:Nat)(l:List Nat):Nat:=hor x 0 l
noncomputable def pw (x:Nat):Nat->Nat
 |0=>1
 |n+1=>tm (pw x n) x
noncomputable def mulR (f:Nat)(l:List Nat):List Nat:=l.map fun g=>tm f g
noncomputable def xt (c:Nat):List Nat:=(List.range' 1 c).map (pw 2)
noncomputable def xV (l:List Nat)(p:Nat):List Nat->List Nat
 |[]=>l
 |g::r=>xV (l.set p (l.getD p 0^^^g)) (p+1) r
noncomputable def sC (l:List Nat)(k:Nat):List Nat->List Nat->List Nat
 |[],_=>l
 |g::a,b=>sC (xV l k (mulR g b)) (k+1) a b
noncomputable def BF (a b:List Nat):List Nat:=sC (List.replicate (a.length+b.length - 1) 0) 0 a b
noncomputable def CH (r:List Nat):List Nat->List Nat
 |[]=>r
 |n::ns=>CH (BF r [1,n]) ns
def isC (l:List Nat)(c:Nat):Prop:=∀ x∈xt c,wth x l=0
noncomputable instance (l:List Nat) (c:Nat):Decidable (isC l c):=by unfold isC;infer_instance
end Fl64
end
section
namespace Pc.Gr
open PySem Pc Pc.Sm
noncomputable abbrev gD (gs:List Nat):List D:=gs.map fun (g:Nat)=>D.int (g:Int)
noncomputable abbrev gI (gs:List Nat):List Int:=gs.map fun (g:Nat)=>(g:Int)
noncomputable abbrev sG (gs:List Nat):Slot:=some (.lst (gD gs),.sh [])
noncomputable abbrev oG (gs:List Nat):Slot:=some (.lst (gD gs),.own)
noncomputable def qZ (rp:Nat):cG:=(.cons (.asg (.nm 1) (.call rp (.cons (.var 1) (.cons (.lst (.cons (.cst (.int (1))) (.cons (.var 2) .nil))) .nil))) false)
  .nil)
noncomputable def bRN (rp:Nat):cG:=(.cons (.asg (.nm 1) (.lst (.cons (.cst (.int (1))) .nil)) false)
  (.cons (.forr (.nm 2) (.seq (.var 0)) (qZ rp))
  (.cons (.ret (.var 1))
  .nil)))
def uU (T:Tb)(rn:Nat):Prop:=∀ ns:List Nat,Fl64.Gr ns->ns.length<=900->T.cl rn [.lst (gD ns)] = .ok (.lst (gD (Fl64.CH [1] ns)),true)
structure CE (d:List Nat)(c:Nat)(D l:List Nat)(e:En):Prop where
 te:Tame e
 len:e.length=8
 h0:e[0]? = some (sG d)
 h2:e[2]? = some (oG D)
 h3:e[3]? = some (oG l)
end Pc.Gr
end
section
namespace Fl64
end Fl64
namespace Pc.Lw
open PySem Pc Pc.Sm Pc.Gr
def sP (T:Tb)(mx:Nat):Prop:=∀ c k:Int,∃ v:Int,0<=v/\T.cl mx [.int c,.int k] = .ok (.int v,true)
def isF (gs:List Nat)(k m:Nat):Prop:=∀ x∈(List.range' (k+1) m).map (Fl64.pw 2),Fl64.wth x gs=0
noncomputable instance (gs:List Nat) (k m:Nat):Decidable (isF gs k m):=by unfold isF;infer_instance
end Pc.Lw
end
section
namespace Fl64
noncomputable def sm:List (Nat×Nat)->Nat->Nat
 |[],_=>0
 |p::r,j=>tm p.1 (pw p.2 j)^^^sm r j
end Fl64
end
section
namespace Pc.Lw
open PySem Pc Pc.Sm Pc.Gr
noncomputable abbrev cp (i:Nat):Ex:=.blt .list (.cons (.var i) .nil)
theorem vF {T:Tb}{env:En}{a b:Ex}{d:D}{R R':Rt}(h:ev T a env = .ok (d,R))(h':ev T b env = .ok (d,R'))(he:D.eqf 40 d d=some true):ev T (.cmp .Eq a b) env = .ok (.bl true,.mv []):=by
 rw[ev,h,aA,h',aA];show (fS (D.eqf 40 d d)).bind _=_;rw[he];rfl
theorem aE {T:Tb}{env:En}(d:D):ev T (.cst d) env = .ok (d,.mv []):=by rw[ev]
theorem bH {T:Tb}{env:En}{a b:Ex}{x y:Int}{R R':Rt}(h:ev T a env = .ok (.int x,R))(h':ev T b env = .ok (.int y,R')):ev T (.bin .Add a b) env = .ok (.int (x+y),.mv []):=by
 rw[ev,h,aA,h',aA];rfl
theorem dQ {T:Tb}{env:En}{a b:Ex}{x y:Int}{R R':Rt}(hy:0<y)(h:ev T a env = .ok (.int x,R))(h':ev T b env = .ok (.int y,R')):ev T (.bin .Mod a b) env = .ok (.int (x%y),.mv []):=by
 rw[ev,h,aA,h',aA,iu];have:Pc.binI .Mod x y=some (x%y):=by
  show (if 0<y then some (x%y) else none)=_;rw[if_pos hy]
 rw[this];rfl
theorem fQ {T:Tb}{env:En}{a b:Ex}{x y:Int}{R R':Rt}(hy:0<y)(hy':y<1073741824)(h:ev T a env = .ok (.int x,R))(h':ev T b env = .ok (.int y,R')):ev T (.bin .FloorDiv a b) env = .ok (.int (x / y),.mv []):=by
 rw[ev,h,aA,h',aA,iu];have:Pc.binI .FloorDiv x y=some (x / y):=by
  show (if 0<y/\y<1073741824 then some (x / y) else none)=_;rw[if_pos ⟨hy,hy'⟩]
 rw[this];rfl
end Pc.Lw
end
section
namespace Pc.Nw
open PySem Pc Pc.Sm Pc.Lw Pc.Gr
theorem bN {t:kE}{R:List Nat}{b:En->Fl}{x:D}{l:List D}{e e1 e2:En}(h1:cF R t x e=some e1)(h2:b e1 = .nx e2):bU t R b (x::l) e=bU t R b l e2:=by
 conv=>lhs;unfold bU
 rw[h1];dsimp only;rw[h2]
theorem CN {T:Tb}{env:En}{e:Ex}{m:Nat}{R:Rt}(h:ev T e env = .ok (.int (m:Int),R))(hm:m<=1000):gW T (.rng1 e) env = .ok (aS ((0:Nat):Int) 1 m,[]):=by
 rw[vE _ _ _ _ _ h (B3 hm),dh];rfl
theorem ie (k m:Nat):aS (k:Int) 1 (m+1) = .int (k:Int)::aS ((k+1:Nat):Int) 1 m:=by
 rw[aS,show (k:Int)+1=((k+1:Nat):Int) by omega]
theorem lV (n:Nat):∀ a:Nat,aS (a:Int) 1 n=(List.range n).map fun (k:Nat)=>D.int ((a+k:Nat):Int):=by
 induction n with
 |zero=>intro a;rfl
 |succ n ih =>
  intro a;rw[ie,ih,fv,aw,gd];congr 1;refine dn fun k _=>?_
  show D.int ((a+1+k:Nat):Int)=D.int ((a+(k+1):Nat):Int);rw[show a+1+k=a+(k+1) by omega]
theorem vD {T:Tb}{env:En}{e:Ex}{xs:List D}{R:Rt}(h:ev T e env = .ok (.lst xs,R)):ev T (.blt .len (.cons e .nil)) env = .ok (.int (xs.length:Int),.mv []):=by
 rw[ev,bE,bE,h,aA,aA,aA,tF];show (fS (some (D.int (xs.length:Int)))).bind _=_;rw[bS,aA,i9]
theorem o5 {T:Tb}{f:Nat}{e1 e2 e3:Ex}{env:En}{d1 d2 d3 r:D}{R1 R2 R3:Rt}(h1:ev T e1 env = .ok (d1,R1))(h2:ev T e2 env = .ok (d2,R2))(h3:ev T e3 env = .ok (d3,R3))(h:T.cl f [d1,d2,d3] = .ok (r,true)):ev T (.call f (.cons e1 (.cons e2 (.cons e3 .nil)))) env = .ok (r,.mv []):=by
 rw[ev,bE,bE,bE,bE,h1,aA,h2,aA,h3,aA,aA,aA,aA,aA];show (T.cl f [d1,d2,d3]).bind _=_;rw[h];rfl
section
variable {T:Tb}{env:En}
theorem ud {a b:Ex}{x y:Nat}{R R':Rt}(h:ev T a env = .ok (.int (x:Int),R))(h':ev T b env = .ok (.int (y:Int),R')):ev T (.cmp .Eq a b) env = .ok (.bl (decide (x=y)),.mv []):=by
 rw[ev,h,aA,h',aA];have:iy .Eq (.int (x:Int)) (.int (y:Int))=some (decide (x=y)):=by
  show some ((x:Int)==(y:Int))=_;congr 1;rw[Bool.eq_iff_iff,beq_iff_eq,de];omega
 rw[this];rfl
theorem uA {a b:Ex}{x y:Nat}{R R':Rt}(h:ev T a env = .ok (.int (x:Int),R))(h':ev T b env = .ok (.int (y:Int),R')):ev T (.cmp .Lt a b) env = .ok (.bl (decide (x<y)),.mv []):=by
 rw[ev,h,aA,h',aA];have:iy .Lt (.int (x:Int)) (.int (y:Int))=some (decide (x<y)):=by
  show some (decide ((x:Int)<(y:Int)))=_;congr 1;exact decide_eq_decide.mpr (by omega)
 rw[this];rfl
theorem AD {a b:Ex}{x y:Nat}{R R':Rt}(h:ev T a env = .ok (.int (x:Int),R))(h':ev T b env = .ok (.int (y:Int),R')):ev T (.cmp .Gt a b) env = .ok (.bl (decide (y<x)),.mv []):=by
 rw[ev,h,aA,h',aA];have:iy .Gt (.int (x:Int)) (.int (y:Int))=some (decide (y<x)):=by
  show some (decide ((y:Int)<(x:Int)))=_;congr 1;exact decide_eq_decide.mpr (by omega)
 rw[this];rfl
theorem aZ {a b:Ex}{x y:Nat}{R R':Rt}(h:ev T a env = .ok (.int (x:Int),R))(h':ev T b env = .ok (.int (y:Int),R')):ev T (.bin .Add a b) env = .ok (.int ((x+y:Nat):Int),.mv []):=by
 rw[bH h h'];rfl
theorem nF {a b:Ex}{x y:Int}{R R':Rt}(h:ev T a env = .ok (.int x,R))(h':ev T b env = .ok (.int y,R')):ev T (.bin .Sub a b) env = .ok (.int (x - y),.mv []):=by
 rw[ev,h,aA,h',aA,iu];rfl
theorem gR {a b:Ex}{x y:Nat}{R R':Rt}(hy:y<=x)(h:ev T a env = .ok (.int (x:Int),R))(h':ev T b env = .ok (.int (y:Int),R')):ev T (.bin .Sub a b) env = .ok (.int ((x - y:Nat):Int),.mv []):=by
 rw[nF h h',show (x:Int) - (y:Int)=((x - y:Nat):Int) by omega]
theorem qo {a b:Ex}{p q:Prop}[Decidable p][Decidable q](h:ev T a env = .ok (.bl (decide p),.mv []))(h':p->ev T b env = .ok (.bl (decide q),.mv [])):ev T (.and a b) env = .ok (.bl (decide (p/\q)),.mv []):=by
 rw[ev,h,aA];by_cases hp:p
 ·rw[bg hp];dsimp only;rw[h' hp];congr 3;exact decide_eq_decide.mpr ⟨fun z=>⟨hp,z⟩,fun z=>z.2⟩
 ·rw[av hp,av (fun z=>hp z.1)]
theorem iH {c:Ex}{a b:cG}{p:Prop}[Decidable p]{R:Rt}(h:ev T c env = .ok (.bl (decide p),R)):aY T (.ite c a b) env=if p then aF T a env else aF T b env:=by
 rw[aY,h,bM];by_cases hp:p
 ·rw[bg hp,if_pos hp];rfl
 ·rw[av hp,if_neg hp];rfl
theorem dS:aF T .nil env = .nx env:=by rw[aF]
theorem eA {s:St}{e:En}(h:aY T s env = .nx e):aF T (.cons s .nil) env = .nx e:=by
 rw[aF,h,aD,aF]
theorem tJ {c:En->Rs Bool}{b:En->Fl}{n:Nat}{e1:En}(h:c env = .ok true)(h2:b env = .nx e1):eJ c b (n+1) env=eJ c b n e1:=by
 rw[eJ,h,bM,if_pos rfl,h2]
theorem uD {c:En->Rs Bool}{b:En->Fl}{n:Nat}(h:c env = .ok false):eJ c b (n+1) env = .nx env:=by
 rw[eJ,h,bM];rfl
end
section
variable {T:Tb}{env:En}
end
theorem rM {T:Tb}{env:En}{x:Nat}{e v:Ex}{ks:List (Int×MV)}{n:Int}{dv:D}{m:MV}{R R':Rt}(ht:Tame env)(hx:env[x]? = some (some (.mpi ks,.own)))(hl:ks.length<lim)(h:ev T e env = .ok (.int n,R))(hv:ev T v env = .ok (dv,R'))(hm:yz dv=some m):aY T (.putd x e v) env = .nx (env.set x (some (.mpi (qG ks n m),.own))):=by
 rw[aY];have:ownAt env x=some (.mpi ks):=by unfold ownAt;rw[hx]
 rw[this];dsimp only;rw[hv,bM,h,bM];dsimp only[vg];rw[if_pos hl,hm];dsimp only[Option.map];rw[iF ht]
theorem wK {T:Tb}{env:En}{x:Nat}{ks:List (Int×MV)}(hx:env[x]? = some (some (.mpi ks,.own)))(hl:ks.length<=lim):gW T (.seq (.blt .list (.cons (.var x) .nil))) env = .ok ((ks.map (·.1)).map D.int,[]):=by
 have e1:ev T (.var x) env = .ok (.mpi ks,.mv [x]):=by
  rw[ev,hx];rfl
 have e2:mN .list [.mpi ks]=some (.lst ((ks.map (·.1)).map D.int)):=by
  show (if ks.length<=lim then some (D.lst (ks.map fun q=>D.int q.1)) else none)=_;rw[if_pos hl,gd];rfl
 rw[gW,ev,bE,e1,aA,bE,aA,aA,tF,e2,bS,aA,oF,aA];rfl
end Pc.Nw
end
section
namespace Pc.Fr
open PySem Pc Pc.Sm Pc.Lw Pc.Gr Pc.Nw
noncomputable abbrev pD (p:Int×Int):D:=.tup [.int p.1,.int p.2]
noncomputable def cnt (s t:Int):Nat:=((if s<t+3 then s else t+3) - t).toNat
noncomputable abbrev Tr:=Int×Int×Int
noncomputable abbrev iD (l:List Int):List D:=l.map D.int
noncomputable def wr (M:List (List Int))(t:Tr):List (List Int):=M.set t.1.toNat ((M.getD t.1.toNat []).set t.2.1.toNat t.2.2)
structure Rect (n:Nat)(M:List (List Int)):Prop where
 len:M.length=n
 row:∀ r∈M,r.length=n
noncomputable def zero (n:Nat):List (List Int):=List.replicate n (List.replicate n 0)
theorem lY {T:Tb}{env:En}{a b c:Ex}{x y z:D}(ha:ev T a env = .ok (x,.mv []))(hb:ev T b env = .ok (y,.mv []))(hc:ev T c env = .ok (z,.mv [])):ev T (.tup (.cons a (.cons b (.cons c .nil)))) env = .ok (.tup [x,y,z],.mv []):=by
 rw[ev,bE,bE,bE,bE,ha,aA,hb,aA,hc,aA,aA,aA,aA,aA];rfl
section
variable {T:Tb}{env:En}
theorem fJ {a b:Ex}{i j:Int}{R R':Rt}(hs:(small i || small j)=true)(ha:ev T a env = .ok (.int i,R))(hb:ev T b env = .ok (.int j,R')):ev T (.bin .Mult a b) env = .ok (.int (i*j),.mv []):=by
 rw[ev,ha,aA,hb,aA,iu];simp only[Pc.binI,hs,if_true,Option.map_some,bS,aA,i9]
end
end Pc.Fr
end
section
namespace Pc.Ct
open PySem Pc Pc.Sm Pc.Lw Pc.Gr Pc.Nw
noncomputable def tx (l:List Nat):Str:=⟨l.toArray⟩
theorem lM (l:List Nat):(tx l).length=l.length:=by simp[tx,Str.length]
theorem zY (a b:List Nat):tx a++tx b=tx (a++b):=by
 show (⟨a.toArray++b.toArray⟩:Str)=⟨(a++b).toArray⟩;rw[List.append_toArray]
theorem zD {cs:List Nat}(h:cs.length<=1000):(tx cs).length<=lim:=by rw[lM];exact fV h
noncomputable abbrev sT (cs:List Nat):Slot:=some (.str (tx cs),.own)
theorem CY {cs:List Nat}(hl:cs.length<=1000){i c:Nat}(h:cs[i]? = some c):nH (.str (tx cs)) (.int (i:Int))=some (.str (tx [c])):=by
 have hj:i<cs.length:=(List.getElem?_eq_some_iff.mp h).1;show (if (tx cs).length<=lim then ((Pc.hW (tx cs).cps.toList.length (i:Int)).bind fun j=>(tx cs).cps.toList[j]?).map fun c=>D.str ⟨#[c]⟩ else none)=_;rw[if_pos (zD hl)];show ((Pc.hW cs.length (i:Int)).bind fun j=>cs[j]?).map _=_;rw[il hj];show (cs[i]?).map _=_;rw[h];rfl
theorem zP {a b:List Nat}(h:a.length+b.length<=1000):eR .Add (.str (tx a)) (.str (tx b))=some (.str (tx (a++b))):=by
 show ck ((tx a).length+(tx b).length) (.str (tx a++tx b))=_;unfold ck;rw[if_pos (by rw[lM,lM];exact fV h),zY]
theorem pG {T:Tb}{env:En}{a b:Ex}{x y:List Nat}{R R':Rt}(ha:ev T a env = .ok (.str (tx x),R))(hb:ev T b env = .ok (.str (tx y),R'))(h:x.length+y.length<=1000):ev T (.bin .Add a b) env = .ok (.str (tx (x++y)),.mv []):=by
 rw[ev,ha,aA,hb,aA,zP h];rfl
theorem nM {T:Tb}{env:En}{a b:Ex}{cs:List Nat}{i c:Nat}{R R':Rt}(hl:cs.length<=1000)(ha:ev T a env = .ok (.str (tx cs),R))(hb:ev T b env = .ok (.int (i:Int),R'))(h:cs[i]? = some c):ev T (.ix a b) env = .ok (.str (tx [c]),.mv []):=by
 rw[ev,ha,aA,hb,aA,CY hl h];rfl
theorem fF {T:Tb}{env:En}{e:Ex}{cs:List Nat}{R:Rt}(hl:cs.length<=1000)(h:ev T e env = .ok (.str (tx cs),R)):ev T (.blt .len (.cons e .nil)) env = .ok (.int (cs.length:Int),.mv []):=by
 rw[ev,bE,bE,h,aA,aA,aA,tF];have:mN .len [.str (tx cs)]=some (.int (cs.length:Int)):=by
  show (if (tx cs).length<=lim then some (D.int ((tx cs).length:Int)) else none)=_;rw[if_pos (zD hl),lM]
 dsimp only;rw[this,bS,aA,i9]
theorem AM (cs:List Nat)(n:Nat):cut cs none (some (n:Int))=cs.take n:=by
 unfold cut bA;simp only[List.drop_zero,Nat.sub_zero];rw[if_neg (by omega),dh];by_cases h:n<=cs.length
 ·rw[dk h]
 ·rw[Nat.min_eq_right (by omega),gx (aq _),gx (by omega)]
theorem o7 (n d v:Nat):bA n d (some (v:Int))=min v n:=by
 unfold bA;dsimp only;rw[if_neg (by omega),dh]
theorem qe (cs:List Nat)(s n:Nat)(h:s+n<=cs.length):cut cs (some (s:Int)) (some ((s+n:Nat):Int))=(cs.drop s).take n:=by
 unfold cut;rw[o7,o7];show (cs.drop (min s cs.length)).take (min (s+n) cs.length - min s cs.length)=_;rw[dk (show s<=cs.length by omega),dk h,Nat.add_sub_cancel_left]
theorem nT {T:Tb}{env:En}{a:Ex}{lo hi:kj}{cs r:List Nat}{l h:Option Int}{R:Rt}(hl:cs.length<=1000)(ha:ev T a env = .ok (.str (tx cs),R))(e1:jm T lo env = .ok l)(e2:jm T hi env = .ok h)(hr:cut cs l h=r):ev T (.sl a lo hi) env = .ok (.str (tx r),.mv []):=by
 have:slD (.str (tx cs)) l h=some (.str (tx r)):=by
  show (if (tx cs).length<=lim then some (D.str ⟨(cut cs l h).toArray⟩) else none)=_;rw[if_pos (zD hl),hr];rfl
 rw[ev,ha,aA,e1,aA,e2,aA,this];rfl
theorem gN {T:Tb}{env:En}{e:Ex}{i:Int}{R:Rt}(h:ev T e env = .ok (.int i,R)):jm T (.some e) env = .ok (some i):=by
 rw[jm,h];rfl
theorem rZ {T:Tb}{env:En}:jm T .none env = .ok none:=by rw[jm]
theorem vG {T:Tb}{env:En}{x:Nat}{e:Ex}{xs ys:List D}(ht:Tame env)(hx:env[x]? = some (some (.lst xs,.own)))(h:ev T e env = .ok (.lst ys,.mv []))(hf:D.flats ys=true)(hl:xs.length+ys.length<=lim):aY T (.mut x .none .extend (.cons e .nil)) env = .nx (env.set x (some (.lst (xs++ys),.own))):=by
 have ho:ownAt env x=some (.lst xs):=by unfold ownAt;rw[hx]
 have hs:bE T (.cons e .nil) env = .ok [(.lst ys,.mv [])]:=by
  rw[bE,h,aA];rfl
 rw[aY,ho];simp only[jm,bM,D.at1,hs,List.map_cons,List.map_nil,qW,hf,aP,Rt.roots,List.flatten_cons,List.flatten_nil,List.append_nil,List.contains_nil,Bool.false_eq_true,if_false,if_true,mO.copies,fU,cU,Option.map_some];have:(xs++ys).length<=lim:=by rw[au];exact hl
 simp only[List.nodup_nil,decide_true,dG,List.all_nil,Bool.not_false,Bool.and_self,this,if_true,D.set1,Bool.true_and];rw[iF ht]
theorem eP {T:Tb}{env:En}{a b:Ex}{ds:List D}{i:Nat}{d:D}{R R':Rt}(ha:ev T a env = .ok (.tup ds,R))(hb:ev T b env = .ok (.int (i:Int),R'))(h:ds[i]? = some d)(hf:d.flat=true):ev T (.ix a b) env = .ok (d,.mv []):=by
 have:nH (.tup ds) (.int (i:Int))=some d:=by
  show (Pc.hW ds.length (i:Int)).bind (fun j=>ds[j]?)=_;rw[il (List.getElem?_eq_some_iff.mp h).1];exact h
 rw[ev,ha,aA,hb,aA,this,bS,aA];unfold mf;rw[if_pos hf]
theorem me {T:Tb}{env:En}{a b:Ex}{ds:List D}{i:Nat}{d:D}{R R':Rt}(ha:ev T a env = .ok (.lst ds,R))(hb:ev T b env = .ok (.int (i:Int),R'))(h:ds[i]? = some d)(hf:d.flat=true):ev T (.ix a b) env = .ok (d,.mv []):=by
 have:nH (.lst ds) (.int (i:Int))=some d:=by
  show (Pc.hW ds.length (i:Int)).bind (fun j=>ds[j]?)=_;rw[il (List.getElem?_eq_some_iff.mp h).1];exact h
 rw[ev,ha,aA,hb,aA,this,bS,aA];unfold mf;rw[if_pos hf]
theorem o6 {T:Tb}{env:En}{a b c d:Ex}{x y z u:D}(ha:ev T a env = .ok (x,.mv []))(hb:ev T b env = .ok (y,.mv []))(hc:ev T c env = .ok (z,.mv []))(hd:ev T d env = .ok (u,.mv [])):ev T (.tup (.cons a (.cons b (.cons c (.cons d .nil))))) env = .ok (.tup [x,y,z,u],.mv []):=by
 rw[ev,bE,ha,aA,bE,hb,aA,bE,hc,aA,bE,hd,aA,bE,aA,aA,aA,aA,aA];rfl
theorem j0 {T:Tb}{env:En}{a b:Ex}{x y:D}(ha:ev T a env = .ok (x,.mv []))(hb:ev T b env = .ok (y,.mv [])):ev T (.tup (.cons a (.cons b .nil))) env = .ok (.tup [x,y],.mv []):=by
 rw[ev,bE,ha,aA,bE,hb,aA,bE,aA,aA,aA];rfl
theorem cV {T:Tb}{env:En}{k:Nat}{d:D}(h:T.gl k=d):ev T (.glb k) env = .ok (d,.mv []):=by rw[ev,h]
noncomputable def s1:Str:="0123456789"
noncomputable def s2:Str:=" ABCDEFGHIJKLMNOPQRSTUVWXYZ.,-:/"
noncomputable def s3:Str:=" !\"#$&'()*+,-./0123456789:;<=>?@ABCDEFGHIJKLMNOPQRSTUVWXYZ[\\]^_`abcdefghijklmnopqrstuvwxyz{|}~"
noncomputable def KS:Nat->Str
 |1=>s1
 |2=>s2
 |3=>s3
 |_=>⟨#[]⟩
noncomputable def kn (k:Nat):List Nat:=(KS k).cps.toList
noncomputable def dF (k c:Nat):Bool:=(kn k).contains c
theorem Ba (k:Nat):KS k=tx (kn k):=rfl
theorem mB:∀ c,c<128->∀ k,k<4->By (tx [c]) (KS k)=dF k c:=by decide +kernel
theorem yC:(kn 1).length=10/\(kn 2).length=32/\(kn 3).length=94:=by decide +kernel
theorem Ao:∀ k,k<4->∀ c∈kn k,c<127:=by decide +kernel
theorem zK:∀ k,k<4->∀ c∈kn k,dF 3 c=true:=by decide +kernel
noncomputable def G:Nat->D
 |0=>.int 1
 |1=>.int 2
 |2=>.int 3
 |3=>.tup [.str ⟨#[]⟩,.str s1,.str s2,.str s3]
 |4=>.tup [.int 0,.int 0,.int 5,.int 7]
 |5=>.int 2
 |6=>.int 6
 |7=>.int 64
 |8=>.tup [.int 0,.int 4,.int 7,.int 10]
 |9=>.int 3
 |_=>.non
def GL (T:Tb):Prop:=∀ i,i<10->T.gl i=G i
noncomputable def bPL:cG:=(.cons (.asg (.nm 2) (.bin .Add (.glb 5) (.glb 6)) false)
  (.cons (.ite (.cmp .Eq (.var 0) (.glb 0)) (.cons (.ret (.bin .Add (.bin .Add (.var 2) (.bin .Mult (.ix (.glb 8) (.glb 9)) (.bin .FloorDiv (.var 1) (.glb 9)))) (.ix (.glb 8) (.bin .Mod (.var 1) (.glb 9)))))
  .nil) .nil)
  (.cons (.ret (.bin .Add (.var 2) (.bin .Mult (.ix (.glb 4) (.var 0)) (.var 1))))
  .nil)))
noncomputable def fb (m:Nat):Nat:=if m=0 then 0 else 3*m+1
noncomputable def dP (k c:Nat):Nat:=if k=1 then 8+10*(c / 3)+fb (c%3) else 8+(if k=2 then 5 else 7)*c
theorem Bn {T:Tb}(hg:GL T){k c:Nat}(h1:1<=k)(h3:k<=3)(hc:c<=1000):ret (aF T bPL (aO [.int (k:Int),.int (c:Int)] 3)) = .ok (.int ((dP k c:Nat):Int),true):=by
 have te:∀ o,aH o->Tame [sN k,sN c,o]:=fun o h=>.cons (aB _) (.cons (aB _) (.cons h .nil))
 have g1:aY T (.asg (.nm 2) (.bin .Add (.glb 5) (.glb 6)) false) [sN k,sN c,none] = .nx [sN k,sN c,sI 8] :=
  aK (te _ aR) (show (2:Nat)<3 by decide) (bH (cV (hg 5 (by decide))) (cV (hg 6 (by decide))))
 have hst:aO [.int (k:Int),.int (c:Int)] 3=[sN k,sN c,none]:=rfl;rw[hst];unfold bPL;rw[aF,g1,aD,aF];have ec:ev T (.cmp .Eq (.var 0) (.glb 0)) [sN k,sN c,sI 8] = .ok (.bl (decide (k=1)),.mv []):=ud (x:=k) (y:=1) (aC rfl rfl) (cV (hg 0 (by decide)));rw[iH ec];by_cases hk:k=1
 ·rw[if_pos hk];have e1:ev T (.ix (.glb 8) (.glb 9)) [sN k,sN c,sI 8] = .ok (.int 10,.mv []):=eP (i:=3) (cV (hg 8 (by decide))) (cV (hg 9 (by decide))) rfl rfl;have e2:ev T (.bin .FloorDiv (.var 1) (.glb 9)) [sN k,sN c,sI 8] = .ok (.int ((c:Int) / 3),.mv []):=fQ (by decide) (by decide) (aC rfl rfl) (cV (hg 9 (by decide)));have e3:ev T (.bin .Mod (.var 1) (.glb 9)) [sN k,sN c,sI 8] = .ok (.int (((c%3:Nat):Int)),.mv []):=by
   rw[Int.natCast_emod];exact dQ (by decide) (aC rfl rfl) (cV (hg 9 (by decide)))
  have e4:ev T (.ix (.glb 8) (.bin .Mod (.var 1) (.glb 9))) [sN k,sN c,sI 8] = .ok (.int ((fb (c%3):Nat):Int),.mv []):=by
   refine eP (i:=c%3) (cV (hg 8 (by decide))) e3 ?_ rfl;have:c%3<3:=Nat.mod_lt _ (by decide)
   match c%3,this with
   |0,_=>rfl
   |1,_=>rfl
   |2,_=>rfl
  have e5:=Fr.fJ (T:=T) (show (small 10 || small ((c:Int) / 3))=true by rw[show small 10=true by decide];rfl) e1 e2;have e6:=bH (bH (aC (T:=T) (env:=[sN k,sN c,sI 8]) (i:=2) (d:=.int 8) (t:=.own) rfl rfl) e5) e4;rw[aF,aY,e6];have:(8:Int)+10*((c:Int) / 3)+((fb (c%3):Nat):Int)=((dP k c:Nat):Int):=by
   unfold dP;rw[if_pos hk];omega
  rw[this];rfl
 ·rw[if_neg hk,dS,aD];have e1:ev T (.ix (.glb 4) (.var 0)) [sN k,sN c,sI 8] = .ok (.int (((if k=2 then 5 else 7:Nat):Int)),.mv []):=by
   refine eP (i:=k) (cV (hg 4 (by decide))) (aC rfl rfl) ?_ rfl;have:k=2\/k=3:=by omega
   rcases this with rfl | rfl<;>rfl
  have e5:=Fr.fJ (T:=T) (show (small (((if k=2 then 5 else 7:Nat):Int)) || small (c:Int))=true by rw[show small (((if k=2 then 5 else 7:Nat):Int))=true by split<;>decide];rfl) e1 (aC (i:=1) rfl rfl);have e6:=bH (aC (T:=T) (env:=[sN k,sN c,sI 8]) (i:=2) (d:=.int 8) (t:=.own) rfl rfl) e5;have:(8:Int)+((if k=2 then 5 else 7:Nat):Int)*(c:Int)=((dP k c:Nat):Int):=by
   unfold dP;rw[if_neg hk]
   push_cast
   rfl
  rw[this] at e6;exact i4 e6
def wm (T:Tb):Prop:=∀ k c:Nat,1<=k->k<=3->c<=1000->T.cl 0 [.int (k:Int),.int (c:Int)] = .ok (.int ((dP k c:Nat):Int),true)
noncomputable abbrev Q4:=Nat×Nat×Nat×Nat
noncomputable def q4 (q:Q4):D:=.tup [.int (q.1:Int),.int (q.2.1:Int),.int (q.2.2.1:Int),.int (q.2.2.2:Int)]
theorem pZ (q:Q4):(q4 q).flat=true:=rfl
theorem ki:∀ l:List Q4,D.flats (l.map q4)=true
 |[]=>rfl
 | q::l=>by
  show ((q4 q).flat&&D.flats (l.map q4))=true;rw[ki l];rfl
noncomputable def qs (l:List Q4):D:=.lst (l.map q4)
noncomputable def wY:cG:=(.cons (.asg (.nm 6) (.ix (.var 0) (.bin .Add (.var 1) (.var 5))) false)
  (.cons (.mut 4 .none .append (.cons (.tup (.cons (.bin .Add (.call 0 (.cons (.var 2) (.cons (.var 5) .nil))) (.ix (.var 6) (.cst (.int (0))))) (.cons (.bin .Add (.cst (.int (1))) (.ix (.var 6) (.cst (.int (1))))) (.cons (.var 2) (.cons (.var 5) .nil))))) .nil))
  .nil))
noncomputable def bCK:cG:=(.cons (.asg (.nm 4) (.lst .nil) false)
  (.cons (.forr (.nm 5) (.rng2 (.cst (.int (1))) (.bin .Add (.blt .min2 (.cons (.var 3) (.cons (.glb 7) .nil))) (.cst (.int (1))))) wY)
  (.cons (.ret (.var 4))
  .nil)))
noncomputable abbrev EK (B:List Q4)(s k r:Nat)(ch:List Q4)(a5 a6:Slot):En:=[some (qs B,.sh []),sN s,sN k,sN r,some (qs ch,.own),a5,a6]
theorem mC {B:List Q4}{s k r:Nat}{ch:List Q4}{a5 a6:Slot}(h5:aH a5)(h6:aH a6):Tame (EK B s k r ch a5 a6):=.cons (bQ _) (.cons (aB _) (.cons (aB _) (.cons (aB _) (.cons (aB _) (.cons h5 (.cons h6 .nil))))))
noncomputable def one (k c:Nat)(q:Q4):Q4:=(dP k c+q.1,1+q.2.1,k,c)
theorem Bu {T:Tb}(hp:wm T){B:List Q4}{s k r c:Nat}{ch:List Q4}{q:Q4}{a6:Slot}(h6:aH a6)(h1:1<=k)(h3:k<=3)(hc:c<=64)(hch:ch.length<=900)(hq:B[s+c]? = some q) :
  aF T wY (EK B s k r ch (sN c) a6) = .nx (EK B s k r (ch ++ [one k c q]) (sN c) (some (q4 q,.own))):=by
 have v0:∃ R,ev T (.var 0) (EK B s k r ch (sN c) a6) = .ok (qs B,R):=gQ rfl;obtain⟨R,v0⟩:=v0;have e1:ev T (.bin .Add (.var 1) (.var 5)) (EK B s k r ch (sN c) a6) = .ok (.int ((s+c:Nat):Int),.mv []):=aZ (aC rfl rfl) (aC rfl rfl);have e2:=me v0 e1 (by rw[List.getElem?_map,hq];rfl) (pZ q);have g1:aY T (.asg (.nm 6) (.ix (.var 0) (.bin .Add (.var 1) (.var 5))) false) (EK B s k r ch (sN c) a6) = .nx (EK B s k r ch (sN c) (some (q4 q,.own))):=aK (mC (aB _) h6) (show (6:Nat)<7 by decide) e2;have v6:ev T (.var 6) (EK B s k r ch (sN c) (some (q4 q,.own))) = .ok (q4 q,.mv []):=aC rfl rfl;have f0:ev T (.ix (.var 6) (.cst (.int (0)))) (EK B s k r ch (sN c) (some (q4 q,.own))) = .ok (.int (q.1:Int),.mv []):=eP (i:=0) v6 (aE _) rfl rfl;have f1:ev T (.ix (.var 6) (.cst (.int (1)))) (EK B s k r ch (sN c) (some (q4 q,.own))) = .ok (.int (q.2.1:Int),.mv []):=eP (i:=1) v6 (aE _) rfl rfl;have f2:ev T (.call 0 (.cons (.var 2) (.cons (.var 5) .nil))) (EK B s k r ch (sN c) (some (q4 q,.own))) = .ok (.int ((dP k c:Nat):Int),.mv []):=pd (aC rfl rfl) (aC rfl rfl) (hp k c h1 h3 (by omega));have f3:ev T (.bin .Add (.call 0 (.cons (.var 2) (.cons (.var 5) .nil))) (.ix (.var 6) (.cst (.int (0))))) (EK B s k r ch (sN c) (some (q4 q,.own))) = .ok (.int ((dP k c+q.1:Nat):Int),.mv []):=aZ f2 f0;have f4:ev T (.bin .Add (.cst (.int (1))) (.ix (.var 6) (.cst (.int (1))))) (EK B s k r ch (sN c) (some (q4 q,.own))) = .ok (.int ((1+q.2.1:Nat):Int),.mv []):=aZ (x:=1) (aE _) f1;have f5:=o6 f3 f4 (aC (T:=T) (env:=EK B s k r ch (sN c) (some (q4 q,.own))) (i:=2) (d:=.int (k:Int)) (t:=.own) rfl rfl) (aC (i:=5) (d:=.int (c:Int)) (t:=.own) rfl rfl);have g2:=my (x:=4) (xs:=ch.map q4) (mC (B:=B) (s:=s) (k:=k) (r:=r) (ch:=ch) (aB (.int (c:Int))) (aB (q4 q))) rfl f5 (by rw[aj];exact fV (by omega));have g2:aY T (.mut 4 .none .append (.cons (.tup (.cons (.bin .Add (.call 0 (.cons (.var 2) (.cons (.var 5) .nil))) (.ix (.var 6) (.cst (.int (0))))) (.cons (.bin .Add (.cst (.int (1))) (.ix (.var 6) (.cst (.int (1))))) (.cons (.var 2) (.cons (.var 5) .nil))))) .nil)) (EK B s k r ch (sN c) (some (q4 q,.own))) = .nx (EK B s k r (ch ++ [one k c q]) (sN c) (some (q4 q,.own))):=by
  rw[g2];show Fl.nx (EK B s k r ch (sN c) (some (q4 q,.own)) |>.set 4 (some (.lst (ch.map q4 ++ [q4 (one k c q)]),.own)))=_;rw[show ch.map q4 ++ [q4 (one k c q)]=(ch ++ [one k c q]).map q4 by rw[fi];rfl];rfl
 unfold wY;rw[aF,g1,aD,aF,g2,aD,aF]
noncomputable def oy (k:Nat)(B:List Q4)(s m:Nat):List Q4:=(List.range m).map fun j=>one k (j+1) (B.getD (s+(j+1)) (0,0,0,0))
theorem jw (k:Nat)(B:List Q4)(s m:Nat):(oy k B s m).length=m:=by unfold oy;rw[aj,dg]
theorem pU {T:Tb}(hp:wm T){B:List Q4}{s k r:Nat}(h1:1<=k)(h3:k<=3):∀(m c0:Nat) (ch:List Q4) (a5 a6:Slot),aH a5->aH a6->c0+m<=64->ch.length+m<=900->s+(c0+m)<B.length ->
  ∃ b5 b6,aH b5/\aH b6/\bU (.nm 5) [] (aF T wY) (aS ((c0+1:Nat):Int) 1 m) (EK B s k r ch a5 a6) = .nx (EK B s k r (ch++(List.range m).map fun j=>one k (c0+j+1) (B.getD (s+(c0+j+1)) (0,0,0,0))) b5 b6)
 |0,c0,ch,a5,a6,t5,t6,_,_,_=>⟨a5,a6,t5,t6,by rw[List.range_zero,fw,ba];rfl⟩
 | m+1,c0,ch,a5,a6,t5,t6,hc,hl,hB=>by
  have hq:B[s+(c0+1)]? = some (B.getD (s+(c0+1)) (0,0,0,0)):=by
   have hi:s+(c0+1)<B.length:=by omega
   rw[List.getD_eq_getElem?_getD,List.getElem?_eq_getElem hi];rfl
  have st:=Bu hp (a6:=a6) (r:=r) t6 h1 h3 (show c0+1<=64 by omega) (show ch.length<=900 by omega) hq;have hb:cF [] (.nm 5) (.int ((c0+1:Nat):Int)) (EK B s k r ch a5 a6)=some (EK B s k r ch (sN (c0+1)) a6):=eZ (mC t5 t6) (show (5:Nat)<7 by decide);obtain⟨b5,b6,u5,u6,q⟩:=pU hp (B:=B) (s:=s) (k:=k) (r:=r) h1 h3 m (c0+1) (ch ++ [one k (c0+1) (B.getD (s+(c0+1)) (0,0,0,0))]) (sN (c0+1)) (some (q4 (B.getD (s+(c0+1)) (0,0,0,0)),.own)) (aB _) (aB _) (by omega) (by rw[au,cx];omega) (by omega);refine⟨b5,b6,u5,u6,?_⟩;have el:((List.range m).map fun j=>one k (c0+1+j+1) (B.getD (s+(c0+1+j+1)) (0,0,0,0)))=(List.range m).map ((fun j=>one k (c0+j+1) (B.getD (s+(c0+j+1)) (0,0,0,0)))∘Nat.succ):=dn fun j _=>by
   show one k (c0+1+j+1) _=one k (c0+(j+1)+1) _;rw[show c0+1+j+1=c0+(j+1)+1 by omega]
  rw[ie,bN hb st,q,fv,aw,gd,ef,el];rfl
theorem wg {T:Tb}{env:En}{e1 e2:Ex}{m:Nat}{R R':Rt}(hm:m<=1000)(h1:ev T e1 env = .ok (.int 1,R))(h2:ev T e2 env = .ok (.int ((m+1:Nat):Int),R')):gW T (.rng2 e1 e2) env = .ok (aS ((0+1:Nat):Int) 1 m,[]):=by
 rw[gW,h1,aA,h2,aA];dsimp only;rw[show eT 1=true by decide,show eT ((m+1:Nat):Int)=true by unfold eT;exact bg ⟨by omega,by omega⟩,show (((m+1:Nat):Int) - 1).toNat=m by omega];rfl
theorem Cm {T:Tb}(hg:GL T)(hp:wm T){B:List Q4}{s k r:Nat}(h1:1<=k)(h3:k<=3)(hB:s+min r 64<B.length):ret (aF T bCK (aO [qs B,.int (s:Int),.int (k:Int),.int (r:Int)] 7)) = .ok (qs (oy k B s (min r 64)),true):=by
 have hst:aO [qs B,.int (s:Int),.int (k:Int),.int (r:Int)] 7=[some (qs B,.sh []),sN s,sN k,sN r,none,none,none]:=rfl;have t0:Tame [some (qs B,.sh []),sN s,sN k,sN r,none,none,none]:=.cons (bQ _) (.cons (aB _) (.cons (aB _) (.cons (aB _) (.cons aR (.cons aR (.cons aR .nil))))));have g1:aY T (.asg (.nm 4) (.lst .nil) false) [some (qs B,.sh []),sN s,sN k,sN r,none,none,none] = .nx (EK B s k r [] none none):=aK t0 (show (4:Nat)<7 by decide) (by rw[ev,bE];rfl);obtain⟨b5,b6,u5,u6,q⟩:=pU hp (B:=B) (s:=s) (k:=k) (r:=r) h1 h3 (min r 64) 0 [] none none aR aR (by omega) (by rw[bh];omega) (by omega);have em:ev T (.blt .min2 (.cons (.var 3) (.cons (.glb 7) .nil))) (EK B s k r [] none none) = .ok (.int ((min r 64:Nat):Int),.mv []):=by
  rw[ev,bE,aC (d:=.int (r:Int)) (t:=.own) rfl rfl,aA,bE,cV (hg 7 (by decide)),aA,bE,aA,aA,aA];show (fS (some (D.int (if (64:Int)<(r:Int) then 64 else (r:Int))))).bind _=_;have:(if (64:Int)<(r:Int) then 64 else (r:Int))=((min r 64:Nat):Int):=by split<;>omega
  rw[this,bS,aA];rfl
 have hit:gW T (.rng2 (.cst (.int (1))) (.bin .Add (.blt .min2 (.cons (.var 3) (.cons (.glb 7) .nil))) (.cst (.int (1))))) (EK B s k r [] none none) = .ok (aS ((0+1:Nat):Int) 1 (min r 64),[]) :=
  wg (by omega) (aE _) (aZ (y:=1) em (aE _))
 have g2:=fM hit q;rw[hst];unfold bCK;rw[aF,g1,aD,aF,g2,aD,aF,aY,bR (d:=.lst ((oy k B s (min r 64)).map q4)) ?_ rfl]
 ·rfl
 ·show some (some (D.lst _,Tg.own))=_;rw[fh];congr 4;unfold oy;congr 1;refine dn fun j _=>?_
  rw[Nat.zero_add]
def tN (T:Tb):Prop:=∀(B:List Q4) (s k r:Nat),1<=k->k<=3->s+min r 64<B.length->T.cl 4 [qs B,.int (s:Int),.int (k:Int),.int (r:Int)] = .ok (qs (oy k B s (min r 64)),true)
noncomputable abbrev z4:Q4:=(0,0,0,0)
noncomputable def k4 (q:Q4):List Int:=[(q.1:Int),(q.2.1:Int),(q.2.2.1:Int),(q.2.2.2:Int)]
noncomputable def vn (l:List Q4):Q4:=l.getD (bZ (fun i j=>gZ ((l.map k4).getD i []) ((l.map k4).getD j [])) (l.length - 1) 1 0) z4
theorem eX (lt:Nat->Nat->Bool):∀(k j m N:Nat),m<N->j+k<=N->bZ lt k j m<N
 |0,j,m,N,h,_=>h
 | k+1,j,m,N,h,h2=>by
  unfold bZ;refine eX lt k (j+1) _ N ?_ (by omega);split<;>omega
theorem pR {l:List Q4}(h:l≠[]):vn l∈l:=by
 have h0:0<l.length:=List.length_pos_iff.mpr h;have hi:=eX (fun i j=>gZ ((l.map k4).getD i []) ((l.map k4).getD j [])) (l.length - 1) 1 0 l.length h0 (by omega);unfold vn;rw[List.getD_eq_getElem?_getD,List.getElem?_eq_getElem hi];exact fq hi
theorem uc:∀ l:List Q4,ji (l.map q4)=some (l.map k4)
 |[]=>rfl
 | q::l=>by
  show (fI [.int (q.1:Int),.int (q.2.1:Int),.int (q.2.2.1:Int),.int (q.2.2.2:Int)]).bind (fun k=>if k.isEmpty then none else (ji (l.map q4)).map (k :: ·))=_;rw[uc l];rfl
theorem Bt {l:List Q4}(h:l≠[]):minD (l.map q4)=some (q4 (vn l)):=by
 have h0:0<l.length:=List.length_pos_iff.mpr h;unfold minD;rw[if_neg (by rw[List.isEmpty_iff];simpa using h)];have hk:fI (l.map q4)=none:=by
  cases l with
  |nil=>exact absurd rfl h
  |cons q l=>rfl
 rw[hk];show (ji (l.map q4)).bind _=_;rw[uc];show (l.map q4)[_]? = _;rw[aj,List.getElem?_map];have hi:=eX (fun i j=>gZ ((l.map k4).getD i []) ((l.map k4).getD j [])) (l.length - 1) 1 0 l.length h0 (by omega);unfold vn;rw[List.getD_eq_getElem?_getD,List.getElem?_eq_getElem hi];rfl
noncomputable def rn (k:Nat):List Nat->Nat
 |[]=>0
 |c::r=>if dF k c then rn k r+1 else 0
theorem hV (k:Nat):∀ t:List Nat,rn k t<=t.length
 |[]=>aq _
 | c::r=>by
  have:=hV k r;unfold rn;rw[ag];split<;>omega
noncomputable def nK (k:Nat)(C:List Q4)(m:Nat):List Q4:=(List.range m).map fun j=>one k (j+1) (C.getD j z4)
theorem gP (k:Nat)(C:List Q4)(m:Nat):(nK k C m).length=m:=by unfold nK;rw[aj,dg]
noncomputable def lH (t:List Nat)(C:List Q4):List Q4:=nK 1 C (min (rn 1 t) 64)++nK 2 C (min (rn 2 t) 64)++nK 3 C (min (rn 3 t) 64)
noncomputable def bc:List Nat->List Q4
 |[]=>[z4]
 |c::r=>vn (lH (c::r) (bc r))::bc r
theorem jQ:∀ t:List Nat,(bc t).length=t.length+1
 |[]=>rfl
 |c::r=>by unfold bc;rw[ag,ag,jQ r]
theorem mz (k s m:Nat)(C:List Q4):oy k (List.replicate (s+1) z4++C) s m=nK k C m:=by
 unfold oy nK;refine dn fun j _=>?_
 rw[List.getD_eq_getElem?_getD,List.getD_eq_getElem?_getD,List.getElem?_append_right (by rw[bq];omega),bq,show s+(j+1) - (s+1)=j by omega]
noncomputable def xG:cG:=(.cons (.putd 2 (.var 5) (.ite (.cmp .In (.ix (.var 0) (.var 3)) (.ix (.glb 3) (.var 5))) (.bin .Add (.ix (.var 2) (.var 5)) (.cst (.int (1)))) (.cst (.int (0)))))
  (.cons (.mut 4 .none .extend (.cons (.call 4 (.cons (.var 1) (.cons (.var 3) (.cons (.var 5) (.cons (.ix (.var 2) (.var 5)) .nil))))) .nil))
  .nil))
noncomputable def vM:cG:=(.cons (.asg (.nm 4) (.lst .nil) false)
  (.cons (.forr (.nm 5) (.seq (.blt .list (.cons (.var 2) .nil))) xG)
  (.cons (.setix 1 .none (.var 3) (.blt .min2 (.cons (.var 4) .nil)))
  .nil)))
noncomputable def bBC:cG:=(.cons (.asg (.nm 1) (.bin .Mult (.lst (.cons (.tup (.cons (.cst (.int (0))) (.cons (.cst (.int (0))) (.cons (.cst (.int (0))) (.cons (.cst (.int (0))) .nil))))) .nil)) (.bin .Add (.blt .len (.cons (.var 0) .nil)) (.cst (.int (1))))) false)
  (.cons (.asg (.nm 2) (.ddsp [(0,0),(1,0),(2,0)]) false)
  (.cons (.forr (.nm 3) (.rng3 (.bin .Sub (.blt .len (.cons (.var 0) .nil)) (.cst (.int (1)))) (.neg (.cst (.int (1)))) (.neg (.cst (.int (1))))) vM)
  (.cons (.ret (.var 1))
  .nil))))
noncomputable abbrev mp (rs:List (Int×MV)):Slot:=some (.mpi rs,.own)
noncomputable abbrev oQ (l:List Q4):Slot:=some (qs l,.own)
noncomputable abbrev EB (t:List Nat)(B:List Q4)(rs:List (Int×MV))(s:Nat)(ch:List Q4)(a5:Slot):En:=[sT t,oQ B,mp rs,sN s,oQ ch,a5]
theorem jx {t:List Nat}{B:List Q4}{rs:List (Int×MV)}{s:Nat}{ch:List Q4}{a5:Slot}(h5:aH a5):Tame (EB t B rs s ch a5):=.cons (aB _) (.cons (aB _) (.cons (aB _) (.cons (aB _) (.cons (aB _) (.cons h5 .nil)))))
theorem Bv {T:Tb}{f:Nat}{e1 e2 e3 e4:Ex}{env:En}{d1 d2 d3 d4 r:D}{R1 R2 R3 R4:Rt}(h1:ev T e1 env = .ok (d1,R1))(h2:ev T e2 env = .ok (d2,R2))(h3:ev T e3 env = .ok (d3,R3))(h4:ev T e4 env = .ok (d4,R4))(h:T.cl f [d1,d2,d3,d4] = .ok (r,true)):ev T (.call f (.cons e1 (.cons e2 (.cons e3 (.cons e4 .nil))))) env = .ok (r,.mv []):=by
 rw[ev,bE,h1,aA,bE,h2,aA,bE,h3,aA,bE,h4,aA,bE,aA,aA,aA,aA,aA];show (T.cl f [d1,d2,d3,d4]).bind _=_;rw[h];rfl
theorem B7 {T:Tb}(hg:GL T){env:En}{a b:Ex}{c k:Nat}{R R':Rt}(hc:c<128)(hk:k<4)(ha:ev T a env = .ok (.str (tx [c]),R))(hb:ev T b env = .ok (.int (k:Int),R')):ev T (.cmp .In a (.ix (.glb 3) b)) env = .ok (.bl (dF k c),.mv []):=by
 have e1:ev T (.ix (.glb 3) b) env = .ok (.str (KS k),.mv []):=by
  refine eP (i:=k) (cV (hg 3 (by decide))) hb ?_ rfl
  match k,hk with
  |0,_=>rfl
  |1,_=>rfl
  |2,_=>rfl
  |3,_=>rfl
 rw[ev,ha,aA,e1,aA];show (fS (some (By (tx [c]) (KS k)))).bind _=_;rw[mB c hc k hk];rfl
theorem r9 {T:Tb}(hg:GL T)(hck:tN T){t:List Nat}{B:List Q4}{rs rs':List (Int×MV)}{s k c r r':Nat}{ch:List Q4}(ht:t.length<=900)(hc:c<128)(hts:t[s]? = some c)(h1:1<=k)(h3:k<=3)
  (hr:r'=if dF k c then r+1 else 0) (hf:nH (.mpi rs) (.int (k:Int))=some (.int (r:Int))) (hp:qG rs (k:Int) (.int (r':Int))=rs') (hf':nH (.mpi rs') (.int (k:Int))=some (.int (r':Int))) (hl:rs.length<=3) (hB:s+min r' 64<B.length) (hch:ch.length<=500) :
  aF T xG (EB t B rs s ch (sN k)) = .nx (EB t B rs' s (ch++oy k B s (min r' 64)) (sN k)):=by
 have vt:ev T (.ix (.var 0) (.var 3)) (EB t B rs s ch (sN k)) = .ok (.str (tx [c]),.mv []):=nM (i:=s) (by omega) (aC (d:=.str (tx t)) (t:=.own) rfl rfl) (aC rfl rfl) hts;have ei:=B7 hg hc (show k<4 by omega) vt (aC (T:=T) (env:=EB t B rs s ch (sN k)) (i:=5) (d:=.int (k:Int)) (t:=.own) rfl rfl);have vr:∀(rs0:List (Int×MV)) (r0:Nat) (ch0:List Q4),nH (.mpi rs0) (.int (k:Int))=some (.int (r0:Int))->ev T (.ix (.var 2) (.var 5)) (EB t B rs0 s ch0 (sN k)) = .ok (.int (r0:Int),.mv []):=fun rs0 r0 ch0 h=>by
  rw[ev,bR (i:=2) (d:=.mpi rs0) rfl rfl,aA,aC (i:=5) (d:=.int (k:Int)) (t:=.own) rfl rfl,aA,h];rfl
 have ev1:ev T (.ite (.cmp .In (.ix (.var 0) (.var 3)) (.ix (.glb 3) (.var 5))) (.bin .Add (.ix (.var 2) (.var 5)) (.cst (.int (1)))) (.cst (.int (0)))) (EB t B rs s ch (sN k)) = .ok (.int (r':Int),.mv []):=by
  rw[ev,ei,aA];show (fS (some (dF k c))).bind _=_;rw[bS,aA,hr];by_cases hi:dF k c=true
  ·rw[if_pos hi,if_pos hi];exact aZ (y:=1) (vr rs r ch hf) (aE _)
  ·rw[if_neg hi,if_neg hi];exact aE _
 have g1:=rM (T:=T) (x:=2) (m:=.int (r':Int)) (jx (t:=t) (B:=B) (rs:=rs) (s:=s) (ch:=ch) (aB (.int (k:Int)))) rfl (Nat.lt_of_le_of_lt hl (by decide)) (aC (i:=5) (d:=.int (k:Int)) (t:=.own) rfl rfl) ev1 rfl;rw[hp] at g1;have g1:aY T (.putd 2 (.var 5) (.ite (.cmp .In (.ix (.var 0) (.var 3)) (.ix (.glb 3) (.var 5))) (.bin .Add (.ix (.var 2) (.var 5)) (.cst (.int (1)))) (.cst (.int (0))))) (EB t B rs s ch (sN k)) = .nx (EB t B rs' s ch (sN k)):=g1;have e2:ev T (.call 4 (.cons (.var 1) (.cons (.var 3) (.cons (.var 5) (.cons (.ix (.var 2) (.var 5)) .nil))))) (EB t B rs' s ch (sN k)) = .ok (qs (oy k B s (min r' 64)),.mv []) :=
  Bv (bR (d:=qs B) rfl rfl) (aC rfl rfl) (aC rfl rfl) (vr rs' r' ch hf') (hck B s k r' h1 h3 hB)
 have g2:=vG (x:=4) (xs:=ch.map q4) (ys:=(oy k B s (min r' 64)).map q4) (jx (t:=t) (B:=B) (rs:=rs') (s:=s) (ch:=ch) (aB (.int (k:Int)))) rfl e2 (ki _) (by rw[aj,aj,jw];exact fV (by omega));have g2:aY T (.mut 4 .none .extend (.cons (.call 4 (.cons (.var 1) (.cons (.var 3) (.cons (.var 5) (.cons (.ix (.var 2) (.var 5)) .nil))))) .nil)) (EB t B rs' s ch (sN k)) = .nx (EB t B rs' s (ch++oy k B s (min r' 64)) (sN k)):=by
  rw[g2,<-fi];rfl
 unfold xG;rw[aF,g1,aD,aF,g2,aD,aF]
noncomputable def r3 (a b c:Nat):List (Int×MV):=[(1,.int (a:Int)),(2,.int (b:Int)),(3,.int (c:Int))]
theorem dO (k c:Nat)(r:List Nat):rn k (c::r)=if dF k c then rn k r+1 else 0:=by rw[rn]
theorem vR (s:Nat)(x z:Q4)(C:List Q4):((List.replicate (s+1) z++C).map q4).set s (q4 x)=(List.replicate s z++x::C).map q4:=by
 induction s with
 |zero=>rfl
 |succ s ih =>
  show q4 z::((List.replicate (s+1) z++C).map q4).set s (q4 x)=_;rw[ih];rfl
theorem zo {T:Tb}(hg:GL T)(hck:tN T){t r:List Nat}{s c:Nat}{a4 a5:Slot}(h4:aH a4)(h5:aH a5)(ht:t.length<=900)(hd:t.drop s=c::r)(hc:c<128)(hany:dF 3 c=true) :
  ∃ ch,aF T vM [sT t,oQ (List.replicate (s+1) z4++bc r),mp (r3 (rn 1 r) (rn 2 r) (rn 3 r)),sN s,a4,a5] = .nx [sT t,oQ (List.replicate s z4++bc (c::r)),mp (r3 (rn 1 (c::r)) (rn 2 (c::r)) (rn 3 (c::r))),sN s,oQ ch,sN 3]:=by
 have hts:t[s]? = some c:=by
  have:=fm (fun l:List Nat=>l[0]?) hd;simpa using this
 have hlen:t.length=s+(r.length+1):=by
  have h1:=fm List.length hd;rw[bz,ag] at h1;omega
 have hB:∀ k,s+min (rn k (c::r)) 64<(List.replicate (s+1) z4++bc r).length:=fun k=>by
  rw[au,bq,jQ];have:=hV k (c::r);rw[ag] at this;omega
 have t0:Tame [sT t,oQ (List.replicate (s+1) z4++bc r),mp (r3 (rn 1 r) (rn 2 r) (rn 3 r)),sN s,a4,a5]:=.cons (aB _) (.cons (aB _) (.cons (aB _) (.cons (aB _) (.cons h4 (.cons h5 .nil)))));have g1:aY T (.asg (.nm 4) (.lst .nil) false) [sT t,oQ (List.replicate (s+1) z4++bc r),mp (r3 (rn 1 r) (rn 2 r) (rn 3 r)),sN s,a4,a5] = .nx (EB t (List.replicate (s+1) z4++bc r) (r3 (rn 1 r) (rn 2 r) (rn 3 r)) s [] a5):=aK t0 (show (4:Nat)<6 by decide) (by rw[ev,bE];rfl);have hit:gW T (.seq (.blt .list (.cons (.var 2) .nil))) (EB t (List.replicate (s+1) z4++bc r) (r3 (rn 1 r) (rn 2 r) (rn 3 r)) s [] a5) = .ok ([.int ((1:Nat):Int),.int ((2:Nat):Int),.int ((3:Nat):Int)],[]):=wK (ks:=r3 (rn 1 r) (rn 2 r) (rn 3 r)) rfl (by show (3:Nat)<=lim;decide);have i1:=r9 hg hck (k:=1) (r:=rn 1 r) (r':=rn 1 (c::r)) (rs:=r3 (rn 1 r) (rn 2 r) (rn 3 r)) (rs':=r3 (rn 1 (c::r)) (rn 2 r) (rn 3 r)) (ch:=[]) ht hc hts (by decide) (by decide) (dO 1 c r) rfl rfl rfl (by show (3:Nat)<=3;decide) (hB 1) (by show (0:Nat)<=500;decide);have i2:=r9 hg hck (k:=2) (r:=rn 2 r) (r':=rn 2 (c::r)) (rs:=r3 (rn 1 (c::r)) (rn 2 r) (rn 3 r)) (rs':=r3 (rn 1 (c::r)) (rn 2 (c::r)) (rn 3 r)) (ch:=[]++oy 1 (List.replicate (s+1) z4++bc r) s (min (rn 1 (c::r)) 64)) ht hc hts (by decide) (by decide) (dO 2 c r) rfl rfl rfl (by show (3:Nat)<=3;decide) (hB 2) (by rw[fh,jw];omega);have i3:=r9 hg hck (k:=3) (r:=rn 3 r) (r':=rn 3 (c::r)) (rs:=r3 (rn 1 (c::r)) (rn 2 (c::r)) (rn 3 r)) (rs':=r3 (rn 1 (c::r)) (rn 2 (c::r)) (rn 3 (c::r))) (ch:=[]++oy 1 (List.replicate (s+1) z4++bc r) s (min (rn 1 (c::r)) 64)++oy 2 (List.replicate (s+1) z4++bc r) s (min (rn 2 (c::r)) 64)) ht hc hts (by decide) (by decide) (dO 3 c r) rfl rfl rfl (by show (3:Nat)<=3;decide) (hB 3) (by rw[fh,au,jw,jw];omega);have bk:∀(rs:List (Int×MV)) (ch:List Q4) (a5:Slot) (k:Nat),aH a5->cF [] (.nm 5) (.int (k:Int)) (EB t (List.replicate (s+1) z4++bc r) rs s ch a5)=some (EB t (List.replicate (s+1) z4++bc r) rs s ch (sN k)):=fun rs ch a5 k h=>eZ (jx h) (show (5:Nat)<6 by decide)
 have g2:=fM hit (show bU (.nm 5) [] (aF T xG) [.int ((1:Nat):Int),.int ((2:Nat):Int),.int ((3:Nat):Int)] (EB t (List.replicate (s+1) z4++bc r) (r3 (rn 1 r) (rn 2 r) (rn 3 r)) s [] a5) = .nx _ by
  rw[bN (bk _ _ _ 1 h5) i1,bN (bk _ _ _ 2 (aB _)) i2,bN (bk _ _ _ 3 (aB _)) i3];rfl)
 rw[mz,mz,mz,fh] at g2;have hca:nK 1 (bc r) (min (rn 1 (c::r)) 64)++nK 2 (bc r) (min (rn 2 (c::r)) 64)++nK 3 (bc r) (min (rn 3 (c::r)) 64)=lH (c::r) (bc r):=rfl;rw[hca] at g2;have hne:lH (c::r) (bc r)≠[]:=by
  intro z;have:=fm List.length z;unfold lH at this;rw[au,au,gP,gP,gP,dO 3,if_pos hany] at this;have h0:([]:List Q4).length=0:=rfl;omega
 have em:ev T (.blt .min2 (.cons (.var 4) .nil)) (EB t (List.replicate (s+1) z4++bc r) (r3 (rn 1 (c::r)) (rn 2 (c::r)) (rn 3 (c::r))) s (lH (c::r) (bc r)) (sN 3)) = .ok (q4 (vn (lH (c::r) (bc r))),.mv []):=by
  rw[ev,bE,bR (i:=4) (d:=qs (lH (c::r) (bc r))) rfl rfl,aA,bE,aA,aA,tF];show (fS (minD ((lH (c::r) (bc r)).map q4))).bind _=_;rw[Bt hne];rfl
 have g3:=p6 (x:=1) (k:=.var 3) (xs:=(List.replicate (s+1) z4++bc r).map q4) (l:=(s:Int)) (m:=s) (jx (t:=t) (B:=List.replicate (s+1) z4++bc r) (rs:=r3 (rn 1 (c::r)) (rn 2 (c::r)) (rn 3 (c::r))) (s:=s) (ch:=lH (c::r) (bc r)) (aB (.int ((3:Nat):Int)))) rfl (aC (T:=T) rfl rfl) (by
  rw[aj,au,bq];exact il (by omega)) em (by rw[aj,au,bq,jQ];exact fV (by omega))
 have hset:((List.replicate (s+1) z4++bc r).map q4).set s (q4 (vn (lH (c::r) (bc r))))=(List.replicate s z4++bc (c::r)).map q4:=by
  rw[show bc (c::r)=vn (lH (c::r) (bc r))::bc r by rw[bc]];exact vR s _ _ _
 rw[hset] at g3;refine⟨lH (c::r) (bc r),?_⟩;unfold vM;rw[aF,g1,aD,aF,g2,aD,aF,g3,aD,aF];rfl
theorem xF (m:Nat):aS (((m+1:Nat):Int) - 1) (-1) (m+1) = .int (m:Int)::aS ((m:Int) - 1) (-1) m:=by
 rw[aS,show (((m+1:Nat):Int) - 1)=(m:Int) by omega,show (m:Int) + -1=(m:Int) - 1 by omega]
theorem z3 {T:Tb}{env:En}{e1 e2 e3:Ex}{n:Nat}{R R' R2:Rt}(hn:n<=1000)(h1:ev T e1 env = .ok (.int ((n:Int) - 1),R))(h2:ev T e2 env = .ok (.int (-1),R'))(h3:ev T e3 env = .ok (.int (-1),R2)):gW T (.rng3 e1 e2 e3) env = .ok (aS ((n:Int) - 1) (-1) n,[]):=by
 have hz:(Builtin.Range.rangeSize ((n:Int) - 1) (-1) (-1)).toNat=n:=by
  unfold Builtin.Range.rangeSize;rw[if_neg (by decide),show -(-1:Int)=1 from rfl,Int.ediv_one];by_cases h:(-1:Int)<(n:Int) - 1
  ·rw[if_pos h];omega
  ·rw[if_neg h];omega
 rw[gW,h1,aA,h2,aA,h3,aA];dsimp only;rw[hz,show eT ((n:Int) - 1)=true by unfold eT;exact bg ⟨by omega,by omega⟩];rfl
def Good (t:List Nat):Prop:=∀ c∈t,c<128/\dF 3 c=true
theorem pT {T:Tb}(hg:GL T)(hck:tN T){t:List Nat}(ht:t.length<=900)(hG:Good t):∀(m:Nat) (a3 a4 a5:Slot),aH a3->aH a4->aH a5->m<=t.length->∃ b3 b4 b5,aH b3/\aH b4/\aH b5 /\
  bU (.nm 3) [] (aF T vM) (aS ((m:Int) - 1) (-1) m) [sT t,oQ (List.replicate m z4++bc (t.drop m)),mp (r3 (rn 1 (t.drop m)) (rn 2 (t.drop m)) (rn 3 (t.drop m))),a3,a4,a5] = .nx [sT t,oQ (bc t),mp (r3 (rn 1 t) (rn 2 t) (rn 3 t)),b3,b4,b5]
 |0,a3,a4,a5,h3,h4,h5,_=>⟨a3,a4,a5,h3,h4,h5,rfl⟩
 | m+1,a3,a4,a5,h3,h4,h5,hm=>by
  have hlt:m<t.length:=by omega
  have hd:t.drop m=t[m]::t.drop (m+1):=df hlt;obtain⟨g1,g2⟩:=hG t[m] (fq hlt);obtain⟨ch,st⟩:=zo hg hck h4 h5 ht hd g1 g2;rw[<-hd] at st;obtain⟨b3,b4,b5,u3,u4,u5,q⟩:=pT hg hck ht hG m (sN m) (oQ ch) (sN 3) (aB _) (aB _) (aB _) (by omega);refine⟨b3,b4,b5,u3,u4,u5,?_⟩;have hb:cF [] (.nm 3) (.int (m:Int)) [sT t,oQ (List.replicate (m+1) z4++bc (t.drop (m+1))),mp (r3 (rn 1 (t.drop (m+1))) (rn 2 (t.drop (m+1))) (rn 3 (t.drop (m+1)))),a3,a4,a5]=some [sT t,oQ (List.replicate (m+1) z4++bc (t.drop (m+1))),mp (r3 (rn 1 (t.drop (m+1))) (rn 2 (t.drop (m+1))) (rn 3 (t.drop (m+1)))),sN m,a4,a5] :=
   eZ (.cons (aB _) (.cons (aB _) (.cons (aB _) (.cons h3 (.cons h4 (.cons h5 .nil)))))) (show (3:Nat)<6 by decide)
  rw[xF,bN hb st,q]
theorem BH {j:Int}(h0:0<=j)(h1:j<=1000):eR .Mult (.lst [q4 z4]) (.int j)=some (qs (List.replicate j.toNat z4)):=by
 show (if -(2 ^ 63)<=j/\j<2 ^ 63 then (if D.flats [q4 z4] then ck (1*j.toNat) (.lst (List.replicate j.toNat [q4 z4]).flatten) else none) else none)=_;rw[if_pos ⟨by omega,by omega⟩,if_pos (show D.flats [q4 z4]=true from rfl)];unfold ck;rw[if_pos (fV (by omega)),List.flatten_replicate_singleton];unfold qs;rw[List.map_replicate]
theorem AY {T:Tb}(hg:GL T)(hck:tN T){t:List Nat}(ht:t.length<=900)(hG:Good t):ret (aF T bBC (aO [.str (tx t)] 6)) = .ok (qs (bc t),true):=by
 have hst:aO [.str (tx t)] 6=[sT t,none,none,none,none,none]:=rfl;have tn:=aR;have el:ev T (.lst (.cons (.tup (.cons (.cst (.int (0))) (.cons (.cst (.int (0))) (.cons (.cst (.int (0))) (.cons (.cst (.int (0))) .nil))))) .nil)) [sT t,none,none,none,none,none] = .ok (.lst [q4 z4],.mv []):=by
  rw[ev,bE,o6 (aE _) (aE _) (aE _) (aE _),aA,bE,aA,aA];rfl
 have en:ev T (.bin .Add (.blt .len (.cons (.var 0) .nil)) (.cst (.int (1)))) [sT t,none,none,none,none,none] = .ok (.int ((t.length+1:Nat):Int),.mv []):=aZ (y:=1) (fF (by omega) (aC rfl rfl)) (aE _);have em:ev T (.bin .Mult (.lst (.cons (.tup (.cons (.cst (.int (0))) (.cons (.cst (.int (0))) (.cons (.cst (.int (0))) (.cons (.cst (.int (0))) .nil))))) .nil)) (.bin .Add (.blt .len (.cons (.var 0) .nil)) (.cst (.int (1))))) [sT t,none,none,none,none,none] = .ok (qs (List.replicate (t.length+1) z4),.mv []):=by
  have hm:eR .Mult (.lst [q4 z4]) (.int ((t.length+1:Nat):Int))=some (qs (List.replicate (t.length+1) z4)):=by
   rw[BH (by omega) (by omega),dh]
  rw[ev,el,aA,en,aA,hm,bS,aA];unfold qs;rw[gH (ki _)]
 have g1:aY T (.asg (.nm 1) (.bin .Mult (.lst (.cons (.tup (.cons (.cst (.int (0))) (.cons (.cst (.int (0))) (.cons (.cst (.int (0))) (.cons (.cst (.int (0))) .nil))))) .nil)) (.bin .Add (.blt .len (.cons (.var 0) .nil)) (.cst (.int (1))))) false) [sT t,none,none,none,none,none] = .nx [sT t,oQ (List.replicate (t.length+1) z4),none,none,none,none] :=
  aK (.cons (aB _) (.cons tn (.cons tn (.cons tn (.cons tn (.cons tn .nil)))))) (show (1:Nat)<6 by decide) em
 have ed:ev T (.ddsp [(0,0),(1,0),(2,0)]) [sT t,oQ (List.replicate (t.length+1) z4),none,none,none,none] = .ok (.mpi (r3 0 0 0),.mv []):=by
  rw[ev];have:mD T.gl [(0,0),(1,0),(2,0)] []=some (r3 0 0 0):=by
   unfold mD mD mD mD;rw[hg 0 (by decide),hg 1 (by decide),hg 2 (by decide)];rfl
  rw[this];rfl
 have g2:aY T (.asg (.nm 2) (.ddsp [(0,0),(1,0),(2,0)]) false) [sT t,oQ (List.replicate (t.length+1) z4),none,none,none,none] = .nx [sT t,oQ (List.replicate (t.length+1) z4),mp (r3 0 0 0),none,none,none] :=
  aK (.cons (aB _) (.cons (aB _) (.cons tn (.cons tn (.cons tn (.cons tn .nil)))))) (show (2:Nat)<6 by decide) ed
 have hit:gW T (.rng3 (.bin .Sub (.blt .len (.cons (.var 0) .nil)) (.cst (.int (1)))) (.neg (.cst (.int (1)))) (.neg (.cst (.int (1))))) [sT t,oQ (List.replicate (t.length+1) z4),mp (r3 0 0 0),none,none,none] = .ok (aS ((t.length:Int) - 1) (-1) t.length,[]) :=
  z3 (by omega) (nF (fF (by omega) (aC rfl rfl)) (aE _)) (by rw[ev,aE];rfl) (by rw[ev,aE];rfl)
 obtain⟨b3,b4,b5,u3,u4,u5,q⟩:=pT hg hck ht hG t.length none none none tn tn tn (aq _);rw[f7,show bc []=[z4] by rw[bc],<-List.replicate_succ'] at q;have g3:=fM hit q;rw[hst];unfold bBC;rw[aF,g1,aD,aF,g2,aD,aF,g3,aD,aF,aY,bR (i:=1) (d:=qs (bc t)) rfl rfl];rfl
def CV (T:Tb):Prop:=∀ t:List Nat,t.length<=900->Good t->T.cl 3 [.str (tx t)] = .ok (qs (bc t),true)
noncomputable abbrev Pe:=Nat×List Nat
noncomputable def pD (p:Pe):D:=.tup [.int (p.1:Int),.str (tx p.2)]
noncomputable def hd (t:List Nat):Q4:=(bc t).getD 0 z4
theorem o8:∀(s:Nat) (t:List Nat),s<=t.length->(bc t).drop s=bc (t.drop s)
 |0,t,_=>rfl
 |s+1,[],h=>absurd h (by simp)
 | s+1,c::r,h=>by
  rw[bc,gb,gb];exact o8 s r (by rw[ag] at h;omega)
theorem x3 (t:List Nat)(s:Nat)(h:s<=t.length):(bc t)[s]? = some (hd (t.drop s)):=by
 have hl:s<(bc t).length:=by rw[jQ];omega
 have h0:0<(bc (t.drop s)).length:=by rw[jQ];omega
 unfold hd;rw[List.getD_eq_getElem?_getD,<-o8 s t h,List.getElem?_drop,Nat.add_zero,List.getElem?_eq_getElem hl];rfl
theorem oj (k:Nat):∀(t:List Nat) (m:Nat),m<=rn k t->∀ c∈t.take m,dF k c=true
 |[],m,_,c,hc=>by rw[List.take_nil] at hc;cases hc
 |a::r,0,_,c,hc=>by cases hc
 | a::r,m+1,h,c,hc=>by
  unfold rn at h;split at h
  ·rename_i ha;rw[List.take_succ_cons] at hc;rcases gp.mp hc with rfl | hc
   ·exact ha
   ·exact oj k r m (by omega) c hc
  ·omega
theorem qq {k:Nat}{C:List Q4}{m:Nat}{q:Q4}(h:q∈nK k C m):∃ j,j<m/\q=one k (j+1) (C.getD j z4):=by
 unfold nK at h;obtain⟨j,hj,rfl⟩:=List.mem_map.mp h;exact⟨j,List.mem_range.mp hj,rfl⟩
structure pY (t:List Nat)(q:Q4):Prop where
 k1:1<=q.2.2.1
 k3:q.2.2.1<=3
 c1:1<=q.2.2.2
 c64:q.2.2.2<=64
 run:q.2.2.2<=rn q.2.2.1 t
theorem rC {t:List Nat}{C:List Q4}{q:Q4}(h:q∈lH t C):pY t q:=by
 have key:∀ k,1<=k->k<=3->q∈nK k C (min (rn k t) 64)->pY t q:=fun k h1 h3 hm=>by
  obtain⟨j,hj,rfl⟩:=qq hm;exact⟨h1,h3,Nat.succ_le_succ (cw j),show j+1<=64 by omega,show j+1<=rn k t by omega⟩
 unfold lH at h;rcases List.mem_append.mp h with h | h
 ·rcases List.mem_append.mp h with h | h
  ·exact key 1 (by decide) (by decide) h
  ·exact key 2 (by decide) (by decide) h
 ·exact key 3 (by decide) (by decide) h
theorem tB {c:Nat}{r:List Nat}{C:List Q4}(h:dF 3 c=true):lH (c::r) C≠[]:=by
 intro z;have:=fm List.length z;unfold lH at this;rw[au,au,gP,gP,gP,dO 3,if_pos h] at this;have h0:([]:List Q4).length=0:=rfl;omega
theorem mh (c:Nat)(r:List Nat):hd (c::r)=vn (lH (c::r) (bc r)):=by
 unfold hd;rw[bc];rfl
theorem eU {c:Nat}{r:List Nat}(h:dF 3 c=true):pY (c::r) (hd (c::r)):=by
 rw[mh];exact rC (pR (tB h))
noncomputable def pc:Nat->List Nat->List Pe
 |0,_=>[]
 |n+1,t=>if t.isEmpty then [] else ((hd t).2.2.1,t.take (hd t).2.2.2)::pc n (t.drop (hd t).2.2.2)
theorem dM (n c:Nat)(r:List Nat):pc (n+1) (c::r)=((hd (c::r)).2.2.1,(c::r).take (hd (c::r)).2.2.2)::pc n ((c::r).drop (hd (c::r)).2.2.2):=by
 rw[pc];rfl
theorem fK:∀ n,pc n []=[]
 |0=>rfl
 |n+1=>rfl
noncomputable def xb:cG:=(.cons (.asg (.nm 4) (.ix (.ix (.var 1) (.var 3)) (.cst (.int (2)))) false)
  (.cons (.asg (.nm 5) (.bin .Add (.var 3) (.ix (.ix (.var 1) (.var 3)) (.cst (.int (3))))) false)
  (.cons (.mut 2 .none .append (.cons (.tup (.cons (.var 4) (.cons (.sl (.var 0) (.some (.var 3)) (.some (.var 5))) .nil))) .nil))
  (.cons (.asg (.nm 3) (.var 5) false)
  .nil))))
noncomputable def bCT:cG:=(.cons (.expr (.call 2 (.cons (.var 0) .nil)))
  (.cons (.asg (.nm 1) (.call 3 (.cons (.var 0) .nil)) false)
  (.cons (.asg (.nm 2) (.lst .nil) false)
  (.cons (.asg (.nm 3) (.cst (.int (0))) false)
  (.cons (.whl (.cmp .Lt (.var 3) (.blt .len (.cons (.var 0) .nil))) xb)
  (.cons (.ret (.var 2))
  .nil))))))
noncomputable abbrev oP (l:List Pe):Slot:=some (.lst (l.map pD),.own)
noncomputable abbrev EC (t:List Nat)(B:List Q4)(P:List Pe)(s:Nat)(a4 a5:Slot):En:=[sT t,oQ B,oP P,sN s,a4,a5]
theorem jB {t:List Nat}{B:List Q4}{P:List Pe}{s:Nat}{a4 a5:Slot}(h4:aH a4)(h5:aH a5):Tame (EC t B P s a4 a5):=.cons (aB _) (.cons (aB _) (.cons (aB _) (.cons (aB _) (.cons h4 (.cons h5 .nil)))))
theorem CB {T:Tb}{t:List Nat}{B:List Q4}{P:List Pe}{s:Nat}{q:Q4}{a4 a5:Slot}(h4:aH a4)(h5:aH a5)(ht:t.length<=900)(hq:B[s]? = some q)(hs:s+q.2.2.2<=t.length)(hP:P.length<=900) :
  aF T xb (EC t B P s a4 a5) = .nx (EC t B (P ++ [(q.2.2.1,(t.drop s).take q.2.2.2)]) (s+q.2.2.2) (sN q.2.2.1) (sN (s+q.2.2.2))):=by
 have vq:∀ a4 a5,ev T (.ix (.var 1) (.var 3)) (EC t B P s a4 a5) = .ok (q4 q,.mv []):=fun a4 a5=>me (ds:=B.map q4) (i:=s) (bR (d:=qs B) rfl rfl) (aC rfl rfl) (by rw[List.getElem?_map,hq];rfl) (pZ q)
 have e1:ev T (.ix (.ix (.var 1) (.var 3)) (.cst (.int (2)))) (EC t B P s a4 a5) = .ok (.int (q.2.2.1:Int),.mv []):=eP (i:=2) (vq _ _) (aE _) rfl rfl;have g1:aY T (.asg (.nm 4) (.ix (.ix (.var 1) (.var 3)) (.cst (.int (2)))) false) (EC t B P s a4 a5) = .nx (EC t B P s (sN q.2.2.1) a5):=aK (jB h4 h5) (show (4:Nat)<6 by decide) e1;have e2:ev T (.ix (.ix (.var 1) (.var 3)) (.cst (.int (3)))) (EC t B P s (sN q.2.2.1) a5) = .ok (.int (q.2.2.2:Int),.mv []):=eP (i:=3) (vq _ _) (aE _) rfl rfl;have e3:ev T (.bin .Add (.var 3) (.ix (.ix (.var 1) (.var 3)) (.cst (.int (3))))) (EC t B P s (sN q.2.2.1) a5) = .ok (.int ((s+q.2.2.2:Nat):Int),.mv []):=aZ (aC rfl rfl) e2;have g2:aY T (.asg (.nm 5) (.bin .Add (.var 3) (.ix (.ix (.var 1) (.var 3)) (.cst (.int (3))))) false) (EC t B P s (sN q.2.2.1) a5) = .nx (EC t B P s (sN q.2.2.1) (sN (s+q.2.2.2))):=aK (jB (aB _) h5) (show (5:Nat)<6 by decide) e3;have e4:ev T (.sl (.var 0) (.some (.var 3)) (.some (.var 5))) (EC t B P s (sN q.2.2.1) (sN (s+q.2.2.2))) = .ok (.str (tx ((t.drop s).take q.2.2.2)),.mv []):=nT (by omega) (aC rfl rfl) (gN (aC (d:=.int (s:Int)) (t:=.own) rfl rfl)) (gN (aC (d:=.int ((s+q.2.2.2:Nat):Int)) (t:=.own) rfl rfl)) (qe t s q.2.2.2 hs);have e5:=j0 (aC (T:=T) (env:=EC t B P s (sN q.2.2.1) (sN (s+q.2.2.2))) (i:=4) (d:=.int (q.2.2.1:Int)) (t:=.own) rfl rfl) e4;have g3:=my (x:=2) (xs:=P.map pD) (jB (t:=t) (B:=B) (P:=P) (s:=s) (aB (.int (q.2.2.1:Int))) (aB (.int ((s+q.2.2.2:Nat):Int)))) rfl e5 (by rw[aj];exact fV (by omega));have g3:aY T (.mut 2 .none .append (.cons (.tup (.cons (.var 4) (.cons (.sl (.var 0) (.some (.var 3)) (.some (.var 5))) .nil))) .nil)) (EC t B P s (sN q.2.2.1) (sN (s+q.2.2.2))) = .nx (EC t B (P ++ [(q.2.2.1,(t.drop s).take q.2.2.2)]) s (sN q.2.2.1) (sN (s+q.2.2.2))):=by
  rw[g3,show (P.map pD ++ [D.tup [.int (q.2.2.1:Int),.str (tx ((t.drop s).take q.2.2.2))]])=(P ++ [(q.2.2.1,(t.drop s).take q.2.2.2)]).map pD by rw[fi];rfl];rfl
 have g4:aY T (.asg (.nm 3) (.var 5) false) (EC t B (P ++ [(q.2.2.1,(t.drop s).take q.2.2.2)]) s (sN q.2.2.1) (sN (s+q.2.2.2))) = .nx (EC t B (P ++ [(q.2.2.1,(t.drop s).take q.2.2.2)]) (s+q.2.2.2) (sN q.2.2.1) (sN (s+q.2.2.2))):=aK (jB (aB _) (aB _)) (show (3:Nat)<6 by decide) (aC rfl rfl);unfold xb;rw[aF,g1,aD,aF,g2,aD,aF,g3,aD,aF,g4,aD,aF]
theorem pM {T:Tb}{t:List Nat}{B:List Q4}{P:List Pe}{s:Nat}{a4 a5:Slot}(ht:t.length<=900):((ev T (.cmp .Lt (.var 3) (.blt .len (.cons (.var 0) .nil))) (EC t B P s a4 a5)).bind fun p=>fS (truth p.1)) = .ok (decide (s<t.length)):=by
 rw[uA (x:=s) (y:=t.length) (aC rfl rfl) (fF (by omega) (aC rfl rfl)),aA];rfl
theorem Good.drop {t:List Nat}(h:Good t)(n:Nat):Good (t.drop n):=fun c hc=>h c (List.mem_of_mem_drop hc)
theorem sW {T:Tb}{t:List Nat}(ht:t.length<=900)(hG:Good t):∀(n f s:Nat) (P:List Pe) (a4 a5:Slot),aH a4->aH a5->s<=t.length->t.length - s<=n->n<f->P.length+n<=900->∃ b4 b5,
  eJ (fun env=>(ev T (.cmp .Lt (.var 3) (.blt .len (.cons (.var 0) .nil))) env).bind fun p=>fS (truth p.1)) (aF T xb) f (EC t (bc t) P s a4 a5) = .nx (EC t (bc t) (P++pc n (t.drop s)) t.length b4 b5)
 |n,0,s,P,a4,a5,_,_,_,_,h,_=>absurd h (Nat.not_lt_zero _)
 | n,f+1,s,P,a4,a5,h4,h5,hs,hn,hf,hP=>by
  by_cases hlt:s<t.length
  ·have hd':t.drop s=t[s]::t.drop (s+1):=df hlt;obtain⟨g1,g2⟩:=hG t[s] (fq hlt);have F:pY (t.drop s) (hd (t.drop s)):=by rw[hd'];exact eU g2
   have hr:=hV (hd (t.drop s)).2.2.1 (t.drop s);have hrun:=F.run;have hc1:=F.c1;rw[bz] at hr;cases n with
   |zero=>omega
   |succ n =>
    obtain⟨b4,b5,q⟩:=sW ht hG n f (s+(hd (t.drop s)).2.2.2) (P ++ [((hd (t.drop s)).2.2.1,(t.drop s).take (hd (t.drop s)).2.2.2)]) (sN (hd (t.drop s)).2.2.1) (sN (s+(hd (t.drop s)).2.2.2)) (aB _) (aB _) (by omega) (by omega) (by omega) (by rw[au,cx];omega);refine⟨b4,b5,?_⟩;have hp:pc (n+1) (t.drop s)=((hd (t.drop s)).2.2.1,(t.drop s).take (hd (t.drop s)).2.2.2)::pc n ((t.drop s).drop (hd (t.drop s)).2.2.2):=by
     rw[hd',dM,<-hd']
    rw[tJ (by rw[pM ht,bg hlt]) (CB h4 h5 ht (x3 t s hs) (by omega) (by omega)),q,hp,List.drop_drop,ef];rfl
  ·have e:s=t.length:=by omega
   refine⟨a4,a5,?_⟩;rw[uD (by rw[pM ht,av hlt]),e,f7,fK,ba]
noncomputable def xq:cG:=(.cons (.ite (.cmp .NotIn (.var 2) (.ix (.glb 3) (.glb 2))) (.cons (.expr (.neg (.cst .non)))
  .nil) .nil)
  .nil)
noncomputable def bRS:cG:=(.cons (.forr (.tp [1,2]) (.enum (.var 0)) xq)
  .nil)
noncomputable def enT (i:Nat)(t:List Nat):List D:=((t.map fun c=>D.str (tx [c])).zipIdx i).map fun q=>.tup [.int (q.2:Int),q.1]
theorem tH (i c:Nat)(t:List Nat):enT i (c::t) = .tup [.int (i:Int),.str (tx [c])]::enT (i+1) t:=rfl
theorem CA {T:Tb}{env:En}{e:Ex}{t:List Nat}(h:ev T e env = .ok (.str (tx t),.mv [])):gW T (.enum e) env = .ok (enT 0 t,[]):=by
 rw[gW,h,aA];rfl
theorem CK {T:Tb}(hg:GL T){env:En}{a:Ex}{c:Nat}{R:Rt}(hc:c<128)(ha:ev T a env = .ok (.str (tx [c]),R)):ev T (.cmp .NotIn a (.ix (.glb 3) (.glb 2))) env = .ok (.bl (!dF 3 c),.mv []):=by
 have e1:ev T (.ix (.glb 3) (.glb 2)) env = .ok (.str (KS 3),.mv []):=eP (i:=3) (cV (hg 3 (by decide))) (cV (hg 2 (by decide))) rfl rfl;rw[ev,ha,aA,e1,aA];show (fS ((some (By (tx [c]) (KS 3))).map (!·))).bind _=_;rw[mB c hc 3 (by decide)];rfl
theorem xD {t:List Nat}{a1 a2:Slot}(h1:aH a1)(h2:aH a2)(i c:Nat):cF [] (.tp [1,2]) (.tup [.int (i:Int),.str (tx [c])]) [sT t,a1,a2]=some [sT t,sN i,sT [c]]:=kN (.cons (aB _) (.cons h1 (.cons h2 .nil))) (show (1:Nat)<3 by decide) (show (2:Nat)<3 by decide) rfl rfl
theorem ql {T:Tb}(hg:GL T){t:List Nat}:∀(l:List Nat) (i:Nat) (a1 a2:Slot),aH a1->aH a2->Good l->∃ b1 b2,aH b1/\aH b2/\bU (.tp [1,2]) [] (aF T xq) (enT i l) [sT t,a1,a2] = .nx [sT t,b1,b2]
 |[],i,a1,a2,h1,h2,_=>⟨a1,a2,h1,h2,rfl⟩
 | c::l,i,a1,a2,h1,h2,hG=>by
  obtain⟨g1,g2⟩:=hG c ao;obtain⟨b1,b2,u1,u2,q⟩:=ql hg (t:=t) l (i+1) (sN i) (sT [c]) (aB _) (aB _) fun d hd=>hG d (ak _ hd)
  refine⟨b1,b2,u1,u2,?_⟩;have e1:=CK hg g1 (aC (T:=T) (env:=[sT t,sN i,sT [c]]) (i:=2) (d:=.str (tx [c])) (t:=.own) rfl rfl);rw[g2] at e1;rw[tH,bN (xD h1 h2 i c) (show aF T xq [sT t,sN i,sT [c]] = .nx [sT t,sN i,sT [c]] by unfold xq;rw[aF,ite_ff e1,aD,aF]),q]
theorem CU {T:Tb}(hg:GL T){t:List Nat}(hG:Good t):ret (aF T bRS (aO [.str (tx t)] 3)) = .ok (.non,true):=by
 have hst:aO [.str (tx t)] 3=[sT t,none,none]:=rfl;obtain⟨b1,b2,u1,u2,q⟩:=ql hg (t:=t) t 0 none none aR aR hG;rw[hst];unfold bRS;rw[aF,fM (CA (aC rfl rfl)) q,aD,aF];rfl
def B2 (T:Tb):Prop:=∀ t:List Nat,Good t->T.cl 2 [.str (tx t)] = .ok (.non,true)
theorem Bc {T:Tb}(hf:1000<=T.fuel)(hrs:B2 T)(hbc:CV T){t:List Nat}(ht:t.length<=400)(hG:Good t):ret (aF T bCT (aO [.str (tx t)] 6)) = .ok (.lst ((pc t.length t).map pD),true):=by
 have hst:aO [.str (tx t)] 6=[sT t,none,none,none,none,none]:=rfl;have tn:=aR;have g0:aY T (.expr (.call 2 (.cons (.var 0) .nil))) [sT t,none,none,none,none,none] = .nx [sT t,none,none,none,none,none]:=by
  rw[aY,m9 (aC rfl rfl) (hrs t hG)];rfl
 have g1:aY T (.asg (.nm 1) (.call 3 (.cons (.var 0) .nil)) false) [sT t,none,none,none,none,none] = .nx [sT t,oQ (bc t),none,none,none,none] :=
  aK (.cons (aB _) (.cons tn (.cons tn (.cons tn (.cons tn (.cons tn .nil)))))) (show (1:Nat)<6 by decide) (m9 (aC rfl rfl) (hbc t (by omega) hG))
 have g2:aY T (.asg (.nm 2) (.lst .nil) false) [sT t,oQ (bc t),none,none,none,none] = .nx [sT t,oQ (bc t),oP [],none,none,none] :=
  aK (.cons (aB _) (.cons (aB _) (.cons tn (.cons tn (.cons tn (.cons tn .nil)))))) (show (2:Nat)<6 by decide) (by rw[ev,bE];rfl)
 have g3:aY T (.asg (.nm 3) (.cst (.int (0))) false) [sT t,oQ (bc t),oP [],none,none,none] = .nx (EC t (bc t) [] 0 none none) :=
  aK (.cons (aB _) (.cons (aB _) (.cons (aB _) (.cons tn (.cons tn (.cons tn .nil)))))) (show (3:Nat)<6 by decide) (aE _)
 obtain⟨b4,b5,q⟩:=sW (T:=T) (show t.length<=900 by omega) hG t.length T.fuel 0 [] none none tn tn (cw _) (by omega) (by omega) (by rw[bh];omega);rw[hst];unfold bCT;rw[aF,g0,aD,aF,g1,aD,aF,g2,aD,aF,g3,aD,aF,aY,q,aD,aF,aY,bR (i:=2) (d:=.lst ((pc t.length t).map pD)) rfl rfl];rfl
def CTok (T:Tb):Prop:=∀ t:List Nat,t.length<=400->Good t->T.cl 1 [.str (tx t)] = .ok (.lst ((pc t.length t).map pD),true)
structure Piece (p:Pe):Prop where
 k1:1<=p.1
 k3:p.1<=3
 c1:1<=p.2.length
 c64:p.2.length<=64
 all:∀ c∈p.2,dF p.1 c=true
theorem nh:∀(n:Nat) (t:List Nat),Good t->∀ p∈pc n t,Piece p
 |0,t,_,p,hp=>by cases hp
 |n+1,[],_,p,hp=>by rw[fK] at hp;cases hp
 | n+1,c::r,hG,p,hp=>by
  rw[dM] at hp;have F:=eU (r:=r) (hG c ao).2;have hl:(hd (c::r)).2.2.2<=(c::r).length:=bj F.run (hV _ _);rcases gp.mp hp with rfl | hp
  ·refine⟨F.k1,F.k3,?_,?_,oj _ _ _ F.run⟩
   ·show 1<=((c::r).take _).length;rw[bw,dk hl];exact F.c1
   ·show ((c::r).take _).length<=64;rw[bw,dk hl];exact F.c64
  ·exact nh n _ (hG.drop _) p hp
theorem l7:∀(n:Nat) (t:List Nat),Good t->t.length<=n->((pc n t).map (·.2)).flatten=t
 | 0,t,_,h=>by
  have:t=[]:=List.length_eq_zero_iff.mp (by omega);subst this;rfl
 |n+1,[],_,_=>by rw[fK];rfl
 | n+1,c::r,hG,h=>by
  have F:=eU (r:=r) (hG c ao).2;have hc1:=F.c1;rw[dM,aw,bp,l7 n _ (hG.drop _) (by rw[bz];omega)];exact List.take_append_drop _ _
theorem n5:∀(n:Nat) (t:List Nat),(pc n t).length<=n
 |0,t=>aq _
 |n+1,[]=>by rw[fK];exact cw _
 | n+1,c::r=>by
  rw[dM,ag];exact Nat.succ_le_succ (n5 n _)
open Pc.Fr (iD)
noncomputable def bMX:cG:=(.cons (.asg (.nm 3) (.var 1) false)
  (.cons (.ite (.cmp .Gt (.blt .len (.cons (.var 0) .nil)) (.cst (.int (0)))) (.cons (.asg (.nm 3) (.ix (.var 0) (.bin .Mod (.var 1) (.blt .len (.cons (.var 0) .nil)))) false)
  .nil) .nil)
  (.cons (.ret (.bin .Mod (.bin .Add (.bin .Add (.bin .Add (.bin .Mult (.bin .Mod (.var 3) (.cst (.int (1000000007)))) (.cst (.int (69621)))) (.bin .Mult (.bin .Mult (.var 1) (.var 1)) (.cst (.int (7919))))) (.bin .Mult (.cst (.int (5))) (.var 1))) (.cst (.int (1234567)))) (.var 2)))
  .nil)))
noncomputable abbrev EM (cs:List Int)(k p:Int)(a:Slot):En:=[some (.lst (iD cs),.sh []),sI k,sI p,a]
theorem qd {cs:List Int}{k p:Int}{a:Slot}(h:aH a):Tame (EM cs k p a):=.cons (bQ _) (.cons (aB _) (.cons (aB _) (.cons h .nil)))
theorem uu {T:Tb}{cs:List Int}{k p v:Int}(hk:small k=true)(hp:0<p):∃ r,0<=r/\r<p/\ret (aF T (.cons (.ret (.bin .Mod (.bin .Add (.bin .Add (.bin .Add (.bin .Mult (.bin .Mod (.var 3) (.cst (.int (1000000007)))) (.cst (.int (69621)))) (.bin .Mult (.bin .Mult (.var 1) (.var 1)) (.cst (.int (7919))))) (.bin .Mult (.cst (.int (5))) (.var 1))) (.cst (.int (1234567)))) (.var 2))) .nil) (EM cs k p (sI v))) = .ok (.int r,true):=by
 have v1:ev T (.var 1) (EM cs k p (sI v)) = .ok (.int k,.mv []):=aC rfl rfl;have v2:ev T (.var 2) (EM cs k p (sI v)) = .ok (.int p,.mv []):=aC rfl rfl;have v3:ev T (.var 3) (EM cs k p (sI v)) = .ok (.int v,.mv []):=aC rfl rfl;have e1:=Fr.fJ (by rw[show small 69621=true by decide,Bool.or_true]) (dQ (by decide) v3 (aE (.int 1000000007))) (aE (.int 69621));have e2:=Fr.fJ (by rw[show small 7919=true by decide,Bool.or_true]) (Fr.fJ (by rw[hk];rfl) v1 v1) (aE (.int 7919));have e3:=Fr.fJ (by rw[show small 5=true by decide];rfl) (aE (.int 5)) v1;have e4:=dQ hp (bH (bH (bH e1 e2) e3) (aE (.int 1234567))) v2;exact⟨_,fk _ (by omega),dw _ hp,i4 e4⟩
theorem B6 {T:Tb}{cs:List Int}{k p:Int}(hk:small k=true)(hp:0<p):∃ r,0<=r/\r<p/\ret (aF T bMX (aO [.lst (iD cs),.int k,.int p] 4)) = .ok (.int r,true):=by
 have hst:aO [.lst (iD cs),.int k,.int p] 4=EM cs k p none:=rfl;have g1:aY T (.asg (.nm 3) (.var 1) false) (EM cs k p none) = .nx (EM cs k p (sI k)):=aK (qd aR) (show (3:Nat)<4 by decide) (aC rfl rfl);obtain⟨R,v0⟩:∃ R,ev T (.var 0) (EM cs k p (sI k)) = .ok (.lst (iD cs),R):=gQ rfl;have el:ev T (.blt .len (.cons (.var 0) .nil)) (EM cs k p (sI k)) = .ok (.int (cs.length:Int),.mv []):=by
  rw[vD v0,show (iD cs).length=cs.length from aj ..]
 have ec:=AD (x:=cs.length) (y:=0) el (aE (.int 0));rw[hst];unfold bMX;rw[aF,g1,aD,aF,iH ec];by_cases h0:0<cs.length
 ·rw[if_pos h0];obtain⟨j,hj,hj2⟩:=iL (fk k (show (cs.length:Int)≠0 by omega)) (dw k (show (0:Int)<(cs.length:Int) by omega));have hj3:j<cs.length:=by omega
  have em:=dQ (show (0:Int)<(cs.length:Int) by omega) (aC (T:=T) (env:=EM cs k p (sI k)) (i:=1) (d:=.int k) (t:=.own) rfl rfl) el;rw[hj] at em;have ex:=me (i:=j) v0 em (by rw[List.getElem?_map,List.getElem?_eq_getElem hj3];rfl) rfl;have g2:aY T (.asg (.nm 3) (.ix (.var 0) (.bin .Mod (.var 1) (.blt .len (.cons (.var 0) .nil)))) false) (EM cs k p (sI k)) = .nx (EM cs k p (sI cs[j])):=aK (qd (aB _)) (show (3:Nat)<4 by decide) ex;rw[eA g2,aD];exact uu hk hp
 ·rw[if_neg h0,dS,aD];exact uu hk hp
def sP (T:Tb):Prop:=∀(cs:List Int) (k p:Int),small k=true->0<p->∃ r,0<=r/\r<p/\T.cl 5 [.lst (iD cs),.int k,.int p] = .ok (.int r,true)
noncomputable def bSG:cG:=(.cons (.ite (.cmp .Eq (.var 0) (.cst (.int (1)))) (.cons (.ret (.cst (.str ("0123456789" : PySem.Str))))
  .nil) .nil)
  (.cons (.ite (.cmp .Eq (.var 0) (.cst (.int (2)))) (.cons (.ret (.cst (.str (" ABCDEFGHIJKLMNOPQRSTUVWXYZ.,-:/" : PySem.Str))))
  .nil) .nil)
  (.cons (.asg (.nm 1) (.cst (.str (" !\"#$&'()*+,-./0123456789:;<=>?@ABCDEFGHIJKLMNOPQRSTUVWXYZ[\\]^_`" : PySem.Str))) false)
  (.cons (.ret (.bin .Add (.var 1) (.cst (.str ("abcdefghijklmnopqrstuvwxyz{|}~" : PySem.Str)))))
  .nil))))
theorem A7 {T:Tb}{k:Nat}(h1:1<=k)(h3:k<=3):ret (aF T bSG (aO [.int (k:Int)] 2)) = .ok (.str (KS k),true):=by
 have:k=1\/k=2\/k=3:=by omega
 rcases this with rfl | rfl | rfl
 ·rfl
 ·rfl
 ·rfl
def Cd (T:Tb):Prop:=∀ k:Nat,1<=k->k<=3->T.cl 6 [.int (k:Int)] = .ok (.str (KS k),true)
noncomputable def qZ:cG:=(.cons (.asg (.nm 0) (.bin .Add (.bin .Mod (.bin .Mult (.var 0) (.cst (.int (48271)))) (.cst (.int (2147483647)))) (.var 4)) false)
  (.cons (.asg (.nm 3) (.bin .Add (.var 3) (.ix (.var 2) (.bin .Mod (.bin .FloorDiv (.var 0) (.cst (.int (64)))) (.blt .len (.cons (.var 2) .nil))))) false)
  .nil))
noncomputable def bRN:cG:=(.cons (.asg (.nm 2) (.call 6 (.cons (.bin .Add (.cst (.int (1))) (.bin .Mod (.var 0) (.cst (.int (3))))) .nil)) false)
  (.cons (.asg (.nm 3) (.cst (.str ("" : PySem.Str))) false)
  (.cons (.forr (.nm 4) (.rng1 (.var 1)) qZ)
  (.cons (.ret (.var 3))
  .nil))))
noncomputable abbrev ER (d n:Int)(S cs:List Nat)(a:Slot):En:=[sI d,sI n,sT S,sT cs,a]
theorem mn {d n:Int}{S cs:List Nat}{a:Slot}(h:aH a):Tame (ER d n S cs a):=.cons (aB _) (.cons (aB _) (.cons (aB _) (.cons (aB _) (.cons h .nil))))
theorem zE {cs:List Nat}(hl:cs.length<=1000){i:Int}(h0:0<=i)(h1:i<cs.length){T:Tb}{env:En}{a b:Ex}{R R':Rt}(ha:ev T a env = .ok (.str (tx cs),R))(hb:ev T b env = .ok (.int i,R')):∃ c∈cs,ev T (.ix a b) env = .ok (.str (tx [c]),.mv []):=by
 obtain⟨j,rfl,_⟩:=iL h0 h1;have hj:j<cs.length:=by omega
 exact⟨cs[j],fq hj,nM hl ha hb (List.getElem?_eq_getElem hj)⟩
theorem BM {T:Tb}{d n k:Int}{S cs:List Nat}(hS:S.length<=100)(hS0:0<S.length)(hcs:cs.length<=200):∃ d',∃ c∈S,aF T qZ (ER d n S cs (sI k)) = .nx (ER d' n S (cs ++ [c]) (sI k)):=by
 have e1:=bH (dQ (by decide) (Fr.fJ (by rw[show small 48271=true by decide,Bool.or_true]) (aC (T:=T) (env:=ER d n S cs (sI k)) (i:=0) (d:=.int d) (t:=.own) rfl rfl) (aE (.int 48271))) (aE (.int 2147483647))) (aC (i:=4) (d:=.int k) (t:=.own) rfl rfl);have g1:=aK (i:=0) (mn (d:=d) (n:=n) (S:=S) (cs:=cs) (aB (.int k))) (show (0:Nat)<5 by decide) e1;have g1:aY T (.asg (.nm 0) (.bin .Add (.bin .Mod (.bin .Mult (.var 0) (.cst (.int (48271)))) (.cst (.int (2147483647)))) (.var 4)) false) (ER d n S cs (sI k)) = .nx (ER (d*48271%2147483647+k) n S cs (sI k)):=g1;generalize d*48271%2147483647+k=d' at g1;have v2:ev T (.var 2) (ER d' n S cs (sI k)) = .ok (.str (tx S),.mv []):=aC rfl rfl;have e2:=dQ (show (0:Int)<(S.length:Int) by omega) (fQ (by decide) (by decide) (aC (T:=T) (env:=ER d' n S cs (sI k)) (i:=0) (d:=.int d') (t:=.own) rfl rfl) (aE (.int 64))) (fF (by omega) v2);obtain⟨c,hc,e3⟩:=zE (by omega) (fk _ (by omega)) (dw _ (show (0:Int)<(S.length:Int) by omega)) v2 e2;have e4:=pG (aC (T:=T) (env:=ER d' n S cs (sI k)) (i:=3) (d:=.str (tx cs)) (t:=.own) rfl rfl) e3 (by rw[cx];omega);have g2:=aK (i:=3) (mn (d:=d') (n:=n) (S:=S) (cs:=cs) (aB (.int k))) (show (3:Nat)<5 by decide) e4;refine⟨d',c,hc,?_⟩;unfold qZ;rw[aF,g1,aD,aF,g2,aD,aF];rfl
theorem pB {T:Tb}{n:Int}{S:List Nat}(hS:S.length<=100)(hS0:0<S.length):∀(l:List Int) (d:Int) (cs:List Nat) (a:Slot),aH a->cs.length+l.length<=100->(∀ c∈cs,c∈S)->∃ d' cs' a',aH a'/\cs'.length=cs.length+l.length/\(∀ c∈cs',c∈S)/\bU (.nm 4) [] (aF T qZ) (l.map D.int) (ER d n S cs a) = .nx (ER d' n S cs' a')
 |[],d,cs,a,h,_,hc=>⟨d,cs,a,h,rfl,hc,rfl⟩
 | k::l,d,cs,a,h,hl,hc=>by
  rw[ag] at hl;obtain⟨d1,c,hcS,st⟩:=BM (T:=T) (d:=d) (n:=n) (k:=k) (cs:=cs) hS hS0 (by omega);obtain⟨d',cs',a',t',q1,q2,q⟩:=pB (T:=T) (n:=n) hS hS0 l d1 (cs ++ [c]) (sI k) (aB _) (by rw[au,cx];omega) (fun x hx=>by
   rcases List.mem_append.mp hx with hx | hx
   ·exact hc x hx
   ·rw[gh.mp hx];exact hcS)
  refine⟨d',cs',a',t',by rw[q1,au,cx,ag];omega,q2,?_⟩;have hb:cF [] (.nm 4) (.int k) (ER d n S cs a)=some (ER d n S cs (sI k)):=eZ (mn h) (show (4:Nat)<5 by decide);rw[aw,bN hb st];exact q
theorem kn_b {k:Nat}(h1:1<=k)(h3:k<=3):(kn k).length<=100/\0<(kn k).length:=by
 obtain⟨a,b,c⟩:=yC;have:k=1\/k=2\/k=3:=by omega
 rcases this with rfl | rfl | rfl<;>omega
theorem vX {k:Nat}(h3:k<=3){cs:List Nat}(h:∀ c∈cs,c∈kn k):Good cs:=fun c hc=>⟨by have:=Ao k (by omega) c (h c hc);omega,zK k (by omega) c (h c hc)⟩
theorem zV {T:Tb}(hsg:Cd T){d:Int}(n:Nat)(hn:n<=100):∃ cs,cs.length=n/\Good cs/\ret (aF T bRN (aO [.int d,.int (n:Int)] 5)) = .ok (.str (tx cs),true):=by
 have hst:aO [.int d,.int (n:Int)] 5=[sI d,sI (n:Int),none,none,none]:=rfl;have tn:=aR;obtain⟨j,hj,hj2⟩:=iL (fk d (show (3:Int)≠0 by decide)) (dw d (show (0:Int)<3 by decide));have em:=dQ (show (0:Int)<3 by decide) (aC (T:=T) (env:=[sI d,sI (n:Int),none,none,none]) (i:=0) (d:=.int d) (t:=.own) rfl rfl) (aE (.int 3));rw[hj] at em;have ep:=aZ (x:=1) (aE (.int 1)) em;have hk1:1<=1+j:=by omega
 have hk3:1+j<=3:=by omega
 obtain⟨hb1,hb2⟩:=kn_b hk1 hk3;have ec:=m9 ep (hsg (1+j) hk1 hk3);rw[Ba] at ec;have hgd:∀ cs:List Nat,(∀ c∈cs,c∈kn (1+j))->Good cs:=fun cs h=>vX hk3 h
 generalize kn (1+j)=S at *;have g1:aY T (.asg (.nm 2) (.call 6 (.cons (.bin .Add (.cst (.int (1))) (.bin .Mod (.var 0) (.cst (.int (3))))) .nil)) false) [sI d,sI (n:Int),none,none,none] = .nx [sI d,sI (n:Int),sT S,none,none]:=aK (.cons (aB _) (.cons (aB _) (.cons tn (.cons tn (.cons tn .nil))))) (show (2:Nat)<5 by decide) ec;have g2:aY T (.asg (.nm 3) (.cst (.str ("" : PySem.Str))) false) [sI d,sI (n:Int),sT S,none,none] = .nx (ER d (n:Int) S [] none):=rfl;obtain⟨d',cs,a',t',q1,q2,q⟩:=pB (T:=T) (n:=(n:Int)) hb1 hb2 ((List.range n).map fun k=>((0+k:Nat):Int)) d [] none tn (by rw[List.length_map,List.length_range];simpa using hn) (fun _ h=>(nomatch h));have hit:gW T (.rng1 (.var 1)) (ER d (n:Int) S [] none) = .ok (((List.range n).map fun k=>((0+k:Nat):Int)).map D.int,[]):=by
  rw[CN (m:=n) (aC rfl rfl) (by omega),lV,gd];rfl
 have g3:=fM hit q;refine⟨cs,by rw[q1,bh,aj,dg];omega,hgd cs q2,?_⟩;rw[hst];unfold bRN;rw[aF,g1,aD,aF,g2,aD,aF,g3,aD];exact i4 (aC rfl rfl)
def uU (T:Tb):Prop:=∀(d:Int) (n:Nat),n<=100->∃ cs,cs.length=n/\Good cs/\T.cl 7 [.int d,.int (n:Int)] = .ok (.str (tx cs),true)
noncomputable def xy:cG:=(.cons (.asg (.nm 5) (.call 5 (.cons (.var 0) (.cons (.var 4) (.cons (.cst (.int (2147483587))) .nil)))) false)
  (.cons (.asg (.nm 6) (.bin .Add (.cst (.int (1))) (.bin .Mod (.bin .FloorDiv (.var 5) (.cst (.int (9)))) (.cst (.int (5))))) false)
  (.cons (.ite (.cmp .Eq (.bin .Mod (.bin .FloorDiv (.var 5) (.cst (.int (45)))) (.cst (.int (5)))) (.cst (.int (1)))) (.cons (.asg (.nm 6) (.bin .Add (.cst (.int (1))) (.bin .Mod (.bin .FloorDiv (.var 5) (.cst (.int (225)))) (.cst (.int (90))))) false)
  .nil) .nil)
  (.cons (.asg (.nm 3) (.bin .Add (.var 3) (.call 7 (.cons (.bin .Add (.cst (.int (1))) (.bin .FloorDiv (.var 5) (.cst (.int (7))))) (.cons (.var 6) .nil)))) false)
  (.cons (.asg (.nm 4) (.bin .Add (.var 4) (.cst (.int (1)))) false)
  .nil)))))
noncomputable def bTX:cG:=(.cons (.asg (.nm 2) (.bin .Mod (.bin .FloorDiv (.call 5 (.cons (.var 0) (.cons (.cst (.int (0))) (.cons (.cst (.int (2147483629))) .nil)))) (.cst (.int (5)))) (.bin .Add (.var 1) (.cst (.int (1))))) false)
  (.cons (.asg (.nm 3) (.cst (.str ("" : PySem.Str))) false)
  (.cons (.asg (.nm 4) (.cst (.int (1))) false)
  (.cons (.whl (.cmp .Lt (.blt .len (.cons (.var 3) .nil)) (.var 2)) xy)
  (.cons (.ret (.sl (.var 3) .none (.some (.var 2))))
  .nil)))))
noncomputable abbrev ET (cs:List Int)(m:Int)(n:Nat)(t:List Nat)(k:Nat)(a5 a6:Slot):En:=[some (.lst (iD cs),.sh []),sI m,sN n,sT t,sN k,a5,a6]
theorem iO {cs:List Int}{m:Int}{n:Nat}{t:List Nat}{k:Nat}{a5 a6:Slot}(h5:aH a5)(h6:aH a6):Tame (ET cs m n t k a5 a6):=.cons (bQ _) (.cons (aB _) (.cons (aB _) (.cons (aB _) (.cons (aB _) (.cons h5 (.cons h6 .nil))))))
theorem r6 {T:Tb}{env:En}{a b:Ex}{i j:Int}{R R':Rt}(ha:ev T a env = .ok (.int i,R))(hb:ev T b env = .ok (.int j,R')):ev T (.cmp .Eq a b) env = .ok (.bl (decide (i=j)),.mv []):=by
 rw[ev,ha,aA,hb,aA];show (fS (D.eqf 40 (.int i) (.int j))).bind _=_;have:D.eqf 40 (.int i) (.int j)=some (decide (i=j)):=by
  show some (i==j)=_;congr 1
 rw[this];rfl
theorem Bd {T:Tb}(hmx:sP T)(hrn:uU T){cs:List Int}{m:Int}{n:Nat}{t:List Nat}{k:Nat}{a5 a6:Slot}(h5:aH a5)(h6:aH a6)(hk:k<=1000)(ht:t.length<=400)(hG:Good t) :
  ∃ t' b5 b6,aH b5/\aH b6/\Good t'/\t.length<t'.length/\t'.length<=t.length+90/\aF T xy (ET cs m n t k a5 a6) = .nx (ET cs m n t' (k+1) b5 b6):=by
 obtain⟨d,d0,d1,ed⟩:=hmx cs (k:Int) 2147483587 (uf (by omega) (by omega)) (by decide);obtain⟨R,v0⟩:∃ R,ev T (.var 0) (ET cs m n t k a5 a6) = .ok (.lst (iD cs),R):=gQ rfl;have g1:aY T (.asg (.nm 5) (.call 5 (.cons (.var 0) (.cons (.var 4) (.cons (.cst (.int (2147483587))) .nil)))) false) (ET cs m n t k a5 a6) = .nx (ET cs m n t k (sI d) a6):=aK (iO h5 h6) (show (5:Nat)<7 by decide) (o5 v0 (aC rfl rfl) (aE _) ed);have lg:∀(a6:Slot) (x y:Int),0<x->x<1073741824->0<y->ev T (.bin .Add (.cst (.int (1))) (.bin .Mod (.bin .FloorDiv (.var 5) (.cst (.int x))) (.cst (.int y)))) (ET cs m n t k (sI d) a6) = .ok (.int (1+d / x%y),.mv []):=fun a6 x y h1 h2 h3 =>
  bH (aE _) (dQ h3 (fQ h1 h2 (aC rfl rfl) (aE _)) (aE _))
 have g2:aY T (.asg (.nm 6) (.bin .Add (.cst (.int (1))) (.bin .Mod (.bin .FloorDiv (.var 5) (.cst (.int (9)))) (.cst (.int (5))))) false) (ET cs m n t k (sI d) a6) = .nx (ET cs m n t k (sI d) (sI (1+d / 9%5))):=aK (iO (aB _) h6) (show (6:Nat)<7 by decide) (lg a6 9 5 (by decide) (by decide) (by decide));have g3:∃ l:Nat,1<=l/\l<=90/\aY T (.ite (.cmp .Eq (.bin .Mod (.bin .FloorDiv (.var 5) (.cst (.int (45)))) (.cst (.int (5)))) (.cst (.int (1)))) (.cons (.asg (.nm 6) (.bin .Add (.cst (.int (1))) (.bin .Mod (.bin .FloorDiv (.var 5) (.cst (.int (225)))) (.cst (.int (90))))) false) .nil) .nil) (ET cs m n t k (sI d) (sI (1+d / 9%5))) = .nx (ET cs m n t k (sI d) (sI (l:Int))):=by
  have ec:=r6 (dQ (show (0:Int)<5 by decide) (fQ (show (0:Int)<45 by decide) (by decide) (aC (T:=T) (env:=ET cs m n t k (sI d) (sI (1+d / 9%5))) (i:=5) (d:=.int d) (t:=.own) rfl rfl) (aE (.int 45))) (aE (.int 5))) (aE (.int 1));rw[iH ec];split
  ·have p0:=fk (d / 225) (show (90:Int)≠0 by decide);have p1:=dw (d / 225) (show (0:Int)<90 by decide);refine⟨(1+d / 225%90).toNat,by omega,by omega,?_⟩;rw[show (((1+d / 225%90).toNat:Nat):Int)=1+d / 225%90 by omega];exact eA (aK (iO (aB _) (aB _)) (show (6:Nat)<7 by decide) (lg _ 225 90 (by decide) (by decide) (by decide)))
  ·have p0:=fk (d / 9) (show (5:Int)≠0 by decide);have p1:=dw (d / 9) (show (0:Int)<5 by decide);refine⟨(1+d / 9%5).toNat,by omega,by omega,?_⟩;rw[show (((1+d / 9%5).toNat:Nat):Int)=1+d / 9%5 by omega];exact dS
 obtain⟨l,l1,l90,g3⟩:=g3;obtain⟨r,r1,r2,er⟩:=hrn (1+d / 7) l (by omega);have e4:=pd (bH (aE (T:=T) (env:=ET cs m n t k (sI d) (sI (l:Int))) (.int 1)) (fQ (show (0:Int)<7 by decide) (by decide) (aC (i:=5) (d:=.int d) (t:=.own) rfl rfl) (aE (.int 7)))) (aC (i:=6) (d:=.int (l:Int)) (t:=.own) rfl rfl) er;have e5:=pG (aC (T:=T) (env:=ET cs m n t k (sI d) (sI (l:Int))) (i:=3) (d:=.str (tx t)) (t:=.own) rfl rfl) e4 (by omega);have g4:=aK (i:=3) (iO (cs:=cs) (m:=m) (n:=n) (t:=t) (k:=k) (aB (.int d)) (aB (.int (l:Int)))) (show (3:Nat)<7 by decide) e5;have g4:aY T (.asg (.nm 3) (.bin .Add (.var 3) (.call 7 (.cons (.bin .Add (.cst (.int (1))) (.bin .FloorDiv (.var 5) (.cst (.int (7))))) (.cons (.var 6) .nil)))) false) (ET cs m n t k (sI d) (sI (l:Int))) = .nx (ET cs m n (t++r) k (sI d) (sI (l:Int))):=g4;have g5:aY T (.asg (.nm 4) (.bin .Add (.var 4) (.cst (.int (1)))) false) (ET cs m n (t++r) k (sI d) (sI (l:Int))) = .nx (ET cs m n (t++r) (k+1) (sI d) (sI (l:Int))):=aK (iO (aB _) (aB _)) (show (4:Nat)<7 by decide) (aZ (y:=1) (aC rfl rfl) (aE _));refine⟨t++r,sI d,sI (l:Int),aB _,aB _,fun c hc=>?_,by rw[au];omega,by rw[au];omega,?_⟩
 ·rcases List.mem_append.mp hc with h | h
  ·exact hG c h
  ·exact r2 c h
 ·unfold xy;rw[aF,g1,aD,aF,g2,aD,aF,g3,aD,aF,g4,aD,aF,g5,aD,aF]
theorem pA {T:Tb}{cs:List Int}{m:Int}{n:Nat}{t:List Nat}{k:Nat}{a5 a6:Slot}(ht:t.length<=900):((ev T (.cmp .Lt (.blt .len (.cons (.var 3) .nil)) (.var 2)) (ET cs m n t k a5 a6)).bind fun p=>fS (truth p.1)) = .ok (decide (t.length<n)):=by
 rw[uA (x:=t.length) (y:=n) (fF (by omega) (aC rfl rfl)) (aC rfl rfl),aA];rfl
theorem uQ {T:Tb}(hmx:sP T)(hrn:uU T){cs:List Int}{m:Int}{n:Nat}(hn:n<=300):∀(f k:Nat) (t:List Nat) (a5 a6:Slot),aH a5->aH a6->n - t.length<f->t.length<=n+90->k+(n - t.length)<=900->Good t->∃ t' k' b5 b6,aH b5/\aH b6/\Good t'/\n<=t'.length/\t'.length<=n+90 /\
  eJ (fun env=>(ev T (.cmp .Lt (.blt .len (.cons (.var 3) .nil)) (.var 2)) env).bind fun p=>fS (truth p.1)) (aF T xy) f (ET cs m n t k a5 a6) = .nx (ET cs m n t' k' b5 b6)
 |0,k,t,a5,a6,_,_,h,_,_,_=>absurd h (Nat.not_lt_zero _)
 | f+1,k,t,a5,a6,h5,h6,hf,ht,hk,hG=>by
  by_cases hlt:t.length<n
  ·obtain⟨t1,b5,b6,u5,u6,G1,l1,l2,st⟩:=Bd hmx hrn (cs:=cs) (m:=m) (n:=n) (k:=k) h5 h6 (by omega) (show t.length<=400 by omega) hG;obtain⟨t',k',c5,c6,w5,w6,G2,q1,q2,q⟩:=uQ hmx hrn hn f (k+1) t1 b5 b6 u5 u6 (by omega) (by omega) (by omega) G1;refine⟨t',k',c5,c6,w5,w6,G2,q1,q2,?_⟩;rw[tJ (by rw[pA (by omega),bg hlt]) st,q]
  ·refine⟨t,k,a5,a6,h5,h6,hG,by omega,ht,?_⟩;rw[uD (by rw[pA (by omega),av hlt])]
theorem Au {T:Tb}(hf:1000<=T.fuel)(hmx:sP T)(hrn:uU T){cs:List Int}(m:Nat)(hm:m<=300):∃ t,Good t/\t.length<=m/\ret (aF T bTX (aO [.lst (iD cs),.int (m:Int)] 7)) = .ok (.str (tx t),true):=by
 have hst:aO [.lst (iD cs),.int (m:Int)] 7=[some (.lst (iD cs),.sh []),sI (m:Int),none,none,none,none,none]:=rfl;have tn:=aR;obtain⟨d,d0,d1,ed⟩:=hmx cs 0 2147483629 (by decide) (by decide);obtain⟨R,v0⟩:∃ R,ev T (.var 0) [some (.lst (iD cs),.sh []),sI (m:Int),none,none,none,none,none] = .ok (.lst (iD cs),R):=gQ rfl;have e1:=dQ (show (0:Int)<(m:Int)+1 by omega) (fQ (show (0:Int)<5 by decide) (by decide) (o5 v0 (aE (.int 0)) (aE (.int 2147483629)) ed) (aE (.int 5))) (bH (aC (T:=T) (env:=[some (.lst (iD cs),.sh []),sI (m:Int),none,none,none,none,none]) (i:=1) (d:=.int (m:Int)) (t:=.own) rfl rfl) (aE (.int 1)));obtain⟨n,hn,hn2⟩:=iL (fk (d / 5) (show (m:Int)+1≠0 by omega)) (dw (d / 5) (show (0:Int)<(m:Int)+1 by omega));rw[hn] at e1;have hnm:n<=m:=by omega
 have g1:aY T (.asg (.nm 2) (.bin .Mod (.bin .FloorDiv (.call 5 (.cons (.var 0) (.cons (.cst (.int (0))) (.cons (.cst (.int (2147483629))) .nil)))) (.cst (.int (5)))) (.bin .Add (.var 1) (.cst (.int (1))))) false) [some (.lst (iD cs),.sh []),sI (m:Int),none,none,none,none,none] = .nx [some (.lst (iD cs),.sh []),sI (m:Int),sN n,none,none,none,none] :=
  aK (.cons (bQ _) (.cons (aB _) (.cons tn (.cons tn (.cons tn (.cons tn (.cons tn .nil))))))) (show (2:Nat)<7 by decide) e1
 have g2:aY T (.asg (.nm 3) (.cst (.str ("" : PySem.Str))) false) [some (.lst (iD cs),.sh []),sI (m:Int),sN n,none,none,none,none] = .nx [some (.lst (iD cs),.sh []),sI (m:Int),sN n,sT [],none,none,none]:=rfl;have g3:aY T (.asg (.nm 4) (.cst (.int (1))) false) [some (.lst (iD cs),.sh []),sI (m:Int),sN n,sT [],none,none,none] = .nx (ET cs (m:Int) n [] 1 none none):=rfl;obtain⟨t,k',b5,b6,u5,u6,hG,q1,q2,q⟩:=uQ hmx hrn (cs:=cs) (m:=(m:Int)) (n:=n) (by omega) T.fuel 1 [] none none tn tn (by rw[bh];omega) (by rw[bh];omega) (by rw[bh];omega) (fun _ h=>(nomatch h));refine⟨t.take n,fun c hc=>hG c (List.mem_of_mem_take hc),by rw[bw];omega,?_⟩;rw[hst];unfold bTX;rw[aF,g1,aD,aF,g2,aD,aF,g3,aD,aF,aY,q,aD];exact i4 (nT (by omega) (aC rfl rfl) rZ (gN (aC (d:=.int (n:Int)) (t:=.own) rfl rfl)) (AM t n))
def TXok (T:Tb):Prop:=∀(cs:List Int) (m:Nat),m<=300->∃ t,Good t/\t.length<=m/\T.cl 8 [.lst (iD cs),.int (m:Int)] = .ok (.str (tx t),true)
open Pc.Fr (iD)
noncomputable def e0:Ex:=.ix (.var 0) (.cst (.int (0)))
noncomputable def e1:Ex:=.ix (.var 0) (.cst (.int (1)))
theorem BD (n:Nat)(s:List Nat):D.eqf (n+1) (.str (tx s)) (.str (tx s))=some true:=by
 show some (tx s==tx s)=_;rw[dt]
theorem Bb (n:Nat)(p:Pe):D.eqf (n+2) (pD p) (pD p)=some true:=by
 show (if (2:Nat)=2 then oV (D.eqf (n+1)) [.int (p.1:Int),.str (tx p.2)] [.int (p.1:Int),.str (tx p.2)] else some false)=_;rw[if_pos rfl];show ((D.eqf (n+1) (.int (p.1:Int)) (.int (p.1:Int))).bind fun a=>((D.eqf (n+1) (.str (tx p.2)) (.str (tx p.2))).bind fun b=>(some true).map fun c=>b&&c).map fun b=>a&&b)=_;rw[BD,show D.eqf (n+1) (.int (p.1:Int)) (.int (p.1:Int))=some true by show some ((p.1:Int)==(p.1:Int))=_;rw[dt]];rfl
theorem t7 (n:Nat):∀ l:List Pe,oV (D.eqf (n+2)) (l.map pD) (l.map pD)=some true
 |[]=>rfl
 | p::l=>by
  show ((D.eqf (n+2) (pD p) (pD p)).bind fun a=>(oV (D.eqf (n+2)) (l.map pD) (l.map pD)).map fun b=>a&&b)=_;rw[t7 n l,Bb];rfl
theorem BY (l:List Pe):D.eqf 40 (.lst (l.map pD)) (.lst (l.map pD))=some true:=by
 show (if (l.map pD).length=(l.map pD).length then oV (D.eqf 39) (l.map pD) (l.map pD) else some false)=_;rw[if_pos rfl];exact t7 37 l
theorem gC:∀ a:List Int,gZ a a=false
 |[]=>rfl
 | x::a=>by
  unfold gZ;rw[if_pos (dt x)];exact gC a
def r8 (a b:List Int):Prop:=gZ b a=false
theorem qR (x y:Int)(a b:List Int):gZ (x::a) (y::b)=if x=y then gZ a b else decide (x<y):=by
 show (if (x==y)=true then gZ a b else decide (x<y))=_;by_cases h:x=y
 ·rw[if_pos (by simpa using h),if_pos h]
 ·rw[if_neg (by simpa using h),if_neg h]
theorem dR {x y:Int}{a b:List Int}:r8 (x::a) (y::b)↔x<y\/(x=y/\r8 a b):=by
 unfold r8;rw[qR];by_cases h:y=x
 ·rw[if_pos h];constructor
  ·intro q;exact .inr ⟨h.symm,q⟩
  ·rintro (q | q)
   ·omega
   ·exact q.2
 ·rw[if_neg h,br];constructor
  ·intro q;left;omega
  ·rintro (q | q)
   ·omega
   ·exact absurd q.1.symm h
theorem lz:∀{a b c:List Int},a.length=b.length->b.length=c.length->r8 a b->r8 b c->r8 a c
 | [],b,c,h1,h2,_,_=>by
  have:b=[]:=List.length_eq_zero_iff.mp h1.symm;subst this;have:c=[]:=List.length_eq_zero_iff.mp h2.symm;subst this;rfl
 |x::a,[],_,h1,_,_,_=>by cases h1
 |x::a,y::b,[],_,h2,_,_=>by cases h2
 | x::a,y::b,z::c,h1,h2,p,q=>by
  rw[dR] at p q ⊢;simp only[List.length_cons,Nat.add_right_cancel_iff] at h1 h2;rcases p with p | ⟨p1,p2⟩
  ·rcases q with q | ⟨q1,_⟩
   ·left;omega
   ·left;omega
  ·rcases q with q | ⟨q1,q2⟩
   ·left;omega
   ·exact .inr ⟨by omega,lz h1 h2 p2 q2⟩
theorem kI:∀{a b:List Int},a.length=b.length->r8 a b\/r8 b a
 |[],[],_=>.inl rfl
 |[],_::_,h=>by cases h
 |_::_,[],h=>by cases h
 | x::a,y::b,h=>by
  rw[dR,dR];simp only[List.length_cons,Nat.add_right_cancel_iff] at h;rcases kI h with q | q
  ·by_cases hx:x<y
   ·exact .inl (.inl hx)
   ·by_cases hy:y<x
    ·exact .inr (.inl hy)
    ·exact .inl (.inr ⟨by omega,q⟩)
  ·by_cases hx:x<y
   ·exact .inl (.inl hx)
   ·by_cases hy:y<x
    ·exact .inr (.inl hy)
    ·exact .inr (.inr ⟨by omega,q⟩)
def leQ (a b:Q4):Prop:=r8 (k4 a) (k4 b)
theorem xA {a b:Q4}:leQ a b↔a.1<b.1\/(a.1=b.1/\(a.2.1<b.2.1\/(a.2.1=b.2.1/\(a.2.2.1<b.2.2.1\/(a.2.2.1=b.2.2.1/\a.2.2.2<=b.2.2.2))))):=by
 unfold leQ k4;rw[dR,dR,dR,dR];have:r8 [] []:=rfl;constructor
 ·rintro (h | ⟨h,h | ⟨h',h | ⟨h2,h | ⟨h3,_⟩⟩⟩⟩)<;>omega
 ·intro h;by_cases c1:a.1<b.1
  ·left;omega
  ·right;refine⟨by omega,?_⟩;by_cases c2:a.2.1<b.2.1
   ·left;omega
   ·right;refine⟨by omega,?_⟩;by_cases c3:a.2.2.1<b.2.2.1
    ·left;omega
    ·right;refine⟨by omega,?_⟩;by_cases c4:a.2.2.2<b.2.2.2
     ·left;omega
     ·exact .inr ⟨by omega,this⟩
theorem lh (l:List Q4):∀(k j m:Nat),m<l.length->j+k<=l.length->(∀ i,i<j->i<l.length->leQ (l.getD m z4) (l.getD i z4)) ->
  ∀ i,i<j+k->leQ (l.getD (bZ (fun i j=>gZ ((l.map k4).getD i []) ((l.map k4).getD j [])) k j m) z4) (l.getD i z4)
 |0,j,m,hm,hj,h,i,hi=>h i hi (by omega)
 | k+1,j,m,hm,hj,h,i,hi=>by
  unfold bZ;have kd:∀ i,i<l.length->(l.map k4).getD i []=k4 (l.getD i z4):=fun i hi=>by
   rw[List.getD_eq_getElem?_getD,List.getD_eq_getElem?_getD,List.getElem?_map,List.getElem?_eq_getElem hi];rfl
  refine lh l k (j+1) _ ?_ (by omega) (fun i hi hl=>?_) i (by omega)
  ·split<;>omega
  ·simp only[kd j (by omega),kd m hm];by_cases hc:gZ (k4 (l.getD j z4)) (k4 (l.getD m z4))=true
   ·rw[if_pos hc];show leQ (l.getD j z4) (l.getD i z4);have hle:leQ (l.getD j z4) (l.getD m z4):=by
     rcases kI (a:=k4 (l.getD j z4)) (b:=k4 (l.getD m z4)) rfl with q | q
     ·exact q
     ·unfold r8 at q;rw[hc] at q;cases q
    by_cases hij:i<j
    ·exact lz (b:=k4 (l.getD m z4)) rfl rfl hle (h i hij hl)
    ·have:i=j:=by omega
     subst this;exact gC _
   ·rw[if_neg hc];by_cases hij:i<j
    ·exact h i hij hl
    ·have:i=j:=by omega
     subst this;exact Bool.eq_false_iff.mpr hc
theorem zd {l:List Q4}{q:Q4}(h:q∈l):leQ (vn l) q:=by
 obtain⟨i,hi,rfl⟩:=List.mem_iff_getElem.mp h;have h0:0<l.length:=by omega
 have:=lh l (l.length - 1) 1 0 h0 (by omega) (fun j hj hl=>by
  have:j=0:=by omega
  subst this;exact gC _) i (by omega)
 rw[List.getD_eq_getElem?_getD (l:=l) (i:=i),List.getElem?_eq_getElem hi] at this;exact this
noncomputable def cC (P:List Pe):Nat:=(P.map fun p=>dP p.1 p.2.length).sum
noncomputable def gY (P:List Pe):List (Nat×Nat):=P.map fun p=>(p.1,p.2.length)
noncomputable def ij:List (Nat×Nat)->List (Nat×Nat)->Bool
 |[],[]=>false
 |[],_::_=>true
 |_::_,[]=>false
 |p::a,q::b=>if p=q then ij a b else decide (p.1<q.1\/(p.1=q.1/\p.2<q.2))
noncomputable def jC (P Q:List Pe):Bool:=if cC P=cC Q then (if P.length=Q.length then ij (gY P) (gY Q) else decide (P.length<Q.length)) else decide (cC P<cC Q)
structure Cut (t:List Nat)(Q:List Pe):Prop where
 ok:∀ p∈Q,Piece p
 eq:(Q.map (·.2)).flatten=t
theorem yi (k:Nat):∀{s t:List Nat},(∀ c∈s,dF k c=true)->s.length<=rn k (s++t)
 |[],t,_=>cw _
 | c::s,t,h=>by
  rw[List.cons_append,dO,if_pos (h c ao),ag];exact Nat.succ_le_succ (yi k fun d hd=>h d (ak _ hd))
theorem pJ {r:List Nat}{j:Nat}(h:j<=r.length):(bc r).getD j z4=hd (r.drop j):=by
 rw[List.getD_eq_getElem?_getD,x3 r j h];rfl
theorem cand {c:Nat}{r:List Nat}{k j:Nat}(h1:1<=k)(h3:k<=3)(hj:j+1<=rn k (c::r))(h64:j+1<=64):one k (j+1) (hd ((c::r).drop (j+1)))∈lH (c::r) (bc r):=by
 have hl:=hV k (c::r);rw[ag] at hl;have hm:one k (j+1) (hd ((c::r).drop (j+1)))∈nK k (bc r) (min (rn k (c::r)) 64):=by
  unfold nK;refine List.mem_map.mpr ⟨j,List.mem_range.mpr (by omega),?_⟩;rw[pJ (by omega),gb]
 unfold lH;have:k=1\/k=2\/k=3:=by omega
 rcases this with rfl | rfl | rfl
 ·exact ay _ (ay _ hm)
 ·exact ay _ (ai _ hm)
 ·exact ai _ hm
theorem ze {c:Nat}{r:List Nat}(h:dF 3 c=true):∃ k j,1<=k/\k<=3/\j+1<=rn k (c::r)/\j+1<=64/\hd (c::r)=one k (j+1) (hd ((c::r).drop (j+1))):=by
 have hm:=pR (tB (r:=r) (C:=bc r) h);rw[<-mh] at hm;have key:∀ k,1<=k->k<=3->hd (c::r)∈nK k (bc r) (min (rn k (c::r)) 64)->∃ k j,1<=k/\k<=3/\j+1<=rn k (c::r)/\j+1<=64/\hd (c::r)=one k (j+1) (hd ((c::r).drop (j+1))):=fun k h1 h3 hm=>by
  obtain⟨j,hj,e⟩:=qq hm;have hl:=hV k (c::r);rw[ag] at hl;refine⟨k,j,h1,h3,by omega,by omega,?_⟩;rw[e,pJ (by omega),gb]
 unfold lH at hm;rcases List.mem_append.mp hm with hm | hm
 ·rcases List.mem_append.mp hm with hm | hm
  ·exact key 1 (by decide) (by decide) hm
  ·exact key 2 (by decide) (by decide) hm
 ·exact key 3 (by decide) (by decide) hm
theorem mj:∀(n:Nat) (t:List Nat),Good t->t.length<=n->cC (pc n t)=(hd t).1/\(pc n t).length=(hd t).2.1
 | 0,t,_,h=>by
  have:t=[]:=List.length_eq_zero_iff.mp (by omega);subst this;exact⟨rfl,rfl⟩
 |n+1,[],_,_=>by rw[fK];exact⟨rfl,rfl⟩
 | n+1,c::r,hG,h=>by
  obtain⟨k,j,h1,h3,hj,h64,e⟩:=ze (r:=r) (hG c ao).2;have hl:=hV k (c::r);have ih:=mj n ((c::r).drop (j+1)) (hG.drop _) (by rw[bz];rw[ag] at h ⊢;omega);rw[dM];generalize hd (c::r)=q at e ⊢;subst e;show cC ((k,(c::r).take (j+1))::pc n ((c::r).drop (j+1)))=dP k (j+1)+_/\(((k,(c::r).take (j+1))::pc n ((c::r).drop (j+1))):List Pe).length=1+_;rw[<-ih.1,<-ih.2];constructor
  ·unfold cC;rw[aw,List.sum_cons];show dP k ((c::r).take (j+1)).length+_=_;rw[bw,dk (by omega)]
  ·rw[ag];omega
theorem gy:∀ a,ij a a=false
 |[]=>rfl
 | p::a=>by
  unfold ij;rw[if_pos rfl];exact gy a
theorem ni:∀(n:Nat) (t:List Nat) (Q:List Pe),Good t->t.length<=n->Cut t Q->cC (pc n t)<cC Q\/(cC (pc n t)=cC Q/\((pc n t).length<Q.length\/((pc n t).length=Q.length/\ij (gY Q) (gY (pc n t))=false)))
 | n,t,[],hG,h,hc=>by
  have:t=[]:=hc.eq.symm;subst this;rw[fK];exact .inr ⟨rfl,.inr ⟨rfl,rfl⟩⟩
 | 0,t,p::Q,hG,h,hc=>by
  have:t=[]:=List.length_eq_zero_iff.mp (by omega);subst this;have h1:=(hc.ok p ao).c1;have:=fm List.length hc.eq;rw[aw,bp,au,bh] at this;omega
 | n+1,[],p::Q,hG,h,hc=>by
  have h1:=(hc.ok p ao).c1;have:=fm List.length hc.eq;rw[aw,bp,au,bh] at this;omega
 | n+1,c::r,(k',s)::Q,hG,h,hc=>by
  have hp:=hc.ok (k',s) ao;have he:s++(Q.map (·.2)).flatten=c::r:=hc.eq;have hs1:1<=s.length:=hp.c1;have hs64:s.length<=64:=hp.c64;have hk1:1<=k':=hp.k1;have hk3:k'<=3:=hp.k3;have hrun:s.length<=rn k' (c::r):=by rw[<-he];exact yi k' hp.all
  have hdr:(c::r).drop s.length=(Q.map (·.2)).flatten:=by rw[<-he,List.drop_left]
  have hQ:Cut ((c::r).drop s.length) Q:=⟨fun p hp=>hc.ok p (ak _ hp),hdr.symm⟩;have hlen:((c::r).drop s.length).length<=n:=by rw[bz];rw[ag] at h ⊢;omega
  have ih:=ni n _ Q (hG.drop s.length) hlen hQ;obtain⟨i1,i2⟩:=mj n _ (hG.drop s.length) hlen;have hsj:s.length - 1+1=s.length:=by omega
  have hcand:=cand (c:=c) (r:=r) (j:=s.length - 1) hk1 hk3 (by omega) (by omega);rw[hsj] at hcand;have hle:=zd hcand;rw[<-mh,xA] at hle;obtain⟨p1,p2⟩:=mj (n+1) (c::r) hG h;have b1:cC ((k',s)::Q)=dP k' s.length+cC Q:=by unfold cC;rw[aw,List.sum_cons]
  have b2:((k',s)::Q:List Pe).length=1+Q.length:=by rw[ag];omega
  have o1:(one k' s.length (hd ((c::r).drop s.length))).1=dP k' s.length+(hd ((c::r).drop s.length)).1:=rfl;have o2:(one k' s.length (hd ((c::r).drop s.length))).2.1=1+(hd ((c::r).drop s.length)).2.1:=rfl;have o3:(one k' s.length (hd ((c::r).drop s.length))).2.2.1=k':=rfl;have o4:(one k' s.length (hd ((c::r).drop s.length))).2.2.2=s.length:=rfl;rw[o1,o2,o3,o4] at hle;rw[b1,b2,p1,p2];by_cases e1:(hd (c::r)).1<dP k' s.length+cC Q
  ·exact .inl e1
  ·refine .inr ⟨by omega,?_⟩;by_cases e2:(hd (c::r)).2.1<1+Q.length
   ·exact .inl e2
   ·refine .inr ⟨by omega,?_⟩;have hF:=eU (r:=r) (hG c ao).2;have hcl:(hd (c::r)).2.2.2<=(c::r).length:=bj hF.run (hV _ _);have hpr:gY (pc (n+1) (c::r))=((hd (c::r)).2.2.1,(hd (c::r)).2.2.2)::gY (pc n ((c::r).drop (hd (c::r)).2.2.2)):=by
     rw[dM];unfold gY;rw[aw];show (_,((c::r).take (hd (c::r)).2.2.2).length)::_=_;rw[bw,dk hcl]
    have hpq:gY ((k',s)::Q)=(k',s.length)::gY Q:=rfl;rw[hpr,hpq];unfold ij;by_cases e3:(k',s.length)=((hd (c::r)).2.2.1,(hd (c::r)).2.2.2)
    ·rw[if_pos e3];injection e3 with e4 e5
     rw[<-e5];rcases ih with ih | ⟨ih1,ih | ⟨ih2,ih3⟩⟩
     ·omega
     ·omega
     ·exact ih3
    ·rw[if_neg e3,br];have e4:¬ (k'=(hd (c::r)).2.2.1/\s.length=(hd (c::r)).2.2.2):=fun z=>e3 (by rw[z.1,z.2])
     omega
theorem sU {n:Nat}{t:List Nat}{Q:List Pe}(hG:Good t)(h:t.length<=n)(hc:Cut t Q):jC Q (pc n t)=false:=by
 have:=ni n t Q hG h hc;unfold jC;rcases this with h1 | ⟨h1,h2 | ⟨h2,h3⟩⟩
 ·rw[if_neg (by omega),br];omega
 ·rw[if_pos h1.symm,if_neg (by omega),br];omega
 ·rw[if_pos h1.symm,if_pos h2.symm];exact h3
noncomputable def eE (p:Nat×Nat):D:=.tup [.int (p.1:Int),.int (p.2:Int)]
noncomputable def bY (P:List Pe):D:=.tup [.int ((cC P:Nat):Int),.int (P.length:Int),.lst ((gY P).map eE)]
theorem mZ:∀ l:List (Nat×Nat),D.flats (l.map eE)=true
 |[]=>rfl
 | p::l=>by
  show ((eE p).flat&&D.flats (l.map eE))=true;rw[mZ l];rfl
theorem A3 (n:Nat)(a b:Nat):D.eqf (n+1) (.int (a:Int)) (.int (b:Int))=some (decide (a=b)):=by
 show some ((a:Int)==(b:Int))=_;congr 1;by_cases h:a=b
 ·rw[h,dt,bg rfl]
 ·rw[av h];exact beq_false_of_ne (by omega)
theorem yj (n:Nat)(p q:Nat×Nat):D.eqf (n+2) (eE p) (eE q)=some (decide (p=q)):=by
 show (if (2:Nat)=2 then oV (D.eqf (n+1)) [.int (p.1:Int),.int (p.2:Int)] [.int (q.1:Int),.int (q.2:Int)] else none)=_;rw[if_pos rfl];show ((D.eqf (n+1) (.int (p.1:Int)) (.int (q.1:Int))).bind fun a=>((D.eqf (n+1) (.int (p.2:Int)) (.int (q.2:Int))).bind fun b=>(some true).map fun c=>b&&c).map fun b=>a&&b)=_;rw[A3,A3];show some (decide (p.1=q.1)&&(decide (p.2=q.2)&&true))=_;congr 1;by_cases h:p=q
 ·rw[h];simp
 ·rw[av h];have:¬ (p.1=q.1/\p.2=q.2):=fun z=>h (Prod.ext z.1 z.2)
  simpa using this
theorem tL (n:Nat):∀{a b:List (Nat×Nat)},a.length=b.length->oV (D.eqf (n+2)) (a.map eE) (b.map eE)=some (decide (a=b))
 |[],[],_=>rfl
 |[],_::_,h=>by cases h
 |_::_,[],h=>by cases h
 | p::a,q::b,h=>by
  show ((D.eqf (n+2) (eE p) (eE q)).bind fun x=>(oV (D.eqf (n+2)) (a.map eE) (b.map eE)).map fun y=>x&&y)=_;rw[yj,tL n (by simpa using h)];show some (decide (p=q)&&decide (a=b))=_;congr 1;by_cases h1:p=q<;>by_cases h2:a=b<;>simp[h1,h2]
theorem zg (n:Nat)(a b:List (Nat×Nat)):D.eqf (n+3) (.lst (a.map eE)) (.lst (b.map eE))=some (decide (a=b)):=by
 show (if (a.map eE).length=(b.map eE).length then oV (D.eqf (n+2)) (a.map eE) (b.map eE) else some false)=_;rw[aj,aj];by_cases h:a.length=b.length
 ·rw[if_pos h,tL n h]
 ·rw[if_neg h,av fun z=>h (by rw[z])]
theorem B1 (n:Nat)(p q:Nat×Nat)(h:p≠q):D.ltf (n+2) (eE p) (eE q)=some (decide (p.1<q.1\/(p.1=q.1/\p.2<q.2))):=by
 show ((D.eqf (n+1) (.int (p.1:Int)) (.int (q.1:Int))).bind fun e=>if e then ((D.eqf (n+1) (.int (p.2:Int)) (.int (q.2:Int))).bind fun e=>if e then some false else some (decide ((p.2:Int)<(q.2:Int)))) else some (decide ((p.1:Int)<(q.1:Int))))=_;rw[A3,A3,eo];by_cases h1:p.1=q.1
 ·rw[bg h1,if_pos rfl,eo];have h2:¬ p.2=q.2:=fun z=>h (Prod.ext h1 z)
  rw[av h2,if_neg (by decide)];congr 1;exact decide_eq_decide.mpr (by omega)
 ·rw[av h1,if_neg (by decide)];congr 1;exact decide_eq_decide.mpr (by omega)
theorem qa (n:Nat):∀ a b:List (Nat×Nat),yb (D.eqf (n+2)) (D.ltf (n+2)) (a.map eE) (b.map eE)=some (ij a b)
 |[],[]=>rfl
 |[],_::_=>rfl
 |_::_,[]=>rfl
 | p::a,q::b=>by
  show ((D.eqf (n+2) (eE p) (eE q)).bind fun e=>if e then yb (D.eqf (n+2)) (D.ltf (n+2)) (a.map eE) (b.map eE) else D.ltf (n+2) (eE p) (eE q))=_;unfold ij;rw[yj,eo];by_cases h:p=q
  ·rw[bg h,if_pos rfl,if_pos h,qa n a b]
  ·rw[av h,if_neg (by decide),if_neg h,B1 n p q h]
theorem BO (P Q:List Pe):iy .Lt (bY P) (bY Q)=some (jC P Q):=by
 show ((D.eqf 38 (.int ((cC P:Nat):Int)) (.int ((cC Q:Nat):Int))).bind fun e=>if e then ((D.eqf 38 (.int (P.length:Int)) (.int (Q.length:Int))).bind fun e=>if e then ((D.eqf 38 (.lst ((gY P).map eE)) (.lst ((gY Q).map eE))).bind fun e=>if e then some false else yb (D.eqf 37) (D.ltf 37) ((gY P).map eE) ((gY Q).map eE)) else some (decide ((P.length:Int)<(Q.length:Int)))) else some (decide (((cC P:Nat):Int)<((cC Q:Nat):Int))))=_;rw[A3,A3,zg 35,qa 35,eo];unfold jC;by_cases h1:cC P=cC Q
 ·rw[bg h1,if_pos rfl,if_pos h1,eo];by_cases h2:P.length=Q.length
  ·rw[bg h2,if_pos rfl,if_pos h2,eo];by_cases h3:gY P=gY Q
   ·rw[bg h3,if_pos rfl,h3,gy]
   ·rw[av h3,if_neg (by decide)]
  ·rw[av h2,if_neg (by decide),if_neg h2];congr 1;exact decide_eq_decide.mpr (by omega)
 ·rw[av h1,if_neg (by decide),if_neg h1];congr 1;exact decide_eq_decide.mpr (by omega)
theorem jI:∀{a b c:List (Nat×Nat)},ij a b=true->ij b c=true->ij a c=true
 |[],[],_,h,_=>by cases h
 |[],_::_,[],_,h=>by cases h
 |[],_::_,_::_,_,_=>rfl
 |_::_,[],_,h,_=>by cases h
 |_::_,_::_,[],_,h=>by cases h
 | p::a,q::b,r::c,h1,h2=>by
  unfold ij at h1 h2 ⊢;by_cases e1:p=q
  ·rw[if_pos e1] at h1;by_cases e2:q=r
   ·rw[if_pos e2] at h2;rw[if_pos (e1.trans e2)];exact jI h1 h2
   ·rw[if_neg e2] at h2;rw[if_neg (by rw[e1];exact e2),e1];exact h2
  ·rw[if_neg e1,bf] at h1;by_cases e2:q=r
   ·rw[if_neg (by rw[<-e2];exact e1),<-e2,bf];exact h1
   ·rw[if_neg e2,bf] at h2;have:p≠r:=fun z=>by subst z;omega
    rw[if_neg this,bf];omega
theorem mV:∀{a b:List (Nat×Nat)},a.length=b.length->ij a b=false->ij b a=false->a=b
 |[],[],_,_,_=>rfl
 |[],_::_,h,_,_=>by cases h
 |_::_,[],h,_,_=>by cases h
 | p::a,q::b,h,h1,h2=>by
  unfold ij at h1 h2;by_cases e:p=q
  ·rw[if_pos e] at h1;rw[if_pos e.symm] at h2;rw[e,mV (by simpa using h) h1 h2]
  ·rw[if_neg e,br] at h1;rw[if_neg (cz e),br] at h2;exact absurd (Prod.ext (by omega) (by omega)) e
theorem qQ {P Q R:List Pe}(h1:jC P Q=true)(h2:jC Q R=true):jC P R=true:=by
 unfold jC at h1 h2 ⊢;by_cases b1:cC P=cC Q
 ·rw[if_pos b1] at h1;by_cases b2:cC Q=cC R
  ·rw[if_pos b2] at h2;rw[if_pos (b1.trans b2)];by_cases l1:P.length=Q.length
   ·rw[if_pos l1] at h1;by_cases l2:Q.length=R.length
    ·rw[if_pos l2] at h2;rw[if_pos (l1.trans l2)];exact jI h1 h2
    ·rw[if_neg l2,bf] at h2;rw[if_neg (by omega),bf];omega
   ·rw[if_neg l1,bf] at h1;by_cases l2:Q.length=R.length
    ·rw[if_neg (by omega),bf];omega
    ·rw[if_neg l2,bf] at h2;rw[if_neg (by omega),bf];omega
  ·rw[if_neg b2,bf] at h2;rw[if_neg (by omega),bf];omega
 ·rw[if_neg b1,bf] at h1;by_cases b2:cC Q=cC R
  ·rw[if_neg (by omega),bf];omega
  ·rw[if_neg b2,bf] at h2;rw[if_neg (by omega),bf];omega
theorem AA {P Q:List Pe}(h1:jC P Q=false)(h2:jC Q P=false):bY P=bY Q:=by
 unfold jC at h1 h2;by_cases b:cC P=cC Q
 ·rw[if_pos b] at h1;rw[if_pos b.symm] at h2;by_cases l:P.length=Q.length
  ·rw[if_pos l] at h1;rw[if_pos l.symm] at h2;have e:=mV (by unfold gY;rw[aj,aj];exact l) h1 h2;unfold bY;rw[b,l,e]
  ·rw[if_neg l,br] at h1;rw[if_neg (cz l),br] at h2;omega
 ·rw[if_neg b,br] at h1;rw[if_neg (cz b),br] at h2;omega
theorem pO:∀(n:Nat) (t:List Nat),Good t->t.length<=n->pc (n+1) t=pc n t
 | 0,t,_,h=>by
  have:t=[]:=List.length_eq_zero_iff.mp (by omega);subst this;rfl
 |n+1,[],_,_=>by rw[fK,fK]
 | n+1,c::r,hG,h=>by
  have hc1:=(eU (r:=r) (hG c ao).2).c1;rw[dM (n+1),dM n,pO n _ (hG.drop _) (by rw[bz];omega)]
noncomputable def way (N:Nat)(t:List Nat)(k m:Nat):List Pe:=(k,t.take m)::pc N (t.drop m)
theorem wd {N:Nat}{t:List Nat}{k m:Nat}(hG:Good t)(hN:t.length<=N)(h1:1<=k)(h3:k<=3)(m1:1<=m)(m64:m<=64)(hm:m<=rn k t):Cut t (way N t k m):=by
 have hl:=hV k t;refine⟨fun p hp=>?_,?_⟩
 ·rcases gp.mp hp with rfl | hp
  ·exact⟨h1,h3,by show 1<=(t.take m).length;rw[bw];omega,by show (t.take m).length<=64;rw[bw];omega,oj k t m hm⟩
  ·exact nh N _ (hG.drop m) p hp
 ·unfold way;rw[aw,bp,l7 N _ (hG.drop m) (by rw[bz];omega)];exact List.take_append_drop _ _
theorem uS {N:Nat}{t:List Nat}(hG:Good t)(hN:t.length<=N)(h0:t≠[]):∃ k m,1<=k/\k<=3/\1<=m/\m<=64/\m<=rn k t/\pc N t=way N t k m:=by
 cases t with
 |nil=>exact absurd rfl h0
 |cons c r =>
  have F:=eU (r:=r) (hG c ao).2;have hc1:=F.c1;cases N with
  |zero=>rw[ag] at hN;omega
  |succ N =>
   refine⟨_,_,F.k1,F.k3,F.c1,F.c64,F.run,?_⟩;unfold way;rw[dM,pO N _ (hG.drop _) (by rw[bz];omega)]
theorem va {N:Nat}{t:List Nat}{P:List Pe}(hG:Good t)(hN:t.length<=N)(h0:t≠[])(hc:Cut t P)(hl:∀ k m,1<=k->k<=3->1<=m->m<=64->m<=rn k t->jC (way N t k m) P=false):bY P=bY (pc N t):=by
 obtain⟨k,m,h1,h3,m1,m64,hm,e⟩:=uS hG hN h0;refine AA (sU hG hN hc) ?_;rw[e];exact hl k m h1 h3 m1 m64 hm
theorem pq {k:Nat}:∀{t:List Nat}{m:Nat},m<=rn k t->(m+1<=rn k t↔∃ c,t[m]? = some c/\dF k c=true)
 | [],m,h=>by
  have:m=0:=by unfold rn at h;omega
  subst this;unfold rn;simp
 | a::r,0,h=>by
  rw[dO];by_cases ha:dF k a=true
  ·rw[if_pos ha];exact⟨fun _=>⟨a,rfl,ha⟩,fun _=>by omega⟩
  ·rw[if_neg ha];constructor
   ·intro z;omega
   ·rintro⟨c,hc,hk⟩;cases hc;exact absurd hk ha
 | a::r,m+1,h=>by
  rw[dO] at h ⊢;by_cases ha:dF k a=true
  ·rw[if_pos ha] at h ⊢;have:=pq (k:=k) (t:=r) (m:=m) (by omega);rw[List.getElem?_cons_succ];constructor
   ·intro z;exact this.mp (by omega)
   ·intro z;have:=this.mpr z;omega
  ·rw[if_neg ha] at h;omega
end Pc.Ct
end
section
namespace K06
open PySem Pc
noncomputable def b0:cG:=(.cons (.asg (.nm 2) (.bin .Add (.glb 5) (.glb 6)) false)
  (.cons (.ite (.cmp .Eq (.var 0) (.glb 0)) (.cons (.ret (.bin .Add (.bin .Add (.var 2) (.bin .Mult (.ix (.glb 8) (.glb 9)) (.bin .FloorDiv (.var 1) (.glb 9)))) (.ix (.glb 8) (.bin .Mod (.var 1) (.glb 9)))))
  .nil) .nil)
  (.cons (.ret (.bin .Add (.var 2) (.bin .Mult (.ix (.glb 4) (.var 0)) (.var 1))))
  .nil)))
noncomputable def b1:cG:=(.cons (.expr (.call 2 (.cons (.var 0) .nil)))
  (.cons (.asg (.nm 1) (.call 3 (.cons (.var 0) .nil)) false)
  (.cons (.asg (.nm 2) (.lst .nil) false)
  (.cons (.asg (.nm 3) (.cst (.int (0))) false)
  (.cons (.whl (.cmp .Lt (.var 3) (.blt .len (.cons (.var 0) .nil))) (.cons (.asg (.nm 4) (.ix (.ix (.var 1) (.var 3)) (.cst (.int (2)))) false)
  (.cons (.asg (.nm 5) (.bin .Add (.var 3) (.ix (.ix (.var 1) (.var 3)) (.cst (.int (3))))) false)
  (.cons (.mut 2 .none .append (.cons (.tup (.cons (.var 4) (.cons (.sl (.var 0) (.some (.var 3)) (.some (.var 5))) .nil))) .nil))
  (.cons (.asg (.nm 3) (.var 5) false)
  .nil)))))
  (.cons (.ret (.var 2))
  .nil))))))
noncomputable def b2:cG:=(.cons (.forr (.tp [1,2]) (.enum (.var 0)) (.cons (.ite (.cmp .NotIn (.var 2) (.ix (.glb 3) (.glb 2))) (.cons (.expr (.neg (.cst .non)))
  .nil) .nil)
  .nil))
  .nil)
noncomputable def b3:cG:=(.cons (.asg (.nm 1) (.bin .Mult (.lst (.cons (.tup (.cons (.cst (.int (0))) (.cons (.cst (.int (0))) (.cons (.cst (.int (0))) (.cons (.cst (.int (0))) .nil))))) .nil)) (.bin .Add (.blt .len (.cons (.var 0) .nil)) (.cst (.int (1))))) false)
  (.cons (.asg (.nm 2) (.ddsp [(0,0),(1,0),(2,0)]) false)
  (.cons (.forr (.nm 3) (.rng3 (.bin .Sub (.blt .len (.cons (.var 0) .nil)) (.cst (.int (1)))) (.neg (.cst (.int (1)))) (.neg (.cst (.int (1))))) (.cons (.asg (.nm 4) (.lst .nil) false)
  (.cons (.forr (.nm 5) (.seq (.blt .list (.cons (.var 2) .nil))) (.cons (.putd 2 (.var 5) (.ite (.cmp .In (.ix (.var 0) (.var 3)) (.ix (.glb 3) (.var 5))) (.bin .Add (.ix (.var 2) (.var 5)) (.cst (.int (1)))) (.cst (.int (0)))))
  (.cons (.mut 4 .none .extend (.cons (.call 4 (.cons (.var 1) (.cons (.var 3) (.cons (.var 5) (.cons (.ix (.var 2) (.var 5)) .nil))))) .nil))
  .nil)))
  (.cons (.setix 1 .none (.var 3) (.blt .min2 (.cons (.var 4) .nil)))
  .nil))))
  (.cons (.ret (.var 1))
  .nil))))
noncomputable def b4:cG:=(.cons (.asg (.nm 4) (.lst .nil) false)
  (.cons (.forr (.nm 5) (.rng2 (.cst (.int (1))) (.bin .Add (.blt .min2 (.cons (.var 3) (.cons (.glb 7) .nil))) (.cst (.int (1))))) (.cons (.asg (.nm 6) (.ix (.var 0) (.bin .Add (.var 1) (.var 5))) false)
  (.cons (.mut 4 .none .append (.cons (.tup (.cons (.bin .Add (.call 0 (.cons (.var 2) (.cons (.var 5) .nil))) (.ix (.var 6) (.cst (.int (0))))) (.cons (.bin .Add (.cst (.int (1))) (.ix (.var 6) (.cst (.int (1))))) (.cons (.var 2) (.cons (.var 5) .nil))))) .nil))
  .nil)))
  (.cons (.ret (.var 4))
  .nil)))
noncomputable def b5:cG:=(.cons (.asg (.nm 3) (.var 1) false)
  (.cons (.ite (.cmp .Gt (.blt .len (.cons (.var 0) .nil)) (.cst (.int (0)))) (.cons (.asg (.nm 3) (.ix (.var 0) (.bin .Mod (.var 1) (.blt .len (.cons (.var 0) .nil)))) false)
  .nil) .nil)
  (.cons (.ret (.bin .Mod (.bin .Add (.bin .Add (.bin .Add (.bin .Mult (.bin .Mod (.var 3) (.cst (.int (1000000007)))) (.cst (.int (69621)))) (.bin .Mult (.bin .Mult (.var 1) (.var 1)) (.cst (.int (7919))))) (.bin .Mult (.cst (.int (5))) (.var 1))) (.cst (.int (1234567)))) (.var 2)))
  .nil)))
noncomputable def b6:cG:=(.cons (.ite (.cmp .Eq (.var 0) (.cst (.int (1)))) (.cons (.ret (.cst (.str ("0123456789" : PySem.Str))))
  .nil) .nil)
  (.cons (.ite (.cmp .Eq (.var 0) (.cst (.int (2)))) (.cons (.ret (.cst (.str (" ABCDEFGHIJKLMNOPQRSTUVWXYZ.,-:/" : PySem.Str))))
  .nil) .nil)
  (.cons (.asg (.nm 1) (.cst (.str (" !\"#$&'()*+,-./0123456789:;<=>?@ABCDEFGHIJKLMNOPQRSTUVWXYZ[\\]^_`" : PySem.Str))) false)
  (.cons (.ret (.bin .Add (.var 1) (.cst (.str ("abcdefghijklmnopqrstuvwxyz{|}~" : PySem.Str)))))
  .nil))))
noncomputable def b7:cG:=(.cons (.asg (.nm 2) (.call 6 (.cons (.bin .Add (.cst (.int (1))) (.bin .Mod (.var 0) (.cst (.int (3))))) .nil)) false)
  (.cons (.asg (.nm 3) (.cst (.str ("" : PySem.Str))) false)
  (.cons (.forr (.nm 4) (.rng1 (.var 1)) (.cons (.asg (.nm 0) (.bin .Add (.bin .Mod (.bin .Mult (.var 0) (.cst (.int (48271)))) (.cst (.int (2147483647)))) (.var 4)) false)
  (.cons (.asg (.nm 3) (.bin .Add (.var 3) (.ix (.var 2) (.bin .Mod (.bin .FloorDiv (.var 0) (.cst (.int (64)))) (.blt .len (.cons (.var 2) .nil))))) false)
  .nil)))
  (.cons (.ret (.var 3))
  .nil))))
noncomputable def b8:cG:=(.cons (.asg (.nm 2) (.bin .Mod (.bin .FloorDiv (.call 5 (.cons (.var 0) (.cons (.cst (.int (0))) (.cons (.cst (.int (2147483629))) .nil)))) (.cst (.int (5)))) (.bin .Add (.var 1) (.cst (.int (1))))) false)
  (.cons (.asg (.nm 3) (.cst (.str ("" : PySem.Str))) false)
  (.cons (.asg (.nm 4) (.cst (.int (1))) false)
  (.cons (.whl (.cmp .Lt (.blt .len (.cons (.var 3) .nil)) (.var 2)) (.cons (.asg (.nm 5) (.call 5 (.cons (.var 0) (.cons (.var 4) (.cons (.cst (.int (2147483587))) .nil)))) false)
  (.cons (.asg (.nm 6) (.bin .Add (.cst (.int (1))) (.bin .Mod (.bin .FloorDiv (.var 5) (.cst (.int (9)))) (.cst (.int (5))))) false)
  (.cons (.ite (.cmp .Eq (.bin .Mod (.bin .FloorDiv (.var 5) (.cst (.int (45)))) (.cst (.int (5)))) (.cst (.int (1)))) (.cons (.asg (.nm 6) (.bin .Add (.cst (.int (1))) (.bin .Mod (.bin .FloorDiv (.var 5) (.cst (.int (225)))) (.cst (.int (90))))) false)
  .nil) .nil)
  (.cons (.asg (.nm 3) (.bin .Add (.var 3) (.call 7 (.cons (.bin .Add (.cst (.int (1))) (.bin .FloorDiv (.var 5) (.cst (.int (7))))) (.cons (.var 6) .nil)))) false)
  (.cons (.asg (.nm 4) (.bin .Add (.var 4) (.cst (.int (1)))) false)
  .nil))))))
  (.cons (.ret (.sl (.var 3) .none (.some (.var 2))))
  .nil)))))
noncomputable def b9:cG:=(.cons (.ite (.cmp .Eq (.var 0) (.cst (.int (1)))) (.cons (.ret (.bin .Add (.cst (.int (8))) (.bin .FloorDiv (.bin .Add (.bin .Mult (.cst (.int (10))) (.var 1)) (.cst (.int (2)))) (.cst (.int (3))))))
  .nil) .nil)
  (.cons (.ret (.bin .Add (.cst (.int (8))) (.bin .Mult (.var 1) (.ix (.lst (.cons (.cst (.int (5))) (.cons (.cst (.int (7))) .nil))) (.bin .Sub (.var 0) (.cst (.int (2))))))))
  .nil))
noncomputable def b10:cG:=(.cons (.asg (.nm 3) (.cst .non) false)
  (.cons (.forr (.nm 4) (.seq (.tup (.cons (.cst (.int (1))) (.cons (.cst (.int (2))) (.cons (.cst (.int (3))) .nil))))) (.cons (.asg (.nm 5) (.call 6 (.cons (.var 4) .nil)) false)
  (.cons (.asg (.nm 6) (.cst (.int (1))) false)
  (.cons (.whl (.and (.cmp .LtE (.var 6) (.cst (.int (64)))) (.and (.cmp .LtE (.bin .Add (.var 1) (.var 6)) (.blt .len (.cons (.var 0) .nil))) (.cmp .In (.ix (.var 0) (.bin .Sub (.bin .Add (.var 1) (.var 6)) (.cst (.int (1))))) (.var 5)))) (.cons (.asg (.nm 7) (.ix (.var 2) (.bin .Add (.var 1) (.var 6))) false)
  (.cons (.asg (.nm 8) (.bin .Add (.call 9 (.cons (.var 4) (.cons (.var 6) .nil))) (.ix (.var 7) (.cst (.int (0))))) false)
  (.cons (.ite (.or (.cmp .Is (.var 3) (.cst .non)) (.cmp .LtE (.var 8) (.ix (.var 3) (.cst (.int (0)))))) (.cons (.asg (.nm 9) (.tup (.cons (.var 8) (.cons (.bin .Add (.ix (.var 7) (.cst (.int (1)))) (.cst (.int (1)))) (.cons (.bin .Add (.lst (.cons (.tup (.cons (.var 4) (.cons (.var 6) .nil))) .nil)) (.ix (.var 7) (.cst (.int (2))))) .nil)))) false)
  (.cons (.ite (.or (.cmp .Is (.var 3) (.cst .non)) (.cmp .Lt (.var 9) (.var 3))) (.cons (.asg (.nm 3) (.var 9) true)
  .nil) .nil)
  .nil)) .nil)
  (.cons (.asg (.nm 6) (.bin .Add (.var 6) (.cst (.int (1)))) false)
  .nil)))))
  .nil))))
  (.cons (.ret (.var 3))
  .nil)))
noncomputable def b11:cG:=(.cons (.asg (.nm 1) (.cst (.int (40))) false)
  (.cons (.ite (.cmp .Eq (.bin .Mod (.call 5 (.cons (.var 0) (.cons (.cst (.int (80))) (.cons (.cst (.int (2147483647))) .nil)))) (.cst (.int (8)))) (.cst (.int (1)))) (.cons (.asg (.nm 1) (.cst (.int (80))) false)
  .nil) .nil)
  (.cons (.asg (.nm 2) (.call 8 (.cons (.var 0) (.cons (.var 1) .nil))) false)
  (.cons (.asg (.nm 3) (.snoc (.bin .Mult (.lst (.cons (.cst .non) .nil)) (.blt .len (.cons (.var 2) .nil))) (.tup (.cons (.cst (.int (0))) (.cons (.cst (.int (0))) (.cons (.lst .nil) .nil))))) false)
  (.cons (.forr (.nm 4) (.rng1 (.blt .len (.cons (.var 2) .nil))) (.cons (.asg (.nm 5) (.bin .Sub (.bin .Sub (.blt .len (.cons (.var 2) .nil)) (.cst (.int (1)))) (.var 4)) false)
  (.cons (.setix 3 .none (.var 5) (.call 10 (.cons (.var 2) (.cons (.var 5) (.cons (.var 3) .nil)))))
  .nil)))
  (.cons (.asg (.nm 6) (.lst .nil) false)
  (.cons (.asg (.nm 5) (.cst (.int (0))) false)
  (.cons (.forr (.tp [7,8]) (.seq (.ix (.ix (.var 3) (.cst (.int (0)))) (.cst (.int (2))))) (.cons (.mut 6 .none .append (.cons (.tup (.cons (.var 7) (.cons (.sl (.var 2) (.some (.var 5)) (.some (.bin .Add (.var 5) (.var 8)))) .nil))) .nil))
  (.cons (.asg (.nm 5) (.bin .Add (.var 5) (.var 8)) false)
  .nil)))
  (.cons (.ret (.cmp .Eq (.call 1 (.cons (.var 2) .nil)) (.var 6)))
  .nil)))))))))
noncomputable def fns:List Fn:=[⟨2,3,b0⟩,⟨1,6,b1⟩,⟨1,3,b2⟩,⟨1,6,b3⟩,⟨4,7,b4⟩,⟨3,4,b5⟩,⟨1,2,b6⟩,⟨2,5,b7⟩,⟨2,7,b8⟩,⟨2,2,b9⟩,⟨3,10,b10⟩,⟨1,9,b11⟩]
noncomputable def gl:Nat->D
 |0=>.int 1
 |1=>.int 2
 |2=>.int 3
 |3=>.tup [.str ("" : PySem.Str),.str ("0123456789" : PySem.Str),.str (" ABCDEFGHIJKLMNOPQRSTUVWXYZ.,-:/" : PySem.Str),.str (" !\"#$&'()*+,-./0123456789:;<=>?@ABCDEFGHIJKLMNOPQRSTUVWXYZ[\\]^_`abcdefghijklmnopqrstuvwxyz{|}~" : PySem.Str)]
 |4=>.tup [.int 0,.int 0,.int 5,.int 7]
 |5=>.int 2
 |6=>.int 6
 |7=>.int 64
 |8=>.tup [.int 0,.int 4,.int 7,.int 10]
 |9=>.int 3
 |_=>.non
noncomputable abbrev T (n:Nat):Tb:=⟨Pc.run fns gl 1000 n,gl,1000⟩
theorem sV (n:Nat):(T n).cl=Pc.run fns gl 1000 n:=rfl
end K06
end
section
namespace K06
open PySem Pc Pc.Sm Pc.Lw Pc.Gr Pc.Nw Pc.Ct
open Pc.Fr (iD)
theorem gL (n:Nat):GL (T n):=fun i hi=>by
 match i,hi with
 |0,_=>rfl
 |1,_=>rfl
 |2,_=>rfl
 |3,_=>rfl
 |4,_=>rfl
 |5,_=>rfl
 |6,_=>rfl
 |7,_=>rfl
 |8,_=>rfl
 |9,_=>rfl
theorem pL (n:Nat):wm (T (n+1)):=fun k c h1 h3 hc=>by
 rw[sV,dH (F:=⟨2,3,b0⟩) rfl rfl];exact Bn (gL n) h1 h3 hc
theorem cK (n:Nat):tN (T (n+2)):=fun B s k r h1 h3 hB=>by
 rw[sV,dH (F:=⟨4,7,b4⟩) rfl rfl];exact Cm (gL (n+1)) (pL n) h1 h3 hB
theorem bC (n:Nat):CV (T (n+3)):=fun t ht hG=>by
 rw[sV,dH (F:=⟨1,6,b3⟩) rfl rfl];exact AY (gL (n+2)) (cK n) ht hG
theorem rS (n:Nat):B2 (T (n+1)):=fun t hG=>by
 rw[sV,dH (F:=⟨1,3,b2⟩) rfl rfl];exact CU (gL n) hG
theorem cT (n:Nat):CTok (T (n+4)):=fun t ht hG=>by
 rw[sV,dH (F:=⟨1,6,b1⟩) rfl rfl];exact Bc (aq _) (rS (n+2)) (bC n) ht hG
theorem mX (n:Nat):sP (T (n+1)):=fun cs k p hk hp=>by
 obtain⟨r,h0,h1,h2⟩:=B6 (T:=T n) (cs:=cs) hk hp;refine⟨r,h0,h1,?_⟩;rw[sV,dH (F:=⟨3,4,b5⟩) rfl rfl];exact h2
theorem sG (n:Nat):Cd (T (n+1)):=fun k h1 h3=>by
 rw[sV,dH (F:=⟨1,2,b6⟩) rfl rfl];exact A7 h1 h3
theorem rN (n:Nat):uU (T (n+2)):=fun d m hm=>by
 obtain⟨cs,h1,h2,h3⟩:=zV (sG n) (d:=d) m hm;refine⟨cs,h1,h2,?_⟩;rw[sV,dH (F:=⟨2,5,b7⟩) rfl rfl];exact h3
theorem tX (n:Nat):TXok (T (n+3)):=fun cs m hm=>by
 obtain⟨t,h1,h2,h3⟩:=Au (T:=T (n+2)) (aq _) (mX (n+1)) (rN n) (cs:=cs) m hm;refine⟨t,h1,h2,?_⟩;rw[sV,dH (F:=⟨2,7,b8⟩) rfl rfl];exact h3
theorem cost {n:Nat}{k m:Nat}(h1:1<=k)(h3:k<=3)(hm:m<=1000):(T (n+1)).cl 9 [.int (k:Int),.int (m:Int)] = .ok (.int ((dP k m:Nat):Int),true):=by
 rw[sV,dH (F:=⟨2,2,b9⟩) rfl rfl];have hst:aO [.int (k:Int),.int (m:Int)] 2=[sN k,sN m]:=rfl;dsimp only;rw[hst];have v0:ev (T n) (.var 0) [sN k,sN m] = .ok (.int (k:Int),.mv []):=aC rfl rfl;have v1:ev (T n) (.var 1) [sN k,sN m] = .ok (.int (m:Int),.mv []):=aC rfl rfl;have ec:=ud (y:=1) v0 (aE (.int 1));have hs:∀ j:Int,(small 10 || small j)=true:=fun j=>by rw[show small 10=true by decide];rfl
 unfold b9;rw[aF,iH ec];by_cases hk:k=1
 ·rw[if_pos hk];have e1:=bH (aE (.int 8)) (fQ (show (0:Int)<3 by decide) (by decide) (bH (Fr.fJ (hs _) (aE (.int 10)) v1) (aE (.int 2))) (aE (.int 3)));rw[aF,aY,e1];have:(8:Int)+(10*(m:Int)+2) / 3=((dP k m:Nat):Int):=by
   unfold dP fb;rw[if_pos hk];split<;>omega
  rw[this];rfl
 ·rw[if_neg hk,dS,aD];have e0:ev (T n) (.bin .Sub (.var 0) (.cst (.int (2)))) [sN k,sN m] = .ok (.int ((k - 2:Nat):Int),.mv []):=gR (y:=2) (by omega) v0 (aE _);have e1:ev (T n) (.ix (.lst (.cons (.cst (.int (5))) (.cons (.cst (.int (7))) .nil))) (.bin .Sub (.var 0) (.cst (.int (2))))) [sN k,sN m] = .ok (.int (((if k=2 then 5 else 7:Nat):Int)),.mv []):=by
   refine me (ds:=[.int 5,.int 7]) (i:=k - 2) (R:=.mv []) (by rw[ev,bE,aE,aA,bE,aE,aA,bE];rfl) e0 ?_ rfl;have:k=2\/k=3:=by omega
   rcases this with rfl | rfl<;>rfl
  have e2:=bH (aE (.int 8)) (Fr.fJ (show (small (m:Int) || small (((if k=2 then 5 else 7:Nat):Int)))=true by rw[show small (((if k=2 then 5 else 7:Nat):Int))=true by split<;>decide,Bool.or_true]) v1 e1);have:(8:Int)+(m:Int)*((if k=2 then 5 else 7:Nat):Int)=((dP k m:Nat):Int):=by
   unfold dP;rw[if_neg hk]
   push_cast
   rw[Int.mul_comm]
  rw[this] at e2;exact i4 e2
theorem j9 (P:List Pe):jC P P=false:=by
 unfold jC;rw[if_pos rfl,if_pos rfl,gy]
noncomputable def up (b:Option (List Pe))(W:List Pe):Option (List Pe):=match b with
 |none=>some W
 |some P=>if jC W P then some W else some P
noncomputable def dI:Option (List Pe)->Slot
 |none=>some (.non,.own)
 |some P=>some (bY P,.own)
theorem dD (b:Option (List Pe)):aH (dI b):=by
 cases b<;>exact aB _
def vo (N:Nat)(t:List Nat)(b:Option (List Pe))(S:Nat->Nat->Prop):Prop:=match b with
 |none=>∀ k m,¬ S k m
 |some P=>Cut t P/\∀ k m,S k m->jC (way N t k m) P=false
theorem BB {N:Nat}{t:List Nat}{b:Option (List Pe)}{S:Nat->Nat->Prop}{k m:Nat}(h:vo N t b S)(hc:Cut t (way N t k m)):vo N t (up b (way N t k m)) fun k' m'=>S k' m'\/(k'=k/\m'=m):=by
 cases b with
 |none =>
  refine⟨hc,fun k' m' q=>?_⟩;rcases q with q | ⟨rfl,rfl⟩
  ·exact absurd q (h k' m')
  ·exact j9 _
 |some P =>
  unfold up;dsimp only;by_cases hl:jC (way N t k m) P=true
  ·rw[if_pos hl];refine⟨hc,fun k' m' q=>?_⟩;rcases q with q | ⟨rfl,rfl⟩
   ·have h0:=h.2 k' m' q;cases hx:jC (way N t k' m') (way N t k m) with
    |false=>rfl
    |true=>rw[qQ hx hl] at h0;cases h0
   ·exact j9 _
  ·rw[if_neg hl];refine⟨h.1,fun k' m' q=>?_⟩;rcases q with q | ⟨rfl,rfl⟩
   ·exact h.2 k' m' q
   ·exact Bool.eq_false_iff.mpr hl
theorem vo.imp {N:Nat}{t:List Nat}{b:Option (List Pe)}{S S':Nat->Nat->Prop}(h:vo N t b S)(hs:∀ k m,S' k m↔S k m):vo N t b S':=by
 cases b with
 |none=>exact fun k m q=>h k m ((hs k m).mp q)
 |some P=>exact⟨h.1,fun k m q=>h.2 k m ((hs k m).mp q)⟩
noncomputable def cW:Ex:=.and (.cmp .LtE (.var 6) (.cst (.int (64)))) (.and (.cmp .LtE (.bin .Add (.var 1) (.var 6)) (.blt .len (.cons (.var 0) .nil))) (.cmp .In (.ix (.var 0) (.bin .Sub (.bin .Add (.var 1) (.var 6)) (.cst (.int (1))))) (.var 5)))
noncomputable def eW:Ex:=.tup (.cons (.var 8) (.cons (.bin .Add (.ix (.var 7) (.cst (.int (1)))) (.cst (.int (1)))) (.cons (.bin .Add (.lst (.cons (.tup (.cons (.var 4) (.cons (.var 6) .nil))) .nil)) (.ix (.var 7) (.cst (.int (2))))) .nil)))
noncomputable def c1:Ex:=.or (.cmp .Is (.var 3) (.cst .non)) (.cmp .LtE (.var 8) (.ix (.var 3) (.cst (.int (0)))))
noncomputable def c2:Ex:=.or (.cmp .Is (.var 3) (.cst .non)) (.cmp .Lt (.var 9) (.var 3))
noncomputable def bI:cG:=(.cons (.asg (.nm 9) eW false) (.cons (.ite c2 (.cons (.asg (.nm 3) (.var 9) true) .nil) .nil) .nil))
noncomputable def bW:cG:=(.cons (.asg (.nm 7) (.ix (.var 2) (.bin .Add (.var 1) (.var 6))) false)
  (.cons (.asg (.nm 8) (.bin .Add (.call 9 (.cons (.var 4) (.cons (.var 6) .nil))) (.ix (.var 7) (.cst (.int (0))))) false)
  (.cons (.ite c1 bI .nil)
  (.cons (.asg (.nm 6) (.bin .Add (.var 6) (.cst (.int (1)))) false)
  .nil))))
noncomputable def bK:cG:=(.cons (.asg (.nm 5) (.call 6 (.cons (.var 4) .nil)) false)
  (.cons (.asg (.nm 6) (.cst (.int (1))) false)
  (.cons (.whl cW bW) .nil)))
theorem zS:b10=(.cons (.asg (.nm 3) (.cst .non) false)
  (.cons (.forr (.nm 4) (.seq (.tup (.cons (.cst (.int (1))) (.cons (.cst (.int (2))) (.cons (.cst (.int (3))) .nil))))) bK)
  (.cons (.ret (.var 3)) .nil))):=rfl
noncomputable abbrev EE (t:List Nat)(s:Nat)(BL:List D)(b:Slot)(k:Nat)(S:Slot)(m:Nat)(a7 a8 a9:Slot):En:=[sT t,sN s,some (.lst BL,.sh []),b,sN k,S,sN m,a7,a8,a9]
theorem iz {t:List Nat}{s:Nat}{BL:List D}{b:Slot}{k:Nat}{S:Slot}{m:Nat}{a7 a8 a9:Slot}(hb:aH b)(hS:aH S)(h7:aH a7)(h8:aH a8)(h9:aH a9):Tame (EE t s BL b k S m a7 a8 a9) :=
 .cons (aB _) (.cons (aB _) (.cons (bQ _) (.cons hb (.cons (aB _) (.cons hS (.cons (aB _) (.cons h7 (.cons h8 (.cons h9 .nil)))))))))
theorem zZ {T:Tb}{env:En}{i:Nat}{e:Ex}{d:D}(ht:Tame env)(hi:i<env.length)(h:ev T e env = .ok (d,.sh [])):aY T (.asg (.nm i) e false) env = .nx (env.set i (some (d,.sh []))):=by
 rw[aY,h,bM];show (if i<env.length then (Fl.nx (put env i d (.sh []))) else .bad)=_;rw[if_pos hi,eV ht]
theorem sZ {T:Tb}{env:En}{a b:Ex}{P:List Pe}{R R':Rt}{i:Nat}{d:D}(ha:ev T a env = .ok (bY P,R))(hb:ev T b env = .ok (.int (i:Int),R'))(h:[D.int ((cC P:Nat):Int),.int (P.length:Int),.lst ((gY P).map eE)][i]? = some d)(hf:d.flat=true):ev T (.ix a b) env = .ok (d,.mv []):=eP (i:=i) ha hb h hf
theorem oM {T:Tb}{env:En}{a b:Ex}{x y:Nat}{R R':Rt}(h:ev T a env = .ok (.int (x:Int),R))(h':ev T b env = .ok (.int (y:Int),R')):ev T (.cmp .LtE a b) env = .ok (.bl (decide (x<=y)),.mv []):=by
 rw[ev,h,aA,h',aA];show (fS (some (decide ((x:Int)<=(y:Int))))).bind _=_;have:decide ((x:Int)<=(y:Int))=decide (x<=y):=decide_eq_decide.mpr (by omega);rw[this];rfl
theorem xi {T:Tb}{env:En}{a b:Ex}{x:Bool}{R:Rt}{q:Rs (D×Rt)}(h:ev T a env = .ok (.bl x,R))(h':x=false->ev T b env=q):ev T (.or a b) env=if x then .ok (.bl true,.mv []) else q:=by
 rw[ev,h,aA];cases x with
 |true=>rfl
 |false=>exact h' rfl
theorem BQ {T:Tb}{t:List Nat}{s:Nat}{BL:List D}{b:Slot}{k m:Nat}{a7 a8 a9:Slot}(ht:t.length<=900)(hG:Good t)(hk:k<=3)(hs:s<=t.length)(m1:1<=m)(hm:m - 1<=rn k (t.drop s)) :
  ((ev T cW (EE t s BL b k (some (.str (KS k),.own)) m a7 a8 a9)).bind fun p=>fS (truth p.1)) = .ok (decide (m<=64/\m<=rn k (t.drop s))):=by
 have v0:ev T (.var 0) (EE t s BL b k (some (.str (KS k),.own)) m a7 a8 a9) = .ok (.str (tx t),.mv []):=aC rfl rfl;have v1:ev T (.var 1) (EE t s BL b k (some (.str (KS k),.own)) m a7 a8 a9) = .ok (.int (s:Int),.mv []):=aC rfl rfl;have v6:ev T (.var 6) (EE t s BL b k (some (.str (KS k),.own)) m a7 a8 a9) = .ok (.int (m:Int),.mv []):=aC rfl rfl;have v5:ev T (.var 5) (EE t s BL b k (some (.str (KS k),.own)) m a7 a8 a9) = .ok (.str (KS k),.mv []):=aC rfl rfl;have e1:=oM v6 (aE (.int ((64:Nat):Int)));have e2:=oM (aZ v1 v6) (fF (by omega) v0);have e3:s+m<=t.length->ev T (.cmp .In (.ix (.var 0) (.bin .Sub (.bin .Add (.var 1) (.var 6)) (.cst (.int (1))))) (.var 5)) (EE t s BL b k (some (.str (KS k),.own)) m a7 a8 a9) = .ok (.bl (decide (dF k (t.getD (s+m - 1) 0)=true)),.mv []):=fun hl=>by
  have hi:s+m - 1<t.length:=by omega
  have hget:t[s+m - 1]? = some t[s+m - 1]:=List.getElem?_eq_getElem hi;have hx:=nM (i:=s+m - 1) (by omega) v0 (gR (y:=1) (by omega) (aZ v1 v6) (aE _)) hget;have hx:ev T (.ix (.var 0) (.bin .Sub (.bin .Add (.var 1) (.var 6)) (.cst (.int (1))))) (EE t s BL b k (some (.str (KS k),.own)) m a7 a8 a9) = .ok (.str (tx [t[s+m - 1]]),.mv []):=hx;rw[ev,hx,aA,v5,aA];show (fS (some (By (tx [t[s+m - 1]]) (KS k)))).bind _=_;rw[mB _ (hG _ (fq hi)).1 k (by omega),List.getD_eq_getElem?_getD,hget];show (fS (some (dF k t[s+m - 1]))).bind _=Rs.ok (D.bl (decide (dF k t[s+m - 1]=true)),Rt.mv []);rw[Bool.decide_eq_true];rfl
 have ea:ev T cW (EE t s BL b k (some (.str (KS k),.own)) m a7 a8 a9) = .ok (.bl (decide (m<=64/\(s+m<=t.length/\dF k (t.getD (s+m - 1) 0)=true))),.mv []):=qo e1 fun _=>qo e2 e3
 rw[ea,aA];have hst:=pq (k:=k) (t:=t.drop s) (m:=m - 1) hm;rw[show m - 1+1=m by omega] at hst;have:decide (m<=64/\(s+m<=t.length/\dF k (t.getD (s+m - 1) 0)=true))=decide (m<=64/\m<=rn k (t.drop s)):=by
  refine decide_eq_decide.mpr (and_congr_right fun _=>?_);rw[hst,List.getElem?_drop,show s+(m - 1)=s+m - 1 by omega];constructor
  ·rintro⟨h1,h2⟩;have hi:s+m - 1<t.length:=by omega
   refine⟨t[s+m - 1],List.getElem?_eq_getElem hi,?_⟩;rw[List.getD_eq_getElem?_getD,List.getElem?_eq_getElem hi] at h2;exact h2
  ·rintro⟨c,h1,h2⟩;have hi:=(List.getElem?_eq_some_iff.mp h1).1;refine⟨by omega,?_⟩;rw[List.getD_eq_getElem?_getD,h1];exact h2
 rw[this];rfl
theorem wo {N:Nat}{t:List Nat}{k m:Nat}(hm:m<=t.length):cC (way N t k m)=dP k m+cC (pc N (t.drop m)):=by
 unfold way cC;rw[aw,List.sum_cons];show dP k (t.take m).length+_=_;rw[bw,dk hm]
theorem xo {N:Nat}{t:List Nat}{k m:Nat}(hm:m<=t.length):gY (way N t k m)=(k,m)::gY (pc N (t.drop m)):=by
 unfold way gY;rw[aw];show (k,(t.take m).length)::_=_;rw[bw,dk hm]
open Pc.Fr (iD)
theorem lR {T:Tb}{t:List Nat}{s:Nat}{BL:List D}{b:Option (List Pe)}{k:Nat}{S:Slot}{m:Nat}{a7 a8 a9:Slot}:ev T (.cmp .Is (.var 3) (.cst .non)) (EE t s BL (dI b) k S m a7 a8 a9) = .ok (.bl b.isNone,.mv []):=by
 cases b with
 |none=>rfl
 |some P=>rfl
theorem BK {T:Tb}{t:List Nat}{s:Nat}{BL:List D}{P:List Pe}{k:Nat}{S:Slot}{m c:Nat}{a7 a9:Slot}:ev T (.cmp .LtE (.var 8) (.ix (.var 3) (.cst (.int (0))))) (EE t s BL (dI (some P)) k S m a7 (sN c) a9) = .ok (.bl (decide (c<=cC P)),.mv []) :=
 oM (aC rfl rfl) (sZ (i:=0) (bR (i:=3) (d:=bY P) rfl rfl) (aE _) rfl rfl)
theorem zt {T:Tb}{env:En}{i j:Nat}{e:Ex}{d:D}(ht:Tame env)(hi:i<env.length)(hj:env[j]? = some (some (d,.own)))(h:ev T e env = .ok (d,.mv [j])):aY T (.asg (.nm i) e true) env = .nx ((env.set j none).set i (some (d,.own))):=by
 have ho:dG env [j]=true:=by
  unfold dG;rw[dq,hj];rfl
 have hk:kill [j] env=env.set j none:=by
  rw[lu ht];apply List.ext_getElem?;intro x;rw[List.getElem?_mapIdx,List.getElem?_set];by_cases hx:j=x
  ·subst hx;rw[if_pos rfl,if_pos (List.getElem?_eq_some_iff.mp hj).1,hj];show some (if [j].contains j=true then none else some (d,Tg.own))=_;rw[if_pos (by simp)]
  ·rw[if_neg hx];cases env[x]? with
   |none=>rfl
   |some s =>
    show some (if [j].contains x=true then none else s)=_;rw[if_neg (by simpa using fun z=>hx z.symm)]
 rw[aY,h,bM];show (if i<env.length then (if dG env [j]=true then Fl.nx (put (kill [j] env) i d .own) else .bad) else .bad)=_;rw[if_pos hi,if_pos ho,hk,eV (ht.set aR j)]
theorem turn {n:Nat}{t:List Nat}{s:Nat}{BL:List D}{N k m:Nat}{b:Option (List Pe)}{a7 a8 a9:Slot}(h1:1<=k)(h3:k<=3)(m1:1<=m)(m64:m<=64)(hm:m<=(t.drop s).length)(hP:(pc N (t.drop (s+m))).length<=500)(hB:BL[s+m]? = some (bY (pc N (t.drop (s+m)))))(h7:aH a7)(h8:aH a8)(h9:aH a9) :
  ∃ b7 b8 b9,aH b7/\aH b8/\aH b9/\aF (T (n+1)) bW (EE t s BL (dI b) k (some (.str (KS k),.own)) m a7 a8 a9) = .nx (EE t s BL (dI (up b (way N (t.drop s) k m))) k (some (.str (KS k),.own)) (m+1) b7 b8 b9):=by
 have hdd:(t.drop s).drop m=t.drop (s+m):=by rw[List.drop_drop]
 have hbw:cC (way N (t.drop s) k m)=dP k m+cC (pc N (t.drop (s+m))):=by rw[wo hm,hdd]
 have hpw:gY (way N (t.drop s) k m)=(k,m)::gY (pc N (t.drop (s+m))):=by rw[xo hm,hdd]
 have hlw:(way N (t.drop s) k m).length=(pc N (t.drop (s+m))).length+1:=by unfold way;rw[ag,hdd]
 generalize way N (t.drop s) k m=W at *;generalize pc N (t.drop (s+m))=R at *;have tS:aH (some (.str (KS k),.own)):=aB _;have e7:ev (T (n+1)) (.ix (.var 2) (.bin .Add (.var 1) (.var 6))) (EE t s BL (dI b) k (some (.str (KS k),.own)) m a7 a8 a9) = .ok (bY R,.sh []):=by
  have ep:ev (T (n+1)) (.bin .Add (.var 1) (.var 6)) (EE t s BL (dI b) k (some (.str (KS k),.own)) m a7 a8 a9) = .ok (.int ((s+m:Nat):Int),.mv []):=aZ (aC rfl rfl) (aC rfl rfl);have v2:ev (T (n+1)) (.var 2) (EE t s BL (dI b) k (some (.str (KS k),.own)) m a7 a8 a9) = .ok (.lst BL,.sh []):=rfl;have hx:nH (.lst BL) (.int ((s+m:Nat):Int))=some (bY R):=by
   show (Pc.hW BL.length ((s+m:Nat):Int)).bind (fun j=>BL[j]?)=_;rw[il (List.getElem?_eq_some_iff.mp hB).1];exact hB
  rw[ev,v2,aA,ep,aA,hx];rfl
 have g7:aY (T (n+1)) (.asg (.nm 7) (.ix (.var 2) (.bin .Add (.var 1) (.var 6))) false) (EE t s BL (dI b) k (some (.str (KS k),.own)) m a7 a8 a9) = .nx (EE t s BL (dI b) k (some (.str (KS k),.own)) m (some (bY R,.sh [])) a8 a9):=zZ (iz (dD b) tS h7 h8 h9) (show (7:Nat)<10 by decide) e7;have v7:∀ b3 a8 a9,ev (T (n+1)) (.var 7) (EE t s BL b3 k (some (.str (KS k),.own)) m (some (bY R,.sh [])) a8 a9) = .ok (bY R,.sh []):=fun b3 a8 a9=>rfl
 have e8:ev (T (n+1)) (.bin .Add (.call 9 (.cons (.var 4) (.cons (.var 6) .nil))) (.ix (.var 7) (.cst (.int (0))))) (EE t s BL (dI b) k (some (.str (KS k),.own)) m (some (bY R,.sh [])) a8 a9) = .ok (.int ((dP k m+cC R:Nat):Int),.mv []) :=
  aZ (pd (aC rfl rfl) (aC rfl rfl) (cost h1 h3 (by omega))) (sZ (i:=0) (v7 _ _ _) (aE _) rfl rfl)
 rw[<-hbw] at e8;have g8:aY (T (n+1)) (.asg (.nm 8) (.bin .Add (.call 9 (.cons (.var 4) (.cons (.var 6) .nil))) (.ix (.var 7) (.cst (.int (0))))) false) (EE t s BL (dI b) k (some (.str (KS k),.own)) m (some (bY R,.sh [])) a8 a9) = .nx (EE t s BL (dI b) k (some (.str (KS k),.own)) m (some (bY R,.sh [])) (sN (cC W)) a9):=aK (iz (dD b) tS (bQ _) h8 h9) (show (8:Nat)<10 by decide) e8;have eL:∀ a9,ev (T (n+1)) (.bin .Add (.lst (.cons (.tup (.cons (.var 4) (.cons (.var 6) .nil))) .nil)) (.ix (.var 7) (.cst (.int (2))))) (EE t s BL (dI b) k (some (.str (KS k),.own)) m (some (bY R,.sh [])) (sN (cC W)) a9) = .ok (.lst ((gY W).map eE),.mv []):=fun a9=>by
  have e1:ev (T (n+1)) (.lst (.cons (.tup (.cons (.var 4) (.cons (.var 6) .nil))) .nil)) (EE t s BL (dI b) k (some (.str (KS k),.own)) m (some (bY R,.sh [])) (sN (cC W)) a9) = .ok (.lst [eE (k,m)],.mv []):=by
   rw[ev,bE,j0 (aC (i:=4) (d:=.int (k:Int)) (t:=.own) rfl rfl) (aC (i:=6) (d:=.int (m:Int)) (t:=.own) rfl rfl),aA,bE,aA,aA];rfl
  have e2:ev (T (n+1)) (.ix (.var 7) (.cst (.int (2)))) (EE t s BL (dI b) k (some (.str (KS k),.own)) m (some (bY R,.sh [])) (sN (cC W)) a9) = .ok (.lst ((gY R).map eE),.sh []):=rfl;have hb:eR .Add (.lst [eE (k,m)]) (.lst ((gY R).map eE))=some (.lst ((gY W).map eE)):=by
   show ck (1+((gY R).map eE).length) (.lst ([eE (k,m)]++(gY R).map eE))=_;unfold ck;rw[if_pos (by unfold gY;rw[aj,aj];exact fV (by omega)),hpw];rfl
  rw[ev,e1,aA,e2,aA,hb,bS,aA,gH (mZ _)]
 have eW':∀ a9,ev (T (n+1)) eW (EE t s BL (dI b) k (some (.str (KS k),.own)) m (some (bY R,.sh [])) (sN (cC W)) a9) = .ok (bY W,.mv []):=fun a9=>by
  have e1:ev (T (n+1)) (.bin .Add (.ix (.var 7) (.cst (.int (1)))) (.cst (.int (1)))) (EE t s BL (dI b) k (some (.str (KS k),.own)) m (some (bY R,.sh [])) (sN (cC W)) a9) = .ok (.int (W.length:Int),.mv []):=by
   rw[hlw];exact aZ (y:=1) (sZ (i:=1) (v7 _ _ _) (aE _) rfl rfl) (aE _)
  exact Fr.lY (aC (i:=8) (d:=.int ((cC W:Nat):Int)) (t:=.own) rfl rfl) e1 (eL a9)
 have gI:∃ b9,aH b9/\aF (T (n+1)) bI (EE t s BL (dI b) k (some (.str (KS k),.own)) m (some (bY R,.sh [])) (sN (cC W)) a9) = .nx (EE t s BL (dI (up b W)) k (some (.str (KS k),.own)) m (some (bY R,.sh [])) (sN (cC W)) b9):=by
  have g9:aY (T (n+1)) (.asg (.nm 9) eW false) (EE t s BL (dI b) k (some (.str (KS k),.own)) m (some (bY R,.sh [])) (sN (cC W)) a9) = .nx (EE t s BL (dI b) k (some (.str (KS k),.own)) m (some (bY R,.sh [])) (sN (cC W)) (some (bY W,.own))):=aK (iz (dD b) tS (bQ _) (aB _) h9) (show (9:Nat)<10 by decide) (eW' a9);have v9:ev (T (n+1)) (.var 9) (EE t s BL (dI b) k (some (.str (KS k),.own)) m (some (bY R,.sh [])) (sN (cC W)) (some (bY W,.own))) = .ok (bY W,.mv [9]):=bR rfl rfl;have te:Tame (EE t s BL (dI b) k (some (.str (KS k),.own)) m (some (bY R,.sh [])) (sN (cC W)) (some (bY W,.own))):=iz (dD b) tS (bQ _) (aB _) (aB _);have gm:aY (T (n+1)) (.asg (.nm 3) (.var 9) true) (EE t s BL (dI b) k (some (.str (KS k),.own)) m (some (bY R,.sh [])) (sN (cC W)) (some (bY W,.own))) = .nx (EE t s BL (some (bY W,.own)) k (some (.str (KS k),.own)) m (some (bY R,.sh [])) (sN (cC W)) none):=by
   exact zt te (show (3:Nat)<10 by decide) (show _=some (some (bY W,Tg.own)) from rfl) v9
  have ec2:∃ x:Bool,ev (T (n+1)) c2 (EE t s BL (dI b) k (some (.str (KS k),.own)) m (some (bY R,.sh [])) (sN (cC W)) (some (bY W,.own))) = .ok (.bl x,.mv [])/\(x=true->up b W=some W)/\(x=false->up b W=b):=by
   cases b with
   |none=>exact⟨true,by unfold c2;rw[xi (lR (b:=none)) (q:=.bad) (fun z=>by cases z)];rfl,fun _=>rfl,fun z=>by cases z⟩
   |some P =>
    have el:ev (T (n+1)) (.cmp .Lt (.var 9) (.var 3)) (EE t s BL (dI (some P)) k (some (.str (KS k),.own)) m (some (bY R,.sh [])) (sN (cC W)) (some (bY W,.own))) = .ok (.bl (jC W P),.mv []):=by
     rw[ev,v9,aA,bR (i:=3) (d:=bY P) rfl rfl,aA,BO];rfl
    refine⟨jC W P,?_,fun z=>?_,fun z=>?_⟩
    ·unfold c2;rw[xi (lR (b:=some P)) (fun _=>el)];rfl
    ·show (if jC W P then some W else some P)=_;rw[z];rfl
    ·show (if jC W P then some W else some P)=_;rw[z];rfl
  obtain⟨x,ex,x1,x2⟩:=ec2;have ex:ev (T (n+1)) c2 (EE t s BL (dI b) k (some (.str (KS k),.own)) m (some (bY R,.sh [])) (sN (cC W)) (some (bY W,.own))) = .ok (.bl (decide (x=true)),.mv []):=by rw[ex,Bool.decide_eq_true]
  cases x with
  |true =>
   refine⟨none,aR,?_⟩;rw[x1 rfl];unfold bI;rw[aF,g9,aD];refine eA ?_;rw[iH ex,if_pos rfl];exact eA gm
  |false =>
   refine⟨some (bY W,.own),aB _,?_⟩;rw[x2 rfl];unfold bI;rw[aF,g9,aD];refine eA ?_;rw[iH ex,if_neg (by decide),dS]
 have gi:∃ b9,aH b9/\aY (T (n+1)) (.ite c1 bI .nil) (EE t s BL (dI b) k (some (.str (KS k),.own)) m (some (bY R,.sh [])) (sN (cC W)) a9) = .nx (EE t s BL (dI (up b W)) k (some (.str (KS k),.own)) m (some (bY R,.sh [])) (sN (cC W)) b9):=by
  cases hb:b with
  |none =>
   rw[hb] at gI;have ec:ev (T (n+1)) c1 (EE t s BL (dI none) k (some (.str (KS k),.own)) m (some (bY R,.sh [])) (sN (cC W)) a9) = .ok (.bl (decide True),.mv []):=by
    unfold c1;rw[xi (lR (b:=none)) (q:=.bad) (fun z=>by cases z)];rfl
   rw[iH ec,if_pos trivial];exact gI
  |some P =>
   rw[hb] at gI;have ec:ev (T (n+1)) c1 (EE t s BL (dI (some P)) k (some (.str (KS k),.own)) m (some (bY R,.sh [])) (sN (cC W)) a9) = .ok (.bl (decide (cC W<=cC P)),.mv []):=by
    unfold c1;rw[xi (lR (b:=some P)) (fun _=>BK)];rfl
   rw[iH ec];by_cases hle:cC W<=cC P
   ·rw[if_pos hle];exact gI
   ·rw[if_neg hle];refine⟨a9,h9,?_⟩;have hu:up (some P) W=some P:=by
     show (if jC W P then some W else some P)=_;rw[if_neg];unfold jC;rw[if_neg (by omega),bf];omega
    rw[hu,dS]
 obtain⟨b9,u9,gi⟩:=gi;have g6:aY (T (n+1)) (.asg (.nm 6) (.bin .Add (.var 6) (.cst (.int (1)))) false) (EE t s BL (dI (up b W)) k (some (.str (KS k),.own)) m (some (bY R,.sh [])) (sN (cC W)) b9) = .nx (EE t s BL (dI (up b W)) k (some (.str (KS k),.own)) (m+1) (some (bY R,.sh [])) (sN (cC W)) b9):=aK (iz (dD _) tS (bQ _) (aB _) u9) (show (6:Nat)<10 by decide) (aZ (y:=1) (aC rfl rfl) (aE _));refine⟨some (bY R,.sh []),sN (cC W),b9,bQ _,aB _,u9,?_⟩;unfold bW;rw[aF,g7,aD,aF,g8,aD,aF,gi,aD,aF,g6,aD,aF]
open Pc.Fr (iD)
structure Beh (t:List Nat)(s:Nat)(BL:List D):Prop where
 at_:∀ m,1<=m->s+m<=t.length->BL[s+m]? = some (bY (pc t.length (t.drop (s+m))))
theorem sF {n:Nat}{t:List Nat}{s:Nat}{BL:List D}{k:Nat}{S0:Nat->Nat->Prop}(ht:t.length<=400)(hG:Good t)(hs:s<=t.length)(h1:1<=k)(h3:k<=3)(hB:Beh t s BL):∀(f m:Nat) (b:Option (List Pe)) (a7 a8 a9:Slot),1<=m->m<=min 64 (rn k (t.drop s))+1->min 64 (rn k (t.drop s))+1 - m<f->aH a7->aH a8->aH a9 ->
  vo t.length (t.drop s) b (fun k' m'=>S0 k' m'\/(k'=k/\1<=m'/\m'<m))->∃ b' b7 b8 b9,aH b7/\aH b8/\aH b9/\vo t.length (t.drop s) b' (fun k' m'=>S0 k' m'\/(k'=k/\1<=m'/\m'<=64/\m'<=rn k (t.drop s))) /\
   eJ (fun env=>(ev (T (n+1)) cW env).bind fun p=>fS (truth p.1)) (aF (T (n+1)) bW) f (EE t s BL (dI b) k (some (.str (KS k),.own)) m a7 a8 a9) = .nx (EE t s BL (dI b') k (some (.str (KS k),.own)) (min 64 (rn k (t.drop s))+1) b7 b8 b9)
 |0,m,b,a7,a8,a9,_,_,h,_,_,_,_=>absurd h (Nat.not_lt_zero _)
 | f+1,m,b,a7,a8,a9,m1,hm,hf,h7,h8,h9,hok=>by
  have hc:=BQ (T:=T (n+1)) (BL:=BL) (b:=dI b) (m:=m) (a7:=a7) (a8:=a8) (a9:=a9) (show t.length<=900 by omega) hG h3 hs m1 (show m - 1<=rn k (t.drop s) by omega);have hrl:=hV k (t.drop s);have hdl:(t.drop s).length=t.length - s:=bz;by_cases hlt:m<=64/\m<=rn k (t.drop s)
  ·have hP:(pc t.length (t.drop (s+m))).length<=500:=bj (n5 _ _) (by omega);obtain⟨b7,b8,b9,u7,u8,u9,st⟩:=turn (n:=n) (N:=t.length) (b:=b) (a7:=a7) (a8:=a8) (a9:=a9) h1 h3 m1 hlt.1 (show m<=(t.drop s).length by omega) hP (hB.at_ m m1 (by omega)) h7 h8 h9;have hcut:=wd (N:=t.length) (hG.drop s) (by omega) h1 h3 m1 hlt.1 hlt.2;have hok':=(BB hok hcut).imp (S':=fun k' m'=>S0 k' m'\/(k'=k/\1<=m'/\m'<m+1)) (fun k' m'=>by
    constructor
    ·rintro (q | ⟨q1,q2,q3⟩)
     ·exact .inl (.inl q)
     ·by_cases e:m'=m
      ·exact .inr ⟨q1,e⟩
      ·exact .inl (.inr ⟨q1,q2,by omega⟩)
    ·rintro ((q | ⟨q1,q2,q3⟩) | ⟨q1,q2⟩)
     ·exact .inl q
     ·exact .inr ⟨q1,q2,by omega⟩
     ·exact .inr ⟨q1,by omega,by omega⟩)
   obtain⟨b',c7,c8,c9,w7,w8,w9,ok',q⟩:=sF (n:=n) ht hG hs h1 h3 hB f (m+1) _ b7 b8 b9 (by omega) (by omega) (by omega) u7 u8 u9 hok';refine⟨b',c7,c8,c9,w7,w8,w9,ok',?_⟩;rw[tJ (by rw[hc,bg hlt]) st,q]
  ·have e:m=min 64 (rn k (t.drop s))+1:=by omega
   refine⟨b,a7,a8,a9,h7,h8,h9,hok.imp fun k' m'=>?_,?_⟩
   ·constructor
    ·rintro (q | ⟨q1,q2,q3,q4⟩)
     ·exact .inl q
     ·exact .inr ⟨q1,q2,by omega⟩
    ·rintro (q | ⟨q1,q2,q3⟩)
     ·exact .inl q
     ·exact .inr ⟨q1,q2,by omega,by omega⟩
   ·rw[uD (by rw[hc,av hlt]),<-e]
noncomputable abbrev EG (t:List Nat)(s:Nat)(BL:List D)(b a4 a5 a6 a7 a8 a9:Slot):En:=[sT t,sN s,some (.lst BL,.sh []),b,a4,a5,a6,a7,a8,a9]
theorem jA {t:List Nat}{s:Nat}{BL:List D}{b a4 a5 a6 a7 a8 a9:Slot}(hb:aH b)(h4:aH a4)(h5:aH a5)(h6:aH a6)(h7:aH a7)(h8:aH a8)(h9:aH a9):Tame (EG t s BL b a4 a5 a6 a7 a8 a9) :=
 .cons (aB _) (.cons (aB _) (.cons (bQ _) (.cons hb (.cons h4 (.cons h5 (.cons h6 (.cons h7 (.cons h8 (.cons h9 .nil)))))))))
def upTo (t:List Nat)(j:Nat):Nat->Nat->Prop:=fun k m=>1<=k/\k<=j/\1<=m/\m<=64/\m<=rn k t
theorem lU {n:Nat}{t:List Nat}{s:Nat}{BL:List D}{k:Nat}(ht:t.length<=400)(hG:Good t)(hs:s<=t.length)(h1:1<=k)(h3:k<=3)(hB:Beh t s BL){b:Option (List Pe)}{a5 a6 a7 a8 a9:Slot}(h5:aH a5)(h6:aH a6)(h7:aH a7)(h8:aH a8)(h9:aH a9)(hok:vo t.length (t.drop s) b (upTo (t.drop s) (k - 1))) :
  ∃ b' b5 b6 b7 b8 b9,aH b5/\aH b6/\aH b7/\aH b8/\aH b9/\vo t.length (t.drop s) b' (upTo (t.drop s) k)/\aF (T (n+1)) bK (EG t s BL (dI b) (sN k) a5 a6 a7 a8 a9) = .nx (EG t s BL (dI b') (sN k) b5 b6 b7 b8 b9):=by
 have g5:aY (T (n+1)) (.asg (.nm 5) (.call 6 (.cons (.var 4) .nil)) false) (EG t s BL (dI b) (sN k) a5 a6 a7 a8 a9) = .nx (EG t s BL (dI b) (sN k) (some (.str (KS k),.own)) a6 a7 a8 a9):=aK (jA (dD b) (aB _) h5 h6 h7 h8 h9) (show (5:Nat)<10 by decide) (m9 (aC rfl rfl) (sG n k h1 h3));have g6:aY (T (n+1)) (.asg (.nm 6) (.cst (.int (1))) false) (EG t s BL (dI b) (sN k) (some (.str (KS k),.own)) a6 a7 a8 a9) = .nx (EE t s BL (dI b) k (some (.str (KS k),.own)) 1 a7 a8 a9):=aK (jA (dD b) (aB _) (aB _) h6 h7 h8 h9) (show (6:Nat)<10 by decide) (aE _);obtain⟨b',c7,c8,c9,w7,w8,w9,ok',q⟩:=sF (n:=n) (k:=k) (S0:=upTo (t.drop s) (k - 1)) ht hG hs h1 h3 hB 1000 1 b a7 a8 a9 (aq _) (by omega) (by omega) h7 h8 h9 (hok.imp fun k' m'=>by
  constructor
  ·rintro (q | ⟨_,q2,q3⟩)
   ·exact q
   ·omega
  ·intro q;exact .inl q)
 have gw:aY (T (n+1)) (.whl cW bW) (EE t s BL (dI b) k (some (.str (KS k),.own)) 1 a7 a8 a9) = .nx (EE t s BL (dI b') k (some (.str (KS k),.own)) (min 64 (rn k (t.drop s))+1) c7 c8 c9):=by rw[aY];exact q
 refine⟨b',some (.str (KS k),.own),sN (min 64 (rn k (t.drop s))+1),c7,c8,c9,aB _,aB _,w7,w8,w9,ok'.imp fun k' m'=>?_,?_⟩
 ·unfold upTo;constructor
  ·rintro⟨q1,q2,q3,q4,q5⟩;by_cases e:k'=k
   ·subst e;exact .inr ⟨rfl,q3,q4,q5⟩
   ·exact .inl ⟨q1,by omega,q3,q4,q5⟩
  ·rintro (⟨q1,q2,q3,q4,q5⟩ | ⟨q1,q2,q3,q4⟩)
   ·exact⟨q1,by omega,q3,q4,q5⟩
   ·subst q1;exact⟨h1,aq _,q2,q3,q4⟩
 ·unfold bK;rw[aF,g5,aD,aF,g6,aD];exact eA gw
theorem least {n:Nat}{t:List Nat}{s:Nat}{BL:List D}(ht:t.length<=400)(hG:Good t)(hs:s<t.length)(hB:Beh t s BL):(T (n+2)).cl 10 [.str (tx t),.int (s:Int),.lst BL] = .ok (bY (pc t.length (t.drop s)),true):=by
 have tn:=aR;have hst:aO [.str (tx t),.int (s:Int),.lst BL] 10=EG t s BL none none none none none none none:=rfl;have g1:aY (T (n+1)) (.asg (.nm 3) (.cst .non) false) (EG t s BL none none none none none none none) = .nx (EG t s BL (dI none) none none none none none none):=aK (jA tn tn tn tn tn tn tn) (show (3:Nat)<10 by decide) (aE _);have hit:gW (T (n+1)) (.seq (.tup (.cons (.cst (.int (1))) (.cons (.cst (.int (2))) (.cons (.cst (.int (3))) .nil))))) (EG t s BL (dI none) none none none none none none) = .ok ([.int ((1:Nat):Int),.int ((2:Nat):Int),.int ((3:Nat):Int)],[]):=by
  rw[gW,Fr.lY (aE _) (aE _) (aE _),aA];rfl
 have bd:∀(b:Option (List Pe)) (a4 a5 a6 a7 a8 a9:Slot) (k:Nat),aH a4->aH a5->aH a6->aH a7->aH a8->aH a9->cF [] (.nm 4) (.int (k:Int)) (EG t s BL (dI b) a4 a5 a6 a7 a8 a9)=some (EG t s BL (dI b) (sN k) a5 a6 a7 a8 a9):=fun b a4 a5 a6 a7 a8 a9 k h4 h5 h6 h7 h8 h9=>eZ (jA (dD b) h4 h5 h6 h7 h8 h9) (show (4:Nat)<10 by decide)
 have o0:vo t.length (t.drop s) none (upTo (t.drop s) 0):=fun k m q=>by
  obtain⟨q1,q2,_⟩:=q;omega
 obtain⟨b1,x5,x6,x7,x8,x9,u5,u6,u7,u8,u9,o1,s1⟩:=lU (n:=n) (k:=1) ht hG (by omega) (by decide) (by decide) hB (b:=none) tn tn tn tn tn o0;obtain⟨b2,y5,y6,y7,y8,y9,v5,v6,v7,v8,v9,o2,s2⟩:=lU (n:=n) (k:=2) ht hG (by omega) (by decide) (by decide) hB (b:=b1) u5 u6 u7 u8 u9 o1;obtain⟨b3,z5,z6,z7,z8,z9,w5,w6,w7,w8,w9,o3,s3⟩:=lU (n:=n) (k:=3) ht hG (by omega) (by decide) (by decide) hB (b:=b2) v5 v6 v7 v8 v9 o2;have g2:=fM hit (show bU (.nm 4) [] (aF (T (n+1)) bK) [.int ((1:Nat):Int),.int ((2:Nat):Int),.int ((3:Nat):Int)] (EG t s BL (dI none) none none none none none none) = .nx (EG t s BL (dI b3) (sN 3) z5 z6 z7 z8 z9) by
  rw[bN (bd _ _ _ _ _ _ _ 1 tn tn tn tn tn tn) s1,bN (bd _ _ _ _ _ _ _ 2 (aB _) u5 u6 u7 u8 u9) s2,bN (bd _ _ _ _ _ _ _ 3 (aB _) v5 v6 v7 v8 v9) s3];rfl)
 have hd':t.drop s=t[s]::t.drop (s+1):=df hs;have hne:t.drop s≠[]:=by rw[hd'];exact fun z=>(nomatch z)
 have hrun:1<=rn 3 (t.drop s):=by
  rw[hd',dO,if_pos (hG t[s] (fq hs)).2];omega
 have hdl:(t.drop s).length<=t.length:=by rw[bz];omega
 cases b3 with
 |none=>exact absurd (show upTo (t.drop s) 3 3 1 from ⟨by decide,by decide,by decide,by decide,hrun⟩) (o3 3 1)
 |some P =>
  have hrk:=va (N:=t.length) (hG.drop s) hdl hne o3.1 fun k m q1 q2 q3 q4 q5=>o3.2 k m ⟨q1,q2,q3,q4,q5⟩
  rw[sV,dH (F:=⟨3,10,b10⟩) rfl rfl];dsimp only;rw[hst,zS,aF,g1,aD,aF,g2,aD,aF,aY,bR (i:=3) (d:=bY P) rfl rfl,hrk];rfl
open Pc.Fr (iD)
theorem tn:aH none:=aR
noncomputable def bl (t:List Nat)(s:Nat):List D:=(List.range (t.length+1)).map fun i=>if i<s then .non else bY (pc t.length (t.drop i))
theorem og (t:List Nat)(s:Nat):(bl t s).length=t.length+1:=by unfold bl;rw[aj,dg]
theorem uX {t:List Nat}{s i:Nat}(h1:s<=i)(h2:i<=t.length):(bl t s)[i]? = some (bY (pc t.length (t.drop i))):=by
 unfold bl;rw[List.getElem?_map,List.getElem?_range (by omega)];show some (if i<s then _ else _)=_;rw[if_neg (by omega)]
theorem zv (t:List Nat)(s:Nat):Beh t s (bl t (s+1)):=⟨fun m m1 h=>uX (by omega) h⟩
theorem zi {t:List Nat}{s:Nat}(h:s<t.length):(bl t (s+1)).set s (bY (pc t.length (t.drop s)))=bl t s:=by
 apply List.ext_getElem?;intro i;rw[List.getElem?_set];by_cases e:s=i
 ·subst e;rw[if_pos rfl,if_pos (by rw[og];omega),uX (aq _) (by omega)]
 ·rw[if_neg e];unfold bl;rw[List.getElem?_map,List.getElem?_map];by_cases hi:i<t.length+1
  ·rw[List.getElem?_range hi];show some (if i<s+1 then _ else _)=some (if i<s then _ else _);by_cases h1:i<s
   ·rw[if_pos (by omega),if_pos h1]
   ·rw[if_neg (by omega),if_neg h1]
  ·rw[List.getElem?_eq_none (by rw[dg];omega)];rfl
theorem rQ (t:List Nat):bl t t.length=List.replicate t.length .non ++ [bY []]:=by
 unfold bl;rw[List.range_succ,fi,aw,fw,if_neg (da _),f7,fK];congr 1;apply List.ext_getElem?;intro i;rw[List.getElem?_map,List.getElem?_replicate];by_cases hi:i<t.length
 ·rw[List.getElem?_range hi,if_pos hi];show some (if i<t.length then _ else _)=_;rw[if_pos hi]
 ·rw[List.getElem?_eq_none (by rw[dg];omega),if_neg hi];rfl
noncomputable abbrev oL (l:List D):Slot:=some (.lst l,.own)
noncomputable abbrev EL (cs:List Int)(m:Int)(t:List Nat)(B:Slot)(a4 a5 a6 a7 a8:Slot):En:=[some (.lst (iD cs),.sh []),sI m,sT t,B,a4,a5,a6,a7,a8]
theorem eM {cs:List Int}{m:Int}{t:List Nat}{B a4 a5 a6 a7 a8:Slot}(hB:aH B)(h4:aH a4)(h5:aH a5)(h6:aH a6)(h7:aH a7)(h8:aH a8):Tame (EL cs m t B a4 a5 a6 a7 a8) :=
 .cons (bQ _) (.cons (aB _) (.cons (aB _) (.cons hB (.cons h4 (.cons h5 (.cons h6 (.cons h7 (.cons h8 .nil))))))))
theorem BZ {j:Int}(h0:0<=j)(h1:j<=1000):eR .Mult (.lst [.non]) (.int j)=some (.lst (List.replicate j.toNat .non)):=by
 show (if -(2 ^ 63)<=j/\j<2 ^ 63 then (if D.flats [.non] then ck (1*j.toNat) (.lst (List.replicate j.toNat [D.non]).flatten) else none) else none)=_;rw[if_pos ⟨by omega,by omega⟩,if_pos (show D.flats [.non]=true from rfl)];unfold ck;rw[if_pos (fV (by omega)),List.flatten_replicate_singleton]
theorem iW:∀ n:Nat,D.flats (List.replicate n .non)=true
 |0=>rfl
 | n+1=>by
  show (D.flat .non&&D.flats (List.replicate n .non))=true;rw[iW n];rfl
noncomputable def eAt:Ex:=.bin .Sub (.bin .Sub (.blt .len (.cons (.var 2) .nil)) (.cst (.int (1)))) (.var 4)
noncomputable def bT:cG:=(.cons (.asg (.nm 5) eAt false)
  (.cons (.setix 3 .none (.var 5) (.call 10 (.cons (.var 2) (.cons (.var 5) (.cons (.var 3) .nil)))))
  .nil))
theorem t_in {cs:List Int}{m:Int}{t:List Nat}(ht:t.length<=400)(hG:Good t){j:Nat}(hj:j<t.length){a5:Slot}(h5:aH a5) :
  aF (T 5) bT (EL cs m t (oL (bl t (t.length - j))) (sN j) a5 none none none) = .nx (EL cs m t (oL (bl t (t.length - (j+1)))) (sN j) (sN (t.length - 1 - j)) none none none):=by
 have e5:ev (T 5) eAt (EL cs m t (oL (bl t (t.length - j))) (sN j) a5 none none none) = .ok (.int ((t.length - 1 - j:Nat):Int),.mv []):=gR (by omega) (gR (y:=1) (by omega) (fF (by omega) (aC rfl rfl)) (aE _)) (aC rfl rfl);have g1:aY (T 5) (.asg (.nm 5) eAt false) (EL cs m t (oL (bl t (t.length - j))) (sN j) a5 none none none) = .nx (EL cs m t (oL (bl t (t.length - j))) (sN j) (sN (t.length - 1 - j)) none none none):=aK (eM (aB _) (aB _) h5 tn tn tn) (show (5:Nat)<9 by decide) e5;have hs:t.length - j=(t.length - 1 - j)+1:=by omega
 have hs2:t.length - (j+1)=t.length - 1 - j:=by omega
 rw[hs] at g1;rw[hs,hs2];clear e5 hs hs2;have hlt:t.length - 1 - j<t.length:=by omega
 generalize t.length - 1 - j=s at *;have ec:ev (T 5) (.call 10 (.cons (.var 2) (.cons (.var 5) (.cons (.var 3) .nil)))) (EL cs m t (oL (bl t (s+1))) (sN j) (sN s) none none none) = .ok (bY (pc t.length (t.drop s)),.mv []):=o5 (aC (i:=2) (d:=.str (tx t)) (t:=.own) rfl rfl) (aC (i:=5) (d:=.int (s:Int)) (t:=.own) rfl rfl) (bR (i:=3) (d:=.lst (bl t (s+1))) rfl rfl) (least (n:=3) ht hG hlt (zv t s));have g2:=p6 (T:=T 5) (x:=3) (k:=.var 5) (xs:=bl t (s+1)) (l:=(s:Int)) (m:=s) (eM (cs:=cs) (m:=m) (t:=t) (aB (.lst (bl t (s+1)))) (aB (.int (j:Int))) (aB (.int (s:Int))) tn tn tn) rfl (aC rfl rfl) (by rw[og];exact il (by omega)) ec (by rw[og];exact fV (by omega));rw[zi hlt] at g2;unfold bT;rw[aF,g1,aD,aF,g2,aD,aF];rfl
theorem uW {cs:List Int}{m:Int}{t:List Nat}(ht:t.length<=400)(hG:Good t):∀(i j:Nat) (a4 a5:Slot),aH a4->aH a5->j+i=t.length->∃ b4 b5,aH b4/\aH b5/\bU (.nm 4) [] (aF (T 5) bT) (aS (j:Int) 1 i) (EL cs m t (oL (bl t (t.length - j))) a4 a5 none none none) = .nx (EL cs m t (oL (bl t 0)) b4 b5 none none none)
 |0,j,a4,a5,h4,h5,e=>⟨a4,a5,h4,h5,by rw[show t.length - j=0 by omega];rfl⟩
 | i+1,j,a4,a5,h4,h5,e=>by
  obtain⟨b4,b5,u4,u5,q⟩:=uW (cs:=cs) (m:=m) ht hG i (j+1) (sN j) (sN (t.length - 1 - j)) (aB _) (aB _) (by omega);have hb:cF [] (.nm 4) (.int (j:Int)) (EL cs m t (oL (bl t (t.length - j))) a4 a5 none none none)=some (EL cs m t (oL (bl t (t.length - j))) (sN j) a5 none none none):=eZ (eM (aB _) h4 h5 tn tn tn) (show (4:Nat)<9 by decide);refine⟨b4,b5,u4,u5,?_⟩;rw[ie,bN hb (t_in ht hG (by omega) h5),q]
noncomputable def bD:cG:=(.cons (.mut 6 .none .append (.cons (.tup (.cons (.var 7) (.cons (.sl (.var 2) (.some (.var 5)) (.some (.bin .Add (.var 5) (.var 8)))) .nil))) .nil))
  (.cons (.asg (.nm 5) (.bin .Add (.var 5) (.var 8)) false)
  .nil))
theorem xg {cs:List Int}{m:Int}{t:List Nat}{B a4:Slot}(hB:aH B)(h4:aH a4)(ht:t.length<=400){s:Nat}{P:List Pe}{p:Pe}(hP:P.length<=500)(hs:s+p.2.length<=t.length)(hp:(t.drop s).take p.2.length=p.2) :
  aF (T 5) bD (EL cs m t B a4 (sN s) (oP P) (sN p.1) (sN p.2.length)) = .nx (EL cs m t B a4 (sN (s+p.2.length)) (oP (P ++ [p])) (sN p.1) (sN p.2.length)):=by
 have ea:∀ P',ev (T 5) (.bin .Add (.var 5) (.var 8)) (EL cs m t B a4 (sN s) (oP P') (sN p.1) (sN p.2.length)) = .ok (.int ((s+p.2.length:Nat):Int),.mv []):=fun P'=>aZ (aC rfl rfl) (aC rfl rfl)
 have e1:ev (T 5) (.sl (.var 2) (.some (.var 5)) (.some (.bin .Add (.var 5) (.var 8)))) (EL cs m t B a4 (sN s) (oP P) (sN p.1) (sN p.2.length)) = .ok (.str (tx p.2),.mv []):=nT (by omega) (aC rfl rfl) (gN (aC (d:=.int (s:Int)) (t:=.own) rfl rfl)) (gN (ea P)) ((qe t s p.2.length hs).trans hp);have e2:=j0 (aC (T:=T 5) (env:=EL cs m t B a4 (sN s) (oP P) (sN p.1) (sN p.2.length)) (i:=7) (d:=.int (p.1:Int)) (t:=.own) rfl rfl) e1;have g1:=my (x:=6) (xs:=P.map pD) (eM (cs:=cs) (m:=m) (t:=t) hB h4 (aB (.int (s:Int))) (aB (.lst (P.map pD))) (aB (.int (p.1:Int))) (aB (.int (p.2.length:Int)))) rfl e2 (by rw[aj];exact fV (by omega));have g1:aY (T 5) (.mut 6 .none .append (.cons (.tup (.cons (.var 7) (.cons (.sl (.var 2) (.some (.var 5)) (.some (.bin .Add (.var 5) (.var 8)))) .nil))) .nil)) (EL cs m t B a4 (sN s) (oP P) (sN p.1) (sN p.2.length)) = .nx (EL cs m t B a4 (sN s) (oP (P ++ [p])) (sN p.1) (sN p.2.length)):=by
  rw[g1,show P.map pD ++ [D.tup [.int (p.1:Int),.str (tx p.2)]]=(P ++ [p]).map pD by rw[fi];rfl];rfl
 have g2:aY (T 5) (.asg (.nm 5) (.bin .Add (.var 5) (.var 8)) false) (EL cs m t B a4 (sN s) (oP (P ++ [p])) (sN p.1) (sN p.2.length)) = .nx (EL cs m t B a4 (sN (s+p.2.length)) (oP (P ++ [p])) (sN p.1) (sN p.2.length)):=aK (eM hB h4 (aB _) (aB _) (aB _) (aB _)) (show (5:Nat)<9 by decide) (ea _);unfold bD;rw[aF,g1,aD,aF,g2,aD,aF]
theorem vh {cs:List Int}{m:Int}{t:List Nat}{B a4:Slot}(hB:aH B)(h4:aH a4)(ht:t.length<=400):∀(Q P:List Pe) (s:Nat) (a7 a8:Slot),aH a7->aH a8->P.length+Q.length<=500->t.drop s=(Q.map (·.2)).flatten->s<=t.length ->
  ∃ s' b7 b8,aH b7/\aH b8/\bU (.tp [7,8]) [3] (aF (T 5) bD) ((gY Q).map eE) (EL cs m t B a4 (sN s) (oP P) a7 a8) = .nx (EL cs m t B a4 (sN s') (oP (P++Q)) b7 b8)
 |[],P,s,a7,a8,h7,h8,_,_,_=>⟨s,a7,a8,h7,h8,by rw[ba];rfl⟩
 | p::Q,P,s,a7,a8,h7,h8,hl,hd,hs=>by
  rw[ag] at hl;rw[aw,bp] at hd;have hlen:=fm List.length hd;rw[bz,au] at hlen;have htk:(t.drop s).take p.2.length=p.2:=by rw[hd,List.take_left]
  have hdr:t.drop (s+p.2.length)=(Q.map (·.2)).flatten:=by rw[<-List.drop_drop,hd,List.drop_left]
  obtain⟨s',b7,b8,u7,u8,q⟩:=vh (cs:=cs) (m:=m) hB h4 ht Q (P ++ [p]) (s+p.2.length) (sN p.1) (sN p.2.length) (aB _) (aB _) (by rw[au,cx];omega) hdr (by omega);refine⟨s',b7,b8,u7,u8,?_⟩;have hb:cF [3] (.tp [7,8]) (eE (p.1,p.2.length)) (EL cs m t B a4 (sN s) (oP P) a7 a8)=some (EL cs m t B a4 (sN s) (oP P) (sN p.1) (sN p.2.length)):=kN (eM hB h4 (aB _) (aB _) h7 h8) (show (7:Nat)<9 by decide) (show (8:Nat)<9 by decide) rfl rfl;show bU (.tp [7,8]) [3] (aF (T 5) bD) (eE (p.1,p.2.length)::(gY Q).map eE) _=_;rw[bN hb (xg hB h4 ht (by omega) (by omega) htk),q,ef];rfl
noncomputable def cM:Ex:=.cmp .Eq (.bin .Mod (.call 5 (.cons (.var 0) (.cons (.cst (.int (80))) (.cons (.cst (.int (2147483647))) .nil)))) (.cst (.int (8)))) (.cst (.int (1)))
noncomputable def eB:Ex:=.snoc (.bin .Mult (.lst (.cons (.cst .non) .nil)) (.blt .len (.cons (.var 2) .nil))) (.tup (.cons (.cst (.int (0))) (.cons (.cst (.int (0))) (.cons (.lst .nil) .nil))))
theorem zO:b11=(.cons (.asg (.nm 1) (.cst (.int (40))) false)
  (.cons (.ite cM (.cons (.asg (.nm 1) (.cst (.int (80))) false) .nil) .nil)
  (.cons (.asg (.nm 2) (.call 8 (.cons (.var 0) (.cons (.var 1) .nil))) false)
  (.cons (.asg (.nm 3) eB false)
  (.cons (.forr (.nm 4) (.rng1 (.blt .len (.cons (.var 2) .nil))) bT)
  (.cons (.asg (.nm 6) (.lst .nil) false)
  (.cons (.asg (.nm 5) (.cst (.int (0))) false)
  (.cons (.forr (.tp [7,8]) (.seq (.ix (.ix (.var 3) (.cst (.int (0)))) (.cst (.int (2))))) bD)
  (.cons (.ret (.cmp .Eq (.call 1 (.cons (.var 2) .nil)) (.var 6))) .nil))))))))):=rfl
theorem law (ns:List Int)(hl:ns.length<=63):∃ fr,Pc.run fns gl 1000 6 11 [.lst (ns.map D.int)] = .ok (.bl true,fr):=by
 have hst:aO [.lst (ns.map D.int)] 9=[some (.lst (iD ns),.sh []),none,none,none,none,none,none,none,none]:=rfl;have t0:∀ a1 a2 a3,aH a1->aH a2->aH a3->Tame [some (.lst (iD ns),.sh []),a1,a2,a3,none,none,none,none,none]:=fun a1 a2 a3 h1 h2 h3=>.cons (bQ _) (.cons h1 (.cons h2 (.cons h3 (.cons tn (.cons tn (.cons tn (.cons tn (.cons tn .nil))))))))
 have g1:aY (T 5) (.asg (.nm 1) (.cst (.int (40))) false) [some (.lst (iD ns),.sh []),none,none,none,none,none,none,none,none] = .nx [some (.lst (iD ns),.sh []),sI 40,none,none,none,none,none,none,none]:=aK (t0 _ _ _ tn tn tn) (show (1:Nat)<9 by decide) (aE _);obtain⟨r,_,_,er⟩:=mX 4 ns 80 2147483647 (by decide) (by decide);obtain⟨R,v0⟩:∃ R,ev (T 5) (.var 0) [some (.lst (iD ns),.sh []),sI 40,none,none,none,none,none,none,none] = .ok (.lst (iD ns),R):=gQ rfl;have ec:ev (T 5) cM [some (.lst (iD ns),.sh []),sI 40,none,none,none,none,none,none,none] = .ok (.bl (decide (r%8=1)),.mv []):=Ct.r6 (dQ (show (0:Int)<8 by decide) (o5 v0 (aE _) (aE _) er) (aE _)) (aE _);have g2:∃ m:Nat,m<=300/\aY (T 5) (.ite cM (.cons (.asg (.nm 1) (.cst (.int (80))) false) .nil) .nil) [some (.lst (iD ns),.sh []),sI 40,none,none,none,none,none,none,none] = .nx [some (.lst (iD ns),.sh []),sI (m:Int),none,none,none,none,none,none,none]:=by
  rw[iH ec];split
  ·exact⟨80,by decide,eA (aK (t0 _ _ _ (aB _) tn tn) (show (1:Nat)<9 by decide) (aE _))⟩
  ·exact⟨40,by decide,dS⟩
 obtain⟨m,hm,g2⟩:=g2;obtain⟨t,hG,htl,et⟩:=tX 2 ns m hm;obtain⟨R',v0'⟩:∃ R,ev (T 5) (.var 0) [some (.lst (iD ns),.sh []),sI (m:Int),none,none,none,none,none,none,none] = .ok (.lst (iD ns),R):=gQ rfl;have g3:aY (T 5) (.asg (.nm 2) (.call 8 (.cons (.var 0) (.cons (.var 1) .nil))) false) [some (.lst (iD ns),.sh []),sI (m:Int),none,none,none,none,none,none,none] = .nx [some (.lst (iD ns),.sh []),sI (m:Int),sT t,none,none,none,none,none,none]:=aK (t0 _ _ _ (aB _) tn tn) (show (2:Nat)<9 by decide) (pd v0' (aC rfl rfl) et);have ht4:t.length<=400:=by omega
 have e4:ev (T 5) eB [some (.lst (iD ns),.sh []),sI (m:Int),sT t,none,none,none,none,none,none] = .ok (.lst (bl t t.length),.mv []):=by
  have ea:ev (T 5) (.bin .Mult (.lst (.cons (.cst .non) .nil)) (.blt .len (.cons (.var 2) .nil))) [some (.lst (iD ns),.sh []),sI (m:Int),sT t,none,none,none,none,none,none] = .ok (.lst (List.replicate t.length .non),.mv []):=by
   have e1:ev (T 5) (.lst (.cons (.cst .non) .nil)) [some (.lst (iD ns),.sh []),sI (m:Int),sT t,none,none,none,none,none,none] = .ok (.lst [.non],.mv []):=by
    rw[ev,bE,aE,aA,bE];rfl
   rw[ev,e1,aA,fF (cs:=t) (by omega) (aC (i:=2) (d:=.str (tx t)) (t:=.own) rfl rfl),aA,BZ (by omega) (by omega),dh,bS,aA,gH (iW _)]
  have eb:ev (T 5) (.tup (.cons (.cst (.int (0))) (.cons (.cst (.int (0))) (.cons (.lst .nil) .nil)))) [some (.lst (iD ns),.sh []),sI (m:Int),sT t,none,none,none,none,none,none] = .ok (bY [],.mv []):=Fr.lY (aE _) (aE _) (by rw[ev,bE];rfl);unfold eB;rw[ev,ea,aA,eb,aA];have:sO (.lst (List.replicate t.length .non)) (bY []) (.mv [])=some (.lst (bl t t.length)):=by
   show (if D.flats (List.replicate t.length .non)&&decide ((List.replicate t.length D.non).length+1<=lim) then some (D.lst (List.replicate t.length .non ++ [bY []])) else none)=_;rw[iW,bq,bg (fV (by omega):t.length+1<=lim),if_pos (show (true&&true)=true from rfl),rQ]
  rw[this];rfl
 have g4:aY (T 5) (.asg (.nm 3) eB false) [some (.lst (iD ns),.sh []),sI (m:Int),sT t,none,none,none,none,none,none] = .nx (EL ns (m:Int) t (oL (bl t t.length)) none none none none none):=aK (t0 _ _ _ (aB _) (aB _) tn) (show (3:Nat)<9 by decide) e4;obtain⟨b4,b5,u4,u5,q5⟩:=uW (cs:=ns) (m:=(m:Int)) ht4 hG t.length 0 none none tn tn (by omega);rw[Nat.sub_zero] at q5;have hit5:gW (T 5) (.rng1 (.blt .len (.cons (.var 2) .nil))) (EL ns (m:Int) t (oL (bl t t.length)) none none none none none) = .ok (aS ((0:Nat):Int) 1 t.length,[]):=CN (fF (by omega) (aC rfl rfl)) (by omega);have g5:=fM hit5 q5;have g6:aY (T 5) (.asg (.nm 6) (.lst .nil) false) (EL ns (m:Int) t (oL (bl t 0)) b4 b5 none none none) = .nx (EL ns (m:Int) t (oL (bl t 0)) b4 b5 (oP []) none none):=aK (eM (aB _) u4 u5 tn tn tn) (show (6:Nat)<9 by decide) (by rw[ev,bE];rfl);have g7:aY (T 5) (.asg (.nm 5) (.cst (.int (0))) false) (EL ns (m:Int) t (oL (bl t 0)) b4 b5 (oP []) none none) = .nx (EL ns (m:Int) t (oL (bl t 0)) b4 (sN 0) (oP []) none none):=aK (eM (aB _) u4 u5 (aB _) tn tn) (show (5:Nat)<9 by decide) (aE _);have cu:=cT 1 t ht4 hG;have hj:=l7 t.length t hG (aq _);have hpl:(pc t.length t).length<=400:=bj (n5 _ _) ht4;have hb0:(bl t 0)[0]? = some (bY (pc t.length t)):=uX (aq _) (cw _);generalize hPP:pc t.length t=P at *;obtain⟨s',c7,c8,w7,w8,q8⟩:=vh (cs:=ns) (m:=(m:Int)) (t:=t) (B:=some (.lst (bl t 0),.lk)) (a4:=b4) (xf _) u4 ht4 P [] 0 none none tn tn (by rw[bh];omega) (by rw[hj];rfl) (cw _);have hit8:gW (T 5) (.seq (.ix (.ix (.var 3) (.cst (.int (0)))) (.cst (.int (2))))) (EL ns (m:Int) t (oL (bl t 0)) b4 (sN 0) (oP []) none none) = .ok ((gY P).map eE,[3]):=by
  have e1:ev (T 5) (.ix (.var 3) (.cst (.int (0)))) (EL ns (m:Int) t (oL (bl t 0)) b4 (sN 0) (oP []) none none) = .ok (bY P,.sh [3]):=by
   have hx:nH (.lst (bl t 0)) (.int ((0:Nat):Int))=some (bY P):=by
    show (Pc.hW (bl t 0).length ((0:Nat):Int)).bind (fun j=>(bl t 0)[j]?)=_;rw[il (List.getElem?_eq_some_iff.mp hb0).1];exact hb0
   rw[ev,bR (i:=3) (d:=.lst (bl t 0)) rfl rfl,aA,aE,aA,show (D.int 0) = .int ((0:Nat):Int) from rfl,hx];rfl
  rw[gW,ev,e1,aA,aE,aA];rfl
 have g8:=wR (T:=T 5) (x:=3) (d:=.lst (bl t 0)) (d':=.lst (bl t 0)) rfl hit8 q8 rfl;refine⟨true,?_⟩;rw[dH (F:=⟨1,9,b11⟩) rfl rfl];dsimp only;rw[hst,zO,aF,g1,aD,aF,g2,aD,aF,g3,aD,aF,g4,aD,aF,g5,aD,aF,g6,aD,aF,g7,aD,aF,g8,aD];exact i4 (vF (d:=.lst (P.map pD)) (m9 (aC (i:=2) (d:=.str (tx t)) (t:=.own) rfl rfl) cu) (bR (i:=6) (d:=.lst (P.map pD)) rfl rfl) (BY P))
end K06
end
section
namespace K06
open PySem PySem.Spec PyProof.Rows L2 Pc
noncomputable abbrev st (i:Nat):Stmt:=PySem.Challenge.pw_patchsquare_k06_the_least_cut.main.body.getD i (.Pass ⟨0,0,0,0⟩)
noncomputable def eY:List Str:=["range","len","list","min","enumerate"]
noncomputable def pQ:List Str:=["FIGURES","CAPITALS","ANY","KIND_SIGNS","SIGN_BITS","KIND_BITS","COUNT_BITS","MOST_SIGNS","FIGURE_BITS","MOST_FIGURES"]
noncomputable def df0:Df:=⟨"piece_length",st 14,["kind","count"],["kind","count","head"],b0⟩
noncomputable def df1:Df:=⟨"cut_text",st 16,["text"],["text","cuts","pieces","start","kind","end"],b1⟩
noncomputable def df2:Df:=⟨"refuse_strange_signs",st 17,["text"],["text","place","sign"],b2⟩
noncomputable def df3:Df:=⟨"best_cuts",st 18,["text"],["text","cuts","runs","start","choices","kind"],b3⟩
noncomputable def df4:Df:=⟨"cuts_of_kind",st 19,["cuts","start","kind","run"],["cuts","start","kind","run","choices","count","rest"],b4⟩
noncomputable def df5:Df:=⟨"_law_mix",st 21,["_law_script","_law_k","_law_prime"],["_law_script","_law_k","_law_prime","_law_cell"],b5⟩
noncomputable def df6:Df:=⟨"_law_signs",st 22,["_law_kind"],["_law_kind","_law_some"],b6⟩
noncomputable def df7:Df:=⟨"_law_run",st 23,["_law_d","_law_size"],["_law_d","_law_size","_law_some","_law_run_here","_law_k"],b7⟩
noncomputable def df8:Df:=⟨"_law_text",st 24,["_law_script","_law_most"],["_law_script","_law_most","_law_size","_law_text_here","_law_k","_law_d","_law_long"],b8⟩
noncomputable def df9:Df:=⟨"_law_cost",st 25,["_law_kind","_law_many"],["_law_kind","_law_many"],b9⟩
noncomputable def df10:Df:=⟨"_law_least",st 26,["_law_text_here","_law_at","_law_behind"],["_law_text_here","_law_at","_law_behind","_law_best","_law_kind","_law_some","_law_many","_law_rest","_law_cost_here","_law_way"],b10⟩
noncomputable def BU:Df:=⟨"law",st 27,["_law_script"],["_law_script","_law_most","_law_text_here","_law_behind","_law_step","_law_at","_law_due","_law_kind","_law_many"],b11⟩
noncomputable def p:Pg:=⟨[df0,df1,df2,df3,df4,df5,df6,df7,df8,df9,df10,BU],pQ,eY,gl,1000⟩
theorem ok:rj (Df.Ok p) p.dfs:=by
 refine⟨?a0,?a1,?a2,?a3,?a4,?a5,?a6,?a7,?a8,?a9,?a10,?a11,trivial⟩
 case a0 | a7 | a8 | a9=>exact Df.ok_of (n:=60) (by decide +kernel) rfl (fun _ _ _ _ _ _ us hl=>@Cp (fun us=>bindArgs _ ⟨us,[]⟩=pure (List.zip _ us)) us hl (fun _ _=>rfl))
 case a1 | a2 | a3 | a6 | a11=>exact Df.ok_of (n:=60) (by decide +kernel) rfl (fun _ _ _ _ _ _ us hl=>@CM (fun us=>bindArgs _ ⟨us,[]⟩=pure (List.zip _ us)) us hl (fun _=>rfl))
 case a4=>exact Df.ok_of (n:=60) (by decide +kernel) rfl (fun _ _ _ _ _ _ us hl=>@len4 (fun us=>bindArgs _ ⟨us,[]⟩=pure (List.zip _ us)) us hl (fun _ _ _ _=>rfl))
 case a5 | a10=>exact Df.ok_of (n:=60) (by decide +kernel) rfl (fun _ _ _ _ _ _ us hl=>@BW (fun us=>bindArgs _ ⟨us,[]⟩=pure (List.zip _ us)) us hl (fun _ _ _=>rfl))
theorem plaw (ns:List Int)(hl:ns.length<=63):∃ fr,p.run 6 11 [.lst (ns.map D.int)] = .ok (.bl true,fr):=law ns hl
end K06
namespace K06
open PySem PySem.W Pc.Hd
noncomputable def K (P:Params):Frag:=[(2,{ cls:=Value.none,data:=Data.dict #[] }),
 di 3 #[kv P "__name__" 165 (sv "law_patchsquare_k06_the_least_cut" 320),kv P "__doc__" 166 .none,kv P "__package__" 167 .none,kv P "__loader__" 168 (.builtin "__main__.__loader__#opaque"),kv P "__spec__" 169 .none,kv P "__annotations__" 170 (.ref 6),kv P "__builtins__" 171 (.ref 4),kv P "__file__" 173 (sv "/claim/cut.py" 172),kv P "__cached__" 174 .none,kv P "SquareError" 206 (.ref 24),kv P "NoSign" 231 (.ref 44),kv P "FIGURES" 235 (.int 1 234),kv P "CAPITALS" 237 (.int 2 236),kv P "ANY" 239 (.int 3 238),kv P "KIND_SIGNS" 244 (.ref 47),kv P "SIGN_BITS" 249 (.ref 48),kv P "KIND_BITS" 251 (.int 2 250),kv P "COUNT_BITS" 253 (.int 6 252),kv P "MOST_SIGNS" 255 (.int 64 254),kv P "FIGURE_BITS" 260 (.ref 49),kv P "MOST_FIGURES" 262 (.int 3 261),kv P "piece_length" 271 (.ref 56),kv P "cut_text" 285 (.ref 63),kv P "refuse_strange_signs" 294 (.ref 70),kv P "best_cuts" 306 (.ref 77),kv P "cuts_of_kind" 319 (.ref 84),kv P "_law_mix" 331 (.ref 91),kv P "_law_signs" 339 (.ref 98),kv P "_law_run" 350 (.ref 105),kv P "_law_text" 363 (.ref 112),kv P "_law_cost" 371 (.ref 119),kv P "_law_least" 387 (.ref 126),kv P "law" 402 (.ref 133)] 33,
 di 6 #[] 0,
 tu 15 #[(.type "ValueError")],
 tu 22 #[],
 di 23 #[kv P "__module__" 196 (sv "patchsquare.errors" 187),kv P "__firstlineno__" 200 (.int 2 199),kv P "__static_attributes__" 201 (.ref 22),kv P "__weakref__" 203 (.ref 25),kv P "__doc__" 204 .none] 3,
 (24,{ cls:=Value.type "type",data:=Data.cls { name:=Str.ofString "SquareError",bases:=[Value.type "ValueError"],mro:=[Value.ref 24,Value.type "ValueError",Value.type "Exception",Value.type "BaseException",Value.type "object"],ns:=23,qualname:=Str.ofString "SquareError",subclasses:=[Value.ref 44] },slots:=#[some (Value.ref 15),none,some (Value.str (Str.ofString "SquareError") 189),some (Value.str (Str.ofString "SquareError") 197),some (Value.builtin "ValueError.__new__"),some (Value.bool true)] }),
 (25,{ cls:=Value.type "getset_descriptor",data:=Data.fields #[Value.str (Str.ofString "__weakref__") 202,Value.ref 24,Value.builtin "ExceptionGroup.__weakref__",Value.none] }),
 tu 28 #[(.ref 24)],
 co 40 #[(sv "__init__" 219),(sv "NoSign.__init__" 220),(sv "/claim/cut.py" 221),(.int 6 0),(.int 2 0),(.int 0 0),(.int 0 0),(.int 3 0),(.ref 35),(.bool true),(.int 181 0),(.ref 36),.none,(.ref 37),(.ref 38),(.ref 39),(.int 224 0),(.int 6 0),(sv "/claim/cut.py" 225)],
 (41,{ cls:=Value.type "function",data:=Data.func { name:=Str.ofString "__init__",qualname:=Str.ofString "NoSign.__init__",params:={ posonlyargs:=[],args:=[{ arg:=Str.ofString "self",annotation:=none,pos:={ line:=6,col:=17,endLine:=6,endCol:=21 } },{ arg:=Str.ofString "place",annotation:=none,pos:={ line:=6,col:=23,endLine:=6,endCol:=28 } }],vararg:=none,kwonlyargs:=[],kw_defaults:=[],kwarg:=none,defaults:=[] },body:=FuncBody.stmts [Stmt.Expr (((Expr.Name (Str.ofString "SquareError") { line:=7,col:=8,endLine:=7,endCol:=19 }).Attribute (Str.ofString "__init__") { line:=7,col:=8,endLine:=7,endCol:=28 }).Call [Expr.Name (Str.ofString "self") { line:=7,col:=29,endLine:=7,endCol:=33 },Expr.JoinedStr [Expr.Constant (Const.str (Str.ofString "the sign at place ")) 0 { line:=7,col:=37,endLine:=7,endCol:=55 },(Expr.Name (Str.ofString "place") { line:=7,col:=56,endLine:=7,endCol:=61 }).FormattedValue (-1) none { line:=7,col:=55,endLine:=7,endCol:=62 },Expr.Constant (Const.str (Str.ofString " can't be written")) 0 { line:=7,col:=62,endLine:=7,endCol:=79 }] { line:=7,col:=35,endLine:=7,endCol:=80 }] [] { line:=7,col:=8,endLine:=7,endCol:=81 }) { line:=7,col:=8,endLine:=7,endCol:=81 },Stmt.Assign [(Expr.Name (Str.ofString "self") { line:=8,col:=8,endLine:=8,endCol:=12 }).Attribute (Str.ofString "place") { line:=8,col:=8,endLine:=8,endCol:=18 }] (Expr.Name (Str.ofString "place") { line:=8,col:=21,endLine:=8,endCol:=26 }) { line:=8,col:=8,endLine:=8,endCol:=26 }],scope:={ kind:=ScopeKind.function,names:=[(Str.ofString "self",NameKind.local),(Str.ofString "place",NameKind.local),(Str.ofString "SquareError",NameKind.globalImplicit)],isGenerator:=false,isCoroutine:=false },globals:=3,closure:=[],defaults:=Value.none,kwdefaults:=Value.none,pyModule:=Value.str (Str.ofString "patchsquare.errors") 187,code:=Value.ref 40 } }),
 tu 42 #[(sv "place" 227)],
 di 43 #[kv P "__module__" 214 (sv "patchsquare.errors" 187),kv P "__firstlineno__" 218 (.int 4 217),kv P "__init__" 226 (.ref 41),kv P "__static_attributes__" 228 (.ref 42),kv P "__doc__" 229 .none] 2,
 (44,{ cls:=Value.type "type",data:=Data.cls { name:=Str.ofString "NoSign",bases:=[Value.ref 24],mro:=[Value.ref 44,Value.ref 24,Value.type "ValueError",Value.type "Exception",Value.type "BaseException",Value.type "object"],ns:=43,qualname:=Str.ofString "NoSign" },slots:=#[some (Value.ref 28),none,some (Value.str (Str.ofString "NoSign") 207),some (Value.str (Str.ofString "NoSign") 215),some (Value.builtin "ValueError.__new__"),some (Value.bool true)] }),
 tu 47 #[(sv "" 240),(sv "0123456789" 241),(sv " ABCDEFGHIJKLMNOPQRSTUVWXYZ.,-:/" 242),(sv " !\"#$&'()*+,-./0123456789:;<=>?@ABCDEFGHIJKLMNOPQRSTUVWXYZ[\\]^_`abcdefghijklmnopqrstuvwxyz{|}~" 243)],
 tu 48 #[(.int 0 245),(.int 0 246),(.int 5 247),(.int 7 248)],
 tu 49 #[(.int 0 256),(.int 4 257),(.int 7 258),(.int 10 259)],
 co 55 #[(sv "piece_length" 263),(sv "piece_length" 264),(sv "/claim/cut.py" 265),(.int 20 0),(.int 2 0),(.int 0 0),(.int 0 0),(.int 3 0),(.ref 50),(.bool true),(.int 181 0),(.ref 51),.none,(.ref 52),(.ref 53),(.ref 54),(.int 269 0),(.int 20 0),(sv "/claim/cut.py" 270)],
 fo 56 (st 14) (sv "patchsquare.pieces" 232) (.ref 55),
 co 62 #[(sv "cut_text" 274),(sv "cut_text" 275),(sv "/claim/cut.py" 276),(.int 26 0),(.int 1 0),(.int 0 0),(.int 0 0),(.int 3 0),(.ref 57),(.bool true),(.int 181 0),(.ref 58),.none,(.ref 59),(.ref 60),(.ref 61),(.int 283 0),(.int 26 0),(sv "/claim/cut.py" 284)],
 fo 63 (st 16) (sv "patchsquare.cutting" 272) (.ref 62),
 co 69 #[(sv "refuse_strange_signs" 286),(sv "refuse_strange_signs" 287),(sv "/claim/cut.py" 288),(.int 37 0),(.int 1 0),(.int 0 0),(.int 0 0),(.int 3 0),(.ref 64),(.bool true),(.int 181 0),(.ref 65),.none,(.ref 66),(.ref 67),(.ref 68),(.int 292 0),(.int 37 0),(sv "/claim/cut.py" 293)],
 fo 70 (st 17) (sv "patchsquare.cutting" 272) (.ref 69),
 co 76 #[(sv "best_cuts" 295),(sv "best_cuts" 296),(sv "/claim/cut.py" 297),(.int 41 0),(.int 1 0),(.int 0 0),(.int 0 0),(.int 3 0),(.ref 71),(.bool true),(.int 181 0),(.ref 72),.none,(.ref 73),(.ref 74),(.ref 75),(.int 304 0),(.int 41 0),(sv "/claim/cut.py" 305)],
 fo 77 (st 18) (sv "patchsquare.cutting" 272) (.ref 76),
 co 83 #[(sv "cuts_of_kind" 307),(sv "cuts_of_kind" 308),(sv "/claim/cut.py" 309),(.int 51 0),(.int 4 0),(.int 0 0),(.int 0 0),(.int 3 0),(.ref 78),(.bool true),(.int 181 0),(.ref 79),.none,(.ref 80),(.ref 81),(.ref 82),(.int 317 0),(.int 51 0),(sv "/claim/cut.py" 318)],
 fo 84 (st 19) (sv "patchsquare.cutting" 272) (.ref 83),
 co 90 #[(sv "_law_mix" 322),(sv "_law_mix" 323),(sv "/claim/cut.py" 324),(.int 58 0),(.int 3 0),(.int 0 0),(.int 0 0),(.int 3 0),(.ref 85),(.bool true),(.int 181 0),(.ref 86),.none,(.ref 87),(.ref 88),(.ref 89),(.int 329 0),(.int 58 0),(sv "/claim/cut.py" 330)],
 fo 91 (st 21) (sv "law_patchsquare_k06_the_least_cut" 320) (.ref 90),
 co 97 #[(sv "_law_signs" 332),(sv "_law_signs" 333),(sv "/claim/cut.py" 334),(.int 63 0),(.int 1 0),(.int 0 0),(.int 0 0),(.int 3 0),(.ref 92),(.bool true),(.int 181 0),(.ref 93),.none,(.ref 94),(.ref 95),(.ref 96),(.int 337 0),(.int 63 0),(sv "/claim/cut.py" 338)],
 fo 98 (st 22) (sv "law_patchsquare_k06_the_least_cut" 320) (.ref 97),
 co 104 #[(sv "_law_run" 340),(sv "_law_run" 341),(sv "/claim/cut.py" 342),(.int 70 0),(.int 2 0),(.int 0 0),(.int 0 0),(.int 3 0),(.ref 99),(.bool true),(.int 181 0),(.ref 100),.none,(.ref 101),(.ref 102),(.ref 103),(.int 348 0),(.int 70 0),(sv "/claim/cut.py" 349)],
 fo 105 (st 23) (sv "law_patchsquare_k06_the_least_cut" 320) (.ref 104),
 co 111 #[(sv "_law_text" 351),(sv "_law_text" 352),(sv "/claim/cut.py" 353),(.int 77 0),(.int 2 0),(.int 0 0),(.int 0 0),(.int 3 0),(.ref 106),(.bool true),(.int 181 0),(.ref 107),.none,(.ref 108),(.ref 109),(.ref 110),(.int 361 0),(.int 77 0),(sv "/claim/cut.py" 362)],
 fo 112 (st 24) (sv "law_patchsquare_k06_the_least_cut" 320) (.ref 111),
 co 118 #[(sv "_law_cost" 364),(sv "_law_cost" 365),(sv "/claim/cut.py" 366),(.int 89 0),(.int 2 0),(.int 0 0),(.int 0 0),(.int 3 0),(.ref 113),(.bool true),(.int 181 0),(.ref 114),.none,(.ref 115),(.ref 116),(.ref 117),(.int 369 0),(.int 89 0),(sv "/claim/cut.py" 370)],
 fo 119 (st 25) (sv "law_patchsquare_k06_the_least_cut" 320) (.ref 118),
 co 125 #[(sv "_law_least" 372),(sv "_law_least" 373),(sv "/claim/cut.py" 374),(.int 93 0),(.int 3 0),(.int 0 0),(.int 0 0),(.int 3 0),(.ref 120),(.bool true),(.int 181 0),(.ref 121),.none,(.ref 122),(.ref 123),(.ref 124),(.int 385 0),(.int 93 0),(sv "/claim/cut.py" 386)],
 fo 126 (st 26) (sv "law_patchsquare_k06_the_least_cut" 320) (.ref 125),
 co 132 #[(sv "law" 388),(sv "law" 389),(sv "/claim/cut.py" 390),(.int 107 0),(.int 1 0),(.int 0 0),(.int 0 0),(.int 3 0),(.ref 127),(.bool true),(.int 181 0),(.ref 128),.none,(.ref 129),(.ref 130),(.ref 131),(.int 400 0),(.int 107 0),(sv "/claim/cut.py" 401)],
 fo 133 (st 27) (sv "law_patchsquare_k06_the_least_cut" 320) (.ref 132)]
noncomputable def as:List Addr:=[2,3,6,15,22,23,24,25,28,40,41,42,43,44,47,48,49,55,56,62,63,69,70,76,77,83,84,90,91,97,98,104,105,111,112,118,119,125,126,132,133]
noncomputable def Q:Program:={ PySem.Challenge.pw_patchsquare_k06_the_least_cut with main:={ PySem.Challenge.pw_patchsquare_k06_the_least_cut.main with body:=[st 1,st 2,st 4,st 5,st 6,st 7,st 8,st 9,st 10,st 11,st 12,st 13,st 14,st 16,st 17,st 18,st 19,st 21,st 22,st 23,st 24,st 25,st 26,st 27] } }
noncomputable def H:Hook:=kHook K as (fun _=>rfl)
end K06
open PySem PySem.W PyProof.Rows
theorem K06.left:LeftO PySem.Challenge.pw_patchsquare_k06_the_least_cut K06.Q [] (fun s=>xlAt K06.Q [] s&&recOk (RowW.records PySem.Challenge.rw_patchsquare_k06_the_least_cut.row.toRowW) s) (Hook.obs K06.H) (Hook.val K06.H) 2070:=by
 intro w
 kernel_rfl
theorem PySem.Challenge.cw_patchsquare_k06_the_least_cut_holds : PySem.Challenge.rw_patchsquare_k06_the_least_cut.Holds := by
 refine holds_law (by decide +kernel) fun said=>?_
 refine holds_open (q:=K06.Q) (loose:=[]) (XP:=XL K06.Q []) (YP:=Hook.says K06.H) K06.left (Hook.of K06.H) (Hook.keeps K06.H) (fun s e=>xl_of s (Bool.and_eq_true_iff.mp e).1) XL.keeps (by rfl) (by rfl) (by rfl) (fun s e=>recFacts_of (Bool.and_eq_true_iff.mp e).2) (by rfl) said (by decide +kernel) ⟨rfl,rfl,rfl,rfl,rfl,by decide +kernel⟩ ?hw ?hc
 case hw=>w_witness2
 refine Pc.walk (l:=PySem.Challenge.rw_patchsquare_k06_the_least_cut) K06.p 6 11 "_law_script" K06.BU rfl rfl (fun w h Y=>PySem.W.kIn_of Y) rfl rfl rfl ⟨rfl,by decide,by decide⟩ K06.ok ?st ?nl ?hh K06.plaw
 case nl=>intro w;rfl
 case hh=>intro w;exact Pc.CC rfl
 case st =>
  intro w;refine⟨⟨?d0,?d1,?d2,?d3,?d4,?d5,?d6,?d7,?d8,?d9,?d10,?d11,trivial⟩,Pc.vU ⟨?glb0,?glb1,?glb2,?glb3,?glb4,?glb5,?glb6,?glb7,?glb8,?glb9,trivial⟩,⟨?e0,?e1,?e2,?e3,?e4,trivial⟩⟩
  case d0 | d1 | d2 | d3 | d4 | d5 | d6 | d7 | d8 | d9 | d10 | d11=>refine' Pc.y4 ?a ?l ?c ?k;(case a=>rfl);(case l=>rfl);(case c=>rfl);(case k=>rfl)
  case glb0=>refine' Pc.gl_int (i:=1) ?ga0;(case ga0=>rfl)
  case glb1=>refine' Pc.gl_int (i:=2) ?ga1;(case ga1=>rfl)
  case glb2=>refine' Pc.gl_int (i:=3) ?ga2;(case ga2=>rfl)
  case glb3=>refine' Pc.oa (ds:=[.str ("" : PySem.Str),.str ("0123456789" : PySem.Str),.str (" ABCDEFGHIJKLMNOPQRSTUVWXYZ.,-:/" : PySem.Str),.str (" !\"#$&'()*+,-./0123456789:;<=>?@ABCDEFGHIJKLMNOPQRSTUVWXYZ[\\]^_`abcdefghijklmnopqrstuvwxyz{|}~" : PySem.Str)]) (vs:=[.str ("" : PySem.Str),.str ("0123456789" : PySem.Str),.str (" ABCDEFGHIJKLMNOPQRSTUVWXYZ.,-:/" : PySem.Str),.str (" !\"#$&'()*+,-./0123456789:;<=>?@ABCDEFGHIJKLMNOPQRSTUVWXYZ[\\]^_`abcdefghijklmnopqrstuvwxyz{|}~" : PySem.Str)]) ?ga3 ?gl3 ?gc3 ?gz3 ?gv3 ?gr3;(case ga3=>rfl);(case gl3=>rfl);(case gc3=>rfl);(case gz3=>decide);(case gv3=>exact (.cons ⟨_,rfl⟩ (.cons ⟨_,rfl⟩ (.cons ⟨_,rfl⟩ (.cons ⟨_,rfl⟩ .nil)))));(case gr3=>exact fun H=>(.cons (.str _) (.cons (.str _) (.cons (.str _) (.cons (.str _) .nil)))))
  case glb4=>refine' Pc.oa (ds:=[.int 0,.int 0,.int 5,.int 7]) (vs:=[.int 0,.int 0,.int 5,.int 7]) ?ga4 ?gl4 ?gc4 ?gz4 ?gv4 ?gr4;(case ga4=>rfl);(case gl4=>rfl);(case gc4=>rfl);(case gz4=>decide);(case gv4=>exact (.cons ⟨_,rfl⟩ (.cons ⟨_,rfl⟩ (.cons ⟨_,rfl⟩ (.cons ⟨_,rfl⟩ .nil)))));(case gr4=>exact fun H=>(.cons (.int _) (.cons (.int _) (.cons (.int _) (.cons (.int _) .nil)))))
  case glb5=>refine' Pc.gl_int (i:=2) ?ga5;(case ga5=>rfl)
  case glb6=>refine' Pc.gl_int (i:=6) ?ga6;(case ga6=>rfl)
  case glb7=>refine' Pc.gl_int (i:=64) ?ga7;(case ga7=>rfl)
  case glb8=>refine' Pc.oa (ds:=[.int 0,.int 4,.int 7,.int 10]) (vs:=[.int 0,.int 4,.int 7,.int 10]) ?ga8 ?gl8 ?gc8 ?gz8 ?gv8 ?gr8;(case ga8=>rfl);(case gl8=>rfl);(case gc8=>rfl);(case gz8=>decide);(case gv8=>exact (.cons ⟨_,rfl⟩ (.cons ⟨_,rfl⟩ (.cons ⟨_,rfl⟩ (.cons ⟨_,rfl⟩ .nil)))));(case gr8=>exact fun H=>(.cons (.int _) (.cons (.int _) (.cons (.int _) (.cons (.int _) .nil)))))
  case glb9=>refine' Pc.gl_int (i:=3) ?ga9;(case ga9=>rfl)
  case e0 | e1 | e2 | e3 | e4=>dsimp only;rfl
end
