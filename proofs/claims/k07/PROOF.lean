import PyProof.Rows.All
import Wide.All
import OpenK.AllK
import Wide.FinOn
import Lean
import PyProof.EqAt
import PyProof.EqKinds
import PyProof.TupleCall
import PySem.Syntax
import PySem.Str
import PySem.Sem
import PySem.Builtin.Int.W1All
import PySem.Builtin.Str.Common
import PySem.Builtin.Range.Common
import KE.IntText
import KE.KSortAsk
import PyProof.IsRules
import PyProof.NeKinds
import PyProof.DictWalks
import PyProof.EnumMake
import PyProof.EnumFor
import PyProof.ZipIter
import PyProof.Rows.EnumRows
import PyProof.Rows.FactsT2
import KE.KRevIter
import PyProof.CompFree
import PyProof.CompUse
import PyProof.Cells
import PyProof.ConsumeWalk
import PyProof.IsInstanceH
import PyProof.IsiNone
import PyProof.SumWalkG
import PyProof.Rows.SumGenD
import KE.KDictList
import KE.KSortTup
import KE.KSorted
import KE.KSort
import PyProof.Draws
import PyProof.ListRange
import PyProof.MinMaxWalk
import PyProof.WalkInts
import PyProof.Conv_int_bool
import PyProof.Rows.CallKwBuiltin
import KE.KIntText
import PyProof.Rows.SeqMore
import PyProof.Rows.StrJoin2
import PyProof.Rows.StrSplitAre
import PyProof.Rows.StrSplitJoin
import PySem.Challenge.RW_patchsquare_k07_no_cut_nearby
set_option Elab.async false
set_option linter.all false
set_option maxRecDepth 100000
set_option maxHeartbeats 0
abbrev aa:=@Option.map_eq_some_iff
abbrev ab:=@Option.bind_eq_some_iff
abbrev ae:=@List.size_toArray
abbrev ag:=@List.length_map
abbrev ah:=@List.mem_cons_of_mem
abbrev ai:=@List.mem_cons_self
abbrev aj:=@List.length_cons
abbrev ak:=@Bool.and_eq_true
abbrev ao:=@List.length_append
abbrev aq:=@List.map_cons
abbrev au:=@List.mem_append_right
abbrev av:=@Nat.le_refl
abbrev aw:=@decide_eq_false
abbrev ax:=@Bool.false_ne_true
abbrev ay:=@List.append_nil
abbrev az:=@List.mem_append_left
abbrev ba:=@Nat.lt_of_lt_of_le
abbrev bf:=@decide_eq_true
abbrev bg:=@List.flatten_cons
abbrev bh:=@Nat.le_trans
abbrev bj:=@List.length_nil
abbrev bo:=@Nat.ne_of_lt
abbrev bp:=@Option.some.inj
abbrev bq:=@Option.map_some
abbrev br:=@PySem.mem_of_lookup
abbrev bt:=@Option.some.injEq
abbrev bu:=@List.nodup_nil
abbrev bw:=@List.length_replicate
abbrev bz:=@List.length_drop
abbrev cf:=@List.all_eq_true
abbrev cg:=@Bool.false_eq_true
abbrev cj:=@List.lookup_cons
abbrev cm:=@List.length_take
abbrev cn:=@Array.length_toList
abbrev cq:=@if_true
abbrev cv:=@List.map_map
abbrev cw:=@List.drop_eq_getElem_cons
abbrev cx:=@List.mem_of_getElem
abbrev cy:=@Nat.zero_le
abbrev cz:=@decide_eq_true_eq
abbrev c7:=@List.length_singleton
abbrev c8:=@Nat.lt_irrefl
abbrev c9:=@List.all_cons
abbrev da:=@Ne.symm
abbrev de:=@Nat.min_eq_left
abbrev df:=@List.map_append
abbrev dg:=@if_false
abbrev dh:=@List.replicate_succ
abbrev dk:=@List.map_congr_left
abbrev dm:=@Option.bind_some
abbrev dn:=@List.not_mem_nil
abbrev dq:=@Int.emod_lt_of_pos
abbrev dt:=@List.nodup_append
abbrev du:=@List.append_assoc
abbrev dw:=@Int.toNat_natCast
abbrev dz:=@List.mem_cons
abbrev ef:=@List.any_cons
abbrev eh:=@beq_self_eq_true
abbrev e8:=@List.getElem_mem
abbrev e9:=@List.take_of_length_le
abbrev fe:=@List.map_nil
abbrev fh:=@Int.emod_nonneg
abbrev fi:=@List.drop_succ_cons
abbrev fk:=@congrArg
abbrev fm:=@List.nil_append
abbrev fq:=@Bool.or_eq_true
abbrev ft:=@List.lookup_append
abbrev fu:=@decide_eq_false_iff_not
abbrev fv:=@Nat.lt_succ_of_lt
abbrev fw:=@List.range_succ_eq_map
abbrev f6:=@List.length_range
abbrev f7:=@List.nil_sublist
abbrev f9:=@List.flatten_nil
abbrev gb:=@List.mem_of_mem_drop
abbrev gc:=@List.length_set
abbrev gd:=@PyProof.Rows.callWith_type1
abbrev gg:=@Bool.or_true
abbrev gh:=@List.zip_cons_cons
abbrev gi:=@List.mem_singleton
abbrev gj:=@Option.isSome_map
abbrev gm:=@List.sum_cons
abbrev gn:=@Bool.true_and
abbrev gp:=@or_false
abbrev gq:=@PySem.F.plainAttrs_list
abbrev gr:=@Nat.lt_succ_self
abbrev gu:=@Nat.le_of_not_lt
abbrev gv:=@List.drop_length
abbrev gw:=@Nat.succ.inj
abbrev gx:=@List.take_append_drop
section
namespace L2
open PySem PySem.Spec PyProof.Rows
noncomputable abbrev Key:=Sum Int Str
noncomputable def i4:Key->Value->Bool
 |.inl k,v=>Value.isInt k v
 |.inr x,v=>Value.isStrOf x v
noncomputable def keyH (w:World):Key->Int
 |.inl k=>hashInt k
 |.inr x=>hashStr w x
theorem aW:∀{k:Key}{v:Value},i4 k v=true->(∃ i t,k=Sum.inl i/\v=Value.int i t)\/(∃ x t,k=Sum.inr x/\v=Value.str x t)
 | .inl i,v,h=>by
  obtain⟨t,e⟩:=Value.isInt_shape (k:=i) (v:=v) h;exact .inl ⟨i,t,rfl,e⟩
 | .inr x,v,h=>by
  obtain⟨t,e⟩:=Value.isStrOf_shape (x:=x) (v:=v) h;exact .inr ⟨x,t,rfl,e⟩
theorem qG (i:Int)(t:Tok):i4 (.inl i) (.int i t)=true:=by simp[i4,Value.isInt]
theorem rK (x:Str)(t:Tok):i4 (.inr x) (.str x t)=true:=by simp[i4,Value.isStrOf]
theorem Ac (a b:Int):decide ((Sum.inl a:Key)=Sum.inl b)=(a==b):=by
 by_cases e:a=b
 ·subst e;simp
 ·have h:¬ (Sum.inl a:Key)=Sum.inl b:=fun q=>e (Sum.inl.inj q)
  rw[aw h];exact (beq_eq_false_iff_ne.mpr e).symm
theorem zx (a b:Str):decide ((Sum.inr a:Key)=Sum.inr b)=decide (a=b):=by
 by_cases e:a=b
 ·subst e;simp
 ·have h:¬ (Sum.inr a:Key)=Sum.inr b:=fun q=>e (Sum.inr.inj q)
  rw[aw h,aw e]
theorem Aj (a:Int)(b:Str):decide ((Sum.inl a:Key)=Sum.inr b)=false:=aw (fun q=>nomatch q)
theorem yl (a:Str)(b:Int):decide ((Sum.inr a:Key)=Sum.inl b)=false:=aw (fun q=>nomatch q)
noncomputable def aL (prog:Program)(w:World):PySem.KeyKind prog w Key where
 is:=i4
 hash:=keyH w
 inj:=fun v a b ha hb=>by
  rcases aW ha with ⟨i,t,rfl,rfl⟩ | ⟨x,t,rfl,rfl⟩
  ·rcases aW hb with ⟨j,u,rfl,e⟩ | ⟨y,u,rfl,e⟩
   ·injection e with e1 _;rw[e1]
   ·exact nomatch e
  ·rcases aW hb with ⟨j,u,rfl,e⟩ | ⟨y,u,rfl,e⟩
   ·exact nomatch e
   ·injection e with e1 _;rw[e1]
 byValue:=fun k v h=>by
  rcases aW h with ⟨i,t,rfl,rfl⟩ | ⟨x,t,rfl,rfl⟩<;>rfl
 pyHash:=fun hv h=>by
  rcases aW hv with ⟨i,t,rfl,rfl⟩ | ⟨x,t,rfl,rfl⟩
  ·exact wpAny_pyHash_int h
  ·exact wpAny_pyHash_str h
 eqBool:=fun hu hv h=>by
  rcases aW hu with ⟨i,t,rfl,rfl⟩ | ⟨x,t,rfl,rfl⟩
  ·rcases aW hv with ⟨j,u,rfl,rfl⟩ | ⟨y,u,rfl,rfl⟩
   ·rw[Ac] at h;exact wpAny_eqBool_int h
   ·rw[Aj] at h;exact SeqAt.EqAt.int_str i t y u _ _ _ _ h
  ·rcases aW hv with ⟨j,u,rfl,rfl⟩ | ⟨y,u,rfl,rfl⟩
   ·rw[yl] at h;exact SeqAt.EqAt.str_int x t j u _ _ _ _ h
   ·rw[zx] at h;exact wpAny_eqBool_str h
 «strs»:=fun k x t v h=>by
  rcases aW h with ⟨i,u,rfl,e⟩ | ⟨y,u,rfl,e⟩
  ·exact nomatch e
  ·injection e with e1 _
   subst e1;cases v<;>rfl
theorem dD (prog:Program)(w:World)(i:Int)(t:Tok):(aL prog w).is (.inl i) (.int i t)=true:=qG i t
theorem cL (prog:Program)(w:World)(x:Str)(t:Tok):(aL prog w).is (.inr x) (.str x t)=true:=rK x t
end L2
namespace L2
open PySem PySem.Spec PyProof.Rows
inductive V where
 | non | bl (b:Bool) | int (i:Int) | str (x:Str) | byt (b:Array UInt8) | flt (b:UInt64) | ref (a:Addr) | ty (n:String)
 deriving DecidableEq
noncomputable def RelV:V->Value->Prop
 |.non,u=>u=Value.none
 |.bl b,u=>u=Value.bool b
 |.int i,u=>∃ t,u=Value.int i t
 |.str x,u=>∃ t,u=Value.str x t
 |.byt b,u=>∃ t,u=Value.bytes b t
 |.flt b,u=>∃ t,u=Value.float b t
 |.ref a,u=>u=Value.ref a
 |.ty n,u=>u=Value.type n
noncomputable abbrev aJ:List V->List Value->Prop:=Paired RelV
theorem aJ.length {xs:List V}{us:List Value}(r:aJ xs us):xs.length=us.length:=Paired.length r
theorem aJ.get:∀{xs:List V}{us:List Value}{i:Nat}{x:V},aJ xs us->xs[i]? = some x->∃ u,us[i]? = some u/\RelV x u
 |_,_,_,_,.nil,e=>by simp at e
 |_,_,0,_,.cons r _,e=>by simp at e;subst e;exact⟨_,rfl,r⟩
 | _,_,i+1,x,.cons _ t,e=>by
  obtain⟨u,h1,h2⟩:=aJ.get (i:=i) (x:=x) t (by simpa using e);exact⟨u,by simpa using h1,h2⟩
theorem aJ.set {x:V}{u:Value}(r:RelV x u):∀{xs:List V}{us:List Value}(i:Nat),aJ xs us->aJ (xs.set i x) (us.set i u)
 |_,_,_,.nil=>.nil
 |_,_,0,.cons _ t=>.cons r t
 |_,_,i+1,.cons q t=>.cons q (aJ.set r i t)
theorem aJ.append:∀{xs ys:List V}{us ws:List Value},aJ xs us->aJ ys ws->aJ (xs++ys) (us++ws)
 |_,_,_,_,.nil,s=>s
 |_,_,_,_,.cons r t,s=>.cons r (aJ.append t s)
theorem aJ.take:∀{xs:List V}{us:List Value}(n:Nat),aJ xs us->aJ (xs.take n) (us.take n)
 |_,_,0,_=>.nil
 |_,_,_+1,.nil=>.nil
 |_,_,n+1,.cons r t=>.cons r (aJ.take n t)
theorem aJ.drop:∀{xs:List V}{us:List Value}(n:Nat),aJ xs us->aJ (xs.drop n) (us.drop n)
 |_,_,0,r=>r
 |_,_,_+1,.nil=>.nil
 |_,_,n+1,.cons _ t=>aJ.drop n t
noncomputable def qA:Option V->Option Value->Prop
 |some v,some u=>RelV v u
 |none,none=>True
 |_,_=>False
def KV {κ:Type}:List (κ×V)->List (κ×Value)->Prop:=Paired fun (p:κ×V) (q:κ×Value)=>p.1=q.1/\RelV p.2 q.2
noncomputable def kV:Key->V
 |.inl i=>.int i
 |.inr x=>.str x
inductive HO where
 | lst (xs:List V)
 | tup (xs:List V)
 | dK (kvs:List (Key×V)) | dT (kvs:List (List Key×V))
 | set (S:Int->Bool) (n:Nat)
 | ins (C dx:Addr) (fs:List (Str×V))
 | own (x:Addr)
 | xd (fs:List (Str×V))
 | met (f x:Addr)
 | rng (lo hi:Int)
 | frz (o:Obj) (u:HO)
 | tbl (ps:Array Value)
 | ext (φ:Heap->Prop)
noncomputable abbrev Hp:=Addr->Option HO
noncomputable def upd (H:Hp)(a:Addr)(o:HO):Hp:=fun b=>if b=a then some o else H b
theorem aO {H:Hp}{a:Addr}{o:HO}:upd H a o a=some o:=by unfold upd;rw[if_pos rfl]
theorem aI {H:Hp}{a b:Addr}{o:HO}(h:b≠a):upd H a o b=H b:=by unfold upd;rw[if_neg h]
theorem Cq {H:Hp}{a b:Addr}{o u:HO}(h:H a=some o)(h':H b=some u)(d:o≠u):a≠b:=by
 intro e;subst e;rw[h] at h';exact d (bp h')
theorem dQ {H:Hp}{a b:Addr}{o:HO}(h:H a=some o)(h':H b=none):a≠b:=by
 intro e;subst e;rw[h] at h';cases h'
section
variable (P:Program)(w:World)
noncomputable def cJ (H:Hp)(h:Heap)(a:Addr):HO->Prop
 |.lst xs=>xs.length<=sizeLine/\∃(its:List Value) (n:Nat),aJ xs its/\h.get? a=some { cls:=.type "list",data:=.seq its.toArray n }
 |.tup xs=>xs.length<=sizeLine/\∃ its:List Value,aJ xs its/\IsTup h a its.toArray
 |.dK kvs=>kvs.length<=sizeLine/\(a==sysModules)=false/\∃ vs,KV kvs vs/\h.DictOf (aL P w) a vs
 | .dT kvs=>kvs.length<=sizeLine/\(a==sysModules)=false/\∃ xs:List (List Key×Addr×Value),
   Paired (fun (p:List Key×V) (q:List Key×Addr×Value)=>p.1=q.1/\H q.2.1=some (.tup (p.1.map kV))/\RelV p.2 q.2.2) kvs xs /\
   ∃ o es ep,h.get? a=some o/\o.ExactDict/\o.data = .dict es ep/\es.toList=xs.map (entryOfKey (tupleKind (aL P w)))/\(xs.map (·.1)).Nodup
 |.set S n=>h.SetOf (intKind P w) a S n
 | .ins C dx fs=>H dx=some (.own a)/\fs.length<=1000/\dx≠a/\h.get? a=some (PySem.W.instObj C dx) /\
   ∃ mA,h.Ns1 dx mA/\(∀ f,qA (fs.lookup f) (mA f))/\PySem.Within mA (fs.map (·.1))
 |.own _=>∃ o,h.get? a=some o
 |.xd fs=>∃ mA,h.Ns1 a mA/\∀ f,qA (fs.lookup f) (mA f)
 |.rng lo hi=>∃ t u v,h.get? a=some { cls:=.type "range",data:=.fields #[.int lo t,.int hi u,.int 1 v] }
 |.frz o u=>h.get? a=some o/\cJ H h a u
 |.tbl ps=>h.get? a=some { cls:=.none,data:=.fields ps }
 |.met f x=>h.get? a=some (PySem.W.methodObj (.ref f) (.ref x))
 |.ext φ=>φ h/\(∃ o,h.get? a=some o)/\∀ h1 h2:Heap,φ h1->(∀ o,h1.get? a=some o->h2.get? a=some o)->φ h2
def iw (H:Hp)(h:Heap):Prop:=∀ a o,H a=some o->cJ P w H h a o
end
section
variable {P:Program}{w:World}{H H':Hp}{h h':Heap}{a:Addr}{o:HO}
theorem cJ.lt (x:cJ P w H h a o):a<h.objs.size:=by
 cases o with
 |lst xs=>obtain⟨_,_,_,_,e⟩:=x;exact Heap.lt_size e
 |tup xs=>obtain⟨_,_,_,p⟩:=x;exact p.lt
 |dK kvs=>obtain⟨_,_,_,_,o,_,_,e,_⟩:=x;exact Heap.lt_size e
 |dT kvs=>obtain⟨_,_,_,_,o,_,_,e,_⟩:=x;exact Heap.lt_size e
 |set S n=>obtain⟨o,_,_,_,e,_⟩:=x;exact Heap.lt_size e
 |ins C dx fs=>obtain⟨_,_,_,e,_⟩:=x;exact Heap.lt_size e
 |own y=>obtain⟨_,e⟩:=x;exact Heap.lt_size e
 |xd fs=>obtain⟨_,⟨_,_,_,e,_⟩,_⟩:=x;exact Heap.lt_size e
 |rng lo hi=>obtain⟨_,_,_,e⟩:=x;exact Heap.lt_size e
 |frz ob u=>obtain⟨e,_⟩:=x;exact Heap.lt_size e
 |tbl ps=>exact Heap.lt_size (show h.get? a=some _ from x)
 |met f y=>exact Heap.lt_size (show h.get? a=some _ from x)
 |ext φ=>obtain⟨_,⟨_,e⟩,_⟩:=x;exact Heap.lt_size e
theorem Paired.mapP {α β:Type}{F G:α->β->Prop}:∀{l₁:List α}{l₂:List β},Paired F l₁ l₂->(∀ a b,F a b->G a b)->Paired G l₁ l₂
 |_,_,.nil,_=>.nil
 |_,_,.cons r t,f=>.cons (f _ _ r) (Paired.mapP t f)
theorem cJ.stay (x:cJ P w H h a o)(k:∀ b u,(b=a\/H b=some (.own a))->h.get? b=some u->h'.get? b=some u)
  (ho:∀ b,H b=some (.own a)->H' b=some (.own a)) (ht:∀ b xs,H b=some (.tup xs)->H' b=some (.tup xs)):cJ P w H' h' a o:=by
 induction o with
 |lst xs=>obtain⟨z,its,n,r,e⟩:=x;exact⟨z,its,n,r,k _ _ (.inl rfl) e⟩
 |tup xs=>obtain⟨z,its,r,ob,e,c⟩:=x;exact⟨z,its,r,ob,k _ _ (.inl rfl) e,c⟩
 |dK kvs=>obtain⟨z,y,vs,r,ob,es,ep,e,c⟩:=x;exact⟨z,y,vs,r,ob,es,ep,k _ _ (.inl rfl) e,c⟩
 |dT kvs =>
  obtain⟨z,y,xs,r,ob,es,ep,e,c⟩:=x;exact⟨z,y,xs,Paired.mapP r fun p q z=>⟨z.1,ht _ _ z.2.1,z.2.2⟩,ob,es,ep,k _ _ (.inl rfl) e,c⟩
 |set S n=>obtain⟨ob,es,ep,t,e,c⟩:=x;exact⟨ob,es,ep,t,k _ _ (.inl rfl) e,c⟩
 |ins C dx fs =>
  obtain⟨d,z,ne,e,mA,⟨od,es,ep,e2,c⟩,r⟩:=x;exact⟨ho _ d,z,ne,k _ _ (.inl rfl) e,mA,⟨od,es,ep,k _ _ (.inr d) e2,c⟩,r⟩
 |own y=>obtain⟨ob,e⟩:=x;exact⟨ob,k _ _ (.inl rfl) e⟩
 |xd fs=>obtain⟨mA,⟨od,es,ep,e,c⟩,r⟩:=x;exact⟨mA,⟨od,es,ep,k _ _ (.inl rfl) e,c⟩,r⟩
 |rng lo hi=>obtain⟨t,u,v,e⟩:=x;exact⟨t,u,v,k _ _ (.inl rfl) e⟩
 |frz ob u ih=>obtain⟨e,q⟩:=x;exact⟨k _ _ (.inl rfl) e,ih q⟩
 |tbl ps =>
  have e:h.get? a=some { cls:=.none,data:=.fields ps }:=x;show h'.get? a=some { cls:=.none,data:=.fields ps };exact k a _ (.inl rfl) e
 |met f y =>
  have e:h.get? a=some (PySem.W.methodObj (.ref f) (.ref y)):=x;show h'.get? a=some (PySem.W.methodObj (.ref f) (.ref y));exact k a _ (.inl rfl) e
 |ext φ=>obtain⟨p,⟨o,e⟩,st⟩:=x;exact⟨st _ _ p fun o q=>k _ _ (.inl rfl) q,⟨o,k _ _ (.inl rfl) e⟩,st⟩
theorem iw.lt (x:iw P w H h)(e:H a=some o):a<h.objs.size:=(x a o e).lt
theorem iw.fresh (x:iw P w H h)(e:h.objs.size<=a):H a=none:=by
 cases q:H a with
 |none=>rfl
 |some u=>exact absurd (ba (x.lt q) e) (c8 _)
theorem iw.kept (x:iw P w H h)(k:∀ b u,h.get? b=some u->h'.get? b=some u):iw P w H h':=fun a o e =>
 (x a o e).stay (fun b u _ q=>k b u q) (fun _ q=>q) fun _ _ q=>q
theorem iw.laid (x:iw P w H h)(k:∀ b u,h.get? b=some u->h'.get? b=some u)(hp:h.objs.size<=a)(new:cJ P w (upd H a o) h' a o):iw P w (upd H a o) h':=fun b u e=>by
 have hn:=x.fresh hp;by_cases hb:b=a
 ·subst hb;rw[aO] at e;cases e;exact new
 ·rw[aI hb] at e;exact (x b u e).stay (fun c v _ q=>k c v q) (fun c q=>by rw[aI (dQ q hn)];exact q) fun c xs q=>by rw[aI (dQ q hn)];exact q
end
def Rd (H:Hp)(a:Addr)(u:HO):Prop:=H a=some u\/∃ o,H a=some (.frz o u)
theorem Rd.ok {P:Program}{w:World}{H:Hp}{h:Heap}{a:Addr}{u:HO}(r:Rd H a u)(x:iw P w H h):cJ P w H h a u:=by
 rcases r with r | ⟨o,r⟩
 ·exact x a u r
 ·obtain⟨_,q⟩:=x a _ r;exact q
noncomputable def m7:Option HO->Prop
 | some (.lst _)=>True
 | some (.dK _)=>True
 | some (.dT _)=>True
 | some (.set _ _)=>True
 | some (.ins _ _ _)=>True
 | some (.ext _)=>True
 |_=>False
section
variable {P:Program}{w:World}{H:Hp}{h h':Heap}{x e:Addr}{o':HO}
theorem iw.write (ok:iw P w H h)(mu:m7 (H x))(he:e=x\/H e=some (.own x))(k:∀ b u,b≠e->h.get? b=some u->h'.get? b=some u)(heo:∃ u,h'.get? e=some u)
  (new:cJ P w (upd H x o') h' x o'):iw P w (upd H x o') h':=fun b u q=>by
 have nown:∀ c y,H c=some (.own y)->c≠x:=fun c y r z=>by subst z;rw[r] at mu;exact mu
 have ntup:∀ c xs,H c=some (.tup xs)->c≠x:=fun c xs r z=>by subst z;rw[r] at mu;exact mu
 by_cases hb:b=x
 ·subst hb;rw[aO] at q;cases q;exact new
 ·rw[aI hb] at q;by_cases hbe:b=e
  ·have q':H b=some (.own x):=by
    rcases he with z | z
    ·exact absurd (hbe.trans z) hb
    ·rw[hbe];exact z
   rw[q] at q';cases q';obtain⟨v,hv⟩:=heo;exact⟨v,by rw[hbe];exact hv⟩
  ·refine (ok b u q).stay (fun c v hc r=>k c v ?_ r) (fun c r=>by rw[aI (nown c b r)];exact r) fun c xs r=>by rw[aI (ntup c xs r)];exact r
   rcases hc with rfl | hc
   ·exact hbe
   ·rintro rfl;rcases he with z | z
    ·exact nown c b hc z
    ·rw[hc] at z;cases z;exact hb rfl
end
structure Un (fs ex:List Addr)(H H':Hp)(h h':Heap):Prop where
 keep:∀ b o,h.get? b=some o->H b=none->b∉fs->b∉ex->h'.get? b=some o
 slot:∀ b o,h.get? b=some o->H b=none->b∈fs->b∉ex->∃ sl,h'.get? b=some { o with slots:=sl }
 free:∀ b o,h.get? b=some o->H b=none->b∉ex->H' b=none
 there:∀ b o,h.get? b=some o->b∉ex->∃ o',h'.get? b=some o'
 tups:∀ b xs,H b=some (.tup xs)->H' b=some (.tup xs)
 frzs:∀ b o u,H b=some (.frz o u)->H' b=some (.frz o u)
 tbls:∀ b ps,H b=some (.tbl ps)->∃ more,H' b=some (.tbl (ps++more))
section
variable {fs fs' ex ex':List Addr}{H H1 H2:Hp}{h h1 h2 h':Heap}{a x e:Addr}{o:HO}
theorem Un.any (u:Un fs ex H H1 h h1){b:Addr}{ob:Obj}(q:h.get? b=some ob)(n:H b=none)(hx:b∉ex):∃ sl,h1.get? b=some { ob with slots:=sl }:=by
 by_cases hb:b∈fs
 ·exact u.slot b ob q n hb hx
 ·exact⟨ob.slots,u.keep b ob q n hb hx⟩
theorem Un.kept (k:∀ b u,h.get? b=some u->h'.get? b=some u):Un fs ex H H h h' :=
 ⟨fun b ob q _ _ _=>k b ob q,fun b ob q _ _ _=>⟨ob.slots,k b ob q⟩,fun _ _ _ n _=>n,fun b ob q _=>⟨ob,k b ob q⟩,fun _ _ q=>q,fun _ _ _ q=>q,fun _ ps q=>⟨#[],by rw[q];simp⟩⟩
theorem Un.refl:Un fs ex H H h h:=Un.kept fun _ _ q=>q
theorem Un.laid (k:∀ b u,h.get? b=some u->h'.get? b=some u)(hp:h.objs.size<=a)(hn:H a=none):Un fs ex H (upd H a o) h h' where
 keep:=fun b u q _ _ _=>k b u q
 slot:=fun b u q _ _ _=>⟨u.slots,k b u q⟩
 free:=fun b u q n _=>by rw[aI (bo (ba (Heap.lt_size q) hp))];exact n
 there:=fun b u q _=>⟨u,k b u q⟩
 tups:=fun b xs q=>by rw[aI (dQ q hn)];exact q
 frzs:=fun b u xs q=>by rw[aI (dQ q hn)];exact q
 tbls:=fun b ps q=>⟨#[],by rw[aI (dQ q hn),q];simp⟩
theorem Un.write (mu:m7 (H x))(he:e=x\/H e=some (.own x))(k:∀ b u,b≠e->h.get? b=some u->h'.get? b=some u)(heo:∃ u,h'.get? e=some u):Un fs ex H (upd H x o) h h':=by
 have hx:∀ b,H b=none->b≠x:=fun b n z=>by subst z;rw[n] at mu;exact mu
 have hb:∀ b,H b=none->b≠e:=fun b n z=>by
  subst z;rcases he with r | r
  ·exact hx b n r
  ·rw[n] at r;cases r
 have hm:∀ b u,H b=some u->¬ m7 (some u)->b≠x:=fun b u q nm z=>by subst z;rw[q] at mu;exact nm mu
 refine⟨fun b u q n _ _=>k b u (hb b n) q,fun b u q n _ _=>⟨u.slots,k b u (hb b n) q⟩,fun b u q n _=>by rw[aI (hx b n)];exact n,fun b u q _=>?_,
  fun b xs q=>by rw[aI (hm b _ q fun z=>z)];exact q,fun b u xs q=>by rw[aI (hm b _ q fun z=>z)];exact q,fun b ps q=>⟨#[],by rw[aI (hm b _ q fun z=>z),q];simp⟩⟩
 by_cases hbe:b=e
 ·subst hbe;exact heo
 ·exact⟨u,k b u hbe q⟩
end
noncomputable def trk (h:Heap)(H:Hp):List Addr:=(List.range h.objs.size).filter fun a=>(H a).isSome
noncomputable def lP (h:Heap)(H:Hp):Heap:=PySem.W.hideAll h (trk h H)
theorem qN (h:Heap)(H:Hp):(lP h H).objs.size=h.objs.size:=PySem.W.hideAll_size _ _
theorem sJ {h:Heap}{H:Hp}{b:Addr}{o:Obj}(e:h.get? b=some o)(n:H b=none):(lP h H).get? b=some o :=
 PySem.W.hideAll_get _ e fun hm=>by
  have q:(H b).isSome=true:=(List.mem_filter.mp hm).2;rw[n] at q;simp at q
theorem wQ {h:Heap}{H:Hp}{b:Addr}{o:Obj}(e:(lP h H).get? b=some o):h.get? b=some o/\H b=none:=by
 have e':h.get? b=some o:=PySem.W.of_hideAll (trk h H) e;refine⟨e',?_⟩;cases q:H b with
 |none=>rfl
 |some x =>
  have hm:b∈trk h H:=List.mem_filter.mpr ⟨List.mem_range.mpr (Heap.lt_size e'),by simp[q]⟩;have z:(lP h H).get? b=none:=PySem.W.hideAll_none (trk h H) hm;rw[z] at e;cases e
noncomputable def xf (g h:Heap)(L:Addr):List (Addr×Obj):=(List.range h.objs.size).filterMap fun a=>if a=L\/(g.get? a).isSome=true then none else (h.get? a).map fun o=>(a,o)
noncomputable def rest (g h:Heap)(L d:Addr):List (Addr×Obj):=(xf g h L).filter fun p=>decide (p.1≠d)
end L2
namespace L2
open PySem PySem.Spec PyProof.Rows
structure Mod (K:PySem.W.Frag)(mg:Str->Option Value)(base:Heap):Prop where
 kin:K.In base
 glob:base.Ns mainGlobals mg
 blt:∃ mb,base.Ns builtinsNs mb/\∀ x:Str,x≠"__name__"->mb x=bootBuiltins x
 nolimit:base.NoLimit
structure Cx where
 prog:Program
 w:World
 K:PySem.W.Frag
 mg:Str->Option Value
 base:Heap
 A:Around
 N:List Str
 s₀:Shared
 H₀:Hp
 env:Env
 outer:List Env
 stack:List Env
 ex:List Addr
 fn:Str->Bool
 calm:Bool
 pn:List (Addr×Obj)
 xe:Value->Shared->Prop
noncomputable def ve (l:List Env):List Addr:=l.filterMap (·.frame)
noncomputable abbrev Cx.fs (X:Cx):List Addr:=ve X.outer
def Af (sc:Scope)(x:Str):Prop:=sc.names.lookup x=some .local\/sc.names.lookup x=some .cell\/sc.names.lookup x=some .free
def Loc (sc:Scope)(x:Str):Prop:=sc.names.lookup x=some .local\/sc.names.lookup x=some .cell
noncomputable def Look (env:Env)(h:Heap)(m:Str->Option Value)(x:Str)(u:Value):Prop :=
 (env.kindOf x=some .local/\m x=some u)\/((env.kindOf x=some .cell\/env.kindOf x=some .free)/\∃ c,env.cells.lookup x=some c/\h.IsCell c (some u))
structure Cx.Ok (X:Cx):Prop where
 mod:Mod X.K X.mg X.base
 kind:X.env.scope.kind = .function
 glob:X.env.globals=mainGlobals
 blt:X.env.builtins=builtinsNs
 above:X.s₀.heap.objs.size<=X.env.locals
 inj:∀ x y c,X.env.cells.lookup x=some c->X.env.cells.lookup y=some c->x=y
 has:∀ x,(X.env.kindOf x=some .cell\/X.env.kindOf x=some .free)->∃ c,X.env.cells.lookup x=some c
 cab:∀ x c,X.fn x=true->X.env.cells.lookup x=some c->X.s₀.heap.objs.size<=c
 hd:X.calm=true->X.A.handled=none
 frames:X.A.frames=some X.stack
 stk:X.stack=X.outer\/(X.stack=X.env::X.outer/\X.env.frame=some X.env.locals)
 exf:∀ b∈X.ex,b≠X.env.locals/\∀ x c,X.env.cells.lookup x=some c->c≠b
 bs:∀ b o,X.base.get? b=some o->X.s₀.heap.get? b=some o/\X.H₀ b=none
 bsz:X.base.objs.size<=X.s₀.heap.objs.size
 noex:∀ b o,X.base.get? b=some o->b∉X.ex
 exfs:∀ b∈X.ex,b∉X.fs
 funs:X.s₀.heap.FunFrames X.base X.outer
 frf:∀ b∈X.fs,X.H₀ b=none
structure Inv (X:Cx)(pins:List (Addr×Obj))(σ:List (Option V))(H:Hp)(s:Shared):Prop where
 ok:X.Ok
 os:s.os=X.s₀.os
 bare:AllBare s.gens
 base:Un X.fs X.ex X.H₀ H X.s₀.heap s.heap
 loc:∃ m,s.heap.Ns X.env.locals m/\∀(i:Nat) (x:Str) (v:V),X.N[i]? = some x->σ[i]? = some (some v)->Af X.env.scope x->∃ u,RelV v u/\Look X.env s.heap m x u
 cell:∀ x c,X.env.cells.lookup x=some c->∃ v,s.heap.IsCell c v
 free:H X.env.locals=none
 freeC:∀ x c,X.env.cells.lookup x=some c->H c=none
 pin:∀ p∈X.pn++pins,s.heap.get? p.1=some p.2/\H p.1=none/\p.1≠X.env.locals/\p.1∉X.fs/\∀ v,p.2.data≠.cell v
 hok:iw X.prog X.w H s.heap
 len:σ.length=X.N.length
section
variable {X:Cx}{pins:List (Addr×Obj)}{σ:List (Option V)}{H H':Hp}{s:Shared}{h':Heap}
theorem Cx.Ok.nofr (ok:X.Ok){b:Addr}{o:Obj}(e:X.base.get? b=some o):b∉X.fs:=fun hb=>by
 have:=(ok.funs.mem hb).1;rw[e] at this;cases this
theorem Inv.bs (I:Inv X pins σ H s):∀ b o,X.base.get? b=some o->s.heap.get? b=some o/\H b=none:=fun b o e =>
 ⟨I.base.keep b o (I.ok.bs b o e).1 (I.ok.bs b o e).2 (I.ok.nofr e) (I.ok.noex b o e),I.base.free b o (I.ok.bs b o e).1 (I.ok.bs b o e).2 (I.ok.noex b o e)⟩
theorem Inv.bk (I:Inv X pins σ H s):∀ b o,X.base.get? b=some o->s.heap.get? b=some o:=fun b o e=>(I.bs b o e).1
theorem Inv.mod (I:Inv X pins σ H s):Mod X.K X.mg X.base:=I.ok.mod
theorem Inv.kIn (I:Inv X pins σ H s):X.K.In s.heap:=I.ok.mod.kin.keeps I.bk
theorem Inv.lt (I:Inv X pins σ H s):X.env.locals<s.heap.objs.size:=let ⟨_,hn,_⟩:=I.loc;hn.lt
theorem Inv.sz (I:Inv X pins σ H s):X.s₀.heap.objs.size<=s.heap.objs.size:=bh I.ok.above (Nat.le_of_lt I.lt)
theorem Inv.nofs (I:Inv X pins σ H s){a:Addr}(h:s.heap.objs.size<=a):a∉X.fs:=fun hb=>by
 obtain⟨_,o,ho,_⟩:=I.ok.funs.mem hb;exact absurd (ba (Heap.lt_size ho) (bh I.sz h)) (c8 _)
theorem Inv.cne (I:Inv X pins σ H s):∀ x c,X.env.cells.lookup x=some c->c≠X.env.locals:=fun x c e z=>by
 obtain⟨v,o,ho,hd⟩:=I.cell x c e;obtain⟨m,⟨o',es,ep,ho',hd',_⟩,_⟩:=I.loc;rw[z,ho'] at ho;cases ho;rw[hd'] at hd;cases hd
theorem Inv.funs (I:Inv X pins σ H s):s.heap.FunFrames X.base X.outer:=by
 have all:∀(l:List Env),(∀ b∈ve l,b∈X.fs)->X.s₀.heap.FunFrames X.base l->s.heap.FunFrames X.base l:=by
  intro l
  induction l with
  |nil=>intro _ _;trivial
  |cons env r ih =>
   intro hs hl;obtain⟨hk,⟨L,o,hf,hn,ho,hd⟩,hr⟩:=hl;have hL:L∈X.fs:=hs L (by unfold ve;rw[List.filterMap_cons,hf];exact ai);obtain⟨sl,e⟩:=I.base.slot L o ho (I.ok.frf L hL) hL fun z=>I.ok.exfs L z hL
   exact⟨hk,⟨L,_,hf,hn,e,hd⟩,ih (fun b hb=>hs b (by unfold ve;rw[List.filterMap_cons,hf];exact ah _ hb)) hr⟩
 exact all X.outer (fun _ hb=>hb) I.ok.funs
theorem Inv.stack (I:Inv X pins σ H s):s.heap.FunFrames X.base X.stack:=by
 rcases I.ok.stk with e | ⟨e,hf⟩
 ·rw[e];exact I.funs
 ·rw[e];obtain⟨m,hn,_⟩:=I.loc;refine .cons (by rw[I.ok.kind];decide) hf hn ?_ I.funs;exact Heap.get?_none_of_le (bh I.ok.bsz I.ok.above)
theorem Inv.stkSub (I:Inv X pins σ H s):∀ b∈ve X.stack,b∈X.env.locals::X.fs:=fun b hb=>by
 rcases I.ok.stk with e | ⟨e,hf⟩
 ·rw[e] at hb;exact ah _ hb
 ·rw[e] at hb;unfold ve at hb;rw[List.filterMap_cons,hf] at hb;exact hb
theorem Inv.stkFree (I:Inv X pins σ H s):∀ b∈ve X.stack,H b=none:=fun b hb=>by
 rcases dz.mp (I.stkSub b hb) with e | hb
 ·rw[e];exact I.free
 ·obtain⟨_,o,ho,_⟩:=I.ok.funs.mem hb;exact I.base.free b o ho (I.ok.frf b hb) fun z=>I.ok.exfs b z hb
theorem Inv.step {g':Array GenState}{t':Nat}{d':Drawn}{ch:List Addr}(I:Inv X pins σ H s)
  (hch:∀ b∈ch,(b∈X.ex\/X.s₀.heap.objs.size<=b)/\b≠X.env.locals/\(∀ x c,X.env.cells.lookup x=some c->c≠b)/\∀ p∈X.pn++pins,p.1≠b)
  (keep:∀ b o,b≠X.env.locals->b∉X.fs->b∉ch->s.heap.get? b=some o->H b=none->h'.get? b=some o)
  (slot:∀ b o,b≠X.env.locals->b∈X.fs->b∉ch->s.heap.get? b=some o->H b=none->∃ sl,h'.get? b=some { o with slots:=sl }) (free:∀ b o,b∉ch->s.heap.get? b=some o->H b=none->H' b=none)
  (there:∀ b o,b∉ch->s.heap.get? b=some o->∃ o',h'.get? b=some o')
  (tups:∀ b xs,H b=some (.tup xs)->H' b=some (.tup xs)) (frzs:∀ b o u,H b=some (.frz o u)->H' b=some (.frz o u)) (tbls:∀ b ps,H b=some (.tbl ps)->∃ more,H' b=some (.tbl (ps++more)))
  (ns:∀ m,s.heap.Ns X.env.locals m->h'.Ns X.env.locals m) (hok:iw X.prog X.w H' h') (hg:AllBare g') :
  Inv X pins σ H' { s with heap:=h',gens:=g',drawn:=d',toks:=t' }:=by
 have neL:∀ b o,X.s₀.heap.get? b=some o->b≠X.env.locals:=fun b o e=>bo (ba (Heap.lt_size e) I.ok.above)
 have neC:∀ b o,X.s₀.heap.get? b=some o->b∉X.ex->b∉ch:=fun b o e hx hb=>by
  rcases (hch b hb).1 with z | z
  ·exact hx z
  ·exact absurd (ba (Heap.lt_size e) z) (c8 _)
 have cellK:∀ x c,X.env.cells.lookup x=some c->∀ v,s.heap.IsCell c v->h'.IsCell c v:=fun x c e v ⟨o,ho,hd⟩=>by
  have nch:c∉ch:=fun z=>(hch c z).2.2.1 x c e rfl
  by_cases hc:c∈X.fs
  ·obtain⟨sl,q⟩:=slot c o (I.cne x c e) hc nch ho (I.freeC x c e);exact⟨_,q,hd⟩
  ·exact⟨o,keep c o (I.cne x c e) hc nch ho (I.freeC x c e),hd⟩
 refine⟨I.ok,I.os,hg,⟨fun b o e n hb hx=>?_,fun b o e n hb hx=>?_,fun b o e n hx=>?_,fun b o e hx=>?_,fun b xs e=>tups b xs (I.base.tups b xs e),fun b o xs e=>frzs b o xs (I.base.frzs b o xs e),fun b ps e=>?_⟩,?_,fun x c e=>?_,?_,fun x c e=>?_,fun p hp=>?_,hok,I.len⟩
 ·exact keep b o (neL b o e) hb (neC b o e hx) (I.base.keep b o e n hb hx) (I.base.free b o e n hx)
 ·obtain⟨sl,e1⟩:=I.base.slot b o e n hb hx;obtain⟨sl',e2⟩:=slot b _ (neL b o e) hb (neC b o e hx) e1 (I.base.free b o e n hx);exact⟨sl',e2⟩
 ·obtain⟨o',e1⟩:=I.base.there b o e hx;exact free b o' (neC b o e hx) e1 (I.base.free b o e n hx)
 ·obtain⟨o',e1⟩:=I.base.there b o e hx;exact there b o' (neC b o e hx) e1
 ·obtain⟨m1,e1⟩:=I.base.tbls b ps e;obtain⟨m2,e2⟩:=tbls b _ e1;exact⟨m1++m2,by rw[e2,Array.append_assoc]⟩
 ·obtain⟨m,hn,hl⟩:=I.loc;refine⟨m,ns m hn,fun i x v e1 e2 e3=>?_⟩;obtain⟨u,r,l⟩:=hl i x v e1 e2 e3;refine⟨u,r,?_⟩;rcases l with l | ⟨k,c,e,z⟩
  ·exact .inl l
  ·exact .inr ⟨k,c,e,cellK x c e _ z⟩
 ·obtain⟨v,z⟩:=I.cell x c e;exact⟨v,cellK x c e v z⟩
 ·obtain⟨m,⟨o,_,_,ho,_⟩,_⟩:=I.loc;exact free _ o (fun z=>(hch _ z).2.1 rfl) ho I.free
 ·obtain⟨v,o,ho,hd⟩:=I.cell x c e;exact free c o (fun z=>(hch c z).2.2.1 x c e rfl) ho (I.freeC x c e)
 ·obtain⟨e,n,ne,nf,d⟩:=I.pin p hp;have nch:p.1∉ch:=fun z=>(hch p.1 z).2.2.2 p hp rfl
  exact⟨keep p.1 p.2 ne nf nch e n,free p.1 p.2 nch e n,ne,nf,d⟩
theorem Inv.un {t':Nat}(I:Inv X pins σ H s)(u:Un X.fs [] H H' s.heap h')(hok:iw X.prog X.w H' h'):Inv X pins σ H' { s with heap:=h',toks:=t' }:=by
 obtain⟨m,⟨o,es,ep,ho,r⟩,_⟩:=id I.loc;obtain⟨sl,hL⟩:=u.any ho I.free (by simp);exact I.step (g':=s.gens) (d':=s.drawn) (ch:=[]) (fun _ z=>nomatch z) (fun b o _ hb _ e n=>u.keep b o e n hb (by simp)) (fun b o _ hb _ e n=>u.slot b o e n hb (by simp)) (fun b o _ e n=>u.free b o e n (by simp)) (fun b o _ e=>u.there b o e (by simp)) u.tups u.frzs u.tbls (fun m' hm=>by
  obtain⟨o',es',ep',ho',r'⟩:=hm;rw[ho] at ho';cases ho';exact⟨_,es',ep',hL,r'⟩) hok I.bare
theorem Inv.call {g':Array GenState}{t':Nat}{d':Drawn}{ch:List Addr}(I:Inv X pins σ H s)(u:Un (ve X.stack) ch H H' s.heap h')(hok:iw X.prog X.w H' h')(hg:AllBare g')
  (hch:∀ b∈ch,(b∈X.ex\/X.s₀.heap.objs.size<=b)/\b≠X.env.locals/\(∀ x c,X.env.cells.lookup x=some c->c≠b)/\∀ p∈X.pn++pins,p.1≠b) :
  Inv X pins σ H' { s with heap:=h',gens:=g',drawn:=d',toks:=t' }:=by
 obtain⟨m,⟨o,es,ep,ho,r⟩,_⟩:=id I.loc;obtain⟨sl,hL⟩:=u.any ho I.free fun z=>(hch _ z).2.1 rfl
 exact I.step (ch:=ch) hch (fun b o hL hb hc e n=>u.keep b o e n (fun z=>(dz.mp (I.stkSub b z)).elim hL hb) hc) (fun b o _ _ hc e n=>u.any e n hc) (fun b o hc e n=>u.free b o e n hc) (fun b o hc e=>u.there b o e hc) u.tups u.frzs u.tbls (fun m' hm=>by
  obtain⟨o',es',ep',ho',r'⟩:=hm;rw[ho] at ho';cases ho';exact⟨_,es',ep',hL,r'⟩) hok hg
theorem Inv.turned {t':Nat}{it:Addr}(I:Inv X pins σ H s)(k:∀ b o,b≠it->s.heap.get? b=some o->h'.get? b=some o)(hn:H it=none)(hL:it≠X.env.locals)
  (h1:it∈X.ex\/X.s₀.heap.objs.size<=it) (h2:∀ x c,X.env.cells.lookup x=some c->c≠it) (h3:∀ p∈X.pn++pins,p.1≠it):Inv X pins σ H { s with heap:=h',toks:=t' }:=by
 have nit:∀ b u,H b=some u->b≠it:=fun b u e z=>by rw[z,hn] at e;cases e
 refine I.step (g':=s.gens) (d':=s.drawn) (ch:=[it]) (fun b hb=>?_) (fun b o _ _ hc e _=>k b o (fun z=>hc (by simp[z])) e) (fun b o _ _ hc e _=>⟨o.slots,k b o (fun z=>hc (by simp[z])) e⟩) (fun _ _ _ _ n=>n)
  (fun b o hc e=>⟨o,k b o (fun z=>hc (by simp[z])) e⟩) (fun _ _ e=>e) (fun _ _ _ e=>e) (fun b ps e=>⟨#[],by rw[e];simp⟩) (fun m hm=>?_) (fun b u e=>?_) I.bare
 ·have e:b=it:=by simpa using hb
  subst e;exact⟨h1,hL,h2,h3⟩
 ·obtain⟨o,es,ep,ho,r⟩:=hm;exact⟨o,es,ep,k _ o (da hL) ho,r⟩
 ·refine (I.hok b u e).stay (fun c v hc q=>k c v ?_ q) (fun _ q=>q) fun _ _ q=>q
  rcases hc with z | z
  ·rw[z];exact nit b u e
  ·exact nit c _ z
theorem Inv.tok (I:Inv X pins σ H s)(t:Nat):Inv X pins σ H { s with toks:=t }:=I.un (h':=s.heap) (t':=t) Un.refl I.hok
theorem Inv.kept {t':Nat}(I:Inv X pins σ H s)(k:∀ b u,s.heap.get? b=some u->h'.get? b=some u):Inv X pins σ H { s with heap:=h',toks:=t' }:=I.un (Un.kept k) (I.hok.kept k)
theorem Inv.laid {a:Addr}{o:HO}{t':Nat}(I:Inv X pins σ H s)(k:∀ b u,s.heap.get? b=some u->h'.get? b=some u)(hp:s.heap.objs.size<=a)(new:cJ X.prog X.w (upd H a o) h' a o) :
  Inv X pins σ (upd H a o) { s with heap:=h',toks:=t' }:=I.un (Un.laid k hp (I.hok.fresh hp)) (I.hok.laid k hp new)
theorem Inv.write {x e:Addr}{o:HO}{t':Nat}(I:Inv X pins σ H s)(mu:m7 (H x))(he:e=x\/H e=some (.own x))(k:∀ b u,b≠e->s.heap.get? b=some u->h'.get? b=some u)(heo:∃ u,h'.get? e=some u)
  (new:cJ X.prog X.w (upd H x o) h' x o):Inv X pins σ (upd H x o) { s with heap:=h',toks:=t' }:=I.un (Un.write mu he k heo) (I.hok.write mu he k heo new)
theorem Inv.weak {σ':List (Option V)}(I:Inv X pins σ H s)(hl:σ'.length=σ.length)(w:∀(i:Nat) v,σ'[i]? = some (some v)->σ[i]? = some (some v)):Inv X pins σ' H s :=
 ⟨I.ok,I.os,I.bare,I.base,let ⟨m,hn,hl'⟩:=I.loc;⟨m,hn,fun i x v e1 e2 e3=>hl' i x v e1 (w i v e2) e3⟩,I.cell,I.free,I.freeC,I.pin,I.hok,hl.trans I.len⟩
theorem Inv.pins_of {pins':List (Addr×Obj)}(I:Inv X pins σ H s)(h:∀ p∈pins',s.heap.get? p.1=some p.2/\H p.1=none/\p.1≠X.env.locals/\p.1∉X.fs/\∀ v,p.2.data≠.cell v):Inv X pins' σ H s :=
 ⟨I.ok,I.os,I.bare,I.base,I.loc,I.cell,I.free,I.freeC,fun p hp=>(List.mem_append.mp hp).elim (fun z=>I.pin p (az _ z)) (h p),I.hok,I.len⟩
theorem mM {N:List Str}(hN:N.Nodup){i j:Nat}{x:Str}(a:N[i]? = some x)(b:N[j]? = some x):i=j:=by
 obtain⟨h1,e1⟩:=List.getElem?_eq_some_iff.mp a;obtain⟨h2,e2⟩:=List.getElem?_eq_some_iff.mp b;exact (List.getElem_inj hN).mp (e1.trans e2.symm)
theorem qU {M:Model}{A:Around}{E:Value->Shared->Prop}{i:Nat}{x:Str}{v:V}{u:Value}{Q:Unit->Shared->Prop}(I:Inv X pins σ H s)(hN:X.N.Nodup)(hi:X.N[i]? = some x)(hx:Loc X.env.scope x)(r:RelV v u)
  (h:∀ s',Inv X pins (σ.set i (some v)) H s'->(∃ a,Heap.SameBut a s.heap s'.heap/\(a=X.env.locals\/X.env.cells.lookup x=some a))->Q () s') (hf:X.fn x=true\/X.env.scope.names.lookup x=some .local:=by first | exact .inl rfl | exact .inr rfl | assumption):wpAny M A (storeName X.env x u) Q E s:=by
 obtain⟨m,hn,hl⟩:=id I.loc;have hcls:(X.env.scope.kind == .class || (X.env.scope.kind == .module&&X.env.locals != X.env.globals))=false:=by rw[I.ok.kind];rfl
 have hiσ:i<σ.length:=by rw[I.len];exact (List.getElem?_eq_some_iff.mp hi).1
 have cne:=I.cne;have tracked:∀{a:Addr}{h':Heap},(∃ o,s.heap.get? a=some o/\H a=none)->Heap.SameBut a s.heap h'->iw X.prog X.w H h':=fun {a h'} ha hs b ob e=>by
  obtain⟨_,_,hfree⟩:=ha;refine (I.hok b ob e).stay (fun c w' hc q=>(hs.2 c ?_).trans q) (fun _ q=>q) fun _ _ q=>q
  rintro rfl;rcases hc with rfl | hc
  ·rw[hfree] at e;cases e
  ·rw[hfree] at hc;cases hc
 rcases hx with hk | hk
 ·refine wpAny_storeName_local hk hn (fun h' hn' hs=>?_) hcls;obtain⟨oL,_,_,hoL,_⟩:=id hn;refine h _ ⟨I.ok,I.os,I.bare,⟨fun b o e n hb hx=>?_,fun b o e n hb hx=>?_,I.base.free,fun b o e hx=>?_,I.base.tups,I.base.frzs,I.base.tbls⟩,⟨_,hn',fun j y v' e1 e2 e3=>?_⟩,fun y c e=>?_,I.free,I.freeC,fun p hp=>?_,tracked ⟨oL,hoL,I.free⟩ hs,by simpa using I.len⟩ ⟨_,hs,.inl rfl⟩
  ·exact (hs.2 b (bo (ba (Heap.lt_size e) I.ok.above))).trans (I.base.keep b o e n hb hx)
  ·obtain⟨sl,e1⟩:=I.base.slot b o e n hb hx;exact⟨sl,(hs.2 b (bo (ba (Heap.lt_size e) I.ok.above))).trans e1⟩
  ·obtain⟨o',e1⟩:=I.base.there b o e hx;exact⟨o',(hs.2 b (bo (ba (Heap.lt_size e) I.ok.above))).trans e1⟩
  ·by_cases hj:j=i
   ·subst hj;rw[hi] at e1;cases e1;rw[List.getElem?_set_self hiσ] at e2;cases e2;exact⟨u,r,.inl ⟨hk,by simp⟩⟩
   ·rw[List.getElem?_set_ne (da hj)] at e2;obtain⟨u',r',q⟩:=hl j y v' e1 e2 e3;refine⟨u',r',?_⟩;rcases q with ⟨k,e⟩ | ⟨k,c,e,z⟩
    ·refine .inl ⟨k,?_⟩;have:y≠x:=fun e=>hj (mM hN e1 (e ▸ hi))
     simp[this,e]
    ·exact .inr ⟨k,c,e,z.sameBut hs (cne y c e)⟩
  ·obtain⟨w',z⟩:=I.cell y c e;exact⟨w',z.sameBut hs (cne y c e)⟩
  ·obtain⟨e,n,ne,nf,d⟩:=I.pin p hp;exact⟨(hs.2 p.1 ne).trans e,n,ne,nf,d⟩
 ·have hfn:X.fn x=true:=by
   rcases hf with z | z
   ·exact z
   ·rw[z] at hk;cases hk
  obtain⟨c,hc⟩:=I.ok.has x (.inl hk);obtain⟨w',z⟩:=I.cell x c hc;refine wpAny_storeName_cell I.ok.kind hk hc z (fun h' hc' hs=>?_);obtain⟨oc,hoc,hocd⟩:=id z;refine h { s with heap:=h' } ⟨I.ok,I.os,I.bare,⟨fun b o e n hb hx=>?_,fun b o e n hb hx=>?_,I.base.free,fun b o e hx=>?_,I.base.tups,I.base.frzs,I.base.tbls⟩,⟨m,hn.sameBut hs (Ne.symm (cne x c hc)),fun j y v' e1 e2 e3=>?_⟩,fun y c' e=>?_,I.free,I.freeC,fun p hp=>?_,tracked ⟨oc,hoc,I.freeC x c hc⟩ hs,by simpa using I.len⟩ ⟨c,hs,.inr hc⟩
  ·exact (hs.2 b (bo (ba (Heap.lt_size e) (I.ok.cab x c hfn hc)))).trans (I.base.keep b o e n hb hx)
  ·obtain⟨sl,e1⟩:=I.base.slot b o e n hb hx;exact⟨sl,(hs.2 b (bo (ba (Heap.lt_size e) (I.ok.cab x c hfn hc)))).trans e1⟩
  ·obtain⟨o',e1⟩:=I.base.there b o e hx;exact⟨o',(hs.2 b (bo (ba (Heap.lt_size e) (I.ok.cab x c hfn hc)))).trans e1⟩
  ·by_cases hj:j=i
   ·subst hj;rw[hi] at e1;cases e1;rw[List.getElem?_set_self hiσ] at e2;cases e2;exact⟨u,r,.inr ⟨.inl hk,c,hc,hc'⟩⟩
   ·rw[List.getElem?_set_ne (da hj)] at e2;obtain⟨u',r',q⟩:=hl j y v' e1 e2 e3;refine⟨u',r',?_⟩;rcases q with q | ⟨k,c',e,z'⟩
    ·exact .inl q
    ·refine .inr ⟨k,c',e,z'.sameBut hs ?_⟩;rintro rfl;exact hj (mM hN e1 (I.ok.inj _ _ _ e hc ▸ hi))
  ·by_cases hcc:c'=c
   ·subst hcc;exact⟨_,hc'⟩
   ·obtain⟨w2,z2⟩:=I.cell y c' e;exact⟨w2,z2.sameBut hs hcc⟩
  ·obtain⟨e,n,ne,nf,d⟩:=I.pin p hp;refine⟨(hs.2 p.1 ?_).trans e,n,ne,nf,d⟩;intro q;rw[q,hoc] at e;have q':oc=p.2:=bp e;exact d w' (by rw[<-q'];exact hocd)
theorem jx {M:Model}{A:Around}{E:Value->Shared->Prop}{i:Nat}{x:Str}{v:V}{u:Value}{Q:Unit->Shared->Prop}(I:Inv X pins σ H s)(hN:X.N.Nodup)(hi:X.N[i]? = some x)(hx:Loc X.env.scope x)(r:RelV v u)
  (h:∀ s',Inv X pins (σ.set i (some v)) H s'->Q () s') (hf:X.fn x=true\/X.env.scope.names.lookup x=some .local:=by first | exact .inl rfl | exact .inr rfl | assumption):wpAny M A (storeName X.env x u) Q E s :=
 qU I hN hi hx r (fun s' I' _=>h s' I') hf
theorem Inv.call' {s':Shared}{ch:List Addr}(I:Inv X pins σ H s)(ho:s'.os=s.os)(u:Un (ve X.stack) ch H H' s.heap s'.heap)(hok:iw X.prog X.w H' s'.heap)(hg:AllBare s'.gens)
  (hch:∀ b∈ch,(b∈X.ex\/X.s₀.heap.objs.size<=b)/\b≠X.env.locals/\(∀ x c,X.env.cells.lookup x=some c->c≠b)/\∀ p∈X.pn++pins,p.1≠b):Inv X pins σ H' s':=by
 obtain⟨h',g',d',t',o'⟩:=s';have e:o'=s.os:=ho;subst e;exact I.call (g':=g') (t':=t') (d':=d') u hok hg hch
end
noncomputable abbrev XK:=Value->Option Addr->Hp->Prop
noncomputable abbrev St:=List (Option V)
noncomputable abbrev VK:=V->Hp->Prop
noncomputable abbrev TE:=St->Hp->VK->Prop
noncomputable abbrev TT:=St->Hp->(Bool->Hp->Prop)->Prop
noncomputable abbrev TA:=St->Hp->(List V->Hp->Prop)->Prop
structure Ends where
 nx:St->Hp->Prop
 rt:VK
 bk:St->Hp->Prop:=fun _ _=>False
 ct:St->Hp->Prop:=fun _ _=>False
noncomputable abbrev TS:=Ends->St->Hp->Prop
def EP (X:Cx)(pins:List (Addr×Obj))(σ:St)(Q:VK)(u:Value)(s':Shared):Prop:=∃ v H',Inv X pins σ H' s'/\RelV v u/\Q v H'
def TP (X:Cx)(pins:List (Addr×Obj))(σ:St)(Q:Bool->Hp->Prop)(b:Bool)(s':Shared):Prop:=∃ H',Inv X pins σ H' s'/\Q b H'
def AP (X:Cx)(pins:List (Addr×Obj))(σ:St)(Q:List V->Hp->Prop)(us:List Value)(s':Shared):Prop:=∃ vs H',Inv X pins σ H' s'/\aJ vs us/\Q vs H'
noncomputable def SP (X:Cx)(pins:List (Addr×Obj))(D:Ends)(f:Flow)(s':Shared):Prop :=
 match f with
 |.next=>∃ σ' H',Inv X pins σ' H' s'/\D.nx σ' H'
 |.brk=>∃ σ' H',Inv X pins σ' H' s'/\D.bk σ' H'
 |.cont=>∃ σ' H',Inv X pins σ' H' s'/\D.ct σ' H'
 |.ret u=>∃ v σ' H',Inv X pins σ' H' s'/\RelV v u/\D.rt v H'
noncomputable def PE (X:Cx)(e:Expr)(t:TE):Prop :=
 ∀(pins:List (Addr×Obj)) (s:Shared) (σ:St) (H:Hp) (Q:VK),Inv X pins σ H s->t σ H Q->wpAny (model X.prog X.w) X.A (eval e X.env) (EP X pins σ Q) X.xe s
noncomputable def PT (X:Cx)(e:Expr)(t:TT):Prop :=
 ∀(pins:List (Addr×Obj)) (s:Shared) (σ:St) (H:Hp) (Q:Bool->Hp->Prop),Inv X pins σ H s->t σ H Q->wpAny (model X.prog X.w) X.A (isTrue e X.env (eval e X.env)) (TP X pins σ Q) X.xe s
noncomputable def PW (X:Cx)(e:Expr)(t:TT):Prop :=
 ∀(whole:Sem Value) (pins:List (Addr×Obj)) (s:Shared) (σ:St) (H:Hp) (Q:Bool->Hp->Prop),Inv X pins σ H s->t σ H Q->wpAny (model X.prog X.w) X.A (isTrue e X.env whole) (TP X pins σ Q) X.xe s
theorem PW.pt {X:Cx}{e:Expr}{t:TT}(h:PW X e t):PT X e t:=h _
noncomputable def PA (X:Cx)(es:List Expr)(t:TA):Prop :=
 ∀(pos:Pos) (pins:List (Addr×Obj)) (s:Shared) (σ:St) (H:Hp) (Q:List V->Hp->Prop),Inv X pins σ H s->t σ H Q->wpAny (model X.prog X.w) X.A (spliced (backTo pos (starEach es X.env))) (AP X pins σ Q) X.xe s
noncomputable def PS (X:Cx)(st:Stmt)(t:TS):Prop :=
 ∀(pins:List (Addr×Obj)) (s:Shared) (σ:St) (H:Hp) (D:Ends),Inv X pins σ H s->t D σ H->wpAny (model X.prog X.w) X.A (exec st X.env) (SP X pins D) X.xe s
noncomputable def j9 (X:Cx)(st:List Stmt)(t:TS):Prop :=
 ∀(pins:List (Addr×Obj)) (s:Shared) (σ:St) (H:Hp) (D:Ends),Inv X pins σ H s->t D σ H->wpAny (model X.prog X.w) X.A (execs st X.env) (SP X pins D) X.xe s
theorem bM {α:Type}{t:Sem α}{Q Q':α->Shared->Prop}{M:Model}{A:Around}{E:Value->Shared->Prop}{s:Shared}(h:wpAny M A t Q E s)(hQ:∀ a s,Q a s->Q' a s):wpAny M A t Q' E s:=wpAny_mono h hQ fun _ _ x=>x
end L2
namespace L2
open PySem PySem.Spec PyProof.Rows
section
variable {X:Cx}
def tVar (i:Nat):TE:=fun σ H Q=>∃ v,σ[i]? = some (some v)/\Q v H
def tC (v:V):TE:=fun _ H Q=>Q v H
theorem tQ {i:Nat}{x:Str}{pos:Pos}(hN:X.N[i]? = some x)(hv:Af X.env.scope x)(hd:(x==("__debug__" : Str))=false:=by decide) (hcd:(x==("__classdict__" : Str))=false:=by decide):PE X (.Name x pos) (tVar i):=by
 intro pins s σ H Q I h;obtain⟨v,e,h⟩:=h;obtain⟨m,hn,hl⟩:=I.loc;obtain⟨u,r,l⟩:=hl i x v hN e hv;have fin:EP X pins σ Q u s:=⟨v,H,I,r,h⟩;rcases l with ⟨hk,hm⟩ | ⟨hk,c,hc,hcell⟩
 ·exact wpAny_Name (wpAny_loadName_local I.ok.kind hk hn hm fin) hd
 ·rcases hk with hk | hk
  ·exact wpAny_Name (wpAny_loadName_cell I.ok.kind hk hc hcell fin) hd
  ·exact wpAny_Name (wpAny_loadName_free I.ok.kind hk hc hcell fin hcd) hd
theorem oE {i j pos}:PE X (.Constant (.int i) j pos) (tC (.int i)):=fun _ _ _ H _ I h=>wpAny_Constant_int ⟨.int i,H,I.tok _,⟨_,rfl⟩,h⟩
theorem x9 {b j pos}:PE X (.Constant (.bool b) j pos) (tC (.bl b)):=fun _ _ _ H _ I h=>Constant_bool ⟨.bl b,H,I,rfl,h⟩
theorem r8 {j pos}:PE X (.Constant .none j pos) (tC .non):=fun _ _ _ H _ I h=>Constant_none ⟨.non,H,I,rfl,h⟩
theorem tD {x j pos}:PE X (.Constant (.str x) j pos) (tC (.str x)):=fun _ _ _ H _ I h=>Calls.Constant_str ⟨.str x,H,I.tok _,⟨_,rfl⟩,h⟩
def Gl (X:Cx)(x:Str):Prop:=X.env.kindOf x=some .globalImplicit
theorem me {E:Value->Shared->Prop}{pins:List (Addr×Obj)}{s:Shared}{σ:St}{H:Hp}{x:Str}{u:Value}{pos:Pos}{Q:Value->Shared->Prop}(I:Inv X pins σ H s)(hg:Gl X x)(hm:X.mg x=some u)(h:Q u s)
  (hd:(x==("__debug__" : Str))=false:=by decide):wpAny (model X.prog X.w) X.A (eval (.Name x pos) X.env) Q E s :=
 Calls.Name_function_global I.ok.kind hg (Calls.loadGlobal_global (by rw[I.ok.glob];exact I.mod.glob.keeps I.bk) hm h) hd
theorem j5 {E:Value->Shared->Prop}{pins:List (Addr×Obj)}{s:Shared}{σ:St}{H:Hp}{x:Str}{u:Value}{pos:Pos}{Q:Value->Shared->Prop}(I:Inv X pins σ H s)(hg:Gl X x)(hm:X.mg x=none)(hv:bootBuiltins x=some u)(h:Q u s)
  (hn:x≠"__name__":=by decide) (hd:(x==("__debug__" : Str))=false:=by decide):wpAny (model X.prog X.w) X.A (eval (.Name x pos) X.env) Q E s:=by
 obtain⟨mb,h1,h2⟩:=I.mod.blt;exact Calls.Name_function_global I.ok.kind hg (Calls.loadGlobal_builtin (by rw[I.ok.glob];exact I.mod.glob.keeps I.bk) hm (by rw[I.ok.blt];exact h1.keeps I.bk) ((h2 x hn).trans hv) h) hd
theorem pY {x:Str}{v:V}{u:Value}{pos:Pos}(hg:Gl X x)(hm:X.mg x=some u)(r:RelV v u)(hd:(x==("__debug__" : Str))=false:=by decide):PE X (.Name x pos) (tC v) :=
 fun _ _ _ H _ I h=>me I hg hm ⟨v,H,I,r,h⟩ hd
theorem wH {x:Str}{v:V}{u:Value}{pos:Pos}(hg:Gl X x)(hm:X.mg x=none)(hv:bootBuiltins x=some u)(r:RelV v u)(hn:x≠"__name__":=by decide) (hd:(x==("__debug__" : Str))=false:=by decide):PE X (.Name x pos) (tC v) :=
 fun _ _ _ H _ I h=>j5 I hg hm hv ⟨v,H,I,r,h⟩ hn hd
variable {a b:Expr}{ta tb:TE}{pos:Pos}
variable {tA tB':TT}{rest:List Expr}
def tAnd (t u:TT):TT:=fun σ H Q=>t σ H fun c H1=>if c=true then u σ H1 Q else Q false H1
def tOr (t u:TT):TT:=fun σ H Q=>t σ H fun c H1=>if c=true then Q true H1 else u σ H1 Q
def tNot (t:TT):TT:=fun σ H Q=>t σ H fun c H1=>Q (!c) H1
theorem vW (ha:PT X a tA):PW X (.BoolOp .And [a] pos) tA:=by
 intro wh pins s σ H Q I h;refine isTrue_and (bM (ha pins s σ H Q I h) fun c s1 e=>?_);cases c with
 |true=>exact isTrue_and_nil e
 |false=>exact e
theorem yU (ha:PT X a tA):PW X (.BoolOp .Or [a] pos) tA:=by
 intro wh pins s σ H Q I h;refine isTrue_or (bM (ha pins s σ H Q I h) fun c s1 e=>?_);cases c with
 |false=>exact isTrue_or_nil e
 |true=>exact e
theorem ya (ha:PT X a tA)(hb:PW X (.BoolOp .And (b::rest) pos) tB'):PW X (.BoolOp .And (a::b::rest) pos) (tAnd tA tB'):=by
 intro wh pins s σ H Q I h;refine isTrue_and (bM (ha pins s σ H _ I h) fun c s1 ⟨H1,I1,q1⟩=>?_);cases c with
 |true=>exact hb wh pins s1 σ H1 Q I1 q1
 |false=>exact⟨H1,I1,q1⟩
theorem BP (ha:PT X a tA)(hb:PW X (.BoolOp .Or (b::rest) pos) tB'):PW X (.BoolOp .Or (a::b::rest) pos) (tOr tA tB'):=by
 intro wh pins s σ H Q I h;refine isTrue_or (bM (ha pins s σ H _ I h) fun c s1 ⟨H1,I1,q1⟩=>?_);cases c with
 |true=>exact⟨H1,I1,q1⟩
 |false=>exact hb wh pins s1 σ H1 Q I1 q1
theorem ym (ha:PT X a tA):PT X (.UnaryOp .Not a pos) (tNot tA):=by
 intro pins s σ H Q I h;exact isTrue_not (ha pins s σ H (fun c H1=>Q (!c) H1) I h)
def AZ (ta tb:TE):TE:=fun σ H Q=>ta σ H fun x H1=>∃ c,x = .bl c/\if c=true then tb σ H1 Q else Q (.bl false) H1
def tOrV (ta tb:TE):TE:=fun σ H Q=>ta σ H fun x H1=>∃ c,x = .bl c/\if c=true then Q (.bl true) H1 else tb σ H1 Q
def Cu (ta:TE):TE:=fun σ H Q=>ta σ H fun x H1=>∃ c,x = .bl c/\Q (.bl (!c)) H1
theorem yR {op}{t:TE}(h:PE X a t):PE X (.BoolOp op [a] pos) t:=fun pins s σ H Q I hw=>BoolOp_one (h pins s σ H Q I hw)
theorem zN (ha:PE X a ta)(hb:PE X (.BoolOp .And (b::rest) pos) tb):PE X (.BoolOp .And (a::b::rest) pos) (AZ ta tb):=by
 intro pins s σ H Q I h;refine BoolOp_and (bM (ha pins s σ H _ I h) fun v s1 ⟨x,H1,I1,r1,q1⟩=>?_);obtain⟨c,rfl,q1⟩:=q1;cases r1;refine wpAny_truthy_bool ?_;cases c with
 |true=>exact hb pins s1 σ H1 Q I1 q1
 |false=>exact⟨.bl false,H1,I1,rfl,q1⟩
theorem BL (ha:PE X a ta)(hb:PE X (.BoolOp .Or (b::rest) pos) tb):PE X (.BoolOp .Or (a::b::rest) pos) (tOrV ta tb):=by
 intro pins s σ H Q I h;refine BoolOp_or (bM (ha pins s σ H _ I h) fun v s1 ⟨x,H1,I1,r1,q1⟩=>?_);obtain⟨c,rfl,q1⟩:=q1;cases r1;refine wpAny_truthy_bool ?_;cases c with
 |false=>exact hb pins s1 σ H1 Q I1 q1
 |true=>exact⟨.bl true,H1,I1,rfl,q1⟩
theorem z9 (ha:PE X a ta):PE X (.UnaryOp .Not a pos) (Cu ta):=by
 intro pins s σ H Q I h;refine UnaryOp_ (bM (ha pins s σ H _ I h) fun v s1 ⟨x,H1,I1,r1,q1⟩=>?_);obtain⟨c,rfl,q1⟩:=q1;cases r1;exact not_of (wpAny_truthy_bool ⟨.bl (!c),H1,I1,rfl,q1⟩)
def tIf (t:TT)(ta tb:TE):TE:=fun σ H Q=>t σ H fun c H1=>if c=true then ta σ H1 Q else tb σ H1 Q
theorem tG {c:Expr}(hc:PT X c tA)(ha:PE X a ta)(hb:PE X b tb):PE X (.IfExp c a b pos) (tIf tA ta tb):=by
 intro pins s σ H Q I h;refine wpAny_IfExp (bM (hc pins s σ H _ I h) fun d s1 ⟨H1,I1,q1⟩=>?_);cases d with
 |true=>exact ha pins s1 σ H1 Q I1 q1
 |false=>exact hb pins s1 σ H1 Q I1 q1
end
end L2
namespace L2
open PySem PySem.Spec PyProof.Rows
noncomputable def ke (K:PySem.W.Frag)(H:Hp)(a:Addr)(xs:List V):Prop :=
 Rd H a (.lst xs) \/
  ∃(o:Obj) (its:Array Value) (n:Nat),K.lookup a=some o/\o.cls = .type "list"/\o.dict=none/\o.data = .seq its n/\its.size<=sizeLine/\aJ xs its.toList
noncomputable def g8 (K:PySem.W.Frag)(H:Hp)(a:Addr)(xs:List V):Prop :=
 Rd H a (.tup xs) \/
  ∃(o:Obj) (its:Array Value) (n:Nat),K.lookup a=some o/\o.cls = .type "tuple"/\o.data = .seq its n/\its.size<=sizeLine/\aJ xs its.toList
noncomputable def absV:Value->Option V
 |.none=>some .non
 |.bool b=>some (.bl b)
 |.int i _=>some (.int i)
 |.str x _=>some (.str x)
 |.bytes b _=>some (.byt b)
 |.float b _=>some (.flt b)
 |.ref a=>some (.ref a)
 |.type n=>some (.ty n)
 |_=>none
theorem RelV.abs {x:V}{u:Value}(r:RelV x u):absV u=some x:=by
 cases x with
 |non=>cases r;rfl
 |bl _=>cases r;rfl
 |int _=>obtain⟨t,rfl⟩:=r;rfl
 |str _=>obtain⟨t,rfl⟩:=r;rfl
 |byt _=>obtain⟨t,rfl⟩:=r;rfl
 |flt _=>obtain⟨t,rfl⟩:=r;rfl
 |ref _=>cases r;rfl
 |ty _=>cases r;rfl
theorem RelV.inj {x y:V}{u:Value}(r:RelV x u)(q:RelV y u):x=y:=bp (r.abs.symm.trans q.abs)
theorem aJ.inj:∀{xs ys:List V}{us:List Value},aJ xs us->aJ ys us->xs=ys
 |_,_,_,.nil,.nil=>rfl
 |_,_,_,.cons r t,.cons r' t'=>by rw[r.inj r',aJ.inj t t']
section
variable {X:Cx}{pins:List (Addr×Obj)}{σ:St}{H:Hp}{s:Shared}{a:Addr}{xs ys:List V}
theorem Inv.list (I:Inv X pins σ H s)(h:ke X.K H a xs):∃ its:List Value,aJ xs its/\PlainL s.heap a its.toArray/\xs.length<=sizeLine:=by
 rcases h with h | ⟨o,its,n,hk,hc,hd,hs,hz,r⟩
 ·obtain⟨z,its,n,r,e⟩:=h.ok I.hok;exact⟨its,r,⟨_,n,e,rfl,rfl,rfl⟩,z⟩
 ·refine⟨its.toList,r,⟨o,n,I.kIn a o hk,hc,hd,by simpa using hs⟩,?_⟩;have e:=r.length;simp only[Array.length_toList] at e;omega
theorem Inv.tuple (I:Inv X pins σ H s)(h:g8 X.K H a xs):∃ its:List Value,aJ xs its/\IsTup s.heap a its.toArray/\xs.length<=sizeLine:=by
 rcases h with h | ⟨o,its,n,hk,hc,hs,hz,r⟩
 ·obtain⟨z,its,r,p⟩:=h.ok I.hok;exact⟨its,r,p,z⟩
 ·refine⟨its.toList,r,⟨o,I.kIn a o hk,hc,n,by simpa using hs⟩,?_⟩;have e:=r.length;simp only[Array.length_toList] at e;omega
theorem Inv.list_inj (I:Inv X pins σ H s)(h:ke X.K H a xs)(h':ke X.K H a ys):xs=ys:=by
 obtain⟨its,r,⟨o,n,e,_,_,d⟩,_⟩:=I.list h;obtain⟨its',r',⟨o',n',e',_,_,d'⟩,_⟩:=I.list h';rw[e] at e';cases e';rw[d] at d';injection d' with d1 _
 have:its=its':=by simpa using congrArg Array.toList d1
 subst this;exact r.inj r'
theorem Inv.tuple_inj (I:Inv X pins σ H s)(h:g8 X.K H a xs)(h':g8 X.K H a ys):xs=ys:=by
 obtain⟨its,r,⟨o,e,_,n,d⟩,_⟩:=I.tuple h;obtain⟨its',r',⟨o',e',_,n',d'⟩,_⟩:=I.tuple h';rw[e] at e';cases e';rw[d] at d';injection d' with d1 _
 have:its=its':=by simpa using congrArg Array.toList d1
 subst this;exact r.inj r'
end
noncomputable abbrev Cx.wish (X:Cx)(E:Value->Shared->Prop):Cx:={ X with xe:=E }
noncomputable abbrev Cx.nox (X:Cx):Cx:=X.wish fun _ _=>False
theorem Cx.Ok.wish {X:Cx}(ok:X.Ok)(E:Value->Shared->Prop):(X.wish E).Ok :=
 ⟨ok.mod,ok.kind,ok.glob,ok.blt,ok.above,ok.inj,ok.has,ok.cab,ok.hd,ok.frames,ok.stk,ok.exf,ok.bs,ok.bsz,ok.noex,ok.exfs,ok.funs,ok.frf⟩
theorem Cx.Ok.unwish {X:Cx}{E:Value->Shared->Prop}(ok:(X.wish E).Ok):X.Ok :=
 ⟨ok.mod,ok.kind,ok.glob,ok.blt,ok.above,ok.inj,ok.has,ok.cab,ok.hd,ok.frames,ok.stk,ok.exf,ok.bs,ok.bsz,ok.noex,ok.exfs,ok.funs,ok.frf⟩
section
variable {X:Cx}{pins:List (Addr×Obj)}{σ:St}{H:Hp}{s:Shared}{E:Value->Shared->Prop}
theorem Inv.wish (I:Inv X pins σ H s)(E:Value->Shared->Prop):Inv (X.wish E) pins σ H s:=⟨I.ok.wish E,I.os,I.bare,I.base,I.loc,I.cell,I.free,I.freeC,I.pin,I.hok,I.len⟩
theorem Inv.unwish (I:Inv (X.wish E) pins σ H s):Inv X pins σ H s:=⟨I.ok.unwish,I.os,I.bare,I.base,I.loc,I.cell,I.free,I.freeC,I.pin,I.hok,I.len⟩
theorem SP.unwish {D:Ends}{f:Flow}{s':Shared}(h:SP (X.wish E) pins D f s'):SP X pins D f s':=by
 cases f with
 |next=>obtain⟨σ',H',I,q⟩:=h;exact⟨σ',H',I.unwish,q⟩
 |brk=>obtain⟨σ',H',I,q⟩:=h;exact⟨σ',H',I.unwish,q⟩
 |cont=>obtain⟨σ',H',I,q⟩:=h;exact⟨σ',H',I.unwish,q⟩
 |ret u=>obtain⟨v,σ',H',I,r,q⟩:=h;exact⟨v,σ',H',I.unwish,r,q⟩
theorem j9.nox {st:List Stmt}{t:TS}(h:j9 X.nox st t):j9 X st t:=fun pins s σ H D I hw =>
 wpAny_mono (h pins s σ H D (I.wish _) hw) (fun _ _ q=>q.unwish) fun _ _ z=>False.elim z
end
section
variable {X:Cx}{st:Stmt}{rest:List Stmt}{t u:TS}{e:Expr}{te:TE}{pos:Pos}
def tz:TS:=fun D σ H=>D.nx σ H
def tSeq (t u:TS):TS:=fun D σ H=>t { D with nx:=u D } σ H
theorem wb:j9 X [] tz:=fun _ _ σ H _ I h=>wpAny_execs_nil ⟨σ,H,I,h⟩
theorem sZ (h1:PS X st t)(h2:j9 X rest u):j9 X (st::rest) (tSeq t u):=by
 intro pins s σ H D I h;refine wpAny_execs_cons (bM (h1 pins s σ H { D with nx:=u D } I h) fun f s1 q=>?_);cases f with
 |next =>
  obtain⟨σ',H',I',q⟩:=q;exact h2 pins s1 σ' H' D I' q
 |ret v=>exact q
 |brk=>exact q
 |cont=>exact q
theorem xy:PS X (.Pass pos) tz:=fun _ _ σ H _ I h=>wpAny_Pass ⟨σ,H,I,h⟩
theorem Inv.quiet {pins:List (Addr×Obj)}{σ:St}{H:Hp}{s:Shared}(I:Inv X pins σ H s):interactive X.env=false:=by simp[interactive,I.ok.kind]
theorem z7 {x j pos pos'}:PS X (.Expr (.Constant (.str x) j pos) pos') tz:=fun _ s σ H _ I h=>wpAny_Expr (Calls.Constant_str (show SP X _ _ .next { s with toks:=s.toks+1 } from ⟨σ,H,I.tok _,h⟩)) I.quiet
def sQ (te:TE):TS:=fun D σ H=>te σ H fun _ H1=>D.nx σ H1
theorem ji (he:PE X e te)(hs:swapsWith e none pos.line X.env=pure false:=by rfl):PS X (.Expr e pos) (sQ te):=by
 intro pins s σ H D I h;exact wpAny_Expr_any (bM (he pins s σ H _ I h) fun v s1 ⟨x,H1,I1,r1,q1⟩=>⟨σ,H1,I1,q1⟩) I.quiet hs
def tRet (te:TE):TS:=fun D σ H=>te σ H D.rt
theorem y8 (he:PE X e te):PS X (.Return (some e) pos) (tRet te):=by
 intro pins s σ H D I h;exact wpAny_Return_some (bM (he pins s σ H _ I h) fun v s1 ⟨x,H1,I1,r1,q1⟩=>⟨x,σ,H1,I1,r1,q1⟩)
def A3:TS:=fun D _ H=>D.rt .non H
theorem vI:PS X (.Return none pos) A3:=fun _ _ σ H _ I h=>wpAny_Return_none ⟨.non,σ,H,I,rfl,h⟩
def tIfS (c:TT)(t u:TS):TS:=fun D σ H=>c σ H fun b H1=>if b=true then t D σ H1 else u D σ H1
theorem BX {c:Expr}{a b:List Stmt}{tc:TT}(hc:PT X c tc)(ha:j9 X a t)(hb:j9 X b u):PS X (.If c a b pos) (tIfS tc t u):=by
 intro pins s σ H D I h;refine wpAny_If (bM (hc pins s σ H _ I h) fun d s1 ⟨H1,I1,q1⟩=>?_);cases d with
 |true=>exact ha pins s1 σ H1 D I1 q1
 |false=>exact hb pins s1 σ H1 D I1 q1
end
noncomputable abbrev TG:=V->St->Hp->(St->Hp->Prop)->Prop
noncomputable abbrev xC:=List V->St->Hp->(St->Hp->Prop)->Prop
noncomputable def PG (X:Cx)(target:Expr)(t:TG):Prop :=
 ∀(pins:List (Addr×Obj)) (s:Shared) (σ:St) (H:Hp) (v:V) (u:Value) (Q:St->Hp->Prop),Inv X pins σ H s->RelV v u->t v σ H Q ->
  wpAny (model X.prog X.w) X.A (assign target X.env u) (fun _ s'=>∃ σ' H',Inv X pins σ' H' s'/\Q σ' H') X.xe s
noncomputable def BJ (X:Cx)(ts:List Expr)(t:xC):Prop :=
 ∀(pins:List (Addr×Obj)) (s:Shared) (σ:St) (H:Hp) (vs:List V) (us:List Value) (Q:St->Hp->Prop),Inv X pins σ H s->aJ vs us->t vs σ H Q ->
  wpAny (model X.prog X.w) X.A (assignInOrder ((assignEach ts X.env).map (·.2)) us) (fun _ s'=>∃ σ' H',Inv X pins σ' H' s'/\Q σ' H') X.xe s
noncomputable abbrev zQ:=V->V->V->Hp->(Hp->Prop)->Prop
noncomputable def Ck (X:Cx)(t:zQ):Prop :=
 ∀(pins:List (Addr×Obj)) (s:Shared) (σ:St) (H:Hp) (o i v:V) (ov iv u:Value) (Q:Hp->Prop),Inv X pins σ H s->RelV o ov->RelV i iv->RelV v u->t o i v H Q ->
  wpAny (model X.prog X.w) X.A (setItem ov iv u) (fun _ s'=>∃ H',Inv X pins σ H' s'/\Q H') X.xe s
section
variable {X:Cx}{pos:Pos}
noncomputable def lE (i:Nat):TG:=fun v σ H Q=>Q (σ.set i (some v)) H
theorem pI {i:Nat}{x:Str}(hN:X.N.Nodup)(hi:X.N[i]? = some x)(hx:Loc X.env.scope x)(hf:X.fn x=true\/X.env.scope.names.lookup x=some .local:=by first | exact .inl rfl | exact .inr rfl | assumption):PG X (.Name x pos) (lE i):=by
 intro pins s σ H v u Q I r h;exact wpAny_assign_Name (jx I hN hi hx r (fun s' I'=>⟨_,H,I',h⟩) hf)
noncomputable def BD:xC:=fun vs σ H Q=>vs=[]/\Q σ H
noncomputable def xT (t:TG)(u:xC):xC:=fun vs σ H Q=>∃ v r,vs=v::r/\t v σ H fun σ' H'=>u r σ' H' Q
theorem wI:BJ X [] BD:=by
 intro pins s σ H vs us Q I r h;obtain⟨e,h⟩:=h;subst e;cases r;exact assignInOrder_nil ⟨σ,H,I,h⟩
theorem rZ {e:Expr}{es:List Expr}{t:TG}{u:xC}(h1:PG X e t)(h2:BJ X es u)
  (hs:(assignEach (e::es) X.env).map (·.2)=assign e X.env::(assignEach es X.env).map (·.2):=by rfl):BJ X (e::es) (xT t u):=by
 intro pins s σ H vs us Q I r h;obtain⟨v,vr,e1,h⟩:=h;subst e1;cases r with
 |cons r rr =>
  rw[hs];refine assignInOrder_cons (bM (h1 pins s σ H _ _ _ I r h) fun _ s1 ⟨σ1,H1,I1,q1⟩=>?_);exact h2 pins s1 σ1 H1 _ _ Q I1 rr q1
noncomputable def uT (K:PySem.W.Frag)(n:Nat)(t:xC):TG:=fun v σ H Q=>∃ a xs,v = .ref a/\g8 K H a xs/\xs.length=n/\t xs σ H Q
theorem ur {es:List Expr}{k:Nat}{t:xC}{n:Nat}(hc:X.calm=true)(h:BJ X es t)
  (hn:(assignEach es X.env).length=n:=by rfl) (hst:(assignEach es X.env).findIdx? (·.1)=none:=by rfl):PG X (.Tuple es k pos) (uT X.K n t):=by
 intro pins s σ H v u Q I r hw;obtain⟨a,xs,e1,hq,hl,hw⟩:=hw;subst e1;cases r;obtain⟨its,rv,ht,hz⟩:=I.tuple hq;refine assign_Tuple_tuple (I.ok.hd hc) ht (by simp[hn,<-hl,rv.length]) hst fun h' hx=>?_
 have I1:Inv X pins σ H { s with heap:=h' }:=I.kept (t':=s.toks) fun b o e=>hx b o (bo (Heap.lt_size e)) e
 exact h pins _ σ H xs _ Q I1 (by simpa using rv) hw
noncomputable def Bd (to ti:TE)(t:zQ):TG:=fun v σ H Q=>to σ H fun o H1=>ti σ H1 fun i H2=>t o i v H2 fun H3=>Q σ H3
theorem zg {o i:Expr}{to ti:TE}{t:zQ}(ho:PE X o to)(hi:PE X i ti)(hs:Ck X t)
  (ha:∀ v,assign (.Subscript o i pos) X.env v=(do
   let ov <- holding [v] (eval o X.env);let iv <- holding [v,ov] (eval i X.env)
   standAt pos
   holding [v,ov,iv] (setItem ov iv v)
   release [v,ov,iv] []):=by intro _;rfl):PG X (.Subscript o i pos) (Bd to ti t):=by
 intro pins s σ H v u Q I r h;rw[ha];refine wpAny_bind (wpAny_holding (bM (ho pins s σ H _ I h) fun ov s1 ⟨x,H1,I1,r1,q1⟩=>?_));refine wpAny_bind (wpAny_holding (bM (hi pins s1 σ H1 _ I1 q1) fun iv s2 ⟨y,H2,I2,r2,q2⟩=>?_));refine wpAny_bind (wpAny_standAt (wpAny_bind (wpAny_holding (bM (hs pins s2 σ H2 x y v ov iv u _ I2 r1 r2 r q2) fun _ s3 ⟨H3,I3,q3⟩=>?_))));exact wpAny_release ⟨σ,H3,I3,q3⟩
def vS (te:TE)(g:TG):TS:=fun D σ H=>te σ H fun x H1=>g x σ H1 D.nx
theorem sk {tg e:Expr}{te:TE}{g:TG}(he:PE X e te)(hg:PG X tg g)(hs:swapsWithSole [tg] e pos.line X.env=pure false:=by rfl)(hw:swappedStores [tg] e X.env=pure none:=by rfl)
  (h1:(assignEach [tg] X.env).map (·.2)=[assign tg X.env]:=by rfl):PS X (.Assign [tg] e pos) (vS te g):=by
 intro pins s σ H D I h;refine wpAny_Assign_stores (bM (he pins s σ H _ I h) fun v s1 ⟨x,H1,I1,r1,q1⟩=>?_) hs hw;rw[h1];exact bM (hg pins s1 σ H1 x v _ I1 r1 q1) fun _ s2 q=>q
theorem zc {i:Nat}{x:Str}{e:Expr}{te:TE}{pos':Pos}(hN:X.N.Nodup)(hi:X.N[i]? = some x)(hx:Loc X.env.scope x)(he:PE X e te)(hs:swapsWith e (some (.Name x pos')) pos.line X.env=pure false:=by rfl)(hf:X.fn x=true\/X.env.scope.names.lookup x=some .local:=by first | exact .inl rfl | exact .inr rfl | assumption) :
  PS X (.Assign [.Name x pos'] e pos) (vS te (lE i)):=by
 intro pins s σ H D I h;refine wpAny_Assign_Name (bM (he pins s σ H _ I h) fun v s1 ⟨y,H1,I1,r1,q1⟩=>?_) hs;exact jx I1 hN hi hx r1 (fun s2 I2=>⟨_,H1,I2,q1⟩) hf
end
section
variable {X:Cx}{pos:Pos}
def zd (c:TT)(tb:TS):TS:=fun D σ H=>∃ W:Nat->St->Hp->Prop,(∃ m,W m σ H)/\∀ m σ H,W m σ H ->
 c σ H fun b H1=>if b=true then ∃ N:St->Hp->Prop,(∀ σ' H',N σ' H'->∃ m',m'<m/\W m' σ' H')/\tb { D with nx:=N,ct:=N,bk:=D.nx } σ H1 else D.nx σ H1
theorem uW {c:Expr}{body:List Stmt}{tc:TT}{tb:TS}(hp:PassesOwn (model X.prog X.w) X.A X.env X.xe)(hc:PT X c tc)(hb:j9 X body tb):PS X (.While c body [] pos) (zd tc tb):=by
 intro pins s σ H D I h;obtain⟨W,⟨m0,w0⟩,turn⟩:=h;refine wpAny_While (codeAny_whileLoop (fun n s'=>∃ σ' H',Inv X pins σ' H' s'/\W n σ' H') ?_ m0 ⟨σ,H,I,w0⟩);rintro n s1 ⟨σ1,H1,I1,w1⟩;refine wpAny_passesOwn hp (bM (hc pins s1 σ1 H1 _ I1 (turn n σ1 H1 w1)) fun b s2 ⟨H2,I2,q2⟩=>?_);cases b with
 |true =>
  obtain⟨N,hN,q2⟩:=q2;rw[if_pos rfl];refine wpAny_passesOwn hp (bM (hb pins s2 σ1 H2 _ I2 q2) fun f s3 q3=>?_);cases f with
  |next =>
   obtain⟨σ3,H3,I3,n3⟩:=q3;obtain⟨m',hm,w3⟩:=hN σ3 H3 n3;exact⟨m',hm,σ3,H3,I3,w3⟩
  |cont =>
   obtain⟨σ3,H3,I3,n3⟩:=q3;obtain⟨m',hm,w3⟩:=hN σ3 H3 n3;exact⟨m',hm,σ3,H3,I3,w3⟩
  |brk=>exact q3
  |ret v=>exact q3
 |false =>
  rw[if_neg ax];exact wpAny_execs_nil ⟨σ1,H2,I2,q2⟩
end
structure It where
 go:Nat->Hp->Prop
 yld:Nat->Hp->V->Hp->Prop
 stop:Nat->Hp->Prop
noncomputable def gQ (X:Cx)(pins:List (Addr×Obj))(H:Hp)(b:Addr):Prop :=
 H b=none/\b≠X.env.locals/\b∉X.fs/\(b∈X.ex\/X.s₀.heap.objs.size<=b)/\(∀ x c,X.env.cells.lookup x=some c->c≠b)/\∀ p∈X.pn++pins,p.1≠b
theorem Inv.fpOk {X:Cx}{pins:List (Addr×Obj)}{σ:St}{H H':Hp}{s:Shared}{b:Addr}(I:Inv X pins σ H s)(hb:s.heap.objs.size<=b)(hn:H' b=none):gQ X pins H' b:=by
 refine⟨hn,Nat.ne_of_gt (ba I.lt hb),I.nofs hb,.inr (bh I.sz hb),fun x c e z=>?_,fun p hp z=>?_⟩
 ·obtain⟨v,q⟩:=I.cell x c e;exact absurd (ba q.lt (by rw[z];exact hb)) (c8 _)
 ·exact absurd (ba (Heap.lt_size (I.pin p hp).1) (by rw[z];exact hb)) (c8 _)
structure Turn (P:Program)(w:World)(K:PySem.W.Frag)(tg:Expr)(J:It)(fp:List Addr)(it:Addr)(tn:Nat->Heap->Prop):Prop where
 mem:it∈fp
 obj:∀ i h,tn i h->∀ b∈fp,∃ o,h.get? b=some o/\∀ v,o.data≠.cell v
 keep:∀ i h h',tn i h->(∀ b∈fp,∀ o,h.get? b=some o->h'.get? b=some o)->tn i h'
 item:∀(X:Cx),X.prog=P->X.w=w->X.K=K->X.calm=true->∀(i:Nat) (pins:List (Addr×Obj)) (s:Shared) (σ:St) (H:Hp) (E:Value->Shared->Prop),Inv X pins σ H s->(∀ b∈fp,gQ X pins H b)->tn i s.heap->J.go i H ->
  wpAny (model P w) X.A (pyNext (.ref it)) (fun r s1=>∃ u,r=some u /\
   wpAny (model P w) X.A (letOwnedTupleGo tg (.ref it) u) (fun _ s2=>∃ x H',Inv X pins σ H' s2/\RelV x u/\J.yld i H x H'/\tn (i+1) s2.heap/\∀ b∈fp,H' b=none) E s1) E s
 done:∀(X:Cx),X.prog=P->X.w=w->X.K=K->X.calm=true->∀(i:Nat) (pins:List (Addr×Obj)) (s:Shared) (σ:St) (H:Hp) (E:Value->Shared->Prop),Inv X pins σ H s->(∀ b∈fp,gQ X pins H b)->tn i s.heap->J.stop i H ->
  wpAny (model P w) X.A (pyNext (.ref it)) (fun r s1=>r=none/\Inv X pins σ H s1) E s
 self:∀(A:Around) (i:Nat) (s:Shared) (Q:Value->Shared->Prop) (E:Value->Shared->Prop),tn i s.heap->Q (.ref it) s->wpAny (model P w) A (pyIter (.ref it)) Q E s
noncomputable abbrev TI:=St->Hp->(It->Hp->Prop)->Prop
noncomputable def z0 (X:Cx)(pins:List (Addr×Obj))(σ:St)(tg:Expr)(R:It->Hp->Prop)(itv:Value)(s2:Shared):Prop :=
 ∃(it:Addr) (fp:List Addr) (tn:Nat->Heap->Prop) (J:It) (H':Hp),itv = .ref it/\Inv X pins σ H' s2/\Turn X.prog X.w X.K tg J fp it tn/\tn 0 s2.heap/\(∀ b∈fp,gQ X pins H' b)/\R J H'
noncomputable def PI (X:Cx)(tg iter:Expr)(wi:TI):Prop :=
 ∀(pins:List (Addr×Obj)) (s:Shared) (σ:St) (H:Hp) (R:It->Hp->Prop),Inv X pins σ H s->wi σ H R ->
  wpAny (model X.prog X.w) X.A (eval iter X.env) (fun v s1=>wpAny (model X.prog X.w) X.A (pyIter v) (z0 X pins σ tg R) X.xe s1) X.xe s
theorem oZ {M:Model}{A:Around}{E:Value->Shared->Prop}{s:Shared}{tg:Expr}{it:Addr}{u:Value}{o:Obj}{n:String}{vs:Array Value}{Q:Unit->Shared->Prop}(ho:s.heap.get? it=some o)(hc:o.cls = .type n)(hd:o.data = .fields vs)
  (hn:["enumerate","zip","dict_itemiterator","dict_reverseitemiterator","odict_iterator","itertools.zip_longest","itertools.pairwise"].contains n=false) (hQ:Q () s):wpAny M A (letOwnedTupleGo tg (.ref it) u) Q E s:=by
 unfold letOwnedTupleGo;cases tg<;>first
  | exact wpAny_pure hQ
  | (cases u<;>first
    | exact wpAny_pure hQ
    | (refine wpAny_bind (wpAny_load ho ?_)
       rw[hc,hd];show wpAny M A (if (["enumerate","zip","dict_itemiterator","dict_reverseitemiterator","odict_iterator","itertools.zip_longest","itertools.pairwise"].contains n&&vs[0]?==some (rawInt _))=true then _ else _) Q E s;rw[if_neg (by intro h;rw[hn,Bool.false_and] at h;cases h)];exact wpAny_pure hQ))
noncomputable def Itl (K:PySem.W.Frag)(a:Addr):It :=
 ⟨fun i H=>∃ xs x,ke K H a xs/\xs[i]? = some x,fun i H x H'=>H'=H/\∀ xs,ke K H a xs->xs[i]? = some x,fun i H=>∃ xs,ke K H a xs/\xs.length<=i⟩
noncomputable def Itt (K:PySem.W.Frag)(a:Addr):It :=
 ⟨fun i H=>∃ xs x,g8 K H a xs/\xs[i]? = some x,fun i H x H'=>H'=H/\∀ xs,g8 K H a xs->xs[i]? = some x,fun i H=>∃ xs,g8 K H a xs/\xs.length<=i⟩
theorem rL {P:Program}{w:World}{K:PySem.W.Frag}{tg:Expr}(a it:Addr):Turn P w K tg (Itl K a) [it] it (fun i h=>h.IsListIter it a i) where
 mem:=by simp
 obj:=fun i h st b hb=>by
  have e:b=it:=by simpa using hb
  subst e;obtain⟨o,e,c,d⟩:=st;exact⟨o,e,fun v z=>by rw[d] at z;cases z⟩
 keep:=fun i h h' st k=>st.at fun o e=>k it (by simp) o e
 item:=by
  intro X hP hw hK hc i pins s σ H E I hf st hg;subst hP hw hK;obtain⟨xs,x,hq,hx⟩:=hg;obtain⟨its,rv,p,hz⟩:=I.list hq;obtain⟨u,hu,ru⟩:=rv.get hx;obtain⟨f0,f1,f2,f3,f4,f5⟩:=hf it (by simp);refine wpAny_pyNext_list_item st p.isList (x:=u) (by simpa using hu) fun h' st' sb=>?_
  have I1:Inv X pins σ H { s with heap:=h' }:=I.turned (t':=s.toks) (fun b o hb e=>(sb.2 b hb).trans e) f0 f1 f3 f4 f5;obtain⟨o,e,c,d⟩:=id st';exact⟨u,rfl,oZ (s:={ s with heap:=h' }) e c d (by decide) ⟨x,H,I1,ru,⟨rfl,fun ys hy=>by rw[I.list_inj hy hq];exact hx⟩,st',fun b hb=>(hf b hb).1⟩⟩
 done:=by
  intro X hP hw hK hc i pins s σ H E I hf st hg;subst hP hw hK;obtain⟨xs,hq,hx⟩:=hg;obtain⟨its,rv,p,hz⟩:=I.list hq;obtain⟨f0,f1,f2,f3,f4,f5⟩:=hf it (by simp);have hl:=rv.length;exact wpAny_pyNext_list_end (I.ok.hd hc) st p.isList (by simp;omega) fun h' eb=>⟨rfl,I.turned (t':=s.toks) (fun b o hb e=>eb b o hb e) f0 f1 f3 f4 f5⟩
 self:=fun _ _ _ _ _ st h=>wpAny_pyIter_listiter st h
theorem nV {P:Program}{w:World}{K:PySem.W.Frag}{tg:Expr}(a it:Addr):Turn P w K tg (Itt K a) [it] it (fun i h=>h.IsTupleIter it a i) where
 mem:=by simp
 obj:=fun i h st b hb=>by
  have e:b=it:=by simpa using hb
  subst e;obtain⟨o,e,c,d⟩:=st;exact⟨o,e,fun v z=>by rw[d] at z;cases z⟩
 keep:=fun i h h' st k=>st.at fun o e=>k it (by simp) o e
 item:=by
  intro X hP hw hK hc i pins s σ H E I hf st hg;subst hP hw hK;obtain⟨xs,x,hq,hx⟩:=hg;obtain⟨its,rv,p,hz⟩:=I.tuple hq;obtain⟨u,hu,ru⟩:=rv.get hx;obtain⟨f0,f1,f2,f3,f4,f5⟩:=hf it (by simp);refine wpAny_pyNext_tuple_item st (show s.heap.IsTuple a its.toArray from p) (x:=u) (by simpa using hu) fun h' st' sb=>?_
  have I1:Inv X pins σ H { s with heap:=h' }:=I.turned (t':=s.toks) (fun b o hb e=>(sb.2 b hb).trans e) f0 f1 f3 f4 f5;obtain⟨o,e,c,d⟩:=id st';exact⟨u,rfl,oZ (s:={ s with heap:=h' }) e c d (by decide) ⟨x,H,I1,ru,⟨rfl,fun ys hy=>by rw[I.tuple_inj hy hq];exact hx⟩,st',fun b hb=>(hf b hb).1⟩⟩
 done:=by
  intro X hP hw hK hc i pins s σ H E I hf st hg;subst hP hw hK;obtain⟨xs,hq,hx⟩:=hg;obtain⟨its,rv,p,hz⟩:=I.tuple hq;obtain⟨f0,f1,f2,f3,f4,f5⟩:=hf it (by simp);have hl:=rv.length;exact wpAny_pyNext_tuple_end (I.ok.hd hc) st (show s.heap.IsTuple a its.toArray from p) (by simp;omega) fun h' eb=>⟨rfl,I.turned (t':=s.toks) (fun b o hb e=>eb b o hb e) f0 f1 f3 f4 f5⟩
 self:=fun _ _ _ _ _ st h=>wpAny_pyIter_tupleiter st h
end L2
namespace L2
open PySem PySem.Spec PyProof.Rows
section
variable {X:Cx}{tg:Expr}
def tFor (wi:TI)(g:TG)(tb:TS):TS:=fun D σ H=>wi σ H fun J H1=>∃ W:Nat->Nat->St->Hp->Prop,(∃ m,W 0 m σ H1)/\∀ i m σ H,W i m σ H ->
 (J.stop i H/\D.nx σ H)\/(J.go i H/\∃ N:St->Hp->Prop,(∀ σ' H',N σ' H'->∃ m',m'<m/\W (i+1) m' σ' H')/\∀ x H',J.yld i H x H'->g x σ H' fun σ2 H2=>tb { D with nx:=N,ct:=N,bk:=D.nx } σ2 H2)
noncomputable def j3 (fp:List Addr)(h:Heap):List (Addr×Obj):=fp.filterMap fun b=>(h.get? b).map fun o=>(b,o)
theorem dP {fp:List Addr}{h:Heap}{b:Addr}{o:Obj}(hb:b∈fp)(e:h.get? b=some o):(b,o)∈j3 fp h:=List.mem_filterMap.mpr ⟨b,hb,by rw[e];rfl⟩
theorem qr {fp:List Addr}{h:Heap}{p:Addr×Obj}(hp:p∈j3 fp h):p.1∈fp/\h.get? p.1=some p.2:=by
 obtain⟨b,hb,e⟩:=List.mem_filterMap.mp hp;cases q:h.get? b with
 |none=>rw[q] at e;cases e
 |some o =>
  rw[q] at e;have e':(b,o)=p:=bp e;subst e';exact⟨hb,q⟩
theorem Inv.pinned {pins:List (Addr×Obj)}{σ:St}{H:Hp}{s:Shared}{fp:List Addr}(I:Inv X pins σ H s)(hf:∀ b∈fp,gQ X pins H b)(ho:∀ b∈fp,∃ o,s.heap.get? b=some o/\∀ v,o.data≠.cell v):Inv X (pins++j3 fp s.heap) σ H s :=
 I.pins_of fun p hp=>(List.mem_append.mp hp).elim (fun z=>I.pin p (au _ z)) fun z=>by
  obtain⟨hb,e⟩:=qr z;obtain⟨f0,f1,f2,_⟩:=hf p.1 hb;obtain⟨o,e',d⟩:=ho p.1 hb;rw[e] at e';cases e';exact⟨e,f0,f1,f2,d⟩
theorem Inv.unpinned {pins pl:List (Addr×Obj)}{σ:St}{H:Hp}{s:Shared}(I:Inv X (pins++pl) σ H s):Inv X pins σ H s:=I.pins_of fun p hp=>I.pin p (au _ (az _ hp))
theorem Aa {iter:Expr}{body:List Stmt}{wi:TI}{g:TG}{tb:TS}{pos:Pos}(hp:PassesOwn (model X.prog X.w) X.A X.env X.xe)(hc:X.calm=true)(hi:PI X tg iter wi)(hg:PG X tg g)(hb:j9 X body tb)
  (hs:∀ x,foldedSetIterable iter X.env x=pure x:=by intro _;rfl):PS X (.For tg iter body [] pos) (tFor wi g tb):=by
 intro pins s σ H D I h;refine wpAny_For (bM (hi pins s σ H _ I h) fun v s1 h1=>bM h1 fun itv s2 h2=>?_) hs;obtain⟨it,fp,tn,J,H2,e,I2,T,st2,f2,W,⟨m0,w0⟩,turn⟩:=h2;subst e;have stat:∀{H':Hp},(∀ b∈fp,H' b=none)->∀ b∈fp,gQ X pins H' b:=fun hn b hb=>⟨hn b hb,(f2 b hb).2⟩
 refine codeAny_forLoop_any (fun n s'=>∃ i σ' H',Inv X pins σ' H' s'/\tn i s'.heap/\(∀ b∈fp,H' b=none)/\W i n σ' H') ?_ m0 ⟨0,σ,H2,I2,st2,fun b hb=>(f2 b hb).1,w0⟩;rintro n s3 ⟨i,σ3,H3,I3,st3,fr3,w3⟩;rcases turn i n σ3 H3 w3 with ⟨stop,qn⟩ | ⟨go,N,hN,step⟩
 ·refine wpAny_passesOwn hp (bM (T.done X rfl rfl rfl hc i pins s3 σ3 H3 X.xe I3 (stat fr3) st3 stop) fun r s4 ⟨hr,I4⟩=>?_);subst hr;exact wpAny_execs_nil ⟨σ3,H3,I4,qn⟩
 ·refine wpAny_passesOwn hp (bM (T.item X rfl rfl rfl hc i pins s3 σ3 H3 X.xe I3 (stat fr3) st3 go) fun r s4 ⟨u,hr,h4⟩=>?_);subst hr;refine wpAny_passesOwn hp (bM h4 fun _ s5 ⟨x,H5,I5,r5,y5,st5,fr5⟩=>?_);have I5':=I5.pinned (stat fr5) (T.obj _ _ st5);refine wpAny_passesOwn hp (bM (hg _ s5 σ3 H5 x u _ I5' r5 (step x H5 y5)) fun _ s6 ⟨σ6,H6,I6,q6⟩=>?_);refine wpAny_passesOwn hp (bM (hb _ s6 σ6 H6 _ I6 q6) fun f s7 q7=>?_);have again:∀{σ7:St}{H7:Hp},Inv X (pins++j3 fp s5.heap) σ7 H7 s7->N σ7 H7->∃ m,m<n/\∃ i σ' H',Inv X pins σ' H' s7/\tn i s7.heap/\(∀ b∈fp,H' b=none)/\W i m σ' H':=fun {σ7 H7} I7 n7=>by
   obtain⟨m',hm,w7⟩:=hN σ7 H7 n7;refine⟨m',hm,i+1,σ7,H7,I7.unpinned,T.keep _ _ _ st5 fun b hb o e=>(I7.pin (b,o) (au _ (au _ (dP hb e)))).1,fun b hb=>?_,w7⟩;obtain⟨o,e,d⟩:=T.obj _ _ st5 b hb;exact (I7.pin (b,o) (au _ (au _ (dP hb e)))).2.1
  cases f with
  |next=>obtain⟨σ7,H7,I7,n7⟩:=q7;exact again I7 n7
  |cont=>obtain⟨σ7,H7,I7,n7⟩:=q7;exact again I7 n7
  |brk=>obtain⟨σ7,H7,I7,q7⟩:=q7;exact⟨σ7,H7,I7.unpinned,q7⟩
  |ret v=>obtain⟨x7,σ7,H7,I7,r7,q7⟩:=q7;exact⟨x7,σ7,H7,I7.unpinned,r7,q7⟩
end
end L2
namespace L2
open PySem PySem.Spec PyProof.Rows
noncomputable abbrev R2:=V->V->Hp->VK->Prop
noncomputable def eU (X:Cx)(f:Value->Value->Sem Value)(r:R2):Prop :=
 ∀(pins:List (Addr×Obj)) (s:Shared) (σ:St) (H:Hp) (x y:V) (v u:Value) (Q:VK),Inv X pins σ H s->RelV x v->RelV y u->r x y H Q ->
  wpAny (model X.prog X.w) X.A (f v u) (EP X pins σ Q) X.xe s
noncomputable def UnR (X:Cx)(f:Value->Sem Value)(r:V->Hp->VK->Prop):Prop :=
 ∀(pins:List (Addr×Obj)) (s:Shared) (σ:St) (H:Hp) (x:V) (v:Value) (Q:VK),Inv X pins σ H s->RelV x v->r x H Q ->
  wpAny (model X.prog X.w) X.A (f v) (EP X pins σ Q) X.xe s
noncomputable def eC (X:Cx)(f:Value)(r:List V->Hp->VK->Prop):Prop :=
 ∀(pins:List (Addr×Obj)) (s:Shared) (σ:St) (H:Hp) (xs:List V) (us:List Value) (Q:VK),Inv X pins σ H s->aJ xs us->r xs H Q ->
  wpAny (model X.prog X.w) X.A (call f us) (EP X pins σ Q) X.xe s
noncomputable def TruR (X:Cx)(r:V->Hp->(Bool->Hp->Prop)->Prop):Prop :=
 ∀(pins:List (Addr×Obj)) (s:Shared) (σ:St) (H:Hp) (x:V) (v:Value) (Q:Bool->Hp->Prop),Inv X pins σ H s->RelV x v->r x H Q ->
  wpAny (model X.prog X.w) X.A (truthy v) (TP X pins σ Q) X.xe s
def BB (r:R2)(ta tb:TE):TE:=fun σ H Q=>ta σ H fun x H1=>tb σ H1 fun y H2=>r x y H2 Q
def tUn (r:V->Hp->VK->Prop)(ta:TE):TE:=fun σ H Q=>ta σ H fun x H1=>r x H1 Q
noncomputable def rI (C:Int->Int->Prop)(g:Int->Int->V):R2:=fun x y H Q=>∃ i j,x = .int i/\y = .int j/\C i j/\Q (g i j) H
noncomputable def rO (g:Int->Int->V):R2:=fun x y H Q=>∃ i j,x = .int i/\y = .int j/\Q (g i j) H
def rU (g:Int->V):V->Hp->VK->Prop:=fun x H Q=>∃ i,x = .int i/\Q (g i) H
section
variable {X:Cx}{a b c:Expr}{ta tb tc:TE}{pos:Pos}
theorem yM (ha:PE X a ta)(hb:PE X b tb){pins:List (Addr×Obj)}{s:Shared}{σ:St}{H:Hp}{R:V->V->Hp->Prop}(I:Inv X pins σ H s)
  (h:ta σ H fun x H1=>tb σ H1 fun y H2=>R x y H2) {Q:Value->Shared->Prop}{f:Value->Value->Sem Value}
  (hf:∀ v u s2 x y H2,Inv X pins σ H2 s2->RelV x v->RelV y u->R x y H2->wpAny (model X.prog X.w) X.A (f v u) Q X.xe s2) :
  wpAny (model X.prog X.w) X.A (eval a X.env) (fun v s₁=>wpAny (model X.prog X.w) X.A (eval b X.env) (fun u s₂=>wpAny (model X.prog X.w) X.A (f v u) Q X.xe s₂) X.xe s₁) X.xe s:=by
 refine bM (ha pins s σ H _ I h) fun v s1 ⟨x,H1,I1,r1,q1⟩=>?_
 refine bM (hb pins s1 σ H1 _ I1 q1) fun u s2 ⟨y,H2,I2,r2,q2⟩=>?_
 exact hf v u s2 x y H2 I2 r1 r2 q2
theorem AI {op:Operator}{r:R2}(ho:eU X (binaryOp op) r)(ha:PE X a ta)(hb:PE X b tb):PE X (.BinOp a op b pos) (BB r ta tb):=by
 intro pins s σ H Q I h;exact wpAny_BinOp (yM ha hb I h fun v u s2 x y H2 I2 rx ry q=>ho pins s2 σ H2 x y v u Q I2 rx ry q)
theorem BS {op:UnaryOp}{r:V->Hp->VK->Prop}(ho:UnR X (unaryOp op) r)(ha:PE X a ta):PE X (.UnaryOp op a pos) (tUn r ta):=by
 intro pins s σ H Q I h;exact UnaryOp_ (bM (ha pins s σ H _ I h) fun v s1 ⟨x,H1,I1,r1,q1⟩=>ho pins s1 σ H1 x v Q I1 r1 q1)
theorem AE {f:Value->Value->Sem Value}{C:Int->Int->Prop}{g:Int->Int->Int}
  (rule:∀(i j:Int) (t u:Tok) (s:Shared) (Q:Value->Shared->Prop) (E:Value->Shared->Prop),C i j->Q (.int (g i j) s.toks) { s with toks:=s.toks+1 }->wpAny (model X.prog X.w) X.A (f (.int i t) (.int j u)) Q E s) :
  eU X f (rI C fun i j=>.int (g i j)):=by
 intro pins s σ H x y v u Q I rx ry h;obtain⟨i,j,rfl,rfl,hc,q⟩:=h;obtain⟨t,rfl⟩:=rx;obtain⟨t',rfl⟩:=ry;exact rule i j t t' s _ _ hc ⟨.int (g i j),H,I.tok _,⟨_,rfl⟩,q⟩
theorem uv {f:Value->Value->Sem Value}{g:Int->Int->Int}
  (rule:∀(i j:Int) (t u:Tok) (s:Shared) (Q:Value->Shared->Prop) (E:Value->Shared->Prop),Q (.int (g i j) s.toks) { s with toks:=s.toks+1 }->wpAny (model X.prog X.w) X.A (f (.int i t) (.int j u)) Q E s) :
  eU X f (rO fun i j=>.int (g i j)):=by
 intro pins s σ H x y v u Q I rx ry h;obtain⟨i,j,rfl,rfl,q⟩:=h;obtain⟨t,rfl⟩:=rx;obtain⟨t',rfl⟩:=ry;exact rule i j t t' s _ _ ⟨.int (g i j),H,I.tok _,⟨_,rfl⟩,q⟩
theorem v7 {f:Value->Value->Sem Value}{g:Int->Int->Bool}
  (rule:∀(i j:Int) (t u:Tok) (s:Shared) (Q:Value->Shared->Prop) (E:Value->Shared->Prop),Q (.bool (g i j)) s->wpAny (model X.prog X.w) X.A (f (.int i t) (.int j u)) Q E s) :
  eU X f (rO fun i j=>.bl (g i j)):=by
 intro pins s σ H x y v u Q I rx ry h;obtain⟨i,j,rfl,rfl,q⟩:=h;obtain⟨t,rfl⟩:=rx;obtain⟨t',rfl⟩:=ry;exact rule i j t t' s _ _ ⟨.bl (g i j),H,I,rfl,q⟩
def CDiv (i j:Int):Prop:=0<j/\j<1073741824
def Bj (i j:Int):Prop:=0<=j/\j<=1000000/\i.natAbs<2 ^ 64
def zX (i j:Int):Prop:=(-(2 ^ 64)<i/\i<2 ^ 64)\/(-(2 ^ 64)<j/\j<2 ^ 64)
theorem zX.ok {i j:Int}(h:zX i j):IntMulOk i j:=by
 rcases h with ⟨h1,h2⟩ | ⟨h1,h2⟩
 ·exact .of_left (intBits_le_64 h1 h2)
 ·exact .of_right (intBits_le_64 h1 h2)
theorem nS (k:Nat):(0:Int)<=2 ^ k:=by
 rw[two_pow_cast];exact Int.natCast_nonneg _
theorem y1:eU X (binaryOp .Add) (rO fun i j=>.int (i+j)):=uv fun _ _ _ _ _ _ _ q=>add_int q
theorem y2:eU X (binaryOp .Sub) (rO fun i j=>.int (i - j)):=uv fun _ _ _ _ _ _ _ q=>sub_int q
theorem zG:eU X (binaryOp .Mult) (rI zX fun i j=>.int (i*j)):=AE fun _ _ _ _ _ _ _ hc q=>mul_int q hc.ok
theorem xj:eU X (binaryOp .FloorDiv) (rI CDiv fun i j=>.int (i / j)):=AE fun i j _ _ _ _ _ hc q=>by
 have h1:(0:Int)<j:=hc.1;have h2:j<1073741824:=hc.2;exact floordiv_int (by omega) (by rw[Int.fdiv_eq_ediv_of_nonneg i (by omega)];exact q) (.inl (PyProof.noPylong_small (by omega)))
theorem zi:eU X (binaryOp .Mod) (rI (fun _ j=>0<j) fun i j=>.int (i%j)):=AE fun i j _ _ _ _ _ hc q=>by
 have h1:(0:Int)<j:=hc;exact mod_int' (by omega) (by rw[Int.fmod_eq_emod_of_nonneg i (by omega)];exact q)
theorem Ai:eU X (binaryOp .Pow) (rI Bj fun i j=>.int (i ^ j.toNat)):=AE fun _ _ _ _ _ _ _ hc q=>pow_int_small hc.1 hc.2.1 hc.2.2 q
theorem yJ:eU X (binaryOp .LShift) (rI Bj fun i j=>.int (i*2 ^ j.toNat)):=AE fun _ _ _ _ _ _ _ hc q=>lshift_int_small hc.1 hc.2.1 hc.2.2 q
theorem zo:eU X (binaryOp .RShift) (rI (fun _ j=>0<=j) fun i j=>.int (i / 2 ^ j.toNat)):=AE fun i j _ _ _ _ _ hc q =>
 rshift_int hc (by rw[Int.fdiv_eq_ediv_of_nonneg i (nS _)];exact q)
theorem zR:eU X (binaryOp .BitAnd) (rO fun i j=>.int (Builtin.bitAnd i j)):=uv fun _ _ _ _ _ _ _ q=>and_int q
theorem Cc:eU X (binaryOp .BitOr) (rO fun i j=>.int (Builtin.bitOr i j)):=uv fun _ _ _ _ _ _ _ q=>or_int q
theorem za:eU X (binaryOp .BitXor) (rO fun i j=>.int (Builtin.bitXor i j)):=uv fun _ _ _ _ _ _ _ q=>xor_int q
theorem unI {f:Value->Sem Value}{g:Int->Int}
  (rule:∀(i:Int) (t:Tok) (s:Shared) (Q:Value->Shared->Prop) (E:Value->Shared->Prop),Q (.int (g i) s.toks) { s with toks:=s.toks+1 }->wpAny (model X.prog X.w) X.A (f (.int i t)) Q E s) :
  UnR X f (rU fun i=>.int (g i)):=by
 intro pins s σ H x v Q I rx h;obtain⟨i,rfl,q⟩:=h;obtain⟨t,rfl⟩:=rx;exact rule i t s _ _ ⟨.int (g i),H,I.tok _,⟨_,rfl⟩,q⟩
theorem yT:UnR X (unaryOp .USub) (rU fun i=>.int (-i)):=unI fun _ _ _ _ _ q=>neg_int q
end
noncomputable def eE:V->V->Bool
 |.non,.non=>true | .non,.int _=>true | .int _,.non=>true | .non,.bl _=>true | .bl _,.non=>true | .non,.str _=>true | .str _,.non=>true
 |.int _,.int _=>true | .bl _,.bl _=>true | .str _,.str _=>true | .byt _,.byt _=>true
 |.int _,.str _=>true | .str _,.int _=>true | .bl _,.str _=>true | .str _,.bl _=>true
 |_,_=>false
section
variable {X:Cx}{a b c:Expr}{ta tb tc:TE}{pos:Pos}
theorem oK {pins:List (Addr×Obj)}{σ:St}{H:Hp}{s:Shared}{Q:VK}{k k':Bool}(I:Inv X pins σ H s)(q:Q (.bl k) H)(e:k=k'):EP X pins σ Q (.bool k') s:=by
 subst e;exact⟨.bl k,H,I,rfl,q⟩
theorem BY:eU X (compareOp .Lt) (rO fun i j=>.bl (decide (i<j))):=v7 fun _ _ _ _ _ _ _ q=>lt_int q
theorem Cs:eU X (compareOp .LtE) (rO fun i j=>.bl (decide (i<=j))):=v7 fun _ _ _ _ _ _ _ q=>le_int q
theorem AO:eU X (compareOp .Gt) (rO fun i j=>.bl (decide (j<i))):=v7 fun _ _ _ _ _ _ _ q=>gt_int q
theorem AL:eU X (compareOp .GtE) (rO fun i j=>.bl (decide (j<=i))):=v7 fun _ _ _ _ _ _ _ q=>ge_int q
theorem qS:eU X (compareOp .In) (fun x y H Q=>∃ i j,x = .str i/\y = .str j/\Q (.bl (!(Builtin.Str.occurrences j i 0 j.length 1).isEmpty)) H):=by
 intro pins s σ H x y v u Q I rx ry h;obtain⟨i,j,rfl,rfl,q⟩:=h;obtain⟨t,rfl⟩:=rx;obtain⟨t',rfl⟩:=ry;exact in_str (oK I q rfl)
theorem Ae:eU X (compareOp .Is) (fun x y H Q=>y = .non/\Q (.bl (decide (x = .non))) H):=by
 intro pins s σ H x y v u Q I rx ry h;obtain⟨rfl,q⟩:=h;cases ry;refine is_none_gen (oK I q ?_);cases x<;>first
  | (cases rx;rfl)
  | (obtain⟨t,rfl⟩:=rx;rfl)
theorem vX:eU X (compareOp .IsNot) (fun x y H Q=>y = .non/\Q (.bl (!decide (x = .non))) H):=by
 intro pins s σ H x y v u Q I rx ry h;obtain⟨rfl,q⟩:=h;cases ry;refine isnot_none_gen (oK I q ?_);cases x<;>first
  | (cases rx;rfl)
  | (obtain⟨t,rfl⟩:=rx;rfl)
theorem vN {op:CmpOp}{r:R2}(ho:eU X (compareOp op) r)(ha:PE X a ta)(hb:PE X b tb)(hm:behindInMarks op b=false):PE X (.Compare a [op] [b] pos) (BB r ta tb):=by
 intro pins s σ H Q I h;exact wpAny_Compare1 (yM ha hb I h fun v u s2 x y H2 I2 rx ry q=>ho pins s2 σ H2 x y v u Q I2 rx ry q) hm
def xN (t:TE):TT:=fun σ H Q=>t σ H fun x H'=>∃ k,x = .bl k/\Q k H'
theorem wL {op:CmpOp}{r:R2}(ho:eU X (compareOp op) r)(ha:PE X a ta)(hb:PE X b tb)(hm:behindInMarks op b=false):PT X (.Compare a [op] [b] pos) (xN (BB r ta tb)):=by
 intro pins s σ H Q I h;refine wpAny_isTrue_Compare1 (bM (ha pins s σ H _ I h) fun v s1 ⟨x,H1,I1,r1,q1⟩=>bM (hb pins s1 σ H1 _ I1 q1) fun u s2 ⟨y,H2,I2,r2,q2⟩ =>
  bM (ho pins s2 σ H2 x y v u _ I2 r1 r2 q2) fun c s3 ⟨z,H3,I3,r3,k,e,q3⟩=>?_) hm
 subst e;cases r3;exact wpAny_truthy_bool ⟨H3,I3,q3⟩
def oF (r r':R2)(ta tb tc:TE):TE:=fun σ H Q=>ta σ H fun x H1=>tb σ H1 fun y H2=>r x y H2 fun z H3=>∃ k,z = .bl k /\
 (if k=true then tc σ H3 fun w' H4=>r' y w' H4 Q else Q (.bl false) H3)
theorem sW {op op':CmpOp}{r r':R2}(ho:eU X (compareOp op) r)(ho':eU X (compareOp op') r')(ha:PE X a ta)(hb:PE X b tb)(hc:PE X c tc)
  (hm:lastMarks [op,op'] [b,c]=false:=by with_unfolding_all rfl):PE X (.Compare a [op,op'] [b,c] pos) (oF r r' ta tb tc):=by
 intro pins s σ H Q I h;refine Compare_chain (bM (ha pins s σ H _ I h) fun v s1 ⟨x,H1,I1,r1,q1⟩=>chain_link (bM (hb pins s1 σ H1 _ I1 q1) fun u s2 ⟨y,H2,I2,r2,q2⟩ =>
  bM (ho pins s2 σ H2 x y v u _ I2 r1 r2 q2) fun d s3 ⟨z,H3,I3,r3,k,e,q3⟩=>?_)) hm
 subst e;cases r3;refine wpAny_truthy_bool ?_;cases k with
 |false=>exact ite_ff ⟨.bl false,H3,I3,rfl,q3⟩
 |true=>exact ite_tt (chain_last (bM (hc pins s3 σ H3 _ I3 q3) fun w' s4 ⟨z',H4,I4,r4,q4⟩=>ho' pins s4 σ H4 y z' u w' Q I4 r2 r4 q4))
theorem sP {op op':CmpOp}{r r':R2}(ho:eU X (compareOp op) r)(ho':eU X (compareOp op') r')(ha:PE X a ta)(hb:PE X b tb)(hc:PE X c tc)
  (hm:lastMarks [op,op'] [b,c]=false:=by with_unfolding_all rfl):PT X (.Compare a [op,op'] [b,c] pos) (xN (oF r r' ta tb tc)):=by
 intro pins s σ H Q I h;refine isTrue_chain (bM (ha pins s σ H _ I h) fun v s1 ⟨x,H1,I1,r1,q1⟩=>test_link (bM (hb pins s1 σ H1 _ I1 q1) fun u s2 ⟨y,H2,I2,r2,q2⟩ =>
  bM (ho pins s2 σ H2 x y v u _ I2 r1 r2 q2) fun d s3 ⟨z,H3,I3,r3,k,e,q3⟩=>?_)) hm
 subst e;cases r3;refine wpAny_truthy_bool ?_;cases k with
 |false =>
  obtain⟨k',e',q'⟩:=q3;cases e';exact ite_ff ⟨H3,I3,q'⟩
 |true =>
  refine ite_tt (test_last (bM (hc pins s3 σ H3 _ I3 q3) fun w' s4 ⟨z',H4,I4,r4,q4⟩=>bM (ho' pins s4 σ H4 y z' u w' _ I4 r2 r4 q4) fun d' s5 ⟨z2,H5,I5,r5,k2,e2,q5⟩=>?_));subst e2;cases r5;exact wpAny_truthy_bool ⟨H5,I5,q5⟩
noncomputable def z6 (K:PySem.W.Frag)(x:V)(H:Hp)(k:Bool):Prop :=
 match x with
 |.non=>k=false
 |.bl b=>k=b
 |.int i=>k=(i != 0)
 |.str y=>y.length<=sizeLine/\k=((y.length:Int) != 0)
 |.byt y=>y.size<=sizeLine/\k=((y.size:Int) != 0)
 |.ref p=>(∃ xs,ke K H p xs/\k = !xs.isEmpty)\/(∃ xs,g8 K H p xs/\k = !xs.isEmpty)\/∃ kvs,H p=some (.dK kvs)/\k = !kvs.isEmpty
 |_=>False
theorem ou {κ:Type}{kvs:List (κ×V)}{vs:List (κ×Value)}(r:KV kvs vs):(!vs.isEmpty) = !kvs.isEmpty:=by
 cases r<;>rfl
theorem jA {xs:List V}{its:List Value}(r:aJ xs its):(!its.toArray.isEmpty) = !xs.isEmpty:=by
 cases r<;>simp
theorem gZ:(sizeLine:Nat)<2 ^ 63:=by rw[sizeLine_eq];decide
theorem zS:TruR X (fun x H Q=>∃ k,z6 X.K x H k/\Q k H):=by
 intro pins s σ H x v Q I rx h;obtain⟨k,e,q⟩:=h;have hl:=gZ;have hs:sizeLine=16777216:=sizeLine_eq;cases x with
 |non =>
  cases rx;have e':k=false:=e;subst e';exact truthy_none ⟨H,I,q⟩
 |bl b =>
  cases rx;have e':k=b:=e;subst e';exact wpAny_truthy_bool ⟨H,I,q⟩
 |int i =>
  obtain⟨t,rfl⟩:=rx;have e':k=(i != 0):=e;subst e';exact PySem.P.truthy_int ⟨H,I,q⟩
 |str y =>
  obtain⟨t,rfl⟩:=rx;obtain⟨hy,e'⟩:y.length<=sizeLine/\k=((y.length:Int) != 0):=e;subst e';exact PySem.P.truthy_str (by omega) ⟨H,I.tok _,q⟩
 |byt y =>
  obtain⟨t,rfl⟩:=rx;obtain⟨hy,e'⟩:y.size<=sizeLine/\k=((y.size:Int) != 0):=e;subst e';exact PySem.W.truthy_bytes (by omega) ⟨H,I.tok _,q⟩
 |ref p =>
  cases rx;have e':(∃ xs,ke X.K H p xs/\k = !xs.isEmpty)\/(∃ xs,g8 X.K H p xs/\k = !xs.isEmpty)\/∃ kvs,H p=some (.dK kvs)/\k = !kvs.isEmpty:=e;rcases e' with ⟨xs,hx,e'⟩ | ⟨xs,hx,e'⟩ | ⟨kvs,hx,e'⟩
  ·subst e';obtain⟨its,r,pl,hz⟩:=I.list hx;have hlen:=r.length;exact wpAny_truthy_list pl.isList (by simp only[List.size_toArray];omega) ⟨H,I.tok _,by rw[jA r];exact q⟩
  ·subst e';obtain⟨its,r,pl,hz⟩:=I.tuple hx;have hlen:=r.length;exact truthy_tuple pl (by simp only[List.size_toArray];omega) ⟨H,I.tok _,by rw[jA r];exact q⟩
  ·subst e';obtain⟨hz,hS,vs,r,m⟩:kvs.length<=sizeLine/\(p==sysModules)=false/\∃ vs,KV kvs vs/\s.heap.DictOf (aL X.prog X.w) p vs:=I.hok p _ hx;have hlen:kvs.length=vs.length:=Paired.length r;exact wpAny_truthy_dict hS m (by omega) ⟨H,I.tok _,by rw[ou r];exact q⟩
 |_=>exact (show False from e).elim
theorem ux (ha:PE X a ta)(he:∀ whole,isTrue a X.env whole=(do let v <- whole;standAt a.pos;holding [v] (truthy v))) :
  PT X a (fun σ H Q=>ta σ H fun x H'=>∃ k,z6 X.K x H' k/\Q k H'):=by
 intro pins s σ H Q I h;exact isTrue_plain (bM (ha pins s σ H _ I h) fun v s1 ⟨x,H1,I1,r1,q1⟩=>zS pins s1 σ H1 x v Q I1 r1 q1) (he _)
theorem nZ:eU X (binaryOp .Add) (fun x y H Q=>∃ i j,x = .str i/\y = .str j/\i.length+j.length<=sizeLine/\Q (.str (i++j)) H):=by
 intro pins s σ H x y v u Q I rx ry h;obtain⟨i,j,rfl,rfl,hz,q⟩:=h;obtain⟨t,rfl⟩:=rx;obtain⟨t',rfl⟩:=ry;exact add_str (fun t' tk=>⟨.str (i++j),H,I.tok _,⟨_,rfl⟩,q⟩) hz
theorem vals1 {x:V}{us:List Value}(r:aJ [x] us):∃ u,us=[u]/\RelV x u:=by
 cases r with
 |cons r1 r2=>cases r2;exact⟨_,rfl,r1⟩
theorem vals2 {x y:V}{us:List Value}(r:aJ [x,y] us):∃ u w',us=[u,w']/\RelV x u/\RelV y w':=by
 cases r with
 |cons r1 r2 =>
  cases r2 with
  |cons r3 r4=>cases r4;exact⟨_,_,rfl,r1,r3⟩
theorem qu (hc:X.calm=true):eC X (.builtin "min") (fun xs H Q=>∃ i j,xs=[.int i,.int j]/\Q (.int (if j<i then j else i)) H):=by
 intro pins s σ H xs us Q I r h;obtain⟨i,j,rfl,q⟩:=h;obtain⟨u,w',rfl,⟨t,rfl⟩,⟨t',rfl⟩⟩:=vals2 r;refine min_two_ints (I.ok.hd hc) fun h' tk k=>⟨_,H,I.kept k,?_,q⟩
 by_cases hj:j<i
 ·rw[if_pos hj,if_pos hj];exact⟨_,rfl⟩
 ·rw[if_neg hj,if_neg hj];exact⟨_,rfl⟩
end
end L2
namespace L2
open PySem PySem.Spec PyProof.Rows
structure ObjM (h:Heap)(x dx C:Addr)(mA:Str->Option Value):Prop where
 obj:h.get? x=some (PySem.W.instObj C dx)
 ns:h.Ns1 dx mA
 ne:dx≠x
section
variable {prog:Program}{w:World}{A:Around}{E:Value->Shared->Prop}{s:Shared}{K:PySem.W.Frag}{x dx C f:Addr}{mA:Str->Option Value}{name:Str}{v:Value}
end
section
variable {P:Program}{w:World}{H H':Hp}{h h':Heap}{a C dx:Addr}{fs fs':List (Str×V)}
end
structure Cls (K:PySem.W.Frag)(C:Addr):Prop where
 pg:PySem.W.plainGet K C Str.empty=true
 hd:PySem.W.hasDictIn K C=true
 po:PySem.W.plainOver K C=true
 sa:PySem.W.findIn K (.ref C) "__setattr__" = some (some (.builtin "object.__setattr__"))
structure Con (K:PySem.W.Frag)(C:Addr)(f:Str)(v:V)(u:Value):Prop where
 at_:PySem.W.findIn K (.ref C) f=some (some u)
 rel:RelV v u
 get:PySem.W.specialIn K u "__get__" = some none
 cp:PySem.W.copiedNames.contains f=false
structure Meth (K:PySem.W.Frag)(C:Addr)(m:Str)(f:Addr):Prop where
 at_:PySem.W.findIn K (.ref C) m=some (some (.ref f))
 fn:PySem.W.isFn K (.ref f)=true
 kp:PySem.W.keepIn K (.ref f)=true
section
variable {X:Cx}{pins:List (Addr×Obj)}{σ:St}{H:Hp}{s:Shared}{a C dx:Addr}{fs:List (Str×V)}{f:Str}{v:V}{A:Around}{E:Value->Shared->Prop}
end
section
variable {X:Cx}{o e value:Expr}{f:Str}{pos pos' tpos:Pos}{ta tv:TE}
end
section
variable {X:Cx}{pins:List (Addr×Obj)}{σ:St}{H:Hp}{s:Shared}{A:Around}{E:Value->Shared->Prop}{Q:Value->Shared->Prop}{c:Value}{b:Bool}
inductive ju (K:PySem.W.Frag) (H:Hp):V->Value->Prop where
 | non:ju K H .non (.type "NoneType")
 | bl (x:Bool):ju K H (.bl x) (.type "bool")
 | int (i:Int):ju K H (.int i) (.type "int")
 | str (x:Str):ju K H (.str x) (.type "str")
 | flt (x:UInt64):ju K H (.flt x) (.type "float")
 | lst {a:Addr}{xs:List V}(e:H a=some (.lst xs)):ju K H (.ref a) (.type "list")
 | frz {a:Addr}{o:Obj}{xs:List V}(e:H a=some (.frz o (.lst xs))):ju K H (.ref a) (.type "list")
 | tup {a:Addr}{xs:List V}(e:H a=some (.tup xs)):ju K H (.ref a) (.type "tuple")
 | dK {a:Addr}{kvs:List (Key×V)}(e:H a=some (.dK kvs)):ju K H (.ref a) (.type "dict")
 | dT {a:Addr}{kvs:List (List Key×V)}(e:H a=some (.dT kvs)):ju K H (.ref a) (.type "dict")
 | ins {a C dx:Addr}{fs:List (Str×V)}(e:H a=some (.ins C dx fs)) (cl:Cls K C) (ha:PySem.W.findIn K (.ref C) "__class__" = some (some (.builtin "object.__class__")))
   (hn:PySem.W.specialIn K (.builtin "object.__class__") "__get__" = some (some (.builtin "getset_descriptor.__get__"))) (htk:PySem.W.takesIn K (.builtin "object.__class__")=some true)
   (hm:PySem.W.mroIn K C (.type "object")=some true):ju K H (.ref a) (.ref C)
end
end L2
namespace L2
open PySem PySem.Spec PyProof.Rows
structure gB (k:Nat)(A:Around):Prop where
 hd:A.handled=none
 dp:A.depth+3*k+5<recursionLimit
 un:A.units+16*k+200<cLine
theorem gB.deeper {k:Nat}{A:Around}(r:gB (k+1) A)(env:Env):gB k (A.deeper env) :=
 ⟨r.hd,by have:=r.dp;show A.depth+1+3*k+5<_;omega,by have:=r.un;show A.units+3+16*k+200<_;omega⟩
theorem gB.depth {k:Nat}{A:Around}(r:gB k A):A.depth<recursionLimit:=by have:=r.dp;omega
theorem gB.units {k:Nat}{A:Around}(r:gB k A):A.units+64<cLine:=by have:=r.un;omega
def Ao:TA:=fun _ H Q=>Q [] H
def uC (ta:TE)(tr:TA):TA:=fun σ H Q=>ta σ H fun x H1=>tr σ H1 fun xs H2=>Q (x::xs) H2
section
variable {X:Cx}{e:Expr}{es:List Expr}{te:TE}{t:TA}{pos:Pos}
theorem uJ:PA X [] Ao:=fun _ _ _ _ H Q I h=>Calls.spliced_nil ⟨[],H,I,.nil,h⟩
theorem lQ (ha:PE X e te)(hr:PA X es t)(hs:starEach (e::es) X.env=(false,eval e X.env)::starEach es X.env:=by rfl):PA X (e::es) (uC te t):=by
 intro pos pins s σ H Q I h;rw[hs];show wpAny _ _ (spliced ((false,eval e X.env)::backTo pos (starEach es X.env))) _ _ s;refine Calls.spliced_cons (bM (ha pins s σ H _ I h) fun u s1 ⟨x,H1,I1,r1,q1⟩=>?_);exact bM (hr pos pins s1 σ H1 _ I1 q1) fun us s2 ⟨xs,H2,I2,r2,q2⟩=>⟨x::xs,H2,I2,.cons r1 r2,q2⟩
def tTup (t:TA):TE:=fun σ H Q=>t σ H fun xs H1=>xs.length<=sizeLine/\∀ p,H1 p=none->Q (.ref p) (upd H1 p (.tup xs))
def tLst (t:TA):TE:=fun σ H Q=>t σ H fun xs H1=>xs.length<=sizeLine/\∀ p,H1 p=none->Q (.ref p) (upd H1 p (.lst xs))
theorem Al {x1}(h:PA X es t):PE X (.Tuple es x1 pos) (tTup t):=by
 intro pins s σ H Q I hq;refine wpAny_Tuple_spliced (bM (h pos pins s σ H _ I hq) fun us s1 ⟨xs,H1,I1,r,z,q⟩=>⟨by rw[<-r.length];exact z,?_⟩);have hf:H1 s1.heap.objs.size=none:=I1.hok.fresh (av _);refine⟨.ref s1.heap.objs.size,upd H1 s1.heap.objs.size (.tup xs),I1.laid (t':=s1.toks) (fun b u e=>Heap.get?_push_of_some _ e) (av _) ?_,rfl,q _ hf⟩;exact⟨z,us,r,⟨_,Heap.get?_push_size _ rfl,rfl,_,rfl⟩⟩
theorem zK (h:PA X es t):PE X (.List es pos) (tLst t):=by
 intro pins s σ H Q I hq;refine wpAny_List_spliced (bM (h pos pins s σ H _ I hq) fun us s1 ⟨xs,H1,I1,r,z,q⟩=>⟨by rw[<-r.length];exact z,?_⟩);have hf:H1 s1.heap.objs.size=none:=I1.hok.fresh (av _);refine⟨.ref s1.heap.objs.size,upd H1 s1.heap.objs.size (.lst xs),I1.laid (t':=s1.toks) (fun b u e=>Heap.get?_push_of_some _ e) (av _) ?_,rfl,q _ hf⟩;exact⟨z,us,0,r,Heap.get?_push_size _ rfl⟩
end
noncomputable abbrev Sp:=List V->Hp->VK->XK->Prop
noncomputable abbrev u7:=List Env->Hp->Shared->XK->Value->Shared->Prop
structure vF (P:Program)(w:World)(K:PySem.W.Frag)(mg:Str->Option Value)(base:Heap)(A:Around)(outer:List Env)(s:Shared)(H:Hp):Prop where
 frames:A.frames=some outer
 mod:Mod K mg base
 bs:∀ b o,base.get? b=some o->s.heap.get? b=some o/\H b=none
 bsz:base.objs.size<=s.heap.objs.size
 funs:s.heap.FunFrames base outer
 frf:∀ b∈ve outer,H b=none
 hok:iw P w H s.heap
 bare:AllBare s.gens
noncomputable def CE (outer:List Env)(P:Program)(w:World)(H:Hp)(s:Shared)(Q:VK)(u:Value)(s':Shared):Prop :=
 ∃ v H',s'.os=s.os/\AllBare s'.gens/\Un (ve outer) [] H H' s.heap s'.heap/\iw P w H' s'.heap/\RelV v u/\Q v H'
noncomputable def CR (CX:u7)(outer:List Env)(P:Program)(w:World)(H:Hp)(s:Shared)(Q:VK)(E:XK)(r:Result)(s':Shared):Prop :=
 match r with
 | .ok (.ret u)=>CE outer P w H s Q u s'
 |.ok _=>False
 |.error e=>CX outer H s E e s'
structure mz (P:Program)(w:World)(K:PySem.W.Frag)(mg:Str->Option Value)(base:Heap)(CX:u7)(k:Nat)(f:Addr)(fd:FuncData)(ps:List Str)(sp:Sp):Prop where
 len:∀ vs H Q E,sp vs H Q E->vs.length=ps.length
 run:∀(A:Around) (outer:List Env) (s:Shared) (H:Hp) (args:Args) (us:List Value) (vs:List V) (Q:VK) (E:XK),gB k A->vF P w K mg base A outer s H->BindsTo s fd args (ps.zip us)->aJ vs us->sp vs H Q E ->
  codeAny (model P w) A (.call (.ref f) args) (CR CX outer P w H s Q E) s
section
variable {X:Cx}{pins:List (Addr×Obj)}{σ:St}{H:Hp}{s s':Shared}
theorem Inv.env0 (I:Inv X pins σ H s):vF X.prog X.w X.K X.mg X.base X.A X.stack s H :=
 ⟨I.ok.frames,I.ok.mod,I.bs,bh I.ok.bsz I.sz,I.stack,I.stkFree,I.hok,I.bare⟩
theorem Inv.after {Q:VK}{u:Value}(I:Inv X pins σ H s)(h:CE X.stack X.prog X.w H s Q u s'):EP X pins σ Q u s':=by
 obtain⟨v,H',os,bare,un,hok,r,q⟩:=h;obtain⟨hh,g,d,t,os'⟩:=s';obtain rfl:os'=s.os:=os;exact⟨v,H',I.call (h':=hh) (g':=g) (d':=d) (t':=t) (ch:=[]) un hok bare (fun b z=>absurd z (by simp)),r,q⟩
end
def uF (sp:Sp)(dvs:List V)(E:XK)(t:TA):TE:=fun σ H Q=>t σ H fun vs H1=>sp (vs++dvs) H1 Q E
noncomputable def Binds (K:PySem.W.Frag)(fd:FuncData)(ps:List Str)(ds:List Value):Prop :=
 ∀(s:Shared) (us:List Value),K.In s.heap->(us++ds).length=ps.length->BindsTo s fd ⟨us,[]⟩ (ps.zip (us++ds))
theorem Binds.all {K:PySem.W.Frag}{fd:FuncData}{ps:List Str}(h:∀ us:List Value,us.length=ps.length->bindArgs fd ⟨us,[]⟩=pure (ps.zip us)):Binds K fd ps []:=fun s us _ hl=>by
 rw[ay] at hl ⊢;exact .of_eq (h us hl)
def ml (CX:u7)(X:Cx)(E:XK):Prop:=∀(pins:List (Addr×Obj)) (σ:St) (H:Hp) (s:Shared) (e:Value) (s':Shared),Inv X pins σ H s->CX X.stack H s E e s'->X.xe e s'
section
variable {X:Cx}{CX:u7}{k:Nat}{f C:Addr}{fd:FuncData}{ps:List Str}{sp:Sp}{dvs:List V}{ds:List Value}{E:XK}{x m:Str}{p pos apos:Pos}{e o:Expr}{es:List Expr}{ta:TE}{t:TA}
theorem sH {pins:List (Addr×Obj)}{σ:St}{H:Hp}{s:Shared}{Q:VK}{us:List Value}{vs:List V}(F:mz X.prog X.w X.K X.mg X.base CX k f fd ps sp)(hr:gB k X.A)(hb:Binds X.K fd ps ds)(hd:aJ dvs ds)(hx:ml CX X E)
  (I:Inv X pins σ H s) (r:aJ vs us) (h:sp (vs++dvs) H Q E):wpAny (model X.prog X.w) X.A (call (.ref f) us) (EP X pins σ Q) X.xe s:=by
 have r2:aJ (vs++dvs) (us++ds):=r.append hd;have hl:(us++ds).length=ps.length:=by rw[<-r2.length];exact F.len _ _ _ _ h
 refine wpAny_call (codeAny_mono (F.run X.A X.stack s H ⟨us,[]⟩ (us++ds) (vs++dvs) Q E hr I.env0 (hb s us I.kIn hl) r2 h) fun r s' hq=>?_);cases r with
 |error e=>exact hx pins σ H s e s' I hq
 |ok fl =>
  cases fl with
  |ret u=>exact I.after hq
  |next=>exact False.elim hq
  |brk=>exact False.elim hq
  |cont=>exact False.elim hq
theorem vR (F:mz X.prog X.w X.K X.mg X.base CX k f fd ps sp)(hr:gB k X.A)(hg:Gl X x)(hm:X.mg x=some (.ref f))(hk:PySem.W.keepIn X.K (.ref f)=true)(hb:Binds X.K fd ps ds)(hd:aJ dvs ds)(hx:ml CX X E)
  (ha:PA X (e::es) t) (hdb:(x==("__debug__" : Str))=false:=by decide) (he:starEach (e::es) X.env=(false,eval e X.env)::starEach es X.env:=by rfl) (hpl:(backTo pos (starEach es X.env)).any (·.1)=false:=by rfl) :
  PE X (.Call (.Name x p) (e::es) [] pos) (uF sp dvs E t):=by
 intro pins s σ H Q I h;refine wpAny_Call_Name_kw (me I hg hm ?_ hdb);refine PySem.W.callWith_K (h₀:=X.base) I.ok.mod.kin hk (bM (ha pos pins s σ H _ I h) fun us s1 ⟨vs,H1,I1,r,q⟩=>⟨I1.kIn,?_⟩) he hpl;exact sH F hr hb hd hx I1 r q
theorem sD (F:mz X.prog X.w X.K X.mg X.base CX k f fd ps sp)(hr:gB k X.A)(hg:Gl X x)(hm:X.mg x=some (.ref f))(hk:PySem.W.keepIn X.K (.ref f)=true)(hb:Binds X.K fd ps ds)(hd:aJ dvs ds)(hx:ml CX X E)
  (hdb:(x==("__debug__" : Str))=false:=by decide):PE X (.Call (.Name x p) [] [] pos) (uF sp dvs E Ao):=by
 intro pins s σ H Q I h;refine wpAny_Call_Name_kw (me I hg hm ?_ hdb);exact PySem.W.callWith_K0 I.kIn hk (sH (us:=[]) F hr hb hd hx I .nil h)
structure Mk (K:PySem.W.Frag)(C f:Addr):Prop where
 makes:PySem.W.makesIn K C=true
 init:PySem.W.findIn K (.ref C) "__init__" = some (some (.ref f))
 fn:PySem.W.isFn K (.ref f)=true
 kp:PySem.W.keepIn K (.ref C)=true
end
section
variable {X:Cx}{CX:u7}{k:Nat}{f C:Addr}{fd:FuncData}{ps ks:List Str}{sp:Sp}{E:XK}{x m:Str}{p pos apos kpos:Pos}{e o:Expr}{es:List Expr}{kws:List Keyword}{te ta:TE}{t tk:TA}{nm:Option Str}
structure KBinds (K:PySem.W.Frag)(fd:FuncData)(ps ks:List Str)(g:List Value->List Value->List Value)(gV:List V->List V->List V):Prop where
 to:∀(s:Shared) (us ws:List Value),K.In s.heap->(g us ws).length=ps.length->BindsTo s fd ⟨us,ks.zip ws⟩ (ps.zip (g us ws))
 rel:∀{vs:List V}{us:List Value}{zs:List V}{ws:List Value},aJ vs us->aJ zs ws->aJ (gV vs zs) (g us ws)
variable {g:List Value->List Value->List Value}{gV:List V->List V->List V}
end
structure jn (N P:List Str)(sc:Scope):Prop where
 kind:sc.kind = .function
 co:sc.isCoroutine=false
 gen:sc.isGenerator=false
 nd:N.Nodup
 pre:N.take P.length=P
 par:∀ x∈P,sc.names.lookup x=some .local\/sc.names.lookup x=some .cell
 nofree:∀ y∈sc.names,y.2≠.free
theorem kN {kindOf:Str->Option NameKind}{x:Str}:∀{binds:List (Str×Value)}{m:Str->Option Value},(∀ v,(x,v)∉binds)->bindL kindOf binds m x=m x
 |[],_,_=>rfl
 | (n,v)::r,m,h=>by
  unfold bindL;rw[kN fun w hw=>h w (ah _ hw)];split
  ·have:x≠n:=by rintro rfl;exact h v ai
   simp[this]
  ·rfl
theorem lz {kindOf:Str->Option NameKind}{x:Str}:∀{binds:List (Str×Value)}{m:Str->Option Value},(∀ v,(x,v)∉binds)->bindC kindOf binds m x=m x
 |[],_,_=>rfl
 | (n,v)::r,m,h=>by
  unfold bindC;rw[lz fun w hw=>h w (ah _ hw)];split
  ·rfl
  ·have:x≠n:=by rintro rfl;exact h v ai
   simp[this]
theorem kX {kindOf:Str->Option NameKind}{x:Str}{v:Value}:∀{P:List Str}{vs:List Value}{i:Nat}{m:Str->Option Value},P.Nodup->P[i]? = some x->vs[i]? = some v->kindOf x=some .local ->
  bindL kindOf (P.zip vs) m x=some v
 |[],_,_,_,_,h,_,_=>by simp at h
 |_::_,[],_,_,_,_,h,_=>by simp at h
 | p::P,w::vs,0,m,nd,h1,h2,hk=>by
  simp at h1 h2;subst h1;subst h2;show bindL kindOf ((p,w)::P.zip vs) m p=_;unfold bindL;rw[kN fun v hv=>(List.nodup_cons.mp nd).1 (List.of_mem_zip hv).1,if_pos hk];simp
 | p::P,w::vs,i+1,m,nd,h1,h2,hk=>by
  show bindL kindOf ((p,w)::P.zip vs) m x=_;unfold bindL;exact kX (i:=i) (List.nodup_cons.mp nd).2 (by simpa using h1) (by simpa using h2) hk
theorem k5 {kindOf:Str->Option NameKind}{x:Str}{v:Value}:∀{P:List Str}{vs:List Value}{i:Nat}{m:Str->Option Value},P.Nodup->P[i]? = some x->vs[i]? = some v->kindOf x≠some .local ->
  bindC kindOf (P.zip vs) m x=some v
 |[],_,_,_,_,h,_,_=>by simp at h
 |_::_,[],_,_,_,_,h,_=>by simp at h
 | p::P,w::vs,0,m,nd,h1,h2,hk=>by
  simp at h1 h2;subst h1;subst h2;show bindC kindOf ((p,w)::P.zip vs) m p=_;unfold bindC;rw[lz fun v hv=>(List.nodup_cons.mp nd).1 (List.of_mem_zip hv).1,if_neg hk];simp
 | p::P,w::vs,i+1,m,nd,h1,h2,hk=>by
  show bindC kindOf ((p,w)::P.zip vs) m x=_;unfold bindC;exact k5 (i:=i) (List.nodup_cons.mp nd).2 (by simpa using h1) (by simpa using h2) hk
noncomputable def start (N:List Str)(vs:List V):St:=vs.map some++List.replicate (N.length - vs.length) none
noncomputable def oH (CX:u7)(P:Program)(w:World)(K:PySem.W.Frag)(mg:Str->Option Value)(base:Heap)(N:List Str)(qual:Str)(scope:Scope)(f:Addr)(cd:Value)(A:Around)(outer:List Env)(s:Shared)(H:Hp)(E:XK):Cx where
 prog:=P
 w:=w
 K:=K
 mg:=mg
 base:=base
 A:=A.deeper (envOfC qual scope s.heap.objs.size f cd)
 N:=N
 s₀:=s
 H₀:=H
 env:=envOfC qual scope s.heap.objs.size f cd
 outer:=outer
 stack:=envOfC qual scope s.heap.objs.size f cd::outer
 ex:=[]
 calm:=true
 fn:=fun _=>true
 pn:=[]
 xe:=fun e s'=>wpAny (model P w) (A.deeper (envOfC qual scope s.heap.objs.size f cd)) (leaving (envOfC qual scope s.heap.objs.size f cd) e) (fun _ s''=>CX outer H s E e s'') (fun e' s''=>CX outer H s E e' s'') s'
theorem mO {sc:Scope}{n:Nat}{x:Str}(h:sc.names.lookup x=some .cell):∃ c,(cellsFrom n sc.names []).lookup x=some c:=by
 have q:=PySem.W.cellsFrom_some sc.names n [] (.inl h);exact Option.isSome_iff_exists.mp q
theorem rC {CX:u7}{P:Program}{w:World}{K:PySem.W.Frag}{mg:Str->Option Value}{base:Heap}{N ps:List Str}{qual:Str}{scope:Scope}{f:Addr}{cd:Value}{A:Around}{outer:List Env}{s s1:Shared}{H:Hp}{E:XK}{us:List Value}{vs:List V}
  (S:jn N ps scope) (hd:A.handled=none) (e0:vF P w K mg base A outer s H) (hl:vs.length=ps.length) (r:aJ vs us)
  (x:InCallC s s.heap.objs.size (bindL (envOfC qual scope s.heap.objs.size f cd).kindOf (ps.zip us) fun _=>none) (cellsFrom (s.heap.objs.size+1) scope.names []) (bindC (envOfC qual scope s.heap.objs.size f cd).kindOf (ps.zip us) fun _=>none) s1) :
  Inv (oH CX P w K mg base N qual scope f cd A outer s H E) [] (start N vs) H s1:=by
 have hpl:ps.length<=N.length:=by have:=fk List.length S.pre;rw[cm] at this;omega
 obtain⟨h1,tk,rfl,hk⟩:=x.done;have noA:∀ b:Addr,b∉(oH CX P w K mg base N qual scope f cd A outer s H E).ex:=fun b z=>absurd (show b∈([]:List Addr) from z) (by simp)
 refine⟨⟨e0.mod,S.kind,rfl,rfl,av _,fun y z c h1 h2=>?_,fun y hy=>?_,fun y c _ h=>?_,fun _=>hd,Around.frames_deeper e0.frames,.inr ⟨rfl,rfl⟩,fun b z=>absurd z (noA b),e0.bs,e0.bsz,fun b _ _=>noA b,fun b z=>absurd z (noA b),e0.funs,e0.frf⟩,
  rfl,e0.bare,Un.kept hk,⟨_,x.toInCall.ns,fun i y v h1 h2 h3=>?_⟩,fun y c h=>⟨_,x.cell y c h⟩,e0.hok.fresh (Nat.le_refl _),fun y c h=>?_,fun p hp=>absurd (show p∈([]:List (Addr×Obj)) from hp) (by simp),e0.hok.kept hk,?_⟩
 ·exact name_of_addr x.apart (br h1) (br h2)
 ·have hy:scope.names.lookup y=some .cell\/scope.names.lookup y=some .free:=hy;rcases hy with hy | hy
  ·exact mO hy
  ·exact absurd rfl (S.nofree _ (br hy))
 ·exact Nat.le_of_lt (x.above y c (br h))
 ·have hi:i<vs.length:=by
   unfold start at h2;by_cases hi:i<vs.length
   ·exact hi
   ·rw[List.getElem?_append_right (by simpa using hi)] at h2;rw[List.getElem?_replicate] at h2;split at h2<;>cases h2
  have ha:vs[i]? = some v:=by
   unfold start at h2;rw[List.getElem?_append_left (by simpa using hi),List.getElem?_map] at h2;cases e:vs[i]? with
   |none=>rw[e] at h2;cases h2
   |some a=>rw[e] at h2;cases h2;rfl
  obtain⟨u,hu,rv⟩:=r.get ha;have hp:ps[i]? = some y:=by
   rw[<-S.pre,List.getElem?_take_of_lt (by omega)];exact h1
  have ndP:ps.Nodup:=by rw[<-S.pre];exact S.nd.sublist (List.take_sublist _ _)
  refine⟨u,rv,?_⟩;rcases S.par y (List.mem_of_getElem? hp) with k | k
  ·exact .inl ⟨k,kX ndP hp hu k⟩
  ·obtain⟨c,e⟩:=mO (n:=s.heap.objs.size+1) k;refine .inr ⟨.inl k,c,e,?_⟩;have q:=x.cell y c e;rw[k5 ndP hp hu (by show scope.names.lookup y≠_;rw[k];decide)] at q;exact q
 ·exact e0.hok.fresh (Nat.le_of_lt (x.above y c (br h)))
 ·unfold start;show _=N.length;rw[ao,ag,bw];omega
theorem Bm {CX:u7}{P:Program}{w:World}{K:PySem.W.Frag}{mg:Str->Option Value}{base:Heap}{k:Nat}{f:Addr}{name qual:Str}{params:Arguments}{body:List Stmt}{scope:Scope}{dV kV doc pm cdv ct oc:Value}{an od:Option Addr}
  {osl:Array (Option Value)}{N ps:List Str}{sp:Sp}(lk:K.lookup f=some ⟨oc,od,.func (PySem.W.fnOf name qual params body scope dV kV doc pm an cdv ct),osl⟩) (hcd:PySem.W.codeIn K cdv qual=true) (S:jn N ps scope)
  (len:∀ vs H Q E,sp vs H Q E->vs.length=ps.length)
  (hbody:∀(A:Around) (outer:List Env) (s:Shared) (H:Hp) (vs:List V) (Q:VK) (E:XK),gB k (A.deeper (envOfC qual scope s.heap.objs.size f cdv))->sp vs H Q E ->
   ∃ t,j9 (oH CX P w K mg base N qual scope f cdv A outer s H E) body t/\t { nx:=fun _ H'=>Q .non H',rt:=Q } (start N vs) H) :
  mz P w K mg base CX (k+1) f (PySem.W.fnOf name qual params body scope dV kV doc pm an cdv ct) ps sp:=by
 refine⟨len,fun A outer s H args us vs Q E hr e0 hb r hsp=>?_⟩;have hl:=len _ _ _ _ hsp;have KX:K.In s.heap:=e0.mod.kin.keeps fun b o e=>(e0.bs b o e).1
 have lim:s.heap.NoLimit:=e0.mod.nolimit.keeps fun b o e=>(e0.bs b o e).1
 have hkind:∀ y∈ps.zip us,scope.names.lookup y.1=some .local\/(scope.names.lookup y.1=some .cell/\((cellsFrom (s.heap.objs.size+1) scope.names []).lookup y.1).isSome=true):=fun ⟨n,v⟩ hy=>by
  rcases S.par n (List.of_mem_zip hy).1 with q | q
  ·exact .inl q
  ·exact .inr ⟨q,PySem.W.cellsFrom_some _ _ _ (.inl q)⟩
 refine codeAny_call_function hr.depth (KX _ _ lk) rfl S.co S.gen rfl (PySem.W.codeRec_of KX hcd) (hb _ _ _ _ ?_);refine wpAny_newFunctionEnv_cells S.kind hkind fun env he s1 x=>?_
 subst he;refine⟨lim.keeps x.toInCall.keep,codeAny_func ?_⟩;obtain⟨t,ht,hq⟩:=hbody A outer s H vs Q E (hr.deeper _) hsp;have I:Inv (oH CX P w K mg base N qual scope f cdv A outer s H E) [] (start N vs) H s1:=rC S hr.hd e0 hl r x;refine wpAny_mono (ht [] s1 (start N vs) H _ I hq) (fun fl s' hs=>?_) fun e s' hs=>hs
 have fin:∀{σ':St}{H':Hp}{v:V}{u:Value},Inv (oH CX P w K mg base N qual scope f cdv A outer s H E) [] σ' H' s'->RelV v u->Q v H'->CE outer P w H s Q u s' :=
  fun {σ' H' v u} J rv q=>⟨v,H',J.os,J.bare,J.base,J.hok,rv,q⟩
 cases fl with
 |ret u =>
  obtain⟨v,σ',H',J,rv,q⟩:=hs;exact fin J rv q
 |next =>
  obtain⟨σ',H',J,q⟩:=hs;exact fin (v:=V.non) (u:=Value.none) J rfl q
 |brk =>
  obtain⟨_,_,_,q⟩:=hs;exact False.elim q
 |cont =>
  obtain⟨_,_,_,q⟩:=hs;exact False.elim q
end L2
namespace L2
open PySem PySem.Spec PyProof.Rows
section
variable {X:Cx}{x:Str}{p pos:Pos}{e:Expr}{es:List Expr}{t:TA}{id T:String}{r:List V->Hp->VK->Prop}
def tCB (r:List V->Hp->VK->Prop)(t:TA):TE:=fun σ H Q=>t σ H fun vs H1=>r vs H1 Q
theorem nH (hc:eC X (.builtin id) r)(hg:Gl X x)(hm:X.mg x=none)(hv:bootBuiltins x=some (.builtin id))(ha:PA X (e::es) t)(hn:x≠"__name__":=by decide) (hdb:(x==("__debug__" : Str))=false:=by decide)
  (he:starEach (e::es) X.env=(false,eval e X.env)::starEach es X.env:=by rfl) (hpl:(backTo pos (starEach es X.env)).any (·.1)=false:=by rfl):PE X (.Call (.Name x p) (e::es) [] pos) (tCB r t):=by
 intro pins s σ H Q I h;refine wpAny_Call_Name_kw (j5 I hg hm hv ?_ hn hdb);exact PyProof.Rows.callWith_builtin1 (bM (ha pos pins s σ H _ I h) fun us s1 ⟨vs,H1,I1,r1,q1⟩=>hc pins s1 σ H1 vs us Q I1 r1 q1) he hpl
theorem qv (hc:eC X (.type T) r)(hg:Gl X x)(hm:X.mg x=none)(hv:bootBuiltins x=some (.type T))(ha:PA X (e::es) t)(hn:x≠"__name__":=by decide) (hdb:(x==("__debug__" : Str))=false:=by decide)
  (he:starEach (e::es) X.env=(false,eval e X.env)::starEach es X.env:=by rfl) (hpl:(backTo pos (starEach es X.env)).any (·.1)=false:=by rfl):PE X (.Call (.Name x p) (e::es) [] pos) (tCB r t):=by
 intro pins s σ H Q I h;refine wpAny_Call_Name_kw (j5 I hg hm hv ?_ hn hdb);exact gd (bM (ha pos pins s σ H _ I h) fun us s1 ⟨vs,H1,I1,r1,q1⟩=>hc pins s1 σ H1 vs us Q I1 r1 q1) he hpl
end
end L2
namespace HT
open PySem PyProof.Rows
noncomputable def lexLt:List Int->List Int->Bool
 |[],[]=>false
 |[],_::_=>true
 |_::_,[]=>false
 |x::xs,y::ys=>if x=y then lexLt xs ys else decide (x<y)
theorem jt (x y:Int)(xs ys:List Int):lexLt (x::xs) (y::ys)=if x=y then lexLt xs ys else decide (x<y):=rfl
theorem ko:lexLt [] []=false:=rfl
theorem jO (y:Int)(ys:List Int):lexLt [] (y::ys)=true:=rfl
theorem jr (x:Int)(xs:List Int):lexLt (x::xs) []=false:=rfl
theorem mW (A:Around)(s:Shared)(a:Int)(t:Tok)(c:Int)(u:Tok):∃ e,SeqAt.EqAt A s (.int a t) (.int c u) e/\(e=true↔a=c) :=
 ⟨(a==c),SeqAt.EqAt.int_int a t c u,by simp⟩
theorem jG (A:Around)(s:Shared)(a:Int)(t:Tok)(c:Int)(u:Tok)(prog:Program)(w:World)(E:Value->Shared->Prop)(Q:Value->Shared->Prop)(h:Q (.bool (decide (a<c))) s) :
  wpAny (model prog w) A (richCompare .Lt (.int a t) (.int c u)) Q E s :=
 (PyProof.Rows.lt_int h:wpAny (model prog w) A (compareOp .Lt (.int a t) (.int c u)) Q E s)
section
open PySem.SeqAt
open PySem.AutoSeq1 (wpAny_loadPart')
open PySem.MeetsSeq PySem.MeetsSeq2 PySem.MeetsSeq3
theorem kA (l b:Addr)(items items2:Array Value)(n n2:Nat)(dd dd2:Option Addr)(sl sl2:Array (Option Value))(ns ms:List Int)(hi:IntsAre items.toList ns)(hj:IntsAre items2.toList ms) :
  Meets (Builtin.«tuple.__lt__» ⟨[.ref l,.ref b],[]⟩)
   (fun _ R s=>s.heap.get? l=some { cls:=.type "tuple",dict:=dd,data:=.seq items n,slots:=sl }/\s.heap.get? b=some { cls:=.type "tuple",dict:=dd2,data:=.seq items2 n2,slots:=sl2 } /\
    R (.ok (.ret (.bool (lexLt ns ms)))) s) :=
 .of_wp fun prog w A R s h=>by
  obtain⟨hp,g,d,tk,os⟩:=s;obtain⟨hl,hb,h⟩:=h;have f2:=AutoSeq1.sub_tuple_tuple;have z1:items.size=ns.length:=by rw[<-hi.length];simp
  have z2:items2.size=ms.length:=by rw[<-hj.length];simp
  wp_walk using wpAny_loadPart' hl,wpAny_loadPart' hb,wpAny_forIn_list _ (fun rest b s'=>b.1=none/\s'=⟨hp,g,d,tk,os⟩/\∃(vs ws:List Value) (ns' ms':List Int),rest=vs.zip ws /\
   IntsAre vs ns'/\IntsAre ws ms'/\ns'.length+items2.size=ms'.length+items.size/\R (.ok (.ret (.bool (lexLt ns' ms')))) ⟨hp,g,d,tk,os⟩) _
  case turn =>
   rintro⟨y,x⟩ rest b s' ⟨hb',rfl,vs,ws,ns',ms',hz,hvi,hwi,hlen,hR⟩;cases hvi with
   |nil=>rw[List.zip_nil_left] at hz;cases hz
   |cons a t hvi' =>
    cases hwi with
    |nil=>rw[List.zip_nil_right] at hz;cases hz
    |cons c u hwi' =>
     rw[gh] at hz;injection hz with hyx hrest
     injection hyx with hy hx
     subst hy hx;rw[jt] at hR;simp only[List.length_cons] at hlen;obtain⟨e,he,hiff⟩:=mW A.in1 ⟨hp,g,d,tk,os⟩ a t c u;refine wpAny_bind (he prog w _ _ ?_);cases e with
     |true =>
      rw[if_pos (hiff.mp rfl)] at hR
      wp_walk
      exact⟨rfl,rfl,_,_,_,_,hrest,hvi',hwi',by omega,hR⟩
     |false =>
      rw[if_neg (fun q=>absurd (hiff.mpr q) ax)] at hR;have hri:=jG A.in1 ⟨hp,g,d,tk,os⟩ a t c u prog w
      wp_walk using hri
      exact⟨_,rfl,by simpa using hR⟩
  case fin =>
   rintro⟨b1,b2⟩ s' ⟨hb',rfl,vs,ws,ns',ms',hz,hvi,hwi,hlen,hR⟩;simp only at hb';subst hb';have hv:lexLt ns' ms'=decide (items.size<items2.size):=by
    cases hvi with
    |nil =>
     cases hwi with
     |nil =>
      simp only[List.length_nil] at hlen;rw[ko];exact (aw (by omega)).symm
     |cons c u hw =>
      simp only[List.length_nil,List.length_cons] at hlen;rw[jO];exact (bf (by omega)).symm
    |cons a t hv =>
     cases hwi with
     |nil =>
      simp only[List.length_nil,List.length_cons] at hlen;rw[jr];exact (aw (by omega)).symm
     |cons c u hw =>
      rw[gh] at hz;cases hz
   rw[hv] at hR
   wp_walk
   exact⟨_,rfl,by simpa[Builtin.Tuple.tupleCompareSizes] using hR⟩
  case h =>
   exact⟨rfl,rfl,items.toList,items2.toList,ns,ms,rfl,hi,hj,by omega,h⟩
end
section
variable {prog:Program}{w:World}{A:Around}{E:Value->Shared->Prop}{s:Shared}
theorem nQ {l b:Addr}{items items2:Array Value}{ns ms:List Int}{Q:Value->Shared->Prop}(hl:IsTup s.heap l items)(hb:IsTup s.heap b items2)(hi:IntsAre items.toList ns)(hj:IntsAre items2.toList ms)
  (hu:A.units<cLine) (h:Q (.bool (lexLt ns ms)) s):wpAny (model prog w) A (compareOp .Lt (.ref l) (.ref b)) Q E s:=by
 obtain⟨⟨cls,dd,data,sl⟩,ho,hc,n,hd⟩:=id hl;obtain⟨⟨cls2,dd2,data2,sl2⟩,ho2,hc2,n2,hd2⟩:=id hb;simp only at hc hd hc2 hd2;subst hc hd hc2 hd2;exact richCompare_meets_room (op:=.Lt) ⟨_,ho,rfl⟩ ⟨_,ho2,rfl⟩ PySem.F.slot_tuple_lt PySem.F.entry_tuple_lt (PySem.F.args_tuple_lt_2 _ _) (kA l b items items2 n n2 dd dd2 sl sl2 ns ms hi hj)
  ⟨ho,ho2,show Value.bool (lexLt ns ms)≠Value.notImplemented/\Q (.bool (lexLt ns ms)) s from ⟨(fun x=>nomatch x),h⟩⟩ hu
theorem vG {t b:Addr}{vs ws:List Value}{Q:Value->Shared->Prop}(ht:IsTup s.heap t vs.toArray)(hb:IsTup s.heap b ws.toArray)(hv:vs≠[])
  (h1:ws=[]->Q (.ref t) s) (h2:ws≠[]->Q (.ref s.heap.objs.size) { s with heap:=s.heap.push { cls:=.type "tuple",data:=.seq (vs++ws).toArray } })
  (hsz:vs.length+ws.length<=sizeLine):wpAny (model prog w) A (binaryOp .Add (.ref t) (.ref b)) Q E s:=by
 obtain⟨⟨cls,dd,data,sl⟩,ho,hc,n,hd⟩:=id ht;obtain⟨⟨cls2,dd2,data2,sl2⟩,ho2,hc2,n2,hd2⟩:=id hb;simp only at hc hd hc2 hd2;subst hc hd hc2 hd2;have e:vs.toArray++ws.toArray=(vs++ws).toArray:=by simp
 by_cases hw:ws=[]
 ·exact concat_meets ⟨_,ho,rfl⟩ ⟨_,ho2,rfl⟩ noFill_tuple_add seq_tuple_add PySem.F.slot_tuple_add PySem.F.entry_tuple_add (PySem.F.args_tuple_add_2 _ _)
   (tuple_addW1 t b vs.toArray ws.toArray n n2 dd dd2 sl sl2 (by simpa using hv) (by simp[hw])) ⟨ho,ho2,h1 hw⟩
 ·refine concat_meets ⟨_,ho,rfl⟩ ⟨_,ho2,rfl⟩ noFill_tuple_add seq_tuple_add PySem.F.slot_tuple_add PySem.F.entry_tuple_add (PySem.F.args_tuple_add_2 _ _)
   (tuple_addW2 t b vs.toArray ws.toArray n n2 dd dd2 sl sl2 (by simpa using hv) (by simpa using hw) (by rw[List.size_toArray,List.size_toArray];exact hsz)) ⟨ho,ho2,?_⟩
  rw[e];exact h2 hw
noncomputable def bE (n d:Nat):Option Int->Nat
 |none=>d
 |some v=>if v<0 then (v+(n:Int)).toNat else min v.toNat n
theorem mi (n d:Nat)(hd:d<=n)(o:Option Int):bE n d o<=n:=by
 cases o with
 |none=>exact hd
 |some v =>
  show (if v<0 then (v+(n:Int)).toNat else min v.toNat n)<=n;by_cases hv:v<0
  ·rw[if_pos hv];omega
  ·rw[if_neg hv];exact Nat.min_le_right _ _
theorem qa (v:Int)(n d:Nat):(if v<0 then max (v+(n:Int)) 0 else min v (n:Int))=((bE n d (some v):Nat):Int):=by
 show (if v<0 then max (v+(n:Int)) 0 else min v (n:Int))=(((if v<0 then (v+(n:Int)).toNat else min v.toNat n):Nat):Int);by_cases hv:v<0
 ·simp only[if_pos hv];omega
 ·simp only[if_neg hv];omega
theorem nU (lo hi:Option Int)(n:Nat):Builtin.Slice.sliceAdjust lo hi 1 (n:Int)=(((bE n 0 lo:Nat):Int),((bE n n hi:Nat):Int)):=by
 have h1:¬ ((1:Int)<0):=by omega
 unfold Builtin.Slice.sliceAdjust;simp only[h1,if_false];refine Prod.ext ?_ ?_
 ·cases lo with
  |none=>rfl
  |some v=>exact qa v n 0
 ·cases hi with
  |none=>rfl
  |some v=>exact qa v n n
theorem n5 (i j:Nat):Builtin.Slice.slicePlaces (i:Int) (j:Int) 1=j - i:=by
 unfold Builtin.Slice.slicePlaces;have h1:(1:Int) > 0:=by omega
 simp only[h1,if_true,Int.ediv_one];split<;>omega
theorem jz {v:Value}{o:Option Int}{Q:Option Int->Shared->Prop}(p:IsPart v o)(h:Q o s):wpAny (model prog w) A (Builtin.Slice.slicePartIndex v) Q E s:=by
 cases p with
 |none=>exact slicePart_none h
 |int i t=>exact slicePart_int h
theorem iR {sl:Addr}{vl vu:Value}{lo hi:Option Int}{n:Nat}{Q:Int×Int×Nat->Shared->Prop}(hs:s.heap.IsSliceOf sl vl vu .none)(pl:IsPart vl lo)(pu:IsPart vu hi)
  (h:Q (((bE n 0 lo:Nat):Int),1,bE n n hi - bE n 0 lo) s):wpAny (model prog w) A (Builtin.Slice.sliceApplied (.ref sl) (pure (n:Int))) Q E s:=by
 obtain⟨os,hos,hcs,hds⟩:=id hs;unfold Builtin.Slice.sliceApplied Builtin.Slice.sliceFields;refine wpAny_bind (wpAny_bind (wpAny_field hos hds (x:=vl) rfl (wpAny_bind (wpAny_field hos hds (x:=vu) rfl (wpAny_bind (wpAny_field hos hds (x:=.none) rfl (wpAny_pure ?_)))))));refine wpAny_bind (slicePart_none ?_);show wpAny _ _ (if ((1:Int)==0)=true then _ else _) _ _ s;rw[if_neg (by decide)];refine wpAny_bind (jz pl (wpAny_bind (jz pu (wpAny_bind (wpAny_pure ?_)))));show wpAny _ _ (match Builtin.Slice.sliceAdjust lo hi 1 (n:Int) with | (lo,hi)=>pure (lo,(1:Int),Builtin.Slice.slicePlaces lo hi 1)) _ _ s;rw[nU lo hi n];show wpAny _ _ (pure (((bE n 0 lo:Nat):Int),(1:Int),Builtin.Slice.slicePlaces ((bE n 0 lo:Nat):Int) ((bE n n hi:Nat):Int) 1)) _ _ s;rw[n5];exact wpAny_pure h
theorem uU (xs:Array Value)(i k:Nat):((List.range k).filterMap fun (m:Nat)=>xs[((i:Int)+(m:Int)*1).toNat]?).toArray=((xs.toList.drop i).take k).toArray:=by
 have e:(fun (m:Nat)=>xs[((i:Int)+(m:Int)*1).toNat]?)=fun m=>xs[i+m]?:=by
  funext m;have:((i:Int)+(m:Int)*1).toNat=i+m:=by omega
  rw[this]
 rw[e];have:=pick_run xs i k;rw[List.filterMap_map] at this;have e2:((fun x=>xs[x]?)∘fun x=>i+x)=fun m=>xs[i+m]?:=rfl
 rw[e2] at this;rw[this]
theorem iB {t sl:Addr}{items:Array Value}{vl vu:Value}{lo hi:Option Int}{Q:Value->Shared->Prop}(ht:IsTup s.heap t items)(hs:s.heap.IsSliceOf sl vl vu .none)(pl:IsPart vl lo)(pu:IsPart vu hi)
  (hw:¬ (bE items.size 0 lo=0/\bE items.size items.size hi=items.size))
  (h:Q (.ref s.heap.objs.size) { s with heap:=s.heap.push { cls:=.type "tuple",data:=.seq ((items.toList.drop (bE items.size 0 lo)).take (bE items.size items.size hi - bE items.size 0 lo)).toArray } })
  (hsz:items.size<=sizeLine):wpAny (model prog w) A (getItem (.ref t) (.ref sl)) Q E s:=by
 have htake:sizeOk (.seq ((items.toList.drop (bE items.size 0 lo)).take (bE items.size items.size hi - bE items.size 0 lo)).toArray):=by
  show ((items.toList.drop (bE items.size 0 lo)).take (bE items.size items.size hi - bE items.size 0 lo)).toArray.size<=sizeLine;rw[ae,cm,bz,cn];omega
 have hj:bE items.size items.size hi<=items.size:=mi _ _ (av _) hi;obtain⟨os,hos,hcs,hds⟩:=id hs;have hTs:s.TypeIs (.ref sl) "slice":=⟨os,hos,hcs⟩;unfold getItem
 try with_reducible refine wpAny_holding ?_
 first | refine wpAny_bind (wpAny_pure ?_) | skip
 refine wpAny_bind (wpAny_sequenceKey ht.typeIs (by decide) ?_);refine wpAny_bind (wpAny_callSpecial?_slot (name:=Str.ofString "__getitem__") ht.typeIs PyProof.Rows.slot_tuple_getitem
  (wpAny_call_entry PyProof.Rows.slot_tuple_getitem ht.typeIs entry_tuple_getitem ?_ (args_tuple_getitem _ _)))
 show wpAny _ _ (Builtin.Tuple.tupleItemsOf (.ref t) >>= _) _ _ s;refine wpAny_bind (tupleItemsOf_ ht ?_);refine wpAny_bind (wpAny_typeOf hTs ?_);rw[if_pos (by decide)];refine wpAny_bind (iR hs pl pu ?_);have hno:¬ ((((bE items.size 0 lo:Nat):Int)==0&&(1:Int)==1&&(bE items.size items.size hi - bE items.size 0 lo)==items.size)=true):=by
  intro q;rw[ak,ak] at q;have q1:((bE items.size 0 lo:Nat):Int)=0:=eq_of_beq q.1.1;have q2:bE items.size items.size hi - bE items.size 0 lo=items.size:=eq_of_beq q.2;exact hw ⟨by omega,by omega⟩
 show wpAny _ _ (if (((bE items.size 0 lo:Nat):Int)==0&&(1:Int)==1&&(bE items.size items.size hi - bE items.size 0 lo)==items.size)=true then _ else _) _ _ s;rw[if_neg hno,uU]
 first
  | exact wpAny_bind (m:=Builtin.Tuple.tupleExact _) (wpAny_newObj_type (wpAny_pure ⟨_,rfl,wpAny_pure h⟩) htake)
  | exact wpAny_bind (m:=Builtin.Tuple.tupleExact _) (wpAny_newObj_type (wpAny_bind (wpAny_pure (wpAny_pure ⟨_,rfl,wpAny_pure h⟩))) htake)
  | exact wpAny_bind (wpAny_bind (m:=Builtin.Tuple.tupleExact _) (wpAny_newObj_type (wpAny_pure (wpAny_pure ⟨_,rfl,wpAny_pure h⟩)) htake))
  | exact wpAny_bind (wpAny_bind (m:=Builtin.Tuple.tupleExact _) (wpAny_newObj_type (wpAny_pure ⟨_,rfl,wpAny_pure h⟩) htake))
end
end HT
namespace L2
open PySem PySem.Spec PyProof.Rows
noncomputable abbrev TO:=St->Hp->(Option Int->Hp->Prop)->Prop
noncomputable def PO (X:Cx)(e:Option Expr)(t:TO):Prop :=
 ∀(pins:List (Addr×Obj)) (s:Shared) (σ:St) (H:Hp) (Q:Option Int->Hp->Prop),Inv X pins σ H s->t σ H Q ->
  wpAny (model X.prog X.w) X.A (evalPart e X.env) (fun u s'=>∃ o H',Inv X pins σ H' s'/\IsPart u o/\Q o H') X.xe s
noncomputable def vY:TO:=fun _ H Q=>Q none H
noncomputable def Bc (t:TE):TO:=fun σ H Q=>t σ H fun x H1=>∃ i,x = .int i/\Q (some i) H1
section
variable {X:Cx}{e:Expr}{te:TE}{lo hi:Option Expr}{tl th:TO}{pos p2:Pos}
theorem wY:PO X none vY:=by
 intro pins s σ H Q I h;rw[evalPart_none];exact wpAny_pure ⟨none,H,I,.none,h⟩
theorem vv (h:PE X e te):PO X (some e) (Bc te):=by
 intro pins s σ H Q I hw;rw[evalPart_some];refine bM (h pins s σ H _ I hw) fun u s1 ⟨x,H1,I1,r1,q1⟩=>?_
 obtain⟨i,rfl,q⟩:=q1;obtain⟨t,rfl⟩:=r1;exact⟨some i,H1,I1,.int i t,q⟩
noncomputable def xE (X:Cx)(r:V->Option Int->Option Int->Hp->VK->Prop):Prop :=
 ∀(pins:List (Addr×Obj)) (s:Shared) (σ:St) (H:Hp) (x:V) (v vl vu:Value) (lo hi:Option Int) (sl:Addr) (Q:VK),Inv X pins σ H s->RelV x v->s.heap.IsSliceOf sl vl vu .none->IsPart vl lo->IsPart vu hi->r x lo hi H Q ->
  ∃ T id,typeLookup (.type T) "__getitem__" = pure (some (.builtin id))/\s.TypeIs v T/\wpAny (model X.prog X.w) X.A (getItem v (.ref sl)) (EP X pins σ Q) X.xe s
theorem xE.or {r r':V->Option Int->Option Int->Hp->VK->Prop}(h:xE X r)(h':xE X r'):xE X (fun x lo hi H Q=>r x lo hi H Q\/r' x lo hi H Q):=by
 intro pins s σ H x v vl vu lo hi sl Q I rx hs pl pu q;rcases q with q | q
 ·exact h pins s σ H x v vl vu lo hi sl Q I rx hs pl pu q
 ·exact h' pins s σ H x v vl vu lo hi sl Q I rx hs pl pu q
def tSl (r:V->Option Int->Option Int->Hp->VK->Prop)(te:TE)(tl th:TO):TE:=fun σ H Q=>te σ H fun x H1=>tl σ H1 fun l H2=>th σ H2 fun u H3=>r x l u H3 Q
theorem sd {r:V->Option Int->Option Int->Hp->VK->Prop}(hr:xE X r)(he:PE X e te)(hl:PO X lo tl)(hu:PO X hi th):PE X (.Subscript e (.Slice lo hi none p2) pos) (tSl r te tl th):=by
 intro pins s σ H Q I h;refine Subscript_ (bM (he pins s σ H _ I h) fun v s1 ⟨x,H1,I1,r1,q1⟩=>?_);refine wpAny_Slice (bM (hl pins s1 σ H1 _ I1 q1) fun vl s2 ⟨l,H2,I2,pl,q2⟩=>bM (hu pins s2 σ H2 _ I2 q2) fun vu s3 ⟨u,H3,I3,pu,q3⟩=>?_);rw[evalPart_none];refine wpAny_pure ?_;have I4:Inv X pins σ H3 { s3 with heap:=s3.heap.push { cls:=.type "slice",data:=.fields #[vl,vu,.none] } }:=I3.kept (t':=s3.toks) fun b ob q=>Heap.get?_push_of_some _ q
 obtain⟨T,id,hT,ht,hg⟩:=hr pins { s3 with heap:=s3.heap.push { cls:=.type "slice",data:=.fields #[vl,vu,.none] } } σ H3 x v vl vu l u s3.heap.objs.size Q I4 r1 (Heap.IsSliceOf.new ..) pl pu q3;show wpAny (model X.prog X.w) X.A (subscriptTail e (.Slice lo hi none p2) v (.ref s3.heap.objs.size)) (EP X pins σ Q) X.xe { s3 with heap:=s3.heap.push { cls:=.type "slice",data:=.fields #[vl,vu,.none] } };exact tail_any (ops:=[.ref s3.heap.objs.size,v]) ht hT hg (by with_unfolding_all rfl)
noncomputable def kf (xs:List V)(lo hi:Option Int):List V:=(xs.drop (HT.bE xs.length 0 lo)).take (HT.bE xs.length xs.length hi - HT.bE xs.length 0 lo)
theorem i5 (xs:List V)(lo hi:Option Int):(kf xs lo hi).length<=xs.length:=by
 unfold kf;rw[cm,bz];omega
def rSlT (K:PySem.W.Frag):V->Option Int->Option Int->Hp->VK->Prop:=fun x lo hi H Q=>∃ a xs,x = .ref a/\g8 K H a xs /\
 ¬ (HT.bE xs.length 0 lo=0/\HT.bE xs.length xs.length hi=xs.length)/\∀ p,H p=none->Q (.ref p) (upd H p (.tup (kf xs lo hi)))
theorem y0:xE X (rSlT X.K):=by
 intro pins s σ H x v vl vu lo hi sl Q I rx hs pl pu h;obtain⟨a,xs,rfl,hx,hw,q⟩:=h;cases rx;obtain⟨its,r,ht,hz⟩:=I.tuple hx;have hlen:its.toArray.size=xs.length:=by rw[ae];exact r.length.symm
 refine⟨"tuple",_,PyProof.Rows.slot_tuple_getitem.lookup,ht.typeIs,?_⟩;refine HT.iB ht hs pl pu (by rw[hlen];exact hw) ?_ (by rw[hlen];exact hz);rw[hlen];refine⟨.ref s.heap.objs.size,_,I.laid (t':=s.toks) (o:=.tup (kf xs lo hi)) (fun b ob q=>Heap.get?_push_of_some _ q) (av _) ?_,rfl,q _ (I.hok.fresh (av _))⟩;exact⟨bh (i5 xs lo hi) hz,_,(r.drop (HT.bE xs.length 0 lo)).take (HT.bE xs.length xs.length hi - HT.bE xs.length 0 lo),IsTup.new _ _⟩
noncomputable def Cb (K:PySem.W.Frag):R2:=fun x y H Q=>∃ a b xs ys,x = .ref a/\y = .ref b/\g8 K H a xs/\g8 K H b ys/\xs≠[]/\xs.length+ys.length<=sizeLine /\
 (ys=[]->Q (.ref a) H)/\(ys≠[]->∀ p,H p=none->Q (.ref p) (upd H p (.tup (xs++ys))))
theorem aJ.nil_iff {xs:List V}{us:List Value}(r:aJ xs us):us=[]↔xs=[]:=by
 cases r with
 |nil=>simp
 |cons _ _=>simp
theorem wj:eU X (binaryOp .Add) (Cb X.K):=by
 intro pins s σ H x y v u Q I rx ry h;obtain⟨a,b,xs,ys,rfl,rfl,ha,hb,hx,hz,q1,q2⟩:=h;cases rx;cases ry;obtain⟨its,r1,p1,_⟩:=I.tuple ha;obtain⟨its2,r2,p2,_⟩:=I.tuple hb;refine HT.vG p1 p2 (fun z=>hx (r1.nil_iff.mp z)) (fun z=>⟨.ref a,H,I,rfl,q1 (r2.nil_iff.mp z)⟩) (fun z=>?_) (by rw[<-r1.length,<-r2.length];exact hz);refine⟨.ref s.heap.objs.size,_,I.laid (t':=s.toks) (o:=.tup (xs++ys)) (fun b ob q=>Heap.get?_push_of_some _ q) (av _) ?_,rfl,q2 (fun w=>z (r2.nil_iff.mpr w)) _ (I.hok.fresh (av _))⟩;exact⟨by rw[ao];exact hz,_,r1.append r2,IsTup.new _ _⟩
end
end L2
namespace L2
open PySem PySem.Spec PyProof.Rows
noncomputable def g9 (n:Nat)(i:Int):Option Nat:=if 0<=i then (if i<n then some i.toNat else none) else if -(n:Int)<=i then some (i+n).toNat else none
noncomputable def zH {α:Type}(xs:List α)(i:Int):Option α:=(g9 xs.length i).bind fun j=>xs[j]?
theorem pJ {n:Nat}{i:Int}{j:Nat}(h:g9 n i=some j):seqIndex? i n=some j/\j<n/\-(n:Int)<=i/\i<n:=by
 unfold g9 at h;by_cases h0:0<=i
 ·rw[if_pos h0] at h;by_cases h1:i<n
  ·rw[if_pos h1] at h;have e:i.toNat=j:=bp h;exact⟨by rw[seqIndex_of h0 h1,e],by omega,by omega,h1⟩
  ·rw[if_neg h1] at h;cases h
 ·rw[if_neg h0] at h;by_cases h1 : -(n:Int)<=i
  ·rw[if_pos h1] at h;have e:(i+n).toNat=j:=bp h;exact⟨by rw[seqIndex_neg (by omega) h1,e],by omega,h1,by omega⟩
  ·rw[if_neg h1] at h;cases h
theorem l9 {α:Type}{xs:List α}{i:Int}{v:α}(h:zH xs i=some v):∃ j,seqIndex? i xs.length=some j/\xs[j]? = some v/\j<xs.length/\-(xs.length:Int)<=i/\i<xs.length:=by
 unfold zH at h;cases e:g9 xs.length i with
 |none=>rw[e] at h;cases h
 |some j =>
  rw[e] at h;obtain⟨h1,h2,h3,h4⟩:=pJ e;exact⟨j,h1,h,h2,h3,h4⟩
def mn (b:Expr):Prop:=∀ o i,subscripted b false o i=operate [o,i] (getItem o i)
noncomputable def AD (X:Cx)(r:R2):Prop :=
 ∀(value slice:Expr) (pins:List (Addr×Obj)) (s:Shared) (σ:St) (H:Hp) (x y:V) (v u:Value) (Q:VK),Inv X pins σ H s->RelV x v->RelV y u->r x y H Q ->
  subscripted slice false v u=operate [v,u] (getItem v u)->wpAny (model X.prog X.w) X.A (subscriptTail value slice v u) (EP X pins σ Q) X.xe s
noncomputable def AH (X:Cx)(id:String)(r:V->List V->Hp->VK->Prop):Prop :=
 ∀(pins:List (Addr×Obj)) (s:Shared) (σ:St) (H:Hp) (x:V) (xs:List V) (v:Value) (us:List Value) (Q:VK),Inv X pins σ H s->RelV x v->aJ xs us->r x xs H Q ->
  wpAny (model X.prog X.w) X.A (call (.builtin id) (v::us)) (EP X pins σ Q) X.xe s
section
variable {X:Cx}{a b:Expr}{ta tb:TE}{pos:Pos}
theorem AY {r:R2}(hr:AD X r)(ha:PE X a ta)(hb:PE X b tb)(hs:mn b):PE X (.Subscript a b pos) (BB r ta tb):=by
 intro pins s σ H Q I h;exact Subscript_ (yM ha hb I h fun v u s2 x y H2 I2 rx ry q=>hr a b pins s2 σ H2 x y v u Q I2 rx ry q (hs _ _))
noncomputable def rIxL (K:PySem.W.Frag):R2:=fun x y H Q=>∃ p xs i v,x = .ref p/\y = .int i/\ke K H p xs/\zH xs i=some v/\Q v H
noncomputable def rIxT (K:PySem.W.Frag):R2:=fun x y H Q=>∃ p xs i v,x = .ref p/\y = .int i/\g8 K H p xs/\zH xs i=some v/\Q v H
noncomputable def rIxS:R2:=fun x y H Q=>∃ z i c,x = .str z/\y = .int i/\z.length<=sizeLine/\zH z.cps.toList i=some c/\Q (.str ⟨#[c]⟩) H
theorem vk:AD X (rIxL X.K):=by
 intro value slice pins s σ H x y v u Q I rx ry h hs;obtain⟨p,xs,i,z,rfl,rfl,hq,he,q⟩:=h;cases rx;obtain⟨t,rfl⟩:=ry;obtain⟨its,r,pl,hz⟩:=I.list hq;obtain⟨j,h1,h2,h3,h4,h5⟩:=l9 he;obtain⟨w,ew,rw'⟩:=r.get h2;have hl:=r.length;have hn:=gZ;have fin:EP X pins σ Q w s:=⟨z,H,I,rw',q⟩;by_cases h0:0<=i
 ·have hj:i.toNat=j:=by
   rw[seqIndex_of h0 h5] at h1;exact bp h1
  exact item_listR pl.isList h0 (by omega) (by rw[hj];simpa using ew) fin hs
 ·have hj:(i+(its.toArray.size:Int)).toNat=j:=by
   rw[seqIndex_neg (by omega) h4] at h1;rw[ae,<-hl];exact bp h1
  exact subscriptTail_builtinR (x:=w) pl.isList.typeIs slot_list_getitem.lookup
   (wpAny_getItem_list_neg (Q:=fun r s'=>r=w/\EP X pins σ Q r s') pl.isList (by omega) (by rw[List.size_toArray]<;>omega) (by omega) (by rw[hj];simpa using ew) ⟨rfl,fin⟩) hs
theorem zT:AD X (rIxT X.K):=by
 intro value slice pins s σ H x y v u Q I rx ry h hs;obtain⟨p,xs,i,z,rfl,rfl,hq,he,q⟩:=h;cases rx;obtain⟨t,rfl⟩:=ry;obtain⟨its,r,pl,hz⟩:=I.tuple hq;obtain⟨j,h1,h2,h3,h4,h5⟩:=l9 he;obtain⟨w,ew,rw'⟩:=r.get h2;have hl:=r.length;have hn:=gZ;have fin:EP X pins σ Q w s:=⟨z,H,I,rw',q⟩;exact subscriptTail_builtinR (x:=w) pl.typeIs slot_tuple_getitem.lookup
  (getItem_tuple (j:=j) (Q:=fun r s'=>r=w/\EP X pins σ Q r s') pl (by omega) (by omega) (by rw[List.size_toArray,<-hl];exact h1) (by simpa using ew) ⟨rfl,fin⟩) hs
theorem z8:AD X rIxS:=by
 intro value slice pins s σ H x y v u Q I rx ry h hs;obtain⟨z,i,c,rfl,rfl,hz,he,q⟩:=h;obtain⟨t,rfl⟩:=rx;obtain⟨t',rfl⟩:=ry;obtain⟨j,h1,h2,h3,h4,h5⟩:=l9 he;have hl:z.cps.toList.length=z.length:=by simp[Str.length]
 rw[hl] at h1 h4 h5;have hn:=gZ;exact tail_any (typeIs_str s z t) slot_str_getitem.lookup (getItem_str (c:=c) (by
  have e1:decide (i < -(2 ^ 63:Int))=false:=aw (by omega);have e2:decide (i ≥ 2 ^ 63)=false:=aw (by omega);rw[e1,e2,Bool.or_false]) (by rw[h1];simpa using h2) ⟨.str ⟨#[c]⟩,H,I.tok _,⟨_,rfl⟩,q⟩) hs
theorem nX (its:List Value)(n j:Nat)(u:Value):Obj.mapSeq (·.setIfInBounds j u) { cls:=.type "list",data:=.seq its.toArray n }={ cls:=.type "list",data:=.seq (its.set j u).toArray n }:=by
 simp[Obj.mapSeq]
theorem Inv.lst {pins:List (Addr×Obj)}{σ:St}{H:Hp}{s:Shared}{p:Addr}{xs:List V}(I:Inv X pins σ H s)(h:H p=some (.lst xs)) :
  ∃(its:List Value) (n:Nat),aJ xs its/\s.heap.get? p=some { cls:=.type "list",data:=.seq its.toArray n }/\xs.length<=sizeLine:=by
 obtain⟨z,its,n,r,e⟩:=I.hok p _ h;exact⟨its,n,r,e,z⟩
theorem Inv.lstUpd {pins:List (Addr×Obj)}{σ:St}{H:Hp}{s:Shared}{p:Addr}{xs ys:List V}{its its':List Value}{n n':Nat}{f:Obj->Obj}(I:Inv X pins σ H s)(h:H p=some (.lst xs))
  (ho:s.heap.get? p=some { cls:=.type "list",data:=.seq its.toArray n }) (hf:f { cls:=.type "list",data:=.seq its.toArray n }={ cls:=.type "list",data:=.seq its'.toArray n' }) (r:aJ ys its') (hz:ys.length<=sizeLine) (t:Nat) :
  Inv X pins σ (upd H p (.lst ys)) { s with heap:=s.heap.update p f,toks:=t }:=by
 have e:(s.heap.update p f).get? p=some { cls:=.type "list",data:=.seq its'.toArray n' }:=by
  rw[Heap.get?_update_self f ho (by rw[hf]<;>rfl),hf]
 refine I.write (x:=p) (e:=p) (by rw[h];trivial) (.inl rfl) (fun b u hb q=>(Heap.get?_update_other _ _ (da hb)).trans q) ⟨_,e⟩ ?_;exact⟨hz,its',n',r,e⟩
def xA:V->V->V->Hp->(Hp->Prop)->Prop:=fun o i v H Q=>∃ p xs k j,o = .ref p/\i = .int k/\H p=some (.lst xs)/\g9 xs.length k=some j/\Q (upd H p (.lst (xs.set j v)))
theorem set_list:Ck X xA:=by
 intro pins s σ H o i v ov iv u Q I ro ri rv h;obtain⟨p,xs,k,j,rfl,rfl,hp,hj,q⟩:=h;cases ro;obtain⟨t,rfl⟩:=ri;obtain⟨its,n,r,ho,hz⟩:=I.lst hp;obtain⟨h1,h2,h3,h4⟩:=pJ hj;have hl:=r.length;have hn:=gZ;have I':Inv X pins σ (upd H p (.lst (xs.set j v))) { s with heap:=s.heap.update p (Obj.mapSeq (·.setIfInBounds j u)) } :=
  I.lstUpd hp ho (nX its n j u) (r.set rv j) (by rw[gc];exact hz) s.toks
 by_cases h0:0<=k
 ·have hk:k.toNat=j:=by
   rw[seqIndex_of h0 h4] at h1;exact bp h1
  exact PySem.W.ki_setAt ho h0 (by omega) (by rw[ae,<-hl];exact h4) (by rw[hk];exact⟨_,I',q⟩)
 ·have hk:(k+(its.toArray.size:Int)).toNat=j:=by
   rw[seqIndex_neg (by omega) h3] at h1;rw[ae,<-hl];exact bp h1
  exact PySem.W.ki_setBack ho (by omega) (by rw[ae,<-hl];exact h3) (by omega) (by rw[hk];exact⟨_,I',q⟩)
theorem lR (lo hi:Option Int)(n:Nat):(sliceBounds lo hi none n).1=((HT.bE n 0 lo:Nat):Int)/\(sliceBounds lo hi none n).2.1=((HT.bE n n hi:Nat):Int)/\(sliceBounds lo hi none n).2.2=1:=by
 refine⟨?_,?_,rfl⟩
 ·cases lo with
  |none=>simp[sliceBounds,HT.bE]
  |some i =>
   simp only[sliceBounds,HT.bE,Option.getD_none,show (1:Int) > 0 by decide,if_true];by_cases h:i<0
   ·simp only[h,if_true]<;>omega
   ·simp only[h,if_false]<;>omega
 ·cases hi with
  |none=>simp[sliceBounds,HT.bE]
  |some i =>
   simp only[sliceBounds,HT.bE,Option.getD_none,show (1:Int) > 0 by decide,if_true];by_cases h:i<0
   ·simp only[h,if_true]<;>omega
   ·simp only[h,if_false]<;>omega
theorem kh (its:List Value)(lo hi:Option Int):slicePick its.toArray lo hi none=((its.drop (HT.bE its.length 0 lo)).take (HT.bE its.length its.length hi - HT.bE its.length 0 lo)).toArray:=by
 obtain⟨h1,h2,h3⟩:=lR lo hi its.toArray.size;unfold slicePick;rw[h1,h2,h3];simp only[sliceRange_one,pick_run,List.size_toArray]<;>rfl
def rSlL (K:PySem.W.Frag):V->Option Int->Option Int->Hp->VK->Prop:=fun x lo hi H Q=>∃ a xs,x = .ref a/\ke K H a xs/\∀ p,H p=none->Q (.ref p) (upd H p (.lst (kf xs lo hi)))
theorem vy:xE X (rSlL X.K):=by
 intro pins s σ H x v vl vu lo hi sl Q I rx hs pl pu h;obtain⟨a,xs,rfl,hx,q⟩:=h;cases rx;obtain⟨its,r,ht,hz⟩:=I.list hx;have hlen:=r.length;refine⟨"list",_,slot_list_getitem.lookup,ht.isList.typeIs,?_⟩;refine wpAny_getItem_list_slice ht.isList hs pl pu .none (by simp) ?_ (by rw[List.size_toArray]<;>omega);rw[kh,<-hlen];refine⟨.ref s.heap.objs.size,_,I.laid (t':=s.toks) (o:=.lst (kf xs lo hi)) (fun b ob q=>Heap.get?_push_of_some _ q) (av _) ?_,rfl,q _ (I.hok.fresh (av _))⟩;exact⟨bh (i5 xs lo hi) hz,_,0,(r.drop (HT.bE xs.length 0 lo)).take (HT.bE xs.length xs.length hi - HT.bE xs.length 0 lo),Heap.get?_push_size _ rfl⟩
noncomputable def fY:V->Bool
 |.non=>true
 |.bl _=>true
 |.int _=>true
 |.str _=>true
 |_=>false
noncomputable def vi:V->V->Bool
 |.non,.non=>true
 |.bl a,.bl b=>a==b
 |.bl a,.int b=>(if a then 1 else 0)==b
 |.int a,.bl b=>a==(if b then 1 else 0)
 |.int a,.int b=>a==b
 |.str a,.str b=>a==b
 |_,_=>false
theorem zv {A:Around}{s:Shared}{y x:V}{u v:Value}(ry:RelV y u)(rx:RelV x v)(fy:fY y=true)(fx:fY x=true):SeqAt.EqAt A s u v (vi y x):=by
 cases y with
 |non =>
  cases ry;cases x with
  |non=>cases rx;exact SeqAt.EqAt.same _
  |bl b=>cases rx;exact SeqAt.EqAt.none_bool b
  |int b=>obtain⟨t,rfl⟩:=rx;exact SeqAt.EqAt.none_int b t
  |str b=>obtain⟨t,rfl⟩:=rx;exact SeqAt.EqAt.none_str b t
  |_=>exact absurd (show false=true from fx) ax
 |bl a =>
  cases ry;cases x with
  |non=>cases rx;exact SeqAt.EqAt.bool_none a
  |bl b=>cases rx;exact SeqAt.EqAt.bool_bool a b
  |int b=>obtain⟨t,rfl⟩:=rx;exact SeqAt.EqAt.bool_int a b t
  |str b=>obtain⟨t,rfl⟩:=rx;exact SeqAt.EqAt.bool_str a b t
  |_=>exact absurd (show false=true from fx) ax
 |int a =>
  obtain⟨t',rfl⟩:=ry;cases x with
  |non=>cases rx;exact SeqAt.EqAt.int_none a t'
  |bl b=>cases rx;exact SeqAt.EqAt.int_bool a t' b
  |int b=>obtain⟨t,rfl⟩:=rx;exact SeqAt.EqAt.int_int a t' b t
  |str b=>obtain⟨t,rfl⟩:=rx;exact SeqAt.EqAt.int_str a t' b t
  |_=>exact absurd (show false=true from fx) ax
 |str a =>
  obtain⟨t',rfl⟩:=ry;cases x with
  |non=>cases rx;exact SeqAt.EqAt.str_none a t'
  |bl b=>cases rx;exact SeqAt.EqAt.str_bool a t' b
  |int b=>obtain⟨t,rfl⟩:=rx;exact SeqAt.EqAt.str_int a t' b t
  |str b=>obtain⟨t,rfl⟩:=rx;exact SeqAt.EqAt.str_str a t' b t
  |_=>exact absurd (show false=true from fx) ax
 |_=>exact absurd (show false=true from fy) ax
noncomputable def oD (x:V)(u:Value):Bool:=match u with
 |.none=>vi .non x
 |.bool b=>vi (.bl b) x
 |.int i _=>vi (.int i) x
 |.str z _=>vi (.str z) x
 |_=>false
theorem vc {x y:V}{u:Value}(r:RelV y u)(f:fY y=true):oD x u=vi y x:=by
 cases y with
 |non=>cases r;rfl
 |bl b=>cases r;rfl
 |int i=>obtain⟨t,rfl⟩:=r;rfl
 |str z=>obtain⟨t,rfl⟩:=r;rfl
 |_=>exact absurd (show false=true from f) ax
theorem iC {x:V}:∀{xs:List V}{us:List Value},aJ xs us->xs.all fY=true->us.any (oD x)=xs.any fun y=>vi y x
 |_,_,.nil,_=>rfl
 | y::xs,u::us,.cons r t,f=>by
  rw[c9,ak] at f;rw[ef,ef,vc r f.1,iC t f.2]
theorem gA {A:Around}{s:Shared}{x:V}{v:Value}(rx:RelV x v)(fx:fY x=true):∀{xs:List V}{us:List Value},aJ xs us->xs.all fY=true->∀ u∈us,SeqAt.EqAt A s u v (oD x u)
 |_,_,.nil,_=>fun u hu=>by cases hu
 | y::xs,u::us,.cons r t,f=>fun u' hu=>by
  rw[c9,ak] at f;rcases dz.mp hu with rfl | hu
  ·rw[vc r f.1];exact zv r rx f.1 fx
  ·exact gA rx fx t f.2 u' hu
noncomputable def inV (x:V)(xs:List V):Bool:=xs.any fun y=>vi y x
noncomputable def rIn (K:PySem.W.Frag)(neg:Bool):R2:=fun x y H Q=>∃ p xs,y = .ref p/\(ke K H p xs\/g8 K H p xs)/\fY x=true/\xs.all fY=true/\Q (.bl (if neg then !inV x xs else inV x xs)) H
theorem lF:eU X (compareOp .In) (rIn X.K false):=by
 intro pins s σ H x y v u Q I rx ry h;obtain⟨p,xs,rfl,hq,fx,fs,q⟩:=h;cases ry;rcases hq with hq | hq
 ·obtain⟨its,r,pl,hz⟩:=I.list hq;refine SeqAt.in_listAt (oD x) pl.isList (fun w hw=>gA rx fx r fs w (by simpa using hw)) ⟨.bl _,H,I,rfl,?_⟩;rw[show its.toArray.any (oD x)=its.any (oD x) by simp,iC r fs];exact q
 ·obtain⟨its,r,pl,hz⟩:=I.tuple hq;refine SeqAt.in_tupleAt (oD x) pl (fun w hw=>gA rx fx r fs w (by simpa using hw)) ⟨.bl _,H,I,rfl,?_⟩;rw[show its.toArray.any (oD x)=its.any (oD x) by simp,iC r fs];exact q
theorem ik:eU X (compareOp .NotIn) (rIn X.K true):=by
 intro pins s σ H x y v u Q I rx ry h;obtain⟨p,xs,rfl,hq,fx,fs,q⟩:=h;cases ry;rcases hq with hq | hq
 ·obtain⟨its,r,pl,hz⟩:=I.list hq;refine SeqAt.notIn_listAt (oD x) pl.isList (fun w hw=>gA rx fx r fs w (by simpa using hw)) ⟨.bl _,H,I,rfl,?_⟩;rw[show its.toArray.any (oD x)=its.any (oD x) by simp,iC r fs];exact q
 ·obtain⟨its,r,pl,hz⟩:=I.tuple hq;refine SeqAt.notIn_tupleAt (oD x) pl (fun w hw=>gA rx fx r fs w (by simpa using hw)) ⟨.bl _,H,I,rfl,?_⟩;rw[show its.toArray.any (oD x)=its.any (oD x) by simp,iC r fs];exact q
theorem lU:eU X (compareOp .NotIn) (fun x y H Q=>∃ i j,x = .str i/\y = .str j/\Q (.bl (!(!(Builtin.Str.occurrences j i 0 j.length 1).isEmpty))) H):=by
 intro pins s σ H x y v u Q I rx ry h;obtain⟨i,j,rfl,rfl,q⟩:=h;obtain⟨t,rfl⟩:=rx;obtain⟨t',rfl⟩:=ry;exact notIn_str ⟨.bl _,H,I,rfl,q⟩
theorem iF:eC X (.builtin "len") (fun xs H Q=>∃ p ys,xs=[.ref p]/\(ke X.K H p ys\/g8 X.K H p ys)/\Q (.int ys.length) H):=by
 intro pins s σ H xs us Q I r h;obtain⟨p,ys,rfl,hq,q⟩:=h;obtain⟨u,rfl,rx⟩:=vals1 r;cases rx;have hn:=gZ;rcases hq with hq | hq
 ·obtain⟨its,r',pl,hz⟩:=I.list hq;have hlen:=r'.length;exact Calls.call_len_list pl.isList (by simp only[List.size_toArray]<;>omega) ⟨.int ys.length,H,I.tok _,⟨s.toks+1,by rw[List.size_toArray,hlen]⟩,q⟩
 ·obtain⟨its,r',pl,hz⟩:=I.tuple hq;have hlen:=r'.length;exact len_tuple pl (by simp only[List.size_toArray]<;>omega) ⟨.int ys.length,H,I.tok _,⟨s.toks+1,by rw[List.size_toArray,hlen]⟩,q⟩
theorem lL:eC X (.builtin "len") (fun xs H Q=>∃ z,xs=[.str z]/\z.length<=sizeLine/\Q (.int z.length) H):=by
 intro pins s σ H xs us Q I r h;obtain⟨z,rfl,hz,q⟩:=h;obtain⟨u,rfl,t,rfl⟩:=vals1 r;have hn:=gZ;exact len_str (by omega) ⟨.int z.length,H,I.tok _,⟨_,rfl⟩,q⟩
theorem iE:eC X (.type "list") (fun xs H Q=>∃ p ys,xs=[.ref p]/\(ke X.K H p ys\/g8 X.K H p ys)/\∀ l,H l=none->Q (.ref l) (upd H l (.lst ys))):=by
 intro pins s σ H xs us Q I r h;obtain⟨p,ys,rfl,hq,q⟩:=h;obtain⟨u,rfl,rx⟩:=vals1 r;cases rx;have fin:∀(its:List Value),aJ ys its->ys.length<=sizeLine->∀(h':Heap) (c':Nat),(∀ b o',s.heap.get? b=some o'->h'.get? b=some o') ->
   h'.get? s.heap.objs.size=some { cls:=.type "list",dict:=none,data:=.seq its.toArray c',slots:=#[] }->EP X pins σ Q (.ref s.heap.objs.size) { s with heap:=h' }:=fun its r' hz h' c' kp e =>
  ⟨.ref s.heap.objs.size,_,I.laid (t':=s.toks) kp (av _) (show cJ X.prog X.w _ h' _ (.lst ys) from ⟨hz,its,c',r',e⟩),rfl,q _ (I.hok.fresh (av _))⟩
 rcases hq with hq | hq
 ·obtain⟨its,r',pl,hz⟩:=I.list hq;have hlen:=r'.length;obtain⟨o,ho,hc,n,hd⟩:=pl.isList;exact call_list_seq p (.inl rfl) ho hc hd (fun h' c' kp e=>fin its r' hz h' c' kp e) (by simp only[List.size_toArray]<;>omega)
 ·obtain⟨its,r',pl,hz⟩:=I.tuple hq;have hlen:=r'.length;obtain⟨o,ho,hc,n,hd⟩:=pl;exact call_list_seq p (.inr rfl) ho hc hd (fun h' c' kp e=>fin its r' hz h' c' kp e) (by simp only[List.size_toArray]<;>omega)
def tyV (K:PySem.W.Frag)(T:String)(x:V)(H:Hp):Prop:=match x with
 |.str _=>T = "str"
 |.int _=>T = "int"
 | .ref p=>(T = "list"/\∃ xs,ke K H p xs)\/(T = "tuple"/\∃ o,K.lookup p=some o/\o.cls = .type "tuple"/\o.dict=none) \/
   (T = "dict"/\((∃ kvs,H p=some (.dK kvs))\/∃ kvs,H p=some (.dT kvs)))\/(T = "set"/\∃ S n,H p=some (.set S n))
 |_=>False
theorem sR {pins:List (Addr×Obj)}{σ:St}{H:Hp}{s:Shared}{T:String}{x:V}{v:Value}(I:Inv X pins σ H s)(r:RelV x v)(ty:tyV X.K T x H) :
  s.TypeIs v T/\∀ a,v = .ref a->∃ ob,s.heap.get? a=some ob/\ob.dict=none:=by
 cases x with
 |str z =>
  obtain⟨t,rfl⟩:=r;cases (show T = "str" from ty);exact⟨typeIs_str s z t,fun _ e=>nomatch e⟩
 |int i =>
  obtain⟨t,rfl⟩:=r;cases (show T = "int" from ty);exact⟨typeIs_int s i t,fun _ e=>nomatch e⟩
 |ref p =>
  cases r;rcases ty with ⟨rfl,xs,hq⟩ | ⟨rfl,o,hk,hc,hd⟩ | ⟨rfl,hk⟩ | ⟨rfl,S,n,hk⟩
  ·obtain⟨its,_,pl,_⟩:=I.list hq;refine⟨pl.isList.typeIs,fun a e=>?_⟩;cases e;obtain⟨o,n,e,c,hd,_⟩:=pl;exact⟨o,e,hd⟩
  ·refine⟨⟨o,I.kIn p o hk,hc⟩,fun a e=>?_⟩;cases e;exact⟨o,I.kIn _ o hk,hd⟩
  ·have z:∃ o,s.heap.get? p=some o/\o.ExactDict:=by
    rcases hk with ⟨kvs,hk⟩ | ⟨kvs,hk⟩
    ·obtain⟨_,_,_,_,o,_,_,e,ex,_⟩:=I.hok p _ hk;exact⟨o,e,ex⟩
    ·obtain⟨_,_,_,_,o,_,_,e,ex,_⟩:=I.hok p _ hk;exact⟨o,e,ex⟩
   obtain⟨o,e,ex⟩:=z;refine⟨⟨o,e,ex.1⟩,fun a e2=>?_⟩;cases e2;exact⟨o,e,ex.2.1⟩
  ·obtain⟨o,_,_,_,e,ex,_⟩:=I.hok p _ hk;refine⟨⟨o,e,ex.1⟩,fun a e2=>?_⟩;cases e2;exact⟨o,e,ex.2.1⟩
 |_=>exact False.elim ty
def AX (K:PySem.W.Frag)(T:String)(r:V->List V->Hp->VK->Prop)(to:TE):TE:=fun σ H Q=>to σ H fun x H1=>tyV K T x H1/\r x [] H1 Q
def tBM (K:PySem.W.Frag)(T:String)(r:V->List V->Hp->VK->Prop)(to:TE)(t:TA):TE:=fun σ H Q=>to σ H fun x H1=>tyV K T x H1/\t σ H1 fun xs H2=>r x xs H2 Q
variable {o e:Expr}{es:List Expr}{to:TE}{t:TA}{name:Str}{apos cpos:Pos}{T id:String}{r:V->List V->Hp->VK->Prop}
theorem zr (pa:PlainAttrs T)(slot:Slot T name id)(hty:typeOf (.builtin id)=pure (.type "method_descriptor")) (hm:AH X id r) (ho:PE X o to)
  (hbase:attributeBase o name X.env (eval o X.env)=eval o X.env:=by rfl) (hline:(apos.endLine==cpos.line)=true:=by rfl):PE X (.Call (.Attribute o name apos) [] [] cpos) (AX X.K T r to):=by
 intro pins s σ H Q I h;refine wpAny_Call_method0_late hbase hline (bM (ho pins s σ H _ I h) fun v s1 ⟨x,H1,I1,r1,ty,q1⟩=>?_);obtain⟨h1,h2⟩:=sR I1 r1 ty;exact⟨T,id,pa,slot,hty,h1,h2,Calls.callWith_builtin rfl (PySem.evalArgs_none (hm pins s1 σ H1 x [] v [] Q I1 r1 .nil q1))⟩
theorem sF (pa:PlainAttrs T)(slot:Slot T name id)(hty:typeOf (.builtin id)=pure (.type "method_descriptor")) (hm:AH X id r) (ho:PE X o to) (ha:PA X (e::es) t)
  (hbase:attributeBase o name X.env (eval o X.env)=eval o X.env:=by rfl)
  (hfew:((backTo cpos (starEach (e::es) X.env)).all (fun x=>!x.1)&&(backToKw cpos (keywordEach [] X.env)).all (fun x=>x.1.isSome)
   && decide ((e::es).length+([]:List Keyword).length+(if ([]:List Keyword).isEmpty then 0 else 1)<30))=true:=by rfl)
  (hline:(apos.endLine==cpos.line)=true:=by rfl) (hs:starEach (e::es) X.env=(false,eval e X.env)::starEach es X.env:=by rfl) (hplain:(backTo cpos (starEach es X.env)).any (·.1)=false:=by rfl) :
  PE X (.Call (.Attribute o name apos) (e::es) [] cpos) (tBM X.K T r to t):=by
 intro pins s σ H Q I h;refine wpAny_Call_method_late hbase hfew hline rfl (bM (ho pins s σ H _ I h) fun v s1 ⟨x,H1,I1,r1,ty,q1⟩=>?_);obtain⟨h1,h2⟩:=sR I1 r1 ty;refine⟨T,id,pa,slot,hty,h1,h2,?_⟩;have hA:=ha cpos pins s1 σ H1 _ I1 q1;rw[hs] at hA ⊢;refine Calls.callWith_builtin (by show (false || (backTo cpos (starEach es X.env)).any (·.1))=false;rw[hplain]<;>rfl) (Calls.evalArgs_plain ?_);exact bM hA fun us s2 ⟨vs,H2,I2,r2,q2⟩=>hm pins s2 σ H2 x vs v us Q I2 r1 r2 q2
end
end L2
namespace L2
open PySem PySem.Spec PyProof.Rows
noncomputable def MtM (X:Cx)(id:String)(r:V->List V->Hp->VK->Prop):Prop :=
 ∀(pins:List (Addr×Obj)) (s:Shared) (σ:St) (H:Hp) (x:V) (xs:List V) (v:Value) (us:List Value) (Q:VK),Inv X pins σ H s->RelV x v->aJ xs us->r x xs H Q ->
  wpAny (model X.prog X.w) X.A (call (.builtin id) (v::us)) (EP X pins σ Q) X.xe s
theorem aJ.one:∀{x:V}{us:List Value},aJ [x] us->∃ u,us=[u]/\RelV x u
 |_,_,.cons r .nil=>⟨_,rfl,r⟩
theorem aJ.two:∀{x y:V}{us:List Value},aJ [x,y] us->∃ u v,us=[u,v]/\RelV x u/\RelV y v
 | _,_,_,.cons r (.cons q .nil)=>⟨_,_,rfl,r,q⟩
theorem aJ.rep {xs:List V}{us:List Value}(h:aJ xs us):∀ k:Nat,aJ (List.replicate k xs).flatten (List.replicate k us).flatten
 |0=>.nil
 | k+1=>by
  rw[dh,dh,bg,bg];exact aJ.append h (aJ.rep h k)
theorem foldl_rep (its:List Value):∀(k:Nat) (acc:List Value),
  List.foldl (fun x1 x2=>x1++x2) acc.toArray (List.replicate k its.toArray)=(acc++(List.replicate k its).flatten).toArray
 |0,acc=>by simp
 | k+1,acc=>by
  have e:acc.toArray++its.toArray=(acc++its).toArray:=by simp
  have e2:(acc++its)++(List.replicate k its).flatten=acc++(List.replicate (k+1) its).flatten:=by
   rw[dh,bg,du]
  rw[<-e2,<-foldl_rep its k (acc++its),<-e,dh,List.foldl_cons]
section
variable {X:Cx}{pins:List (Addr×Obj)}{σ:St}{H:Hp}{s:Shared}{l b:Addr}{xs ys zs:List V}
theorem Inv.lset {its its':List Value}{n:Nat}{f:Array Value->Array Value}{t':Nat}(I:Inv X pins σ H s)(hH:H l=some (.lst xs))
  (e:s.heap.get? l=some { cls:=.type "list",data:=.seq its.toArray n }) (hf:f its.toArray=its'.toArray) (hv:aJ ys its') (hz:ys.length<=sizeLine) :
  Inv X pins σ (upd H l (.lst ys)) { s with heap:=s.heap.update l (Obj.mapSeq f),toks:=t' }:=by
 have q:=PySem.IsL.update e f;rw[hf] at q;refine I.write (x:=l) (e:=l) (by rw[hH];exact trivial) (.inl rfl) (fun b' u hb hu=>(Heap.get?_update_other s.heap (Obj.mapSeq f) (da hb)).trans hu) ⟨_,q⟩ ?_;exact⟨hz,its',_,hv,q⟩
theorem Inv.lnew {its:List Value}{t':Nat}(I:Inv X pins σ H s)(hv:aJ ys its)(hz:ys.length<=sizeLine) :
  Inv X pins σ (upd H s.heap.objs.size (.lst ys)) { s with heap:=s.heap.push { cls:=.type "list",data:=.seq its.toArray },toks:=t' } :=
 I.laid (fun _ _ q=>Heap.get?_push_of_some _ q) (av _) ⟨hz,its,0,hv,Heap.get?_push_size _ rfl⟩
theorem Inv.fresh (I:Inv X pins σ H s):H s.heap.objs.size=none:=I.hok.fresh (av _)
theorem Inv.lstM (I:Inv X pins σ H s)(hH:H l=some (.lst xs)):xs.length<=sizeLine/\∃(its:List Value) (n:Nat),aJ xs its/\xs.length=its.length/\s.heap.get? l=some { cls:=.type "list",data:=.seq its.toArray n }:=by
 obtain⟨z,its,n,r,e⟩:=I.hok l _ hH;exact⟨z,its,n,r,r.length,e⟩
theorem m6 {n:Nat}(h:n<=sizeLine):Builtin.List.listTooLong n=false:=by
 unfold Builtin.List.listTooLong;exact aw (by omega)
end
section
variable {X:Cx}
def xv:V->List V->Hp->VK->Prop:=fun x vs H Q=>∃ l xs y,x = .ref l/\vs=[y]/\H l=some (.lst xs)/\xs.length<sizeLine/\Q .non (upd H l (.lst (xs ++ [y])))
theorem k9:MtM X "list.append" xv:=by
 intro pins s σ H x vs v us Q I rx rv h;obtain⟨l,xs,y,rfl,rfl,hH,hz,q⟩:=h;cases rx;obtain⟨u,rfl,ru⟩:=rv.one;obtain⟨z,its,n,r,hl,e⟩:=I.lstM hH;refine call_meets F.slot_list_append ⟨_,e,rfl⟩ F.entry_list_append (F.args_list_append_2 _ _) (PySem.list_append l its.toArray n u (by rw[ae];omega)) ⟨e,?_⟩;refine⟨.non,_,I.lset (its':=its ++ [u]) hH e (by simp) (r.append (.cons ru .nil)) ?_,rfl,q⟩;rw[ao,c7];omega
theorem len_rep {α:Type}(xs:List α)(k:Nat):(List.replicate k xs).flatten.length=k*xs.length:=by
 induction k with
 |zero=>simp
 |succ k ih=>rw[dh,bg,ao,ih,Nat.succ_mul,Nat.add_comm]
end
section
variable {prog:Program}{w:World}{A:Around}{E:Value->Shared->Prop}{s:Shared}
end
section
variable {X:Cx}
end
end L2
namespace Att
open PySem PySem.W PySem.Calls PyProof.Rows
theorem jc {P:Params}{h:Heap}:∀(ns:List Int) (vs:List Value),WellAll P h vs (ns.map WData.int)->IntsAre vs ns:=by
 intro ns
 induction ns with
 |nil =>
  intro vs w;rw[fe] at w;cases w;exact .nil
 |cons n ns ih =>
  intro vs w;rw[aq] at w;cases w with
  |cons a b =>
   cases a;exact .cons _ _ (ih _ b)
theorem qQ {l:OpenLaw}{n:Nat}(hn:l.most=some n){P:Params}{h:Heap}{args:List WData}{vals:List Value}
  (hpre:l.row.toRowW.claim.pre args=true) (hwl:WellAll P h vals args) :
  ∃ a vs ns,vals=[Value.ref a]/\args=[WData.list (ns.map WData.int)]/\h.get? a=some { cls:=.type "list",data:=.seq vs.toArray }/\IntsAre vs ns/\ns.length<=n:=by
 have hsh:WShape.hasAll [] args [.list .int]=true:=(pre_splitW hpre).1;have hc:l.pre.holds [] { args:=args }=true:=(pre_splitW hpre).2;obtain⟨d,r,rfl,h1,h2⟩:=hasAllW_cons hsh;obtain rfl:=hasAllW_nil h2;obtain⟨xs,rfl,h3⟩:=hasW_list h1;obtain⟨ns,rfl⟩:=items_int h3;have hlen:ns.length<=n:=by
  unfold OpenLaw.pre at hc;have h4:(WTm.not (.lt (.lit (.int (n:Int))) (.len (.arg 0)))).holds [] { args:=[.list (ns.map .int)] }=true:=by
   have h4:=(holds_andW hc).1;rw[hn] at h4;exact h4
  have h5:=condW_of h4 (w_not (w_lt w_lit (w_len_list (w_arg rfl))));rw[ag] at h5;refine gu fun q=>?_
  have q':(n:Int)<((ns.length:Nat):Int):=by omega
  first
   | (rw[bf q'] at h5;exact absurd h5 (by decide))
   | (simp at h5;omega)
 cases hwl with
 |cons w1 w2 =>
  cases w2;cases w1 with
  |list ho hall=>exact⟨_,_,ns,rfl,rfl,ho,jc ns _ hall,hlen⟩
theorem rj (l:OpenLaw)(args:List WData):l.row.toRowW.claim.post args (.bool true) args=true :=
 postW_of (r:=l.row.toRowW) (X:=(true==true))
  (show WShape.has [] (.bool true) .bool=true by first | rfl | decide | simp[WShape.has,WShape.arms,WShape.armsAll])
  (show (WTm.eq .res (.lit (.bool true))).value [] { args:=args,res:=some (.bool true),after:=args }=some (.bool (true==true)) from w_eq_bool (w_res rfl) w_lit) rfl
theorem mC {l:OpenLaw}{n:Nat}{q:Program}{loose:List Str}{XP:(Str->Option Value)->Heap->Prop}{YP:World->Heap->Prop}{d:DefRec}
  (hn:l.most=some n) (hdf:d.params.defaults=[])
  (call:∀(w:World) (s₀ s₁:Shared) (mg mb:Str->Option Value) (fa:Addr) (o:Obj) (pm cd doc:Value) (a:Addr) (vs:List Value) (ns:List Int),
   Ground q loose [] XP w s₀ mg mb s₁.heap->YP w s₁.heap ->
   s₁.heap.get? fa=some o->o.data = .func (docDef d.name d.params d.body d.scope pm cd doc)->s₁.heap.CodeRec cd d.name->mg d.name=some (.ref fa) ->
   s₁.heap.get? a=some { cls:=.type "list",data:=.seq vs.toArray }->IntsAre vs ns->ns.length<=n->s₁.gens = #[] ->
   codeAny (model l.prog w) callerA (.call (.ref fa) ⟨[.ref a],[]⟩) (fun r s'=>r = .ok (.ret (.bool true))/\OldK s₁.heap s'.heap/\s'.os=s₁.os/\AllBare s'.gens) s₁) :
  WalkO q loose XP YP l.row.toRowW d [] (fun f vs=>PySem.call f vs):=by
 intro w s₀ s₁ mg mb G Y fa o pm cd doc dV kV ho hd hcd hD hmg hg args vals as hpre hlay hrd hwl hlo;obtain rfl:dV = .none:=Dflts.none hD hdf;obtain rfl:kV = .none:=Dflts.noKw hD;obtain⟨a,vs,ns,rfl,rfl,hobj,hints,hlen⟩:=qQ hn hpre hwl;refine enter_call (codeAny_mono (call w s₀ s₁ mg mb fa o pm cd doc a vs ns G Y ho (fd_plain hd) hcd hmg hobj hints hlen hg) fun r s' hq=>?_);obtain⟨rfl,h2,h3,h4⟩:=hq;exact⟨.inl ⟨.bool true,.bool true,[],rfl,fun _=>rfl,.bool true,rj l _,fun _=>⟨List.Pairwise.nil,fun _ hm=>(nomatch hm)⟩⟩,h2,h3,h4⟩
section
variable {prog:Program}{w:World}{A:Around}{E:Value->Shared->Prop}{s:Shared}{K:Frag}
noncomputable def ledger (h:Heap)(L d:Addr):List (Addr×Obj):=(List.range h.objs.size).filterMap fun a=>if a=L\/a=d then none else (h.get? a).map fun o=>(a,o)
end
end Att
namespace L2
open PySem PySem.Spec PyProof.Rows
theorem lC:∀{vs:List Value}{ns:List Int},IntsAre vs ns->aJ (ns.map V.int) vs
 |_,_,.nil=>.nil
 |_,_,.cons n t h=>.cons ⟨t,rfl⟩ (lC h)
def zO (H:Hp):Prop:=∀ b,H b=none\/∃ o xs,H b=some (.frz o (.lst xs))
theorem tq {P:Program}{w:World}{K:PySem.W.Frag}{mg mb:Str->Option Value}{CX:u7}{k:Nat}{fa a:Addr}{fd:FuncData}{x:Str}{sp:Sp}{s₁:Shared}{vs:List Value}{ns:List Int}
  (KX:K.In s₁.heap) (hns:s₁.heap.Ns mainGlobals mg) (hb:s₁.heap.Ns builtinsNs mb) (hbb:∀ x:Str,x≠"__name__"->mb x=bootBuiltins x) (hlim:s₁.heap.NoLimit) (hg:s₁.gens = #[])
  (ha:s₁.heap.get? a=some { cls:=.type "list",data:=.seq vs.toArray }) (hi:IntsAre vs ns) (hl:ns.length<=sizeLine) (hr:gB k callerA)
  (F:∀ base:Heap,K.In base->base.Ns mainGlobals mg->mz P w K mg base CX k fa fd [x] sp) (hbind:∀(s:Shared) (u:Value),BindsTo s fd ⟨[u],[]⟩ [(x,u)])
  (hsp:∀ H:Hp,zO H->ke K H a (ns.map V.int)->sp [.ref a] H (fun v _=>v = .bl true) fun _ _ _=>False)
  (hCX:∀ H e s',CX [] H s₁ (fun _ _ _=>False) e s'->False) :
  codeAny (model P w) callerA (.call (.ref fa) ⟨[.ref a],[]⟩) (fun r s'=>r = .ok (.ret (.bool true))/\OldK s₁.heap s'.heap/\s'.os=s₁.os/\AllBare s'.gens) s₁:=by
 have rv:=lC hi;have lenV:=hi.length;have core:∀ H:Hp,zO H->ke K H a (ns.map V.int)->iw P w H s₁.heap->(∀ b,H b≠none->b=a)->(H a≠none->K.lookup a=none) ->
   codeAny (model P w) callerA (.call (.ref fa) ⟨[.ref a],[]⟩) (fun r s'=>r = .ok (.ret (.bool true))/\OldK s₁.heap s'.heap/\s'.os=s₁.os/\AllBare s'.gens) s₁:=by
  intro H hO hS hok hA hK;have base_of:∀{b:Addr}{o:Obj},s₁.heap.get? b=some o->H b=none->(lP s₁.heap H).get? b=some o:=fun e n=>sJ e n
  have noA:∀{b:Addr}{o:Obj}{es:Array DictEntry}{ep:Nat},s₁.heap.get? b=some o->o.data = .dict es ep->H b=none:=fun {b o es ep} e d=>by
   cases q:H b with
   |none=>rfl
   |some u =>
    have e':b=a:=hA b (by rw[q];simp);subst e';rw[ha] at e;cases e;have d':Data.seq vs.toArray _=Data.dict es ep:=d;cases d'
  have nsK:∀{b:Addr}{m:Str->Option Value},s₁.heap.Ns b m->(lP s₁.heap H).Ns b m:=fun {b m} ⟨o,es,ep,e,d,r⟩=>⟨o,es,ep,base_of e (noA e d),d,r⟩
  have hKb:K.In (lP s₁.heap H):=fun b o e=>base_of (KX b o e) (by
   cases q:H b with
   |none=>rfl
   |some u =>
    have e':b=a:=hA b (by rw[q];simp);subst e';rw[hK (by rw[q];simp)] at e;cases e)
  have hM:Mod K mg (lP s₁.heap H):=⟨hKb,nsK hns,⟨mb,nsK hb,hbb⟩,let ⟨mc,h1,h2⟩:=hlim;⟨mc,nsK h1,h2⟩⟩;have e0:vF P w K mg (lP s₁.heap H) callerA [] s₁ H:=⟨rfl,hM,fun b o e=>wQ e,Nat.le_of_eq (qN _ _),trivial,fun b hb=>absurd (show b∈([]:List Addr) from hb) (by simp),hok,.of_eq hg⟩;refine codeAny_mono ((F _ hKb (nsK hns)).run callerA [] s₁ H ⟨[.ref a],[]⟩ [.ref a] [.ref a] _ _ hr e0 (hbind s₁ (.ref a)) (.cons rfl .nil) (hsp H hO hS)) fun r s' h=>?_
  cases r with
  |error e=>exact (hCX H e s' h).elim
  |ok fl =>
   cases fl with
   |next=>exact False.elim h
   |brk=>exact False.elim h
   |cont=>exact False.elim h
   |ret u =>
    obtain⟨v,H',os,bare,un,hok',r',q⟩:=h;have q':v = .bl true:=q;subst q';obtain rfl:u=Value.bool true:=r';refine⟨rfl,OldK.of_keep fun b o e=>?_,os,bare⟩;cases q:H b with
    |none=>exact un.keep b o e q (by intro z;exact absurd (show b∈([]:List Addr) from z) (by simp)) (by simp)
    |some u =>
     rcases hO b with z | ⟨ob,xs,z⟩
     ·rw[q] at z;cases z
     ·have z2:=un.frzs b ob _ z;obtain⟨e1,_⟩:=hok b _ z;obtain⟨e2,_⟩:=hok' b _ z2;rw[e] at e1;cases e1;exact e2
 cases hk:K.lookup a with
 |some o =>
  have e:=KX a o hk;rw[ha] at e;cases e;refine core (fun _=>none) (fun _=>.inl rfl) (.inr ⟨_,vs.toArray,_,hk,rfl,rfl,rfl,by rw[List.size_toArray,lenV];exact hl,by simpa using rv⟩) (fun b u z=>by have z':(none:Option HO)=some u:=z;cases z') (fun b z=>absurd rfl z) fun z=>absurd rfl z
 |none =>
  refine core (fun b=>if b=a then some (.frz { cls:=.type "list",data:=.seq vs.toArray } (.lst (ns.map V.int))) else none) (fun b=>?_) (.inl (.inr ⟨{ cls:=.type "list",data:=.seq vs.toArray },if_pos rfl⟩)) (fun b u z=>?_) (fun b z=>?_) fun _=>hk
  ·by_cases hb:b=a
   ·exact .inr ⟨_,_,if_pos hb⟩
   ·exact .inl (if_neg hb)
  ·by_cases hb:b=a
   ·have z':=(if_pos hb).symm.trans z;cases z';subst hb;exact⟨ha,by rw[ag];exact hl,vs,_,rv,ha⟩
   ·have z':=(if_neg hb).symm.trans z;cases z'
  ·by_cases hb:b=a
   ·exact hb
   ·exact absurd (if_neg hb) z
end L2
namespace L2
open PySem PySem.Spec PyProof.Rows
theorem wC {l:PySem.W.OpenLaw}{n k:Nat}{q:Program}{loose:List Str}{XP:(Str->Option Value)->Heap->Prop}{YP:World->Heap->Prop}{d:DefRec}{K:Params->PySem.W.Frag}{CX:World->u7}{sp:World->Sp}{x:Str}
  (hn:l.most=some n) (hn2:n<=sizeLine) (hdf:d.params.defaults=[]) (hr:gB k callerA)
  (hY:∀(w:World) (h:Heap),YP w h->(K w.params).In h)
  (F:∀(w:World) (mg:Str->Option Value) (fa:Addr) (h:Heap),(K w.params).In h->h.Ns mainGlobals mg->mg d.name=some (.ref fa) ->
   ∃ fd:FuncData,(∀(s:Shared) (u:Value),BindsTo s fd ⟨[u],[]⟩ [(x,u)]) /\
    ∀ base:Heap,(K w.params).In base->base.Ns mainGlobals mg->mz l.prog w (K w.params) mg base (CX w) k fa fd [x] (sp w))
  (hsp:∀(w:World) (H:Hp) (a:Addr) (ns:List Int),ns.length<=n->zO H->ke (K w.params) H a (ns.map V.int)->sp w [.ref a] H (fun v _=>v = .bl true) fun _ _ _=>False)
  (hCX:∀(w:World) (H:Hp) (s:Shared) (e:Value) (s':Shared),CX w [] H s (fun _ _ _=>False) e s'->False) :
  PySem.W.WalkO q loose XP YP l.row.toRowW d [] (fun f vs=>PySem.call f vs):=by
 refine Att.mC hn hdf fun w s₀ s₁ mg mb fa o pm cd doc a vs ns G Y ho hd hcd hmg hobj hints hlen hg=>?_
 have KX:=hY w _ Y;obtain⟨fd,hb,hF⟩:=F w mg fa _ KX G.T.g hmg;exact tq KX G.T.g G.T.b G.T.builtins G.T.nolimit hg hobj hints (bh hlen hn2) hr hF hb (fun H hO hS=>hsp w H a ns hlen hO hS) fun H e s'=>hCX w H s₁ e s'
end L2
namespace L2
open PySem PySem.Spec PyProof.Rows
noncomputable def dF (s:Stmt):Arguments:=match s with
 |.FunctionDef _ a _ _ _ _ _ _ _ _=>a
 |_=>{ posonlyargs:=[],args:=[],vararg:=none,kwonlyargs:=[],kw_defaults:=[],kwarg:=none,defaults:=[] }
noncomputable def cF (s:Stmt):List Stmt:=match s with
 |.FunctionDef _ _ b _ _ _ _ _ _ _=>b
 |_=>[]
noncomputable def aR (s:Stmt):Scope:=match s with
 |.FunctionDef _ _ _ _ _ _ sc _ _ _=>sc
 |_=>{ kind:=.function,names:=[],isGenerator:=false,isCoroutine:=false }
noncomputable abbrev yC:u7:=fun _ _ _ _ _ _=>False
noncomputable abbrev E0:XK:=fun _ _ _=>False
theorem xU {X:Cx}:ml yC X E0:=fun _ _ _ _ _ _ _ h=>h.elim
structure yi (K:PySem.W.Frag)(x qual:Str)(st:Stmt)(f:Addr)(fd:FuncData):Prop where
 ex:∃(oc:Value) (od:Option Addr) (kV doc pm:Value) (an:Option Addr) (cdv ct:Value) (osl:Array (Option Value)),
  fd=PySem.W.fnOf x qual (dF st) (cF st) (aR st) .none kV doc pm an cdv ct/\K.lookup f=some ⟨oc,od,.func fd,osl⟩/\PySem.W.codeIn K cdv qual=true
 kp:PySem.W.keepIn K (.ref f)=true
section
variable {P:Program}{w:World}{K:PySem.W.Frag}{mg:Str->Option Value}{base:Heap}
theorem yi.ok {x qual:Str}{st:Stmt}{f:Addr}{fd:FuncData}{N ps:List Str}{k:Nat}{sp:Sp}(F:yi K x qual st f fd)(S:jn N ps (aR st))(len:∀ vs H Q E,sp vs H Q E->vs.length=ps.length)
  (hbody:∀(cdv:Value) (A:Around) (outer:List Env) (s:Shared) (H:Hp) (vs:List V) (Q:VK) (E:XK),gB k (A.deeper (envOfC qual (aR st) s.heap.objs.size f cdv))->sp vs H Q E ->
   ∃ t,j9 (oH yC P w K mg base N qual (aR st) f cdv A outer s H E).nox (cF st) t/\t { nx:=fun _ H'=>Q .non H',rt:=Q } (start N vs) H):mz P w K mg base yC (k+1) f fd ps sp:=by
 obtain⟨oc,od,kV,doc,pm,an,cdv,ct,osl,rfl,lk,hcd⟩:=F.ex;refine Bm lk hcd S len fun A outer s H vs Q E hr hsp=>?_
 obtain⟨t,h,q⟩:=hbody cdv A outer s H vs Q E hr hsp;exact⟨t,h.nox,q⟩
theorem yi.binds {x qual:Str}{st:Stmt}{f:Addr}{fd:FuncData}{ps:List Str}(F:yi K x qual st f fd)
  (h:∀(kV doc pm:Value) (an:Option Addr) (cdv ct:Value) (us:List Value),us.length=ps.length->bindArgs (PySem.W.fnOf x qual (dF st) (cF st) (aR st) .none kV doc pm an cdv ct) ⟨us,[]⟩=pure (ps.zip us)):Binds K fd ps []:=by
 obtain⟨oc,od,kV,doc,pm,an,cdv,ct,osl,rfl,lk,hcd⟩:=F.ex;exact .all (h kV doc pm an cdv ct)
theorem zW {x qual:Str}{st:Stmt}{f:Addr}{oc:Value}{od an:Option Addr}{osl:Array (Option Value)}{kV doc pm cdv ct:Value}(l:K.lookup f=some ⟨oc,od,.func (PySem.W.fnOf x qual (dF st) (cF st) (aR st) .none kV doc pm an cdv ct),osl⟩)
  (c:PySem.W.codeIn K cdv qual=true) (k:PySem.W.keepIn K (.ref f)=true):yi K x qual st f (PySem.W.fnOf x qual (dF st) (cF st) (aR st) .none kV doc pm an cdv ct):=⟨⟨oc,od,kV,doc,pm,an,cdv,ct,osl,rfl,l,c⟩,k⟩
end
section
variable {X:Cx}
end
def aH (H H':Hp):Prop:=∀ b o,H b=some o->H' b=some o
theorem aH.refl (H:Hp):aH H H:=fun _ _ h=>h
theorem aH.trans {H H1 H2:Hp}(a:aH H H1)(b:aH H1 H2):aH H H2:=fun c o h=>b c o (a c o h)
section
variable {κ:Type}[DecidableEq κ]
noncomputable def gT (kvs:List (κ×V))(k:κ):Option V:=(kvs.find? fun kv=>decide (kv.1=k)).map (·.2)
noncomputable def putK (kvs:List (κ×V))(k:κ)(v:V):List (κ×V) :=
 if (kvs.any fun kv=>decide (kv.1=k))=true then kvs.map (fun kv=>if kv.1=k then (kv.1,v) else kv) else kvs ++ [(k,v)]
theorem hU {p:κ×V}{r:List (κ×V)}{k:κ}(e:p.1=k):gT (p::r) k=some p.2:=by simp[gT,List.find?_cons,e]
theorem ie {p:κ×V}{r:List (κ×V)}{k:κ}(e:¬ p.1=k):gT (p::r) k=gT r k:=by simp[gT,List.find?_cons,e]
theorem fQ (k:κ):∀ kvs:List (κ×V),(kvs.any fun kv=>decide (kv.1=k))=(gT kvs k).isSome
 |[]=>rfl
 | p::r=>by
  rw[ef];by_cases e:p.1=k
  ·simp only[hU e,decide_eq_true e,Bool.true_or,Option.isSome_some]
  ·rw[ie e,aw e,Bool.false_or];exact fQ k r
theorem gE (kvs:List (κ×V))(k:κ)(v:V):(putK kvs k v).length<=kvs.length+1:=by
 unfold putK;split
 ·rw[ag];omega
 ·rw[ao,aj,bj];omega
theorem qA.isSome_eq {o:Option V}{u:Option Value}(r:qA o u):o.isSome=u.isSome:=by
 cases o with
 |none=>cases u with
  |none=>rfl
  |some _=>exact (show False from r).elim
 |some _=>cases u with
  |none=>exact (show False from r).elim
  |some _=>rfl
theorem KV.val {kvs:List (κ×V)}{vs:List (κ×Value)}(r:KV kvs vs)(k:κ):qA (gT kvs k) (valueAt vs k):=by
 unfold KV at r
 induction r with
 |nil=>exact True.intro
 |@cons p q ps qs h t ih =>
  obtain⟨h1,h2⟩:=h;by_cases e:p.1=k
  ·have e':q.1=k:=h1.symm.trans e;have b:valueAt (q::qs) k=some q.2:=by simp[valueAt,List.find?_cons,e']
   rw[hU e,b];exact h2
  ·have e':¬ q.1=k:=fun z=>e (h1.trans z)
   have b:valueAt (q::qs) k=valueAt qs k:=by simp[valueAt,List.find?_cons,e']
   rw[ie e,b];exact ih
theorem KV.any {kvs:List (κ×V)}{vs:List (κ×Value)}(r:KV kvs vs)(k:κ):(kvs.any fun kv=>decide (kv.1=k))=vs.any fun kv=>decide (kv.1=k):=by
 unfold KV at r
 induction r with
 |nil=>rfl
 |cons h t ih=>rw[ef,ef,ih,h.1]
theorem KV.repl {kvs:List (κ×V)}{vs:List (κ×Value)}(r:KV kvs vs)(k:κ){y:V}{u:Value}(ry:RelV y u) :
  KV (kvs.map fun kv=>if kv.1=k then (kv.1,y) else kv) (vs.map fun kv=>if kv.1=k then (kv.1,u) else kv):=by
 unfold KV at r ⊢
 induction r with
 |nil=>exact .nil
 |@cons p q ps qs h t ih =>
  rw[aq,aq];refine .cons ?_ ih;obtain⟨h1,h2⟩:=h;by_cases e:p.1=k
  ·rw[if_pos e,if_pos (h1.symm.trans e)];exact⟨h1,ry⟩
  ·rw[if_neg e,if_neg (fun z=>e (h1.trans z))];exact⟨h1,h2⟩
theorem KV.put {kvs:List (κ×V)}{vs:List (κ×Value)}(r:KV kvs vs)(k:κ){y:V}{u:Value}(ry:RelV y u):KV (putK kvs k y) (stored vs k u):=by
 unfold putK stored;rw[r.any k];by_cases e:(vs.any fun kv=>decide (kv.1=k))=true
 ·rw[if_pos e,if_pos e];exact r.repl k ry
 ·rw[if_neg e,if_neg e];exact Paired.snoc r ⟨rfl,ry⟩
theorem KV.keys {kvs:List (κ×V)}{vs:List (κ×Value)}(r:KV kvs vs):kvs.map (·.1)=vs.map (·.1):=by
 unfold KV at r
 induction r with
 |nil=>rfl
 |cons h t ih=>rw[aq,aq,ih,h.1]
theorem KV.length {kvs:List (κ×V)}{vs:List (κ×Value)}(r:KV kvs vs):kvs.length=vs.length:=Paired.length r
end
theorem mK {P:Program}{w:World}{k:Key}{u:Value}(r:RelV (kV k) u):(aL P w).is k u=true:=by
 cases k with
 |inl i=>obtain⟨t,e⟩:=(show ∃ t,u=Value.int i t from r);subst e;exact dD P w i t
 |inr x=>obtain⟨t,e⟩:=(show ∃ t,u=Value.str x t from r);subst e;exact cL P w x t
theorem iK {P:Program}{w:World}:∀{ks:List Key}{us:List Value},aJ (ks.map kV) us->ItemsAre (aL P w) ks us
 |[],_,r=>by rw[fe] at r;cases r;exact .nil
 | k::ks,_,r=>by
  rw[aq] at r;cases r with
  |cons h t=>exact .cons (mK h) (iK t)
noncomputable abbrev KT (H:Hp):List (List Key×V)->List (List Key×Addr×Value)->Prop:=Paired fun p q=>p.1=q.1/\H q.2.1=some (.tup (p.1.map kV))/\RelV p.2 q.2.2
theorem KT.val {H:Hp}{kvs:List (List Key×V)}{xs:List (List Key×Addr×Value)}(r:KT H kvs xs)(k:List Key):qA (gT kvs k) ((atKey xs k).map (·.2)):=by
 induction r with
 |nil=>exact True.intro
 |@cons p q ps qs h t ih =>
  obtain⟨h1,_,h2⟩:=h;by_cases e:p.1=k
  ·have e':q.1=k:=h1.symm.trans e;have b:atKey (q::qs) k=some q.2:=by simp[atKey,List.find?_cons,e']
   rw[hU e,b];exact h2
  ·have e':¬ q.1=k:=fun z=>e (h1.trans z)
   have b:atKey (q::qs) k=atKey qs k:=by simp[atKey,List.find?_cons,e']
   rw[ie e,b];exact ih
theorem KT.repl {H:Hp}{kvs:List (List Key×V)}{xs:List (List Key×Addr×Value)}(r:KT H kvs xs)(k:List Key){y:V}{u:Value}(ry:RelV y u) :
  KT H (kvs.map fun kv=>if kv.1=k then (kv.1,y) else kv) (xs.map (putAt k u)):=by
 induction r with
 |nil=>exact .nil
 |@cons p q ps qs h t ih =>
  rw[aq,aq];refine .cons ?_ ih;obtain⟨h1,h2,h3⟩:=h;unfold putAt;by_cases e:p.1=k
  ·rw[if_pos e,if_pos (h1.symm.trans e)];exact⟨h1,h2,ry⟩
  ·rw[if_neg e,if_neg (fun z=>e (h1.trans z))];exact⟨h1,h2,h3⟩
theorem KT.put {H:Hp}{kvs:List (List Key×V)}{xs:List (List Key×Addr×Value)}(r:KT H kvs xs)(k:List Key){b:Addr}{y:V}{u:Value}(hb:H b=some (.tup (k.map kV)))(ry:RelV y u) :
  KT H (putK kvs k y) (storedH xs k b u):=by
 have e:(kvs.any fun kv=>decide (kv.1=k))=(atKey xs k).isSome:=by
  rw[fQ,(r.val k).isSome_eq,gj]
 unfold putK storedH;rw[e];by_cases q:(atKey xs k).isSome=true
 ·rw[if_pos q,if_pos q];exact r.repl k ry
 ·rw[if_neg q,if_neg q];exact Paired.snoc r ⟨rfl,hb,ry⟩
theorem KT.keeps {H H':Hp}{kvs:List (List Key×V)}{xs:List (List Key×Addr×Value)}(r:KT H kvs xs)(ht:∀ b ys,H b=some (.tup ys)->H' b=some (.tup ys)):KT H' kvs xs :=
 Paired.mapP r fun _ _ z=>⟨z.1,ht _ _ z.2.1,z.2.2⟩
section
variable {P:Program}{w:World}{H:Hp}{h:Heap}{a:Addr}
theorem xP {u:HO}(ok:iw P w H h)(e:Rd H a u):cJ P w H h a u:=e.ok ok
theorem i0 {kvs:List (Key×V)}(ok:iw P w H h)(e:Rd H a (.dK kvs)):kvs.length<=sizeLine/\(a==sysModules)=false/\∃ vs,KV kvs vs/\h.DictOf (aL P w) a vs :=
 show cJ P w H h a (.dK kvs) from xP ok e
theorem tW {kvs:List (Key×V)}(ok:iw P w H h)(e:H a=some (.dK kvs)):kvs.length<=sizeLine/\(a==sysModules)=false/\∃ vs,KV kvs vs/\h.DictOf (aL P w) a vs:=i0 ok (.inl e)
theorem mf {ks:List Key}(ok:iw P w H h)(e:H a=some (.tup (ks.map kV))):(tupleKind (aL P w)).is h ks a:=by
 obtain⟨_,its,r,o,h1,h2,n,h3⟩:=(show cJ P w H h a (.tup (ks.map kV)) from ok a _ e);exact⟨o,its.toArray,n,h1,h2,h3,by simpa using iK r⟩
theorem nk {kvs:List (List Key×V)}(ok:iw P w H h)(e:Rd H a (.dT kvs)):kvs.length<=sizeLine/\(a==sysModules)=false /\
  ∃ xs,KT H kvs xs/\h.DictOfH (tupleKind (aL P w)) a xs:=by
 obtain⟨z,y,xs,r,o,es,ep,h1,h2,h3,h4,h5⟩:=(show cJ P w H h a (.dT kvs) from xP ok e);refine⟨z,y,xs,r,o,es,ep,h1,h2,h3,h4,fun x hx=>?_,h5⟩;have all:∀{l:List (List Key×V)}{m:List (List Key×Addr×Value)},KT H l m->∀ x∈m,(tupleKind (aL P w)).is h x.1 x.2.1:=by
  intro l m q
  induction q with
  |nil=>intro x hx;exact nomatch hx
  |@cons p q ps qs hq t ih =>
   intro x hx;rcases dz.mp hx with e | hx
   ·subst e;exact mf ok (by rw[<-hq.1];exact hq.2.1)
   ·exact ih x hx
 exact all r x hx
theorem Cd {kvs:List (List Key×V)}(ok:iw P w H h)(e:H a=some (.dT kvs)):kvs.length<=sizeLine/\(a==sysModules)=false /\
  ∃ xs,KT H kvs xs/\h.DictOfH (tupleKind (aL P w)) a xs:=nk ok (.inl e)
end
noncomputable def vO (H:Hp)(a:Addr)(y:V)(r:Option V):Prop :=
 (∃ kvs k,Rd H a (.dK kvs)/\y=kV k/\r=gT kvs k)\/∃ kvs k b,Rd H a (.dT kvs)/\y = .ref b/\H b=some (.tup (k.map kV))/\r=gT kvs k
noncomputable def kz (H:Hp)(a:Addr)(y v:V)(H':Hp):Prop :=
 (∃ kvs k,H a=some (.dK kvs)/\y=kV k/\kvs.length<sizeLine/\H'=upd H a (.dK (putK kvs k v))) \/
 ∃ kvs k b,H a=some (.dT kvs)/\y = .ref b/\H b=some (.tup (k.map kV))/\kvs.length<sizeLine/\H'=upd H a (.dT (putK kvs k v))
theorem kz.k {H:Hp}{a:Addr}{kvs:List (Key×V)}{k:Key}{v:V}(e:H a=some (.dK kvs))(hl:kvs.length<sizeLine):kz H a (kV k) v (upd H a (.dK (putK kvs k v))):=.inl ⟨kvs,k,e,rfl,hl,rfl⟩
theorem kz.t {H:Hp}{a b:Addr}{kvs:List (List Key×V)}{k:List Key}{v:V}(e:H a=some (.dT kvs))(eb:H b=some (.tup (k.map kV)))(hl:kvs.length<sizeLine) :
  kz H a (.ref b) v (upd H a (.dT (putK kvs k v))):=.inr ⟨kvs,k,b,e,rfl,eb,hl,rfl⟩
section
variable {X:Cx}{pins:List (Addr×Obj)}{σ:St}{H:Hp}{s:Shared}{a:Addr}{y v:V}{u r:Value}{o:Option V}{A:Around}{E:Value->Shared->Prop}
theorem Inv.big (I:Inv X pins σ H s):sysModules<s.heap.objs.size:=by
 have h:mainGlobals<s.heap.objs.size:=(I.mod.glob.keeps I.bk).lt;exact Nat.lt_trans (by decide) h
theorem Cj {Q:Value->Shared->Prop}(hu:A.units+1<cLine)(I:Inv X pins σ H s)(g:vO H a y o)(ry:RelV y u)(h:∀ s',Inv X pins σ H s'->Q (.bool o.isSome) s') :
  wpAny (model X.prog X.w) A (compareOp .In u (.ref a)) Q E s:=by
 rcases g with ⟨kvs,k,e,ey,l⟩ | ⟨kvs,k,b,e,ey,eb,l⟩
 ·subst ey;obtain⟨z,hd,vs,rel,dd⟩:=i0 I.hok e;refine wpAny_in_of (mK ry) hd dd.mapOf ?_;rw[<-(rel.val k).isSome_eq,<-l];exact h _ (I.tok _)
 ·subst ey;cases (show u=Value.ref b from ry);obtain⟨z,hd,xs,rel,dd⟩:=nk I.hok e;refine wpAny_in_heap (tupleKind_room_in1 hu) (mf I.hok eb) hd dd ?_;have q:=(rel.val k).isSome_eq;rw[gj] at q;rw[<-q,<-l];exact h _ (I.tok _)
theorem qm {Q:Value->Shared->Prop}(hu:A.units+1<cLine)(I:Inv X pins σ H s)(g:vO H a y o)(ry:RelV y u)(h:∀ s',Inv X pins σ H s'->Q (.bool (!o.isSome)) s') :
  wpAny (model X.prog X.w) A (compareOp .NotIn u (.ref a)) Q E s:=by
 rcases g with ⟨kvs,k,e,ey,l⟩ | ⟨kvs,k,b,e,ey,eb,l⟩
 ·subst ey;obtain⟨z,hd,vs,rel,dd⟩:=i0 I.hok e;refine wpAny_notIn_of (mK ry) hd dd.mapOf ?_;rw[<-(rel.val k).isSome_eq,<-l];exact h _ (I.tok _)
 ·subst ey;cases (show u=Value.ref b from ry);obtain⟨z,hd,xs,rel,dd⟩:=nk I.hok e;refine wpAny_notIn_heap (tupleKind_room_in1 hu) (mf I.hok eb) hd dd ?_;have q:=(rel.val k).isSome_eq;rw[gj] at q;rw[<-q,<-l];exact h _ (I.tok _)
theorem jk {h':Heap}{t':Nat}{ob:HO}(I:Inv X pins σ H s)(mu:m7 (H a))(hs:Heap.SameBut a s.heap h')(he:∃ q,h'.get? a=some q)(new:cJ X.prog X.w (upd H a ob) h' a ob) :
  Inv X pins σ (upd H a ob) { s with heap:=h',toks:=t' } :=
 I.write (x:=a) (e:=a) mu (.inl rfl) (fun b q hb z=>(hs.2 b hb).trans z) he new
theorem tT {P:Program}{w:World}{H':Hp}{h':Heap}{kvs:List (Key×V)}{vs:List (Key×Value)}(z:kvs.length<=sizeLine)(hd:(a==sysModules)=false)(rel:KV kvs vs)(dd:h'.DictOf (aL P w) a vs) :
  cJ P w H' h' a (.dK kvs):=⟨z,hd,vs,rel,dd⟩
theorem k6 {H':Hp}{Q:Unit->Shared->Prop}(hu:A.units+1<cLine)(I:Inv X pins σ H s)(g:kz H a y v H')(ry:RelV y u)(rv:RelV v r)(h:∀ s',Inv X pins σ H' s'->Q () s') :
  wpAny (model X.prog X.w) A (setItem (.ref a) u r) Q E s:=by
 rcases g with ⟨kvs,k,e,ey,l,eH⟩ | ⟨kvs,k,b,e,ey,eb,l,eH⟩
 ·subst ey eH;obtain⟨z,hd,vs,rel,dd⟩:=tW I.hok e;have hz:vs.length<=sizeLine:=by rw[<-rel.length];exact z
  have hl:(putK kvs k v).length<=sizeLine:=by have:=gE kvs k v;omega
  refine wpAny_setItem_pairs (hsz:=hz) (mK ry) dd fun h' dd' hs=>h _ ?_
  have he:∃ q,h'.get? a=some q:=let ⟨q,_,_,hq,_⟩:=dd';⟨q,hq⟩;exact jk I (by rw[e];exact True.intro) hs he (tT hl hd (rel.put k rv) dd')
 ·subst ey eH;cases (show u=Value.ref b from ry);obtain⟨z,hd,xs,rel,dd⟩:=Cd I.hok e;have hz:xs.length<=sizeLine:=by rw[<-Paired.length rel];exact z
  have hl:(putK kvs k v).length<=sizeLine:=by have:=gE kvs k v;omega
  refine wpAny_setItem_heap (hsz:=hz) (tupleKind_room_in1 hu) (mf I.hok eb) dd fun h' dd' hs=>h _ ?_
  obtain⟨q,es,ep,hq,h2,h3,h4,_,h5⟩:=dd';refine jk I (by rw[e];exact True.intro) hs ⟨q,hq⟩ ⟨hl,hd,_,(rel.put k eb rv).keeps fun c ys ec=>?_,q,es,ep,hq,h2,h3,h4,h5⟩;rw[aI (Cq ec e (fun z=>nomatch z))];exact ec
end
section
variable {X:Cx}{pins:List (Addr×Obj)}{σ:St}{H:Hp}{s:Shared}{a:Addr}{kvs:List (Key×V)}{k:Key}{u:Value}{A:Around}{E:Value->Shared->Prop}
end
section
variable {X:Cx}{o i e value:Expr}{pos pos' tpos:Pos}{td ty tv:TE}
end
theorem tR {P:Program}{w:World}{H:Hp}(h:Heap)(hb:sysModules<h.objs.size):cJ P w H (h.push { cls:=.type "dict",data:=.dict #[] }) h.objs.size (.dK []) :=
 ⟨cy _,beq_eq_false_iff_ne.mpr (da (bo hb)),[],.nil,Heap.DictOf.new h⟩
section
variable {X:Cx}{pos:Pos}
end
noncomputable def jK:List (TE×TE)->St->Hp->(List (V×V)->Hp->Prop)->Prop
 |[],_,H,Q=>Q [] H
 | (tk,tv)::r,σ,H,Q=>tk σ H fun x H1=>tv σ H1 fun y H2=>jK r σ H2 fun ps H3=>Q ((x,y)::ps) H3
noncomputable abbrev VV:List (V×V)->List (Value×Value)->Prop:=Paired fun p q=>RelV p.1 q.1/\RelV p.2 q.2
noncomputable def AN (X:Cx)(pos:Pos)(keys:List (Option Expr))(values:List Expr)(trs:List (TE×TE)):Prop :=
 ∀(pins:List (Addr×Obj)) (s:Shared) (σ:St) (H:Hp) (Q:List (V×V)->Hp->Prop),Inv X pins σ H s->jK trs σ H Q ->
  wpAny (model X.prog X.w) X.A (evalPairs (pairTrees keys values X.env pos)) (fun vs s'=>∃ ps H',Inv X pins σ H' s'/\VV ps vs/\Q ps H') X.xe s
theorem vE {X:Cx}{pos:Pos}:AN X pos [] [] []:=fun pins s σ H Q I h=>pairTrees_nil_walk ⟨[],H,I,.nil,h⟩
theorem ug {X:Cx}{pos:Pos}{k v:Expr}{ks:List (Option Expr)}{vs:List Expr}{tk tv:TE}{trs:List (TE×TE)}(hk:PE X k tk)(hv:PE X v tv)(hr:AN X pos ks vs trs) :
  AN X pos (some k::ks) (v::vs) ((tk,tv)::trs):=fun pins s σ H Q I h =>
 pairTrees_cons_walk (bM (hk pins s σ H _ I h) fun u s1 ⟨x,H1,I1,rx,q1⟩=>bM (hv pins s1 σ H1 _ I1 q1) fun w2 s2 ⟨y,H2,I2,ry,q2⟩ =>
  bM (hr pins s2 σ H2 _ I2 q2) fun ws s3 ⟨ps,H3,I3,rel,q3⟩=>⟨(x,y)::ps,H3,I3,.cons ⟨rx,ry⟩ rel,q3⟩)
noncomputable def fE (kvs more:List (Key×V)):List (Key×V):=more.foldl (fun acc kv=>putK acc kv.1 kv.2) kvs
theorem KV.merge:∀{more:List (Key×V)}{rs:List (Key×Value)}{kvs:List (Key×V)}{vs:List (Key×Value)},KV more rs->KV kvs vs->KV (fE kvs more) (merged vs rs):=by
 intro more rs kvs vs r;unfold KV at r
 induction r generalizing kvs vs with
 |nil=>intro q;exact q
 |@cons p q ps qs h t ih =>
  intro r0;have e:KV (putK kvs p.1 p.2) (stored vs q.1 q.2):=by
   have:=r0.put p.1 h.2;rw[<-h.1];exact this
  exact ih e
theorem gR:∀(more kvs:List (Key×V)),(fE kvs more).length<=kvs.length+more.length
 |[],kvs=>by show kvs.length<=kvs.length+0;omega
 | p::r,kvs=>by
  have h1:=gR r (putK kvs p.1 p.2);have h2:=gE kvs p.1 p.2;show (fE (putK kvs p.1 p.2) r).length<=_;rw[aj];omega
theorem jM {P:Program}{w:World}:∀{kvs:List (Key×V)}{ws:List (Value×Value)},VV (kvs.map fun kv=>(kV kv.1,kv.2)) ws->∃ rs,Carries (aL P w) ws rs/\KV kvs rs
 |[],_,r=>by rw[fe] at r;cases r;exact⟨[],True.intro,.nil⟩
 | p::kvs,_,r=>by
  rw[aq] at r;cases r with
  |@cons a b as bs h t =>
   obtain⟨rs,c,q⟩:=jM (P:=P) (w:=w) t;obtain⟨b1,b2⟩:=b;exact⟨(p.1,b2)::rs,⟨mK h.1,rfl,c⟩,.cons ⟨rfl,h.2⟩ q⟩
def A4 (trs:List (TE×TE)):TE:=fun σ H Q=>∀ p,H p=none->jK trs σ (upd H p (.dK [])) fun ps H2=>H2 p=some (.dK [])/\∃ kvs:List (Key×V),ps=kvs.map (fun kv=>(kV kv.1,kv.2))/\kvs.length<=15/\Q (.ref p) (upd H2 p (.dK (fE [] kvs)))
theorem wm {X:Cx}{pos:Pos}{keys:List (Option Expr)}{values:List Expr}{trs:List (TE×TE)}(h:AN X pos keys values trs)(hall:keys.all (·.isSome)=true)(hl:keys.length=values.length)(h0:keys≠[])
  (h15:keys.length<=15):PE X (.Dict keys values pos) (A4 trs):=by
 intro pins s σ H Q I q;have hn:=I.hok.fresh (av s.heap.objs.size);have I1:=I.laid (a:=s.heap.objs.size) (o:=.dK []) (h':=s.heap.push { cls:=.type "dict",data:=.dict #[] }) (t':=s.toks) (fun _ _ q=>Heap.get?_push_of_some _ q) (av _) (tR s.heap I.big);refine wpAny_Dict_walk (knd:=aL X.prog X.w) hall hl h0 h15 (bM (h pins _ σ _ _ I1 (q _ hn)) fun ws s2 ⟨ps,H2,I2,rel,e,kvs,ep,lk,q2⟩=>?_);subst ep;obtain⟨rs,c,rk⟩:=jM (P:=X.prog) (w:=X.w) rel;obtain⟨z,hd,vs0,r0,dd⟩:=tW I2.hok e;cases r0;refine⟨rs,c,dd,fun h' dd' hs=>⟨.ref s.heap.objs.size,_,?_,rfl,q2⟩⟩;have hz:(fE [] kvs).length<=sizeLine:=by
  have h1:=gR kvs [];rw[bj] at h1;rw[sizeLine_eq];omega
 have he:∃ q,h'.get? s.heap.objs.size=some q:=let ⟨q,_,_,hq,_⟩:=dd';⟨q,hq⟩;exact jk I2 (by rw[e];exact True.intro) hs he (tT hz hd (rk.merge .nil) dd')
end L2
end
section
namespace Pc
open PySem
inductive MV where
 | tr | int (i:Int) | tup (is:List Int)
deriving Inhabited,DecidableEq
inductive D where
 | non | bl (b:Bool) | int (i:Int) | str (s:Str) | lst (xs:List D) | tup (xs:List D)
 | dct (kvs:List ((Int ⊕ Str)×Option Int))
 | mpi (ks:List (Int×MV)) | mpt (ks:List (List Int))
 | mpz (ks:List (Int×MV))
deriving Inhabited
mutual
noncomputable def D.flat:D->Bool
 |.lst _=>false
 |.tup xs=>D.flats xs
 |.non=>true
 |.bl _=>true
 |.int _=>true
 |.str _=>true
 |.dct _=>true
 |.mpi _=>false
 |.mpt _=>false
 |.mpz _=>true
noncomputable def D.flats:List D->Bool
 |[]=>true
 |x::xs=>D.flat x&&D.flats xs
end
noncomputable def t9 (f:D->D->Option Bool):List D->List D->Option Bool
 |[],[]=>some true
 |x::xs,y::ys=>(f x y).bind fun a=>(t9 f xs ys).map fun b=>a&&b
 |_,_=>none
noncomputable def D.eqf:Nat->D->D->Option Bool
 |0,_,_=>none
 |_+1,.non,.non=>some true
 |_+1,.bl a,.bl b=>some (a==b)
 |_+1,.int a,.int b=>some (a==b)
 |_+1,.bl a,.int b=>some ((if a then (1:Int) else 0)==b)
 |_+1,.int a,.bl b=>some (a==(if b then (1:Int) else 0))
 |_+1,.str a,.str b=>some (a==b)
 |n+1,.lst a,.lst b=>if a.length=b.length then t9 (D.eqf n) a b else some false
 |n+1,.tup a,.tup b=>if a.length=b.length then t9 (D.eqf n) a b else none
 |_+1,.dct _,_=>none
 |_+1,_,.dct _=>none
 |_+1,.mpi _,_=>none
 |_+1,_,.mpi _=>none
 |_+1,.mpt _,_=>none
 |_+1,_,.mpt _=>none
 |_+1,.mpz _,_=>none
 |_+1,_,.mpz _=>none
 |_+1,_,_=>some false
noncomputable def D.eE:D->Bool
 |.lst _=>false
 |.tup _=>false
 |.dct _=>false
 |.mpi _=>false
 |.mpt _=>false
 |.mpz _=>false
 |_=>true
noncomputable def D.eqs:D->D->Bool
 |.non,.non=>true
 |.bl a,.bl b=>a==b
 |.int a,.int b=>a==b
 |.str a,.str b=>a==b
 |.bl a,.int b=>(if a then (1:Int) else 0)==b
 |.int a,.bl b=>a==(if b then (1:Int) else 0)
 |_,_=>false
structure Exc where
 cls:Str
 fs:List (Str×D)
deriving Inhabited
inductive Rs (α:Type) where
 | ok (a:α) | exc (e:Exc) | bad
noncomputable def Rs.bind {α β:Type}(x:Rs α)(f:α->Rs β):Rs β:=match x with
 |.ok a=>f a
 |.exc e=>.exc e
 |.bad=>.bad
inductive Rt where
 | mv (R:List Nat)
 | sh (R:List Nat)
noncomputable def Rt.roots:Rt->List Nat
 |.mv R=>R
 |.sh R=>R
inductive Tg where
 | own | lk | sh (R:List Nat)
noncomputable abbrev Slot:=Option (D×Tg)
noncomputable abbrev En:=List Slot
noncomputable def lim:Nat:=1000000
inductive ka where
 | nm (i:Nat) | tp (is:List Nat)
inductive zt where
 | len | list | tuple | int | str | abs | min2 | max2 | all | any | sum | isi (T:String) | sorted | bool | lrev | lrng | divm | maxd
inductive Mth where
 | sfind | sindex | sjoin | ssplit | lindex | lcount | szfill | scount | sstarts
inductive m7 where
 | append | extend | insert | pop | uz | reverse | clear
mutual
inductive Ex where
 | var (i:Nat)
 | cst (d:D)
 | glb (k:Nat)
 | bin (op:Operator) (a b:Ex)
 | neg (a:Ex)
 | cmp (op:CmpOp) (a b:Ex)
 | chn (op op':CmpOp) (a b c:Ex)
 | and (a b:Ex)
 | or (a b:Ex)
 | not (a:Ex)
 | ite (c a b:Ex)
 | lst (es:kq)
 | tup (es:kq)
 | ix (a i:Ex)
 | sl (a:Ex) (lo hi:j8)
 | call (f:Nat) (es:kq)
 | blt (b:zt) (es:kq)
 | mth (m:Mth) (o:Ex) (es:kq)
 | comp (own:Nat) (pick:List Nat) (t:ka) (it:rQ) (c:j8) (e:Ex)
 | dnew
 | ddsp (l:List (Nat×Int))
inductive kq where
 | nil | cons (e:Ex) (es:kq)
inductive j8 where
 | none | some (e:Ex)
inductive rQ where
 | seq (e:Ex) | rng1 (a:Ex) | rng2 (a b:Ex) | rng3 (a b c:Ex) | enum (e:Ex) | zip (a b:Ex) | rev (e:Ex)
end
mutual
inductive St where
 | asg (t:ka) (e:Ex) (mv:Bool)
 | mut (x:Nat) (path:j8) (m:m7) (es:kq)
 | setix (x:Nat) (path:j8) (i:Ex) (e:Ex)
 | putd (x:Nat) (i v:Ex)
 | aug (x:Nat) (op:Operator) (e:Ex)
 | popa (y x:Nat) (es:kq)
 | apop (y x:Nat) (es:kq)
 | frzd (x:Nat) (s:St)
 | expr (e:Ex)
 | ite (c:Ex) (a b:bZ)
 | forr (t:ka) (it:rQ) (b:bZ)
 | forw (x:Nat) (e:Ex) (b:bZ)
 | whl (c:Ex) (b:bZ)
 | ret (e:Ex)
 | retN | brk | cnt | pass
inductive bZ where
 | nil | cons (s:St) (r:bZ)
end
noncomputable def ck (n:Nat)(d:D):Option D:=if n<=lim then some d else none
noncomputable def small (i:Int):Bool:=decide (-(2 ^ 64)<i/\i<2 ^ 64)
noncomputable def binI:Operator->Int->Int->Option Int
 |.Add,i,j=>some (i+j)
 |.Sub,i,j=>some (i - j)
 |.Mult,i,j=>if small i || small j then some (i*j) else none
 |.FloorDiv,i,j=>if 0<j/\j<1073741824 then some (i / j) else none
 |.Mod,i,j=>if 0<j then some (i%j) else none
 |.Pow,i,j=>if 0<=j/\j<=1000000/\i.natAbs<2 ^ 64 then some (i ^ j.toNat) else none
 |.LShift,i,j=>if 0<=j/\j<=1000000/\i.natAbs<2 ^ 64 then some (i*2 ^ j.toNat) else none
 |.RShift,i,j=>if 0<=j then some (i / 2 ^ j.toNat) else none
 |.BitAnd,i,j=>some (Builtin.bitAnd i j)
 |.BitOr,i,j=>some (Builtin.bitOr i j)
 |.BitXor,i,j=>some (Builtin.bitXor i j)
 |_,_,_=>none
noncomputable def eI:Operator->D->D->Option D
 |op,.int i,.int j=>(binI op i j).map .int
 |.Add,.str a,.str b=>ck (a.length+b.length) (.str (a++b))
 |.Add,.lst a,.lst b=>ck (a.length+b.length) (.lst (a++b))
 |.Add,.tup a,.tup b=>if a.isEmpty then none else ck (a.length+b.length) (.tup (a++b))
 |.Mult,.lst a,.int k=>if -(2 ^ 63)<=k/\k<2 ^ 63 then (if D.flats a then ck (a.length*k.toNat) (.lst (List.replicate k.toNat a).flatten) else none) else none
 |_,_,_=>none
noncomputable def vOf:Option Int->D
 |none=>.non
 |some i=>.int i
noncomputable def o5 (kvs:List ((Int ⊕ Str)×Option Int))(k:Int ⊕ Str):Option (Option Int):=(kvs.find? fun q=>decide (q.1=k)).map (·.2)
noncomputable def Bw (x y:Str):Bool:=!(Builtin.Str.occurrences y x 0 y.length 1).isEmpty
noncomputable def ub {α:Type}[BEq α](ks:List α)(k:α):List α:=if ks.contains k then ks else ks ++ [k]
noncomputable def qZ (kvs:List (Int×MV))(k:Int)(m:MV):List (Int×MV):=if (kvs.any fun q=>decide (q.1=k))=true then kvs.map (fun q=>if q.1=k then (q.1,m) else q) else kvs ++ [(k,m)]
noncomputable def fB:List D->Option (List Int)
 |[]=>some []
 |.int i::r=>(fB r).map (i :: ·)
 |_::_=>none
noncomputable def mvD:MV->D
 |.tr=>.bl true
 |.int i=>.int i
 |.tup is=>.tup (is.map .int)
noncomputable def Ap:D->Option MV
 |.bl true=>some .tr
 |.int i=>some (.int i)
 |.tup xs=>(fB xs).map .tup
 |_=>none
noncomputable def lK (gl:Nat->D):List (Nat×Int)->List (Int×MV)->Option (List (Int×MV))
 |[],ks=>some ks
 |q::r,ks=>match gl q.1 with
  |.int i=>lK gl r (qZ ks i (.int q.2))
  |_=>none
noncomputable def rf:D->Bool
 |.bl true=>true
 |_=>false
noncomputable def tw:D->D->D->Option D
 |.mpi ks,.int k,v=>if ks.length<lim then (Ap v).map fun m=>.mpi (qZ ks k m) else none
 |.mpi [],.tup [.int i,.int j],v=>if rf v then some (.mpt [[i,j]]) else none
 |.mpt ks,.tup [.int i,.int j],v=>if rf v&&decide (ks.length<lim) then some (.mpt (ub ks [i,j])) else none
 |_,_,_=>none
noncomputable def inD (x:D):D->Option Bool
 |.lst ys=>if x.eE&&ys.all D.eE then some (ys.any fun y=>D.eqs y x) else none
 |.tup ys=>if x.eE&&ys.all D.eE then some (ys.any fun y=>D.eqs y x) else none
 |.str y=>match x with
  |.str z=>some (Bw z y)
  |_=>none
 | .dct ((.inr z,v)::kvs)=>match x with
  |.str s=>some (o5 ((.inr z,v)::kvs) (.inr s)).isSome
  |_=>none
 |.mpi ks=>match x with
  |.int k=>some (ks.any fun q=>decide (q.1=k))
  |.tup [.int _,.int _]=>if ks.isEmpty then some false else none
  |_=>none
 |.mpz ks=>match x with
  |.int k=>some (ks.any fun q=>decide (q.1=k))
  |_=>none
 |.mpt ks=>match x with
  |.tup [.int i,.int j]=>some (ks.contains [i,j])
  |_=>none
 |_=>none
noncomputable def jQ:List Int->List Int->Bool
 |[],_=>true
 |_::_,[]=>false
 |a::x,b::y=>if a=b then jQ x y else decide (a<=b)
noncomputable def o6:D->Bool
 |.non=>true
 |_=>false
noncomputable def xG (eq lt:D->D->Option Bool):List D->List D->Option Bool
 |[],[]=>some false
 |[],_::_=>some true
 |_::_,[]=>some false
 |x::xs,y::ys=>(eq x y).bind fun e=>if e then xG eq lt xs ys else lt x y
noncomputable def D.ltf:Nat->D->D->Option Bool
 |_+1,.int i,.int j=>some (decide (i<j))
 |n+1,.tup xs,.tup ys=>xG (D.eqf n) (D.ltf n) xs ys
 |n+1,.lst xs,.lst ys=>xG (D.eqf n) (D.ltf n) xs ys
 |_,_,_=>none
noncomputable def gO:CmpOp->D->D->Option Bool
 |.Lt,.int i,.int j=>some (decide (i<j))
 |.Lt,.tup xs,.tup ys=>D.ltf 39 (.tup xs) (.tup ys)
 |.LtE,.int i,.int j=>some (decide (i<=j))
 |.LtE,.tup xs,.tup ys=>(fB xs).bind fun a=>(fB ys).map fun b=>jQ a b
 |.Gt,.int i,.int j=>some (decide (j<i))
 |.GtE,.int i,.int j=>some (decide (j<=i))
 |.Eq,x,y=>D.eqf 40 x y
 |.NotEq,x,y=>(D.eqf 40 x y).map (!·)
 |.In,x,y=>inD x y
 |.NotIn,x,y=>(inD x y).map (!·)
 |.Is,x,.non=>some (o6 x)
 |.IsNot,x,.non=>some (!o6 x)
 |.Is,.bl a,.bl b=>some (a==b)
 |.IsNot,.bl a,.bl b=>some (!(a==b))
 |_,_,_=>none
noncomputable def truth:D->Option Bool
 |.bl b=>some b
 |.int i=>some (i != 0)
 |.str s=>if s.length<=lim then some ((s.length:Int) != 0) else none
 |.lst xs=>some (!xs.isEmpty)
 |.tup xs=>some (!xs.isEmpty)
 |.non=>some false
 |.dct _=>none
 |.mpi _=>none
 |.mpt _=>none
 |.mpz _=>none
noncomputable def g9 (n:Nat)(i:Int):Option Nat:=if 0<=i then (if i<n then some i.toNat else none) else if -(n:Int)<=i then some (i+n).toNat else none
noncomputable def bE (n d:Nat):Option Int->Nat
 |none=>d
 |some v=>if v<0 then (v+(n:Int)).toNat else min v.toNat n
noncomputable def cut {α:Type}(xs:List α)(lo hi:Option Int):List α :=
 let a:=bE xs.length 0 lo
 (xs.drop a).take (bE xs.length xs.length hi - a)
noncomputable def pq:D->D->Option D
 |.lst xs,.int i=>(g9 xs.length i).bind fun j=>xs[j]?
 |.tup xs,.int i=>(g9 xs.length i).bind fun j=>xs[j]?
 |.str s,.int i=>if s.length<=lim then ((g9 s.cps.toList.length i).bind fun j=>s.cps.toList[j]?).map fun c=>.str ⟨#[c]⟩ else none
 |.dct kvs,.int i=>(o5 kvs (.inl i)).map vOf
 |.dct kvs,.str s=>(o5 kvs (.inr s)).map vOf
 |.mpi ks,.int k=>(ks.find? fun q=>decide (q.1=k)).map fun q=>mvD q.2
 |.mpz ks,.int k=>(ks.find? fun q=>decide (q.1=k)).map fun q=>mvD q.2
 |_,_=>none
noncomputable def slD:D->Option Int->Option Int->Option D
 |.lst xs,lo,hi=>some (.lst (cut xs lo hi))
 |.tup xs,lo,hi=>if bE xs.length 0 lo=0/\bE xs.length xs.length hi=xs.length then none else some (.tup (cut xs lo hi))
 |.str s,lo,hi=>if s.length<=lim then some (.str ⟨(cut s.cps.toList lo hi).toArray⟩) else none
 |_,_,_=>none
noncomputable def D.inner:D->Bool
 |.lst xs=>D.flats xs
 |.tup xs=>D.flats xs
 |_=>true
noncomputable def eR (d:D)(R:List Nat):Rt:=if d.inner then .mv [] else .sh R
noncomputable def mo (d:D)(r:Rt):Rt:=if d.flat then .mv [] else .sh r.roots
noncomputable def cR:List Rt->Option (List Nat)
 |[]=>some []
 |.mv R::r=>(cR r).map (R ++ ·)
 |.sh _::_=>none
noncomputable def aQ (l:List Rt):List Nat:=(l.map Rt.roots).flatten
noncomputable def mh (l:List Rt):Rt:=match cR l with
 |some R=>if R.Nodup then .mv R else .sh R
 |none=>.sh (aQ l)
noncomputable def tY (T:String):D->Bool
 |.non=>T == "NoneType"
 |.bl _=>T == "bool" || T == "int"
 |.int _=>T == "int"
 |.str _=>T == "str"
 |.lst _=>T == "list"
 |.tup _=>T == "tuple"
 |.dct _=>false
 |.mpi _=>false
 |.mpt _=>false
 |.mpz _=>false
noncomputable def D.isBl:D->Bool
 |.bl _=>true
 |_=>false
noncomputable def allB:List D->Option Bool
 |[]=>some true
 |.bl b::r=>if b then allB r else some false
 |_::_=>none
noncomputable def anyB:List D->Option Bool
 |[]=>some false
 |.bl b::r=>if b then some true else anyB r
 |_::_=>none
noncomputable def qW:Int->List D->Option Int
 |a,[]=>some a
 |a,.int i::r=>qW (a+i) r
 |_,_::_=>none
noncomputable def x3:Int->List D->Option Int
 |a,[]=>some a
 |a,.int i::r=>x3 (if i > a then i else a) r
 |_,_::_=>none
noncomputable def aS:Int->Int->Nat->List D
 |_,_,0=>[]
 |a,s,n+1=>.int a::aS (a+s) s n
noncomputable def eL (i:Int):Bool:=decide (-(2 ^ 62)<=i/\i<2 ^ 62)
noncomputable def iY:List D->Option (List (List Int))
 |[]=>some []
 |.tup xs::r=>(fB xs).bind fun k=>if k.isEmpty then none else (iY r).map (k :: ·)
 |_::_=>none
noncomputable def gP:List Int->List Int->Bool
 |[],[]=>false
 |[],_::_=>true
 |_::_,[]=>false
 |a::x,b::y=>if a==b then gP x y else decide (a<b)
noncomputable def Cw {α:Type}(f:Nat->Nat->Option Bool):PySem.W.KasT α->Option α
 |.ret a=>some a
 |.ask i j k=>(f i j).bind fun b=>Cw f (k b)
noncomputable def Cg (xs:List D):Option (List D):=if 2<=xs.length/\xs.length<64 then (iY xs).bind fun ks =>
  (Cw (fun i j=>(ks[i]?).bind fun a=>(ks[j]?).map fun b=>gP a b) (PySem.W.kas_sort xs.length)).bind fun p =>
   if p.size<=64 then some (p.toList.map fun i=>xs.getD i .non) else none
 else none
noncomputable def insI (a:Int):List Int->List Int
 |[]=>[a]
 |b::l=>if a<=b then a::b::l else b::insI a l
noncomputable def vh:List Int->List Int
 |[]=>[]
 |a::l=>insI a (vh l)
noncomputable def uG:List D->Option D
 |[.lst xs]=>match fB xs with
  |some ns=>if ns.length<64 then some (.lst ((vh ns).map .int)) else none
  |none=>(Cg xs).map .lst
 |_=>none
noncomputable def xD:List D->Option D
 |[.lst xs]=>some (.int xs.length)
 |[.tup xs]=>some (.int xs.length)
 |[.str s]=>if s.length<=lim then some (.int s.length) else none
 |[.mpt ks]=>some (.int ks.length)
 |_=>none
noncomputable def tJ:List D->Option D
 |[.lst xs]=>some (.lst xs)
 |[.tup xs]=>some (.lst xs)
 |[.mpi ks]=>if ks.length<=lim then some (.lst (ks.map fun q=>.int q.1)) else none
 |_=>none
noncomputable def wc:List D->Option D
 |[.lst xs]=>some (.tup xs)
 |_=>none
noncomputable def BW:List D->Option D
 |[.int i]=>some (.int (if i<0 then -i else i))
 |_=>none
noncomputable def bY (lt:Nat->Nat->Bool):Nat->Nat->Nat->Nat
 |0,_,m=>m
 |k+1,j,m=>bY lt k (j+1) (if lt j m then j else m)
noncomputable def minD (xs:List D):Option D:=if xs.isEmpty then none else match fB xs with
 |some ns=>xs[bY (fun i j=>decide (ns.getD i 0<ns.getD j 0)) (xs.length - 1) 1 0]?
 |none=>(iY xs).bind fun ks=>xs[bY (fun i j=>gP (ks.getD i []) (ks.getD j [])) (xs.length - 1) 1 0]?
noncomputable def y6:List D->Option D
 |[.int i,.int j]=>some (.int (if j<i then j else i))
 |[.lst xs]=>minD xs
 |_=>none
noncomputable def zB:List D->Option D
 |[.int i,.int j]=>some (.int (if j > i then j else i))
 |_=>none
noncomputable def x4:List D->Option D
 |[.lst xs]=>if xs.all D.isBl then (allB xs).map .bl else none
 |_=>none
noncomputable def A7:List D->Option D
 |[.lst xs]=>if xs.all D.isBl then (anyB xs).map .bl else none
 |_=>none
noncomputable def xZ:List D->Option D
 |[.lst xs]=>(qW 0 xs).map .int
 |_=>none
noncomputable def Bh (T:String):List D->Option D
 |[.dct _]=>none
 |[.mpi _]=>none
 |[.mpt _]=>none
 |[.mpz _]=>none
 |[d]=>some (.bl (tY T d))
 |_=>none
noncomputable def Ad:List D->Option D
 |[.lst xs]=>some (.lst xs.reverse)
 |_=>none
noncomputable def zy:List D->Option D
 |[.int n]=>if eL n=true/\n<=1000000 then some (.lst (aS 0 1 n.toNat)) else none
 |[.int a,.int b]=>if eL a=true/\eL b=true/\b - a<=1000000 then some (.lst (aS a 1 (b - a).toNat)) else none
 |_=>none
noncomputable def A6:List D->Option D
 |[.str s]=>if s.length<=640 then (PySem.intText? s).map .int else none
 |[.int i]=>some (.int i)
 |[.bl b]=>some (.int (if b then 1 else 0))
 |_=>none
noncomputable def yd:List D->Option D
 |[.int i,.int j]=>if 0<j/\j<1073741824 then some (.tup [.int (i / j),.int (i%j)]) else none
 |_=>none
noncomputable def yZ:List D->Option D
 |[.lst [],.int d]=>some (.int d)
 | [.lst (.int i::r),.int _]=>(x3 i r).map .int
 |_=>none
noncomputable def kC:zt->List D->Option D
 |.sorted,ds=>uG ds
 |.len,ds=>xD ds
 |.list,ds=>tJ ds
 |.tuple,ds=>wc ds
 |.abs,ds=>BW ds
 |.min2,ds=>y6 ds
 |.max2,ds=>zB ds
 |.all,ds=>x4 ds
 |.any,ds=>A7 ds
 |.sum,ds=>xZ ds
 |.isi T,ds=>Bh T ds
 |.lrev,ds=>Ad ds
 |.lrng,ds=>zy ds
 |.int,ds=>A6 ds
 |.divm,ds=>yd ds
 |.maxd,ds=>yZ ds
 |_,_=>none
noncomputable def B7 (k:Int):List D->Option Nat
 |[]=>some 0
 |.int i::r=>(B7 k r).map fun c=>if i==k then c+1 else c
 |_::_=>none
noncomputable def nj:List D->Option (List Str)
 |[]=>some []
 |.str s::r=>(nj r).map (s :: ·)
 |_::_=>none
noncomputable def zC (x y:Str):List Str :=
 if (decide (x.length<y.length) || decide (Builtin.Str.strKind x<Builtin.Str.strKind y))=true then [x] else
 if (Builtin.Str.occurrences x y 0 x.length (x.length+1)).isEmpty=true then [x] else Builtin.Str.partsBetween x (Builtin.Str.occurrences x y 0 x.length (x.length+1)) y.length
noncomputable def mthD:Mth->D->List D->Option D
 |.sfind,.str x,[.str y]=>some (.int (match Builtin.Str.occurrences x y 0 x.length 1 with
  |i::_=>(i:Int)
  |[]=>-1))
 |.sindex,.str x,[.str y]=>match Builtin.Str.occurrences x y 0 x.length 1 with
  |i::_=>some (.int (i:Int))
  |[]=>none
 |.sindex,.lst xs,[.int k]=>(fB xs).bind fun ns=>if k∈ns/\ns.length<=lim then some (.int ((ns.idxOf k:Nat):Int)) else none
 |.sjoin,.str x,[.lst xs]=>(nj xs).bind fun ys=>if (ys.map (·.length)).sum+ys.length*x.length<=lim then some (.str (PySem.Str.join x ys)) else none
 |.ssplit,.str x,[.str y]=>if 0<y.length/\x.length<=lim then some (.lst ((zC x y).map .str)) else none
 |.lcount,.lst xs,[.int k]=>(B7 k xs).map fun (c:Nat)=>.int (c:Int)
 |_,_,_=>none
noncomputable def Tg.drop (i:Nat):Tg->Tg
 |.sh R=>.sh (R.filter (· != i))
 |t=>t
noncomputable def cC (d:D)(R:List Nat):Tg:=if d.flat then .own else .sh R
noncomputable def put (env:En)(i:Nat)(d:D)(t:Tg):En:=(env.map fun (s:Slot)=>s.map fun (p:D×Tg)=>(p.1,p.2.drop i)).set i (some (d,t))
noncomputable def gG (R:List Nat):Tg->Bool
 |.sh Q=>Q.any fun q=>R.contains q
 |_=>false
noncomputable def kill (R:List Nat)(env:En):En:=env.mapIdx fun i (s:Slot)=>match s with
 | some (d,t)=>if R.contains i || gG R t then none else some (d,t)
 |none=>none
noncomputable def fI (env:En)(R:List Nat):Bool:=R.all fun i=>match env[i]? with
 | some (some (_,.own))=>true
 |_=>false
noncomputable def bindM (f:D->Tg):List Nat->List D->En->Option En
 |[],[],env=>some env
 |i::is,d::ds,env=>if i<env.length then bindM f is ds (put env i d (f d)) else none
 |_,_,_=>none
noncomputable def aZ (R:List Nat):ka->D->En->Option En
 |.nm i,d,env=>if i<env.length then some (put env i d (cC d R)) else none
 |.tp is,.tup ds,env=>bindM (fun d=>cC d R) is ds env
 |_,_,_=>none
structure Tb where
 cl:Nat->List D->Rs (D×Bool)
 gl:Nat->D
 fuel:Nat
noncomputable def dX {α:Type}:Option α->Rs α
 |some a=>.ok a
 |none=>.bad
noncomputable def uc:D->Option (List D)
 |.lst xs=>some xs
 |.tup xs=>some xs
 |.str s=>if s.length<=lim then some (s.cps.toList.map fun c=>.str ⟨#[c]⟩) else none
 |.mpz ks=>some (ks.map fun q=>.int q.1)
 |_=>none
noncomputable def x6:D->Option (List D)
 |.lst xs=>some xs
 |_=>none
noncomputable def oX:D->Option (List D)
 |.lst xs=>some xs
 |.str s=>some (s.cps.toList.map fun c=>.str ⟨#[c]⟩)
 |_=>none
noncomputable def fV (f:D->Rs (Option (D×Rt))):List D->Rs (List (D×Rt))
 |[]=>.ok []
 |d::r=>(f d).bind fun o=>(fV f r).bind fun l=>.ok (match o with
  |some p=>p::l
  |none=>l)
noncomputable def bS (o:Option En)(c:En->Rs Bool)(e:En->Rs (D×Rt)):Rs (Option (D×Rt)):=match o with
 |none=>.bad
 |some env=>(c env).bind fun k=>if k then (e env).bind fun q=>.ok (some q) else .ok none
noncomputable def ic:Rt->Bool
 |.mv []=>true
 |_=>false
noncomputable def aV (i:Nat):Tg->List Nat
 |.own=>[i]
 |.lk=>[i]
 |.sh R=>R
noncomputable def lG (env:En)(pick:List Nat):List Nat:=(pick.map fun j=>match env[j]? with
 | some (some (_,t))=>aV j t
 |_=>[]).flatten
noncomputable def bF (env:En)(own:Nat)(pick:List Nat):En:=List.replicate own none++pick.map fun i=>match env[i]? with
 | some (some (d,_))=>some (d,.sh [])
 |_=>none
mutual
noncomputable def ev (T:Tb):Ex->En->Rs (D×Rt)
 |.var i,env=>match env[i]? with
  | some (some (d,t))=>.ok (d,if d.flat then .mv [] else match t with
   |.own=>.mv [i]
   |.lk=>.mv [i]
   |.sh R=>.sh R)
  |_=>.bad
 |.cst d,_=>.ok (d,.mv [])
 |.glb k,_=>.ok (T.gl k,.mv [])
 |.bin op a b,env=>(ev T a env).bind fun p=>(ev T b env).bind fun q=>(dX (eI op p.1 q.1)).bind fun d=>.ok (d,eR d (p.2.roots++q.2.roots))
 |.neg a,env=>(ev T a env).bind fun p=>match p.1 with
  |.int i=>.ok (.int (-i),.mv [])
  |_=>.bad
 |.cmp op a b,env=>(ev T a env).bind fun p=>(ev T b env).bind fun q=>(dX (gO op p.1 q.1)).bind fun c=>.ok (.bl c,.mv [])
 |.chn op op' a b c,env=>(ev T a env).bind fun p=>(ev T b env).bind fun q=>(dX (gO op p.1 q.1)).bind fun k =>
   if k then (ev T c env).bind fun r=>(dX (gO op' q.1 r.1)).bind fun k'=>.ok (.bl k',.mv []) else .ok (.bl false,.mv [])
 |.and a b,env=>(ev T a env).bind fun p=>match p.1 with
  |.bl true=>ev T b env
  |.bl false=>.ok (.bl false,.mv [])
  |_=>.bad
 |.or a b,env=>(ev T a env).bind fun p=>match p.1 with
  |.bl true=>.ok (.bl true,.mv [])
  |.bl false=>ev T b env
  |_=>.bad
 |.not a,env=>(ev T a env).bind fun p=>match p.1 with
  |.bl k=>.ok (.bl (!k),.mv [])
  |_=>.bad
 |.ite c a b,env=>(ev T c env).bind fun p=>(dX (truth p.1)).bind fun k=>if k then ev T a env else ev T b env
 |.lst es,env=>(bB T es env).bind fun l=>if l.length<=lim then .ok (.lst (l.map (·.1)),mh (l.map (·.2))) else .bad
 |.tup es,env=>(bB T es env).bind fun l=>if l.length<=lim then .ok (.tup (l.map (·.1)),mh (l.map (·.2))) else .bad
 |.ix a i,env=>(ev T a env).bind fun p=>(ev T i env).bind fun q=>(dX (pq p.1 q.1)).bind fun d=>.ok (d,mo d p.2)
 |.sl a lo hi,env=>(ev T a env).bind fun p=>(jb T lo env).bind fun l=>(jb T hi env).bind fun h=>(dX (slD p.1 l h)).bind fun d=>.ok (d,eR d p.2.roots)
 |.call f es,env=>(bB T es env).bind fun l=>(T.cl f (l.map (·.1))).bind fun r=>.ok (r.1,if r.2 then .mv [] else .sh (aQ (l.map (·.2))))
 |.blt b es,env=>(bB T es env).bind fun l=>(dX (kC b (l.map (·.1)))).bind fun d=>.ok (d,eR d (aQ (l.map (·.2))))
 |.mth m o es,env=>(ev T o env).bind fun p=>(bB T es env).bind fun l=>(dX (mthD m p.1 (l.map (·.1)))).bind fun d=>.ok (d,eR d (p.2.roots++aQ (l.map (·.2))))
 |.comp own pick t it c e,env=>(dI T it env).bind fun p=>(fV (fun d=>bS (aZ [] t d (bF env own pick)) (pC T c) (ev T e)) p.1).bind fun l =>
    if p.1.length<=lim then .ok (.lst (l.map (·.1)),if l.all (fun q=>q.1.flat || ic q.2) then .mv [] else .sh (p.2++lG env pick)) else .bad
 |.dnew,_=>.ok (.mpi [],.mv [])
 |.ddsp l,_=>(dX (lK T.gl l [])).bind fun ks=>.ok (.mpi ks,.mv [])
noncomputable def bB (T:Tb):kq->En->Rs (List (D×Rt))
 |.nil,_=>.ok []
 |.cons e es,env=>(ev T e env).bind fun p=>(bB T es env).bind fun l=>.ok (p::l)
noncomputable def jb (T:Tb):j8->En->Rs (Option Int)
 |.none,_=>.ok none
 |.some e,env=>(ev T e env).bind fun p=>match p.1 with
  |.int i=>.ok (some i)
  |_=>.bad
noncomputable def pC (T:Tb):j8->En->Rs Bool
 |.none,_=>.ok true
 |.some e,env=>(ev T e env).bind fun p=>dX (truth p.1)
noncomputable def dI (T:Tb):rQ->En->Rs (List D×List Nat)
 |.seq e,env=>(ev T e env).bind fun p=>(dX (uc p.1)).bind fun l=>.ok (l,p.2.roots)
 |.rng1 a,env=>(ev T a env).bind fun p=>match p.1 with
  |.int j=>if eL j then .ok (aS 0 1 j.toNat,[]) else .bad
  |_=>.bad
 |.rng2 a b,env=>(ev T a env).bind fun p=>(ev T b env).bind fun q=>match p.1,q.1 with
  |.int i,.int j=>if eL i&&eL j then .ok (aS i 1 (j - i).toNat,[]) else .bad
  |_,_=>.bad
 |.rng3 a b c,env=>(ev T a env).bind fun p=>(ev T b env).bind fun q=>(ev T c env).bind fun r=>match p.1,q.1,r.1 with
  |.int i,.int j,.int k=>if eL i&&eL j&&k != 0&&decide (k.natAbs<1073741824) then .ok (aS i k (Builtin.Range.rangeSize i j k).toNat,[]) else .bad
  |_,_,_=>.bad
 |.enum e,env=>(ev T e env).bind fun p=>(dX (oX p.1)).bind fun l=>.ok (l.zipIdx.map fun q=>.tup [.int q.2,q.1],p.2.roots)
 |.zip a b,env=>(ev T a env).bind fun p=>(ev T b env).bind fun q=>(dX (x6 p.1)).bind fun l=>(dX (oX q.1)).bind fun m=>.ok ((l.zip m).map fun z=>.tup [z.1,z.2],p.2.roots++q.2.roots)
 |.rev e,env=>(ev T e env).bind fun p=>(dX (x6 p.1)).bind fun l=>.ok (l.reverse,p.2.roots)
end
noncomputable def D.at1:D->Option Int->Option (List D)
 |.lst xs,none=>some xs
 |.lst xs,some i=>(g9 xs.length i).bind fun j=>match xs[j]? with
  | some (.lst ys)=>some ys
  |_=>none
 |.tup xs,some i=>(g9 xs.length i).bind fun j=>match xs[j]? with
  | some (.lst ys)=>some ys
  |_=>none
 |_,_=>none
noncomputable def D.set1:D->Option Int->List D->D
 |.lst _,none,n=>.lst n
 |.lst xs,some i,n=>match g9 xs.length i with
  |some j=>.lst (xs.set j (.lst n))
  |none=>.lst xs
 |.tup xs,some i,n=>match g9 xs.length i with
  |some j=>.tup (xs.set j (.lst n))
  |none=>.tup xs
 |d,_,_=>d
noncomputable def qt:m7->List D->List D->Option (List D)
 |.append,xs,[d]=>some (xs ++ [d])
 |.extend,xs,[.lst ys]=>if D.flats ys then some (xs++ys) else none
 |.insert,xs,[.int i,d]=>if -(2 ^ 63)<=i/\i<2 ^ 63 then some (xs.take (bE xs.length 0 (some i))++d::xs.drop (bE xs.length 0 (some i))) else none
 |.pop,xs,[]=>if xs.isEmpty then none else some xs.dropLast
 |.reverse,xs,[]=>some xs.reverse
 |.clear,_,[]=>some []
 |_,_,_=>none
noncomputable def uz (xs:List D)(j:Nat):Option (D×List D):=match xs[j]? with
 |some r=>if r.flat then some (r,xs.eraseIdx j) else none
 |none=>none
noncomputable def Cr (xs:List D):List D->Option (D×List D)
 |[]=>uz xs (xs.length - 1)
 |[.int i]=>if -(2 ^ 63)<=i/\i<2 ^ 63 then (g9 xs.length i).bind (uz xs) else none
 |_=>none
inductive Fl where
 | nx (env:En) | rt (d:D) (fr:Bool) | bk (env:En) | ct (env:En) | xc (e:Exc) (env:En) | bad
noncomputable def xu:Option En->Fl
 |some env=>.nx env
 |none=>.bad
noncomputable def qw (t:ka)(mv:Bool)(env:En)(p:D×Rt):Fl:=match t with
 |.nm i=>if i<env.length then (match p.2 with
  |.mv []=>.nx (put env i p.1 .own)
  |.mv R=>if mv then (if fI env R then .nx (put (kill R env) i p.1 .own) else .bad) else .nx (put env i p.1 (.sh (R.filter (· != i))))
  |.sh R=>.nx (put env i p.1 (.sh (R.filter (· != i))))) else .bad
 |.tp is=>match p.1 with
  |.tup ds=>match p.2 with
   |.mv []=>xu (bindM (fun _=>.own) is ds env)
   |r=>if is.all (fun i=>!r.roots.contains i) then xu (bindM (fun d=>cC d r.roots) is ds env) else .bad
  |_=>.bad
noncomputable def Fl.andThen (f:Fl)(k:En->Fl):Fl:=match f with
 |.nx env=>k env
 |x=>x
noncomputable def fD {α:Type}(env:En)(x:Rs α)(k:α->Fl):Fl:=match x with
 |.ok a=>k a
 |.exc e=>.xc e env
 |.bad=>.bad
noncomputable def bT (t:ka)(R:List Nat)(b:En->Fl):List D->En->Fl
 |[],env=>.nx env
 |d::r,env=>match aZ R t d env with
  |none=>.bad
  |some env'=>match b env' with
   |.nx e=>bT t R b r e
   |.ct e=>bT t R b r e
   |.bk e=>.nx e
   |x=>x
noncomputable def xJ (x:Nat)(b:En->Fl):List D->En->Fl
 |[],env=>.nx env
 |d::r,env=>if x<env.length then (match b (put env x d .own) with
  |.nx e=>xJ x b r e
  |_=>.bad) else .bad
noncomputable def eO (c:En->Rs Bool)(b:En->Fl):Nat->En->Fl
 |0,_=>.bad
 |n+1,env=>fD env (c env) fun k=>if k then (match b env with
   |.nx e=>eO c b n e
   |.ct e=>eO c b n e
   |.bk e=>.nx e
   |x=>x) else .nx env
noncomputable def lock (R:List Nat)(env:En):En:=env.mapIdx fun i (s:Slot)=>match s with
 | some (d,.own)=>if R.contains i then some (d,.lk) else some (d,.own)
 |s=>s
noncomputable def unlock (R:List Nat)(env0 env:En):En:=env.mapIdx fun i (s:Slot)=>match s with
 | some (d,.lk)=>match env0[i]? with
  | some (some (_,.own))=>if R.contains i then some (d,.own) else some (d,.lk)
  |_=>some (d,.lk)
 |s=>s
noncomputable def m7.copies:m7->Bool
 |.extend=>true
 |_=>false
noncomputable def fO (x:Nat)(path:Option Int)(env:En)(d:D)(ys:List D)(rs:List Rt):Fl:=match cR rs with
 |none=>.bad
 |some R=>if R.Nodup&&fI env R && !R.contains x&&decide (ys.length<=lim) then .nx ((kill (x::R) env).set x (some (d.set1 path ys,.own))) else .bad
noncomputable def ownAt (env:En)(x:Nat):Option D:=match env[x]? with
 | some (some (d,.own))=>some d
 |_=>none
noncomputable def AR (env:En)(x:Nat):En:=match ownAt env x with
 | some (.mpi ks)=>(kill [x] env).set x (some (.mpz ks,.own))
 |_=>env
noncomputable def augI:Operator->Int->Int->Option Int
 |.Add,i,j=>some (i+j)
 |.Sub,i,j=>some (i - j)
 |_,_,_=>none
noncomputable def augE (op:Operator)(x:Nat)(a:Int)(env:En)(p:D×Rt):Fl:=match p.1 with
 |.int b=>(match augI op a b with
  |some c=>qw (.nm x) false env (.int c,.mv [])
  |none=>.bad)
 |_=>.bad
noncomputable def intAt (env:En)(x:Nat):Option Int:=match env[x]? with
 | some (some (.int a,_))=>some a
 |_=>none
mutual
noncomputable def bI (T:Tb):St->En->Fl
 |.asg t e mv,env=>fD env (ev T e env) (qw t mv env)
 |.mut x path m es,env=>match ownAt env x with
  |none=>.bad
  |some d=>fD env (jb T path env) fun p=>match d.at1 p with
   |none=>.bad
   |some xs=>fD env (bB T es env) fun l=>match qt m xs (l.map (·.1)) with
    |none=>.bad
    |some ys=>if (aQ (l.map (·.2))).contains x then .bad else fO x p env d ys (if m.copies then [] else l.map (·.2))
 |.putd x i v,env=>match ownAt env x with
  |none=>.bad
  |some d=>fD env (ev T v env) fun u=>fD env (ev T i env) fun q=>match tw d q.1 u.1 with
   |none=>.bad
   |some d'=>.nx ((kill [x] env).set x (some (d',.own)))
 |.setix x path i e,env=>match ownAt env x with
  |none=>.bad
  |some d=>fD env (ev T e env) fun v=>fD env (jb T path env) fun p=>match d.at1 p with
   |none=>.bad
   |some xs=>fD env (ev T i env) fun q=>match q.1 with
    |.int i=>(match g9 xs.length i with
     |none=>.bad
     |some j=>fO x p env d (xs.set j v.1) [v.2])
    |_=>.bad
 |.aug x op e,env=>match intAt env x with
  |none=>.bad
  |some a=>fD env (ev T e env) (augE op x a env)
 |.popa y x es,env=>match ownAt env x with
  |none=>.bad
  |some d=>(match d.at1 none with
   |none=>.bad
   |some xs=>fD env (bB T es env) fun l=>match Cr xs (l.map (·.1)) with
    |none=>.bad
    |some q=>(fO x none env d q.2 []).andThen fun e=>qw (.nm y) false e (q.1,.mv []))
 |.apop y x es,env=>if y=x then .bad else match ownAt env x with
  |none=>.bad
  |some d=>(match d.at1 none with
   |none=>.bad
   |some xs=>fD env (bB T es env) fun l=>match Cr xs (l.map (·.1)) with
    |none=>.bad
    |some q=>(fO x none env d q.2 []).andThen fun e=>match ownAt e y with
     |none=>.bad
     |some dy=>(match dy.at1 none with
      |none=>.bad
      |some ys=>fO y none e dy (ys ++ [q.1]) []))
 |.frzd x s,env=>bI T s (AR env x)
 |.expr e,env=>fD env (ev T e env) fun _=>.nx env
 |.ite c a b,env=>fD env (ev T c env) fun p=>match truth p.1 with
  |some true=>aF T a env
  |some false=>aF T b env
  |none=>.bad
 |.forr t it b,env=>fD env (dI T it env) fun p=>(match bT t p.2 (aF T b) p.1 (lock p.2 env) with
  |.nx e=>.nx (unlock p.2 env e)
  |x=>x)
 |.forw x e b,env=>fD env (ev T e env) fun p=>match p with
  | (.lst xs,.mv [])=>xJ x (aF T b) xs env
  |_=>.bad
 |.whl c b,env=>eO (fun env=>(ev T c env).bind fun p=>dX (truth p.1)) (aF T b) T.fuel env
 |.ret e,env=>fD env (ev T e env) fun p=>.rt p.1 (match p.2 with
  |.mv R=>fI env R
  |.sh _=>false)
 |.retN,_=>.rt .non true
 |.brk,env=>.bk env
 |.cnt,env=>.ct env
 |.pass,env=>.nx env
noncomputable def aF (T:Tb):bZ->En->Fl
 |.nil,env=>.nx env
 |.cons s r,env=>(bI T s env).andThen (aF T r)
end
structure Fn where
 ps:Nat
 slots:Nat
 body:bZ
noncomputable def aK (ds:List D)(n:Nat):En:=ds.map (fun d=>some (d,cC d []))++List.replicate (n - ds.length) none
noncomputable def run (fns:List Fn)(gl:Nat->D)(fuel:Nat):Nat->Nat->List D->Rs (D×Bool)
 |0,_,_=>.bad
 |n+1,f,ds=>match fns[f]? with
  |none=>.bad
  |some F=>if ds.length=F.ps then (match aF ⟨run fns gl fuel n,gl,fuel⟩ F.body (aK ds F.slots) with
   |.rt d fr=>.ok (d,fr)
   |.nx _=>.ok (.non,true)
   |.xc e _=>.exc e
   |_=>.bad) else .bad
end Pc
end
section
namespace Pc
open PySem L2
noncomputable abbrev Frag:=PySem.W.Frag
inductive fM:List DictEntry->List (Key×Option Int)->Prop where
 | nil:fM [] []
 | cons {e:DictEntry}{es:List DictEntry}{k v:Int}{kvs:List (Key×Option Int)}{t u:Tok}(hh:e.hash=hashInt k) (hk:e.key = .int k t) (hv:e.val = .int v u) (r:fM es kvs):fM (e::es) ((.inl k,some v)::kvs)
 | si {e:DictEntry}{es:List DictEntry}{k:Str}{v:Int}{kvs:List (Key×Option Int)}{t u:Tok}(hk:e.key = .str k t) (hv:e.val = .int v u) (r:fM es kvs):fM (e::es) ((.inr k,some v)::kvs)
 | sn {e:DictEntry}{es:List DictEntry}{k:Str}{kvs:List (Key×Option Int)}{t:Tok}(hk:e.key = .str k t) (hv:e.val = .none) (r:fM es kvs):fM (e::es) ((.inr k,none)::kvs)
def oT (K:Frag)(a:Addr)(kvs:List (Key×Option Int)):Prop:=∃ o es ep,K.lookup a=some o/\o.ExactDict/\o.data = .dict es ep/\fM es.toList kvs/\(kvs.map (·.1)).Nodup
def uV (w:World)(K:Frag):Prop:=∀ a o es ep,K.lookup a=some o->o.data = .dict es ep->∀ kvs,fM es.toList kvs->∀ e∈es.toList,∀ s t,e.key = .str s t->(a==sysModules)=false/\e.hash=hashStr w s
inductive ML where
 | l (vs:List V) | k (kvs:List (Key×V)) | t (kvs:List (List Key×V))
noncomputable def ML.o:ML->HO
 |.l vs=>.lst vs
 |.k kvs=>.dK kvs
 |.t kvs=>.dT kvs
noncomputable def lI (ks:List (List Int)):List (List Key×V):=ks.map fun k=>(k.map .inl,.bl true)
noncomputable def tL:List V->Bool
 |[.int _,.int _]=>true
 |_=>false
noncomputable def iS (K:Frag)(H:Hp)(a:Addr)(xs:List V):Prop :=
 H a=some (.tup xs) \/
  tL xs=false/\∃(o:Obj) (its:Array Value) (n:Nat),K.lookup a=some o/\o.cls = .type "tuple"/\o.data = .seq its n/\its.size<=sizeLine/\aJ xs its.toList
noncomputable def nM (K:Frag)(H:Hp):MV->V->Prop
 |.tr,v=>v = .bl true
 |.int i,v=>v = .int i
 |.tup is,v=>∃ b,v = .ref b/\iS K H b (is.map .int)
noncomputable def gN (K:Frag)(H:Hp):List (Int×MV)->List (Key×V)->Prop
 |[],[]=>True
 |q::r,p::s=>p.1 = .inl q.1/\nM K H q.2 p.2/\gN K H r s
 |_,_=>False
theorem nM.keep {K:Frag}{H H':Hp}(t:∀ b vs,iS K H b vs->iS K H' b vs):∀{m:MV}{v:V},nM K H m v->nM K H' m v
 |.tr,_,h=>h
 |.int _,_,h=>h
 |.tup _,_,⟨b,e,h⟩=>⟨b,e,t _ _ h⟩
theorem gN.keep {K:Frag}{H H':Hp}(t:∀ b vs,iS K H b vs->iS K H' b vs):∀{q:List (Int×MV)}{x:List (Key×V)},gN K H q x->gN K H' q x
 |[],[],h=>h
 |_::_,_::_,⟨a,b,c⟩=>⟨a,b.keep t,c.keep t⟩
 |[],_::_,h=>h.elim
 |_::_,[],h=>h.elim
theorem gN.len {K:Frag}{H:Hp}:∀{q:List (Int×MV)}{x:List (Key×V)},gN K H q x->x.length=q.length
 |[],[],_=>rfl
 |_::_,_::_,⟨_,_,c⟩=>by rw[aj,aj,c.len]
 |[],_::_,h=>h.elim
 |_::_,[],h=>h.elim
theorem iS.sq {K:Frag}{H:Hp}{a:Addr}{xs:List V}(h:iS K H a xs):g8 K H a xs:=h.imp .inl And.right
mutual
inductive Rep (K:Frag) (H:Hp):D->V->List Addr->Prop where
 | non:Rep K H .non .non []
 | bl (b:Bool):Rep K H (.bl b) (.bl b) []
 | int (i:Int):Rep K H (.int i) (.int i) []
 | str (s:Str):Rep K H (.str s) (.str s) []
 | lst {p:Addr}{vs:List V}{ds:List D}{G:List Addr}(h:Rd H p (.lst vs)) (r:aG K H ds vs G):Rep K H (.lst ds) (.ref p) (p::G)
 | tup {p:Addr}{vs:List V}{ds:List D}{G:List Addr}(h:iS K H p vs) (r:aG K H ds vs G):Rep K H (.tup ds) (.ref p) G
 | dct {p:Addr}{kvs:List (Key×Option Int)}(h:oT K p kvs):Rep K H (.dct kvs) (.ref p) []
 | mpi {p:Addr}{ks:List (Int×MV)}{xs:List (Key×V)}(h:H p=some (.dK xs)) (r:gN K H ks xs):Rep K H (.mpi ks) (.ref p) [p]
 | mpt {p:Addr}{ks:List (List Int)}(h:Rd H p (.dT (lI ks))):Rep K H (.mpt ks) (.ref p) [p]
 | mpz {p:Addr}{ks:List (Int×MV)}{xs:List (Key×V)}{o:Obj}(h:H p=some (.frz o (.dK xs))) (r:gN K H ks xs):Rep K H (.mpz ks) (.ref p) []
inductive aG (K:Frag) (H:Hp):List D->List V->List Addr->Prop where
 | nil:aG K H [] [] []
 | cons {d:D}{v:V}{ds:List D}{vs:List V}{G G':List Addr}(h:Rep K H d v G) (r:aG K H ds vs G'):aG K H (d::ds) (v::vs) (G++G')
end
theorem pR {H H':Hp}{b:Addr}(k:∀ u:HO,H b=some u->H' b=some u){o:HO}(h:Rd H b o):Rd H' b o:=by
 rcases h with h | ⟨u,h⟩
 ·exact .inl (k _ h)
 ·exact .inr ⟨u,k _ h⟩
def AQ (H H':Hp):Prop:=∀ b o u,H b=some (.frz o u)->H' b=some (.frz o u)
section
variable {K:Frag}{H H':Hp}
theorem Rep.keep (t:∀ b vs,iS K H b vs->iS K H' b vs)(z:AQ H H'){d:D}{v:V}{G:List Addr}(h:Rep K H d v G):(∀ b∈G,∀ u:HO,H b=some u->H' b=some u)->Rep K H' d v G :=
 Rep.rec (motive_1:=fun d v G _=>(∀ b∈G,∀ u:HO,H b=some u->H' b=some u)->Rep K H' d v G) (motive_2:=fun ds vs G _=>(∀ b∈G,∀ u:HO,H b=some u->H' b=some u)->aG K H' ds vs G)
  (fun _=>.non) (fun b _=>.bl b) (fun i _=>.int i) (fun s _=>.str s) (fun h _ ih k=>.lst (pR (k _ ai) h) (ih fun b hb=>k b (ah _ hb)))
  (fun h _ ih k=>.tup (t _ _ h) (ih k)) (fun h _=>.dct h) (fun h r k=>.mpi (k _ ai _ h) (r.keep t)) (fun h k=>.mpt (pR (k _ ai) h)) (fun h r _=>.mpz (z _ _ _ h) (r.keep t))
  (fun _=>.nil) (fun _ _ i1 i2 k=>.cons (i1 fun b hb=>k b (az _ hb)) (i2 fun b hb=>k b (au _ hb))) h
theorem aG.keep (t:∀ b vs,iS K H b vs->iS K H' b vs)(z:AQ H H'){ds:List D}{vs:List V}{G:List Addr}(h:aG K H ds vs G):(∀ b∈G,∀ u:HO,H b=some u->H' b=some u)->aG K H' ds vs G :=
 aG.rec (motive_1:=fun d v G _=>True) (motive_2:=fun ds vs G _=>(∀ b∈G,∀ u:HO,H b=some u->H' b=some u)->aG K H' ds vs G)
  trivial (fun _=>trivial) (fun _=>trivial) (fun _=>trivial) (fun _ _ _=>trivial) (fun _ _ _=>trivial) (fun _=>trivial) (fun _ _=>trivial) (fun _=>trivial) (fun _ _=>trivial)
  (fun _=>.nil) (fun h _ _ i2 k=>.cons (Rep.keep t z h fun b hb=>k b (az _ hb)) (i2 fun b hb=>k b (au _ hb))) h
theorem aH.rd (e:aH H H'){b:Addr}{o:HO}(h:Rd H b o):Rd H' b o:=by
 rcases h with h | ⟨u,h⟩
 ·exact .inl (e _ _ h)
 ·exact .inr ⟨u,e _ _ h⟩
theorem aH.tqT (e:aH H H'){b:Addr}{vs:List V}(h:iS K H b vs):iS K H' b vs:=by
 rcases h with h | h
 ·exact .inl (e _ _ h)
 ·exact .inr h
theorem Rep.same (e:aH H H'){d:D}{v:V}{G:List Addr}(h:Rep K H d v G):Rep K H' d v G:=h.keep (fun _ _=>aH.tqT e) (fun _ _ _ h=>e _ _ h) fun _ _ _ h=>e _ _ h
theorem aG.same (e:aH H H'){d:List D}{v:List V}{G:List Addr}(h:aG K H d v G):aG K H' d v G:=h.keep (fun _ _=>aH.tqT e) (fun _ _ _ h=>e _ _ h) fun _ _ _ h=>e _ _ h
theorem Rep.flat {d:D}{v:V}{G:List Addr}(h:Rep K H d v G):d.flat=true->G=[] :=
 Rep.rec (motive_1:=fun d v G _=>d.flat=true->G=[]) (motive_2:=fun ds vs G _=>D.flats ds=true->G=[])
  (fun _=>rfl) (fun _ _=>rfl) (fun _ _=>rfl) (fun _ _=>rfl) (fun _ _ _ f=>by simp[D.flat] at f) (fun _ _ ih f=>ih (by simpa[D.flat] using f)) (fun _ _=>rfl) (fun _ _ f=>by simp[D.flat] at f) (fun _ f=>by simp[D.flat] at f) (fun _ _ _=>rfl)
  (fun _=>rfl) (fun _ _ i1 i2 f=>by
   simp only[D.flats,Bool.and_eq_true] at f;rw[i1 f.1,i2 f.2];rfl) h
theorem aG.flat {ds:List D}{vs:List V}{G:List Addr}(h:aG K H ds vs G):D.flats ds=true->G=[] :=
 aG.rec (motive_1:=fun d v G _=>True) (motive_2:=fun ds vs G _=>D.flats ds=true->G=[])
  trivial (fun _=>trivial) (fun _=>trivial) (fun _=>trivial) (fun _ _ _=>trivial) (fun _ _ _=>trivial) (fun _=>trivial) (fun _ _=>trivial) (fun _=>trivial) (fun _ _=>trivial)
  (fun _=>rfl) (fun h _ _ i2 f=>by
   simp only[D.flats,Bool.and_eq_true] at f;rw[Rep.flat h f.1,i2 f.2];rfl) h
theorem Rep.live {d:D}{v:V}{G:List Addr}(h:Rep K H d v G):∀ a∈G,∃ vs:ML,Rd H a vs.o :=
 Rep.rec (motive_1:=fun d v G _=>∀ a∈G,∃ vs:ML,Rd H a vs.o) (motive_2:=fun ds vs G _=>∀ a∈G,∃ vs:ML,Rd H a vs.o)
  (fun _ h=>(nomatch h)) (fun _ _ h=>(nomatch h)) (fun _ _ h=>(nomatch h)) (fun _ _ h=>(nomatch h)) (fun h _ ih a m=>(dz.mp m).elim (fun e=>e ▸ ⟨.l _,h⟩) (ih a)) (fun _ _ ih=>ih) (fun _ _ h=>(nomatch h))
  (fun h _ a m=>(gi.mp m) ▸ ⟨.k _,.inl h⟩) (fun h a m=>(gi.mp m) ▸ ⟨.t _,h⟩) (fun _ _ _ h=>(nomatch h))
  (fun _ h=>(nomatch h)) (fun _ _ i1 i2 a m=>(List.mem_append.mp m).elim (i1 a) (i2 a)) h
theorem aG.live {ds:List D}{vs:List V}{G:List Addr}(h:aG K H ds vs G):∀ a∈G,∃ vs:ML,Rd H a vs.o :=
 aG.rec (motive_1:=fun d v G _=>True) (motive_2:=fun ds vs G _=>∀ a∈G,∃ vs:ML,Rd H a vs.o)
  trivial (fun _=>trivial) (fun _=>trivial) (fun _=>trivial) (fun _ _ _=>trivial) (fun _ _ _=>trivial) (fun _=>trivial) (fun _ _=>trivial) (fun _=>trivial) (fun _ _=>trivial)
  (fun _ h=>(nomatch h)) (fun h _ _ i2 a m=>(List.mem_append.mp m).elim (Rep.live h a) (i2 a)) h
theorem Rd.ne_none {a:Addr}{u:HO}(h:Rd H a u):H a≠none:=by
 rcases h with h | ⟨o,h⟩<;>rw[h]<;>simp
theorem Rep.nn {d:D}{v:V}{G:List Addr}(h:Rep K H d v G){a:Addr}(m:a∈G):H a≠none:=let ⟨_,q⟩:=h.live a m;Rd.ne_none q
theorem aG.nn {d:List D}{v:List V}{G:List Addr}(h:aG K H d v G){a:Addr}(m:a∈G):H a≠none:=let ⟨_,q⟩:=h.live a m;Rd.ne_none q
theorem aG.len:∀{ds:List D}{vs:List V}{G:List Addr},aG K H ds vs G->ds.length=vs.length
 |_,_,_,.nil=>rfl
 |_,_,_,.cons _ r=>by simp[aG.len r]
theorem aG.get:∀{ds:List D}{vs:List V}{G:List Addr}{i:Nat}{d:D},aG K H ds vs G->ds[i]? = some d->∃ v G',vs[i]? = some v/\Rep K H d v G'/\G'.Sublist G
 |_,_,_,_,_,.nil,e=>by simp at e
 | _,_,_,0,_,.cons h r,e=>by
  simp at e;subst e;exact⟨_,_,rfl,h,List.sublist_append_left _ _⟩
 | _,_,_,i+1,d,.cons h r,e=>by
  obtain⟨v,G',a,b,c⟩:=aG.get (i:=i) (d:=d) r (by simpa using e);exact⟨v,G',by simpa using a,b,c.trans (List.sublist_append_right _ _)⟩
theorem aG.append:∀{ds es:List D}{vs us:List V}{G G':List Addr},aG K H ds vs G->aG K H es us G'->aG K H (ds++es) (vs++us) (G++G')
 |_,_,_,_,_,_,.nil,s=>s
 | _,_,_,_,_,_,.cons h r,s=>by
  rw[du];exact .cons h (aG.append r s)
theorem aG.take:∀{ds:List D}{vs:List V}{G:List Addr}(n:Nat),aG K H ds vs G->∃ G',aG K H (ds.take n) (vs.take n) G'/\G'.Sublist G
 |_,_,_,0,_=>⟨[],by simpa using .nil,by simp⟩
 |_,_,_,_+1,.nil=>⟨[],by simpa using .nil,by simp⟩
 | _,_,_,n+1,.cons h r=>by
  obtain⟨G',a,b⟩:=aG.take n r;exact⟨_,by simpa using .cons h a,List.Sublist.append (List.Sublist.refl _) b⟩
theorem aG.drop:∀{ds:List D}{vs:List V}{G:List Addr}(n:Nat),aG K H ds vs G->∃ G',aG K H (ds.drop n) (vs.drop n) G'/\G'.Sublist G
 |_,_,_,0,r=>⟨_,by simpa using r,List.Sublist.refl _⟩
 |_,_,_,_+1,.nil=>⟨[],by simpa using .nil,by simp⟩
 | _,_,_,n+1,.cons h r=>by
  obtain⟨G',a,b⟩:=aG.drop n r;exact⟨_,by simpa using a,b.trans (List.sublist_append_right _ _)⟩
theorem aG.split:∀{ds:List D}{vs:List V}{G:List Addr}{i:Nat}{d:D},aG K H ds vs G->ds[i]? = some d->∃ v G1 G' G2,vs[i]? = some v/\G=G1++(G'++G2)/\Rep K H d v G' /\
  ∀(H':Hp) (d':D) (v':V) (N:List Addr),(∀ b vs,iS K H b vs->iS K H' b vs)->AQ H H'->(∀ b∈G1++G2,∀ u:HO,H b=some u->H' b=some u)->Rep K H' d' v' N->aG K H' (ds.set i d') (vs.set i v') (G1++(N++G2))
 |_,_,_,_,_,.nil,e=>by simp at e
 | _,_,_,0,_,.cons (G:=G) (G':=G') h r,e=>by
  simp at e;subst e;refine⟨_,[],_,_,rfl,rfl,h,fun H' d' v' N t z k n=>?_⟩;show aG K H' (_::_) (_::_) (N++G');exact .cons n (r.keep t z fun b hb=>k b (by simpa using hb))
 | _,_,_,i+1,d,.cons (G:=G) (G':=G') h r,e=>by
  obtain⟨v,G1,Gi,G2,a,b,c,f⟩:=aG.split (i:=i) (d:=d) r (by simpa using e);refine⟨v,G++G1,Gi,G2,by simpa using a,by rw[b];simp,c,fun H' d' v' N t z k n=>?_⟩;have q:=aG.cons (h.keep t z fun b hb=>k b (by simp[hb])) (f H' d' v' N t z (fun b hb=>k b (by simp at hb ⊢;exact Or.inr hb)) n);rw[<-du] at q;exact q
end
noncomputable def aX:Tg->Bool
 |.own=>true
 |.lk=>true
 |.sh _=>false
structure RE (K:Frag)(P:Addr->Prop)(env:En)(σ:L2.St)(H:Hp)(F:Nat->List Addr):Prop where
 len:env.length=σ.length
 val:∀ i d t,env[i]? = some (some (d,t))->∃ v,σ[i]? = some (some v)/\Rep K H d v (F i)
 emp:∀ i,(∀ d t,env[i]?≠some (some (d,t)))->F i=[]
 one:∀ i d t,env[i]? = some (some (d,t))->aX t=true->(F i).Nodup/\(∀ a∈F i,∃ vs:ML,H a=some vs.o) /\
  ∀ a∈F i,∀ j d' t',env[j]? = some (some (d',t'))->a∈F j->i∈aV j t'
 wr:∀ i d,env[i]? = some (some (d,.own))->∀ a∈F i,¬ P a
 pl:∀ a,P a->H a≠none
structure bD (env:En)(F:Nat->List Addr)(H:Hp)(r:Rt)(H':Hp)(G:List Addr):Prop where
 cont:∀ a∈G,H a=none\/∃ i d t,a∈F i/\env[i]? = some (some (d,t))/\∀ q∈aV i t,q∈r.roots
 mv:∀ R,r = .mv R->G.Nodup/\(∀ a∈G,∃ vs:ML,H' a=some vs.o)/\∀ a∈G,H a=none\/∃ i d t,i∈R/\a∈F i/\env[i]? = some (some (d,t))/\aX t=true
theorem bD.nil {env:En}{F:Nat->List Addr}{H H':Hp}{r:Rt}:bD env F H r H' []:=⟨fun _ h=>(nomatch h),fun _ _=>⟨bu,fun _ h=>(nomatch h),fun _ h=>(nomatch h)⟩⟩
theorem RE.same {K:Frag}{P:Addr->Prop}{env:En}{σ:L2.St}{H H':Hp}{F:Nat->List Addr}(r:RE K P env σ H F)(e:aH H H'):RE K P env σ H' F where
 len:=r.len
 val:=fun i d t h=>let ⟨v,a,b⟩:=r.val i d t h;⟨v,a,b.same e⟩
 emp:=r.emp
 one:=fun i d t h o=>let ⟨a,b,c⟩:=r.one i d t h o;⟨a,fun x hx=>let ⟨vs,q⟩:=b x hx;⟨vs,e _ _ q⟩,c⟩
 wr:=r.wr
 pl:=fun a h z=>by
  cases q:H a with
  |none=>exact r.pl a h q
  |some o=>rw[e _ _ q] at z;cases z
theorem aH.no {H H':Hp}(e:aH H H'){a:Addr}(h:H' a=none):H a=none:=by
 cases q:H a with
 |none=>rfl
 |some o=>rw[e _ _ q] at h;cases h
theorem bD.back {env:En}{F:Nat->List Addr}{H H1 H':Hp}{r:Rt}{G:List Addr}(h:bD env F H1 r H' G)(e:aH H H1):bD env F H r H' G where
 cont:=fun a ha=>(h.cont a ha).imp (aH.no e) id
 mv:=fun R hr=>let ⟨a,b,c⟩:=h.mv R hr;⟨a,b,fun x hx=>(c x hx).imp (aH.no e) id⟩
theorem bD.later {env:En}{F:Nat->List Addr}{H H1 H':Hp}{r:Rt}{G:List Addr}(h:bD env F H r H1 G)(e:aH H1 H'):bD env F H r H' G where
 cont:=h.cont
 mv:=fun R hr=>let ⟨a,b,c⟩:=h.mv R hr;⟨a,fun x hx=>let ⟨vs,q⟩:=b x hx;⟨vs,e _ _ q⟩,c⟩
theorem bD.part {env:En}{F:Nat->List Addr}{H H':Hp}{r r':Rt}{G G':List Addr}(h:bD env F H r H' G)(hs:∀ a∈G',a∈G)(hr:∀ q∈r.roots,q∈r'.roots)(hn:∀ R,r'≠.mv R):bD env F H r' H' G' where
 cont:=fun a ha=>(h.cont a (hs a ha)).imp id fun ⟨i,d,t,x,y,z⟩=>⟨i,d,t,x,y,fun q hq=>hr q (z q hq)⟩
 mv:=fun R e=>absurd e (hn R)
noncomputable def nD (F:Nat->List Addr)(i:Nat)(G:List Addr):Nat->List Addr:=fun j=>if j=i then G else F j
theorem cV {F:Nat->List Addr}{i:Nat}{G:List Addr}:nD F i G i=G:=if_pos rfl
theorem cQ {F:Nat->List Addr}{i j:Nat}{G:List Addr}(h:j≠i):nD F i G j=F j:=if_neg h
theorem oA (env:En)(i:Nat)(d:D)(t:Tg):(put env i d t).length=env.length:=by simp[put]
theorem cN {env:En}{i:Nat}{d:D}{t:Tg}(h:i<env.length):(put env i d t)[i]? = some (some (d,t)):=by
 unfold put;rw[List.getElem?_set_self (by simpa using h)]
theorem uA {env:En}{i j:Nat}{d:D}{t:Tg}(h:j≠i):(put env i d t)[j]? = (env[j]?).map fun s=>s.map fun p=>(p.1,p.2.drop i):=by
 unfold put;rw[List.getElem?_set_ne (da h),List.getElem?_map]
theorem fJ {env:En}{i j:Nat}{d d':D}{t t':Tg}(h:j≠i)(e:(put env i d t)[j]? = some (some (d',t'))):∃ t0,env[j]? = some (some (d',t0))/\t'=t0.drop i:=by
 rw[uA h] at e;cases q:env[j]? with
 |none=>rw[q] at e;cases e
 |some s =>
  rw[q] at e;cases s with
  |none=>cases e
  |some p =>
   obtain⟨a,b⟩:=p;simp only[Option.map_some,Option.some.injEq,Prod.mk.injEq] at e;obtain⟨rfl,rfl⟩:=e;exact⟨b,rfl,rfl⟩
theorem iZ (t:Tg)(i:Nat):aX (t.drop i)=aX t:=by cases t<;>rfl
theorem jd {t:Tg}{i j k:Nat}(h:k∈aV j t)(hk:k≠i):k∈aV j (t.drop i):=by
 cases t with
 |own=>exact h
 |lk=>exact h
 |sh R =>
  simp only[aV,Tg.drop,List.mem_filter] at h ⊢;exact⟨h,by simpa using hk⟩
section
variable {K:Frag}{P:Addr->Prop}{env:En}{σ:L2.St}{H:Hp}{F:Nat->List Addr}
theorem RE.nn (re:RE K P env σ H F){j:Nat}{d:D}{t:Tg}(h:env[j]? = some (some (d,t))){a:Addr}(m:a∈F j):H a≠none:=let ⟨_,_,r⟩:=re.val j d t h;r.nn m
theorem RE.at' (re:RE K P env σ H F){j:Nat}{a:Addr}(m:a∈F j):∃ d t,env[j]? = some (some (d,t)):=by
 by_cases h:∃ d t,env[j]? = some (some (d,t))
 ·exact h
 ·rw[re.emp j fun d t e=>h ⟨d,t,e⟩] at m;cases m
theorem RE.put (re:RE K P env σ H F){i:Nat}{d:D}{v:V}{G:List Addr}{t:Tg}(hi:i<env.length)(rp:Rep K H d v G)
  (ho:aX t=true->G.Nodup/\(∀ a∈G,∃ vs:ML,H a=some vs.o)/\∀ a∈G,∀ j,j≠i->a∉F j) (hw:t = .own->∀ a∈G,¬ P a)
  (hs:∀ a∈G,∀ j d' t',j≠i->env[j]? = some (some (d',t'))->aX t'=true->a∈F j->j∈aV i t):RE K P (put env i d t) (σ.set i (some v)) H (nD F i G) where
 len:=by rw[oA,gc];exact re.len
 val:=fun j d' t' e=>by
  by_cases h:j=i
  ·subst h;rw[cN hi] at e;cases e;exact⟨v,List.getElem?_set_self (by rw[<-re.len];exact hi),by rw[cV];exact rp⟩
  ·obtain⟨t0,e0,rfl⟩:=fJ h e;obtain⟨u,a,b⟩:=re.val j d' t0 e0;exact⟨u,by rw[List.getElem?_set_ne (da h)];exact a,by rw[cQ h];exact b⟩
 emp:=fun j h=>by
  by_cases hj:j=i
  ·subst hj;exact absurd (cN hi) (h d t)
  ·rw[cQ hj];refine re.emp j fun d' t' e=>h d' (t'.drop i) ?_
   rw[uA hj,e];rfl
 one:=fun j d' t' e o=>by
  by_cases h:j=i
  ·subst h;rw[cN hi] at e;cases e;obtain⟨a,b,c⟩:=ho o;rw[cV];refine⟨a,b,fun x hx k d2 t2 e2 m=>?_⟩;by_cases hk:k=j
   ·subst hk;rw[cN hi] at e2;cases e2;cases t<;>simp_all [aV,aX]
   ·rw[cQ hk] at m;exact absurd m (c x hx k hk)
  ·obtain⟨t0,e0,rfl⟩:=fJ h e;rw[iZ] at o;obtain⟨a,b,c⟩:=re.one j d' t0 e0 o;rw[cQ h];refine⟨a,b,fun x hx k d2 t2 e2 m=>?_⟩;by_cases hk:k=i
   ·subst hk;rw[cN hi] at e2;cases e2;rw[cV] at m;exact hs x m j d' t0 h e0 o hx
   ·rw[cQ hk] at m;obtain⟨t3,e3,rfl⟩:=fJ hk e2;exact jd (c x hx k d2 t3 e3 m) h
 wr:=fun j d' e=>by
  by_cases h:j=i
  ·subst h;rw[cN hi] at e;cases e;rw[cV];exact hw rfl
  ·obtain⟨t0,e0,q⟩:=fJ h e;rw[cQ h];cases t0 with
   |own=>exact re.wr j d' e0
   |lk=>cases q
   |sh R=>cases q
 pl:=re.pl
theorem RE.forget (re:RE K P env σ H F){env':En}(hl:env'.length=env.length)(he:∀(i:Nat) (d:D) (t:Tg),env'[i]? = some (some (d,t))->env[i]? = some (some (d,t))) :
  RE K P env' σ H (fun i=>match env'[i]? with | some (some _)=>F i | _=>[]) where
 len:=hl.trans re.len
 val:=fun i d t e=>by rw[e];exact re.val i d t (he i d t e)
 emp:=fun i h=>by
  split
  ·rename_i p q;exact absurd q (h p.1 p.2)
  ·rfl
 one:=fun i d t e o=>by
  rw[e];obtain⟨a,b,c⟩:=re.one i d t (he i d t e) o;refine⟨a,b,fun x hx k d2 t2 e2 m=>?_⟩;rw[e2] at m;exact c x hx k d2 t2 (he k d2 t2 e2) m
 wr:=fun i d e=>by rw[e];exact re.wr i d (he i d _ e)
 pl:=re.pl
end
theorem bU (R:List Nat)(env:En):(kill R env).length=env.length:=by simp[kill]
theorem bR {R:List Nat}{env:En}{i:Nat}{d:D}{t:Tg}(e:(kill R env)[i]? = some (some (d,t))):env[i]? = some (some (d,t))/\i∉R/\∀ q∈R,q∉aV i t:=by
 unfold kill at e;rw[List.getElem?_mapIdx] at e;cases q:env[i]? with
 |none=>rw[q] at e;cases e
 |some s =>
  rw[q] at e;cases s with
  |none=>cases e
  |some p =>
   obtain⟨a,b⟩:=p;simp only[Option.map_some,Option.some.injEq] at e;by_cases h:(R.contains i || gG R b)=true
   ·rw[if_pos h] at e;cases e
   ·rw[if_neg h] at e;cases e;rw[fq,not_or] at h;have h1:i∉R:=fun z=>h.1 (by simpa using z)
    refine⟨rfl,h1,fun r hq z=>?_⟩;cases t with
    |own=>simp only[aV,List.mem_singleton] at z;subst z;exact h1 hq
    |lk=>simp only[aV,List.mem_singleton] at z;subst z;exact h1 hq
    |sh Q =>
     apply h.2;simp only[gG,List.any_eq_true];exact⟨r,z,by simpa using hq⟩
section
variable {K:Frag}{P:Addr->Prop}{env:En}{σ:L2.St}{H:Hp}{F:Nat->List Addr}
theorem iu {p b:Addr}{ws vs:List V}{o:HO}(hp:H p=some (.lst ws))(h:iS K H b vs):iS K (upd H p o) b vs:=by
 rcases h with h | h
 ·exact .inl (by rw[aI];exact h;intro z;subst z;rw[hp] at h;cases h)
 ·exact .inr h
theorem uf {p b:Addr}{ws:ML}{vs:List V}{o:HO}(hp:H p=some ws.o)(h:iS K H b vs):iS K (upd H p o) b vs:=by
 rcases h with h | h
 ·exact .inl (by rw[aI];exact h;intro z;subst z;rw[hp] at h;cases ws<;>cases h)
 ·exact .inr h
theorem yy {p b:Addr}{o o':HO}(hne:b≠p)(h:Rd H b o):Rd (upd H p o') b o:=by
 rcases h with h | ⟨u,h⟩
 ·exact .inl (by rw[aI hne];exact h)
 ·exact .inr ⟨u,by rw[aI hne];exact h⟩
theorem g7 {H:Hp}{p:Addr}{ws:ML}{o:HO}(hp:H p=some ws.o):AQ H (L2.upd H p o):=fun b ob u h=>by
 rw[aI fun e=>?_]
 ·exact h
 ·subst e;rw[hp] at h;cases ws<;>cases h
theorem Rep.upd {p:Addr}{ws:List V}{o:HO}{d:D}{v:V}{G:List Addr}(hp:H p=some (.lst ws))(h:Rep K H d v G)(hn:p∉G):Rep K (upd H p o) d v G :=
 h.keep (fun _ _=>iu hp) (g7 (ws:=.l _) hp) fun b hb _ h=>(aI (fun (z:b=p)=>hn (z ▸ hb))).trans h
theorem Rep.updM {p:Addr}{ws:ML}{o:HO}{d:D}{v:V}{G:List Addr}(hp:H p=some ws.o)(h:Rep K H d v G)(hn:p∉G):Rep K (L2.upd H p o) d v G :=
 h.keep (fun _ _=>uf hp) (g7 hp) fun b hb _ h=>(aI (fun (z:b=p)=>hn (z ▸ hb))).trans h
theorem aG.upd {p:Addr}{ws:List V}{o:HO}{d:List D}{v:List V}{G:List Addr}(hp:H p=some (.lst ws))(h:aG K H d v G)(hn:p∉G):aG K (upd H p o) d v G :=
 h.keep (fun _ _=>iu hp) (g7 (ws:=.l _) hp) fun b hb _ h=>(aI (fun (z:b=p)=>hn (z ▸ hb))).trans h
noncomputable def kB (F:Nat->List Addr)(env:En)(x:Nat)(R:List Nat)(G:List Addr):Nat->List Addr:=fun j=>if j=x then G else match (kill (x::R) env)[j]? with
 | some (some _)=>F j
 |_=>[]
theorem RE.mutateM (re:RE K P env σ H F){x:Nat}{d d':D}{v:V}{p:Addr}{vs:ML}{R:List Nat}{N G:List Addr}(hx:env[x]? = some (some (d,.own)))(hv:σ[x]? = some (some v))(hp:p∈F x)
  (rp:Rep K (upd H p vs.o) d' v G) (nd:G.Nodup) (sub:∀ a∈G,a∈F x\/a∈N)
  (hN:∀ a∈N,(∃ vs:ML,H a=some vs.o)/\¬ P a/\∀(j:Nat) (d:D) (t:Tg),env[j]? = some (some (d,t))->a∈F j->∃ q∈x::R,q∈aV j t) :
  RE K P ((kill (x::R) env).set x (some (d',.own))) σ (upd H p vs.o) (kB F env x R G):=by
 obtain⟨ndx,lsx,onx⟩:=re.one x d .own hx rfl;obtain⟨ws,hpl⟩:=lsx p hp;have hxl:x<(kill (x::R) env).length:=by
  rw[bU];exact (List.getElem?_eq_some_iff.mp hx).1
 have other:∀{j:Nat}{d2:D}{t2:Tg},j≠x->((kill (x::R) env).set x (some (d',.own)))[j]? = some (some (d2,t2))->(kill (x::R) env)[j]? = some (some (d2,t2)):=fun {j d2 t2} hj e=>by
  rw[List.getElem?_set_ne (da hj)] at e;exact e
 have live:∀ a,(∃ vs:ML,H a=some vs.o)->∃ ws:ML,upd H p vs.o a=some ws.o:=fun a ⟨ws,h⟩=>by
  by_cases z:a=p
  ·subst z;exact⟨vs,aO⟩
  ·exact⟨ws,by rw[aI z];exact h⟩
 have apart:∀{j:Nat}{d2:D}{t2:Tg},j≠x->(kill (x::R) env)[j]? = some (some (d2,t2))->∀ a∈F x,a∉F j:=fun {j d2 t2} hj e a ha hb=>by
  obtain⟨e0,_,h3⟩:=bR e;exact h3 x ai (onx a ha j d2 t2 e0 hb)
 have fj:∀{j:Nat}{d2:D}{t2:Tg},j≠x->(kill (x::R) env)[j]? = some (some (d2,t2))->kB F env x R G j=F j:=fun {j d2 t2} hj e=>by
  unfold kB;rw[if_neg hj,e]
 have fx:kB F env x R G x=G:=if_pos rfl;refine⟨?_,fun j d2 t2 e=>?_,fun j h=>?_,fun j d2 t2 e o=>?_,fun j d2 e=>?_,fun a h=>?_⟩
 ·rw[gc,bU];exact re.len
 ·by_cases hj:j=x
  ·subst hj;rw[List.getElem?_set_self hxl] at e;cases e;exact⟨v,hv,by rw[fx];exact rp⟩
  ·have e1:=other hj e;obtain⟨e0,_,_⟩:=bR e1;obtain⟨u,h1,h2⟩:=re.val j d2 t2 e0;exact⟨u,h1,by rw[fj hj e1];exact h2.updM hpl (apart hj e1 p hp)⟩
 ·by_cases hj:j=x
  ·subst hj;exact absurd (List.getElem?_set_self hxl) (h d' .own)
  ·unfold kB;rw[if_neg hj];split
   ·rename_i q e;exact absurd (by rw[List.getElem?_set_ne (da hj)];exact e) (h q.1 q.2)
   ·rfl
 ·by_cases hj:j=x
  ·subst hj;rw[List.getElem?_set_self hxl] at e;cases e;rw[fx];refine⟨nd,fun a ha=>live a ?_,fun a ha k d3 t3 e3 m=>?_⟩
   ·rcases sub a ha with q | q
    ·exact lsx a q
    ·exact (hN a q).1
   ·by_cases hk:k=j
    ·subst hk;rw[List.getElem?_set_self hxl] at e3;cases e3;simp[aV]
    ·have e4:=other hk e3;rw[fj hk e4] at m;rcases sub a ha with q | q
     ·exact absurd m (apart hk e4 a q)
     ·obtain⟨e0,_,h3⟩:=bR e4;obtain⟨r,r1,r2⟩:=(hN a q).2.2 k d3 t3 e0 m;exact absurd r2 (h3 r r1)
  ·have e1:=other hj e;obtain⟨e0,_,_⟩:=bR e1;obtain⟨a,b,c⟩:=re.one j d2 t2 e0 o;rw[fj hj e1];refine⟨a,fun y hy=>live y (b y hy),fun y hy k d3 t3 e3 m=>?_⟩;by_cases hk:k=x
   ·subst hk;rw[List.getElem?_set_self hxl] at e3;cases e3;rw[fx] at m;rcases sub y m with q | q
    ·exact absurd hy (apart hj e1 y q)
    ·obtain⟨_,_,h3⟩:=bR e1;obtain⟨r,r1,r2⟩:=(hN y q).2.2 j d2 t2 e0 hy;exact absurd r2 (h3 r r1)
   ·have e4:=other hk e3;rw[fj hk e4] at m;exact c y hy k d3 t3 (bR e4).1 m
 ·by_cases hj:j=x
  ·subst hj;rw[fx];intro a ha;rcases sub a ha with q | q
   ·exact re.wr j d hx a q
   ·exact (hN a q).2.1
  ·have e1:=other hj e;rw[fj hj e1];exact re.wr j d2 (bR e1).1
 ·intro z;by_cases q:a=p
  ·subst q;rw[aO] at z;cases z
  ·rw[aI q] at z;exact re.pl a h z
theorem RE.mutate (re:RE K P env σ H F){x:Nat}{d d':D}{v:V}{p:Addr}{vs:List V}{R:List Nat}{N G:List Addr}(hx:env[x]? = some (some (d,.own)))(hv:σ[x]? = some (some v))(hp:p∈F x)
  (rp:Rep K (upd H p (.lst vs)) d' v G) (nd:G.Nodup) (sub:∀ a∈G,a∈F x\/a∈N)
  (hN:∀ a∈N,(∃ vs:ML,H a=some vs.o)/\¬ P a/\∀(j:Nat) (d:D) (t:Tg),env[j]? = some (some (d,t))->a∈F j->∃ q∈x::R,q∈aV j t) :
  RE K P ((kill (x::R) env).set x (some (d',.own))) σ (upd H p (.lst vs)) (kB F env x R G):=re.mutateM (vs:=.l vs) hx hv hp rp nd sub hN
inductive PV (K:Frag) (H:Hp):V->Option Int->Addr->Prop where
 | top (p:Addr):PV K H (.ref p) none p
 | item {q p:Addr}{ws:List V}{i:Int}{j:Nat}(h:Rd H q (.lst ws)\/g8 K H q ws) (hj:g9 ws.length i=some j) (e:ws[j]? = some (.ref p)):PV K H (.ref q) (some i) p
theorem yo {n:Nat}{i:Int}{j:Nat}(h:g9 n i=some j):j<n:=by
 unfold g9 at h;split at h
 ·split at h
  ·cases h;omega
  ·cases h
 ·split at h
  ·cases h;omega
  ·cases h
theorem Rep.lst_inv {ds:List D}{v:V}{G:List Addr}(h:Rep K H (.lst ds) v G):∃ p vs G',v = .ref p/\G=p::G'/\Rd H p (.lst vs)/\aG K H ds vs G':=by
 cases h with
 |lst a b=>exact⟨_,_,_,rfl,rfl,a,b⟩
theorem qJ {d:D}{v:V}{G:List Addr}{path:Option Int}{xs:List D}(rp:Rep K H d v G)(nd:G.Nodup)(h:d.at1 path=some xs):∃ p,PV K H v path p/\∀ H',aH H H'->(∀ a∈G,∃ vs:ML,H' a=some vs.o) ->
  ∃ vs Gx,H' p=some (.lst vs)/\aG K H' xs vs Gx/\p∈G/\(∀ a∈Gx,a∈G)/\Gx.Nodup/\p∉Gx /\
   ∀ ys us Gy,aG K (upd H' p (.lst us)) ys us Gy->Gy.Nodup->p∉Gy->(∀ a∈Gy,a∈Gx\/a∉G)->∃ G',Rep K (upd H' p (.lst us)) (d.set1 path ys) v G'/\G'.Nodup/\∀ a∈G',a∈G\/a∈Gy:=by
 have rdl:∀{H':Hp}{p:Addr}{vs:List V},(∀ a∈G,∃ vs:ML,H' a=some vs.o)->p∈G->Rd H' p (.lst vs)->H' p=some (.lst vs):=fun {H' p vs} hl hp r=>by
  obtain⟨ws,q⟩:=hl p hp;rcases r with r | ⟨o,r⟩
  ·exact r
  ·rw[q] at r;cases ws<;>cases r
 cases path with
 |none =>
  cases rp with
  |lst hr r =>
   rename_i p vs ds G0;simp only[D.at1,Option.some.injEq] at h;subst h;obtain⟨n1,n2⟩:=List.nodup_cons.mp nd;refine⟨p,.top p,fun H' e hl=>⟨vs,G0,rdl hl ai (aH.rd e hr),r.same e,ai,fun a ha=>ah _ ha,n2,n1,fun ys us Gy ry ny hy hs=>?_⟩⟩;exact⟨p::Gy,.lst (.inl aO) ry,List.nodup_cons.mpr ⟨hy,ny⟩,fun a ha=>(List.mem_cons.mp ha).imp (fun z=>by simp[z]) id⟩
  |_=>simp[D.at1] at h
 |some i =>
  have core:∀{ds:List D}{vs:List V}{G0:List Addr}{j:Nat}{q:Addr},aG K H ds vs G0->(∀ a∈G0,a∈G)->G0.Nodup->(Rd H q (.lst vs)\/g8 K H q vs)->v = .ref q->g9 ds.length i=some j->ds[j]? = some (.lst xs) ->
    ∃ p,PV K H v (some i) p/\∀ H',aH H H'->(∀ a∈G,∃ vs:ML,H' a=some vs.o)->∃ ws Gx,H' p=some (.lst ws)/\aG K H' xs ws Gx/\p∈G0/\(∀ a∈Gx,a∈G0)/\Gx.Nodup/\p∉Gx /\
     ∀ ys us Gy,aG K (upd H' p (.lst us)) ys us Gy->Gy.Nodup->p∉Gy->(∀ a∈Gy,a∈Gx\/a∉G) ->
      ∃ G1,aG K (upd H' p (.lst us)) (ds.set j (.lst ys)) vs G1/\G1.Nodup/\(∀ a∈G1,a∈G0\/a∈Gy):=by
   intro ds vs G0 j q r hs n0 hq hv hj he;obtain⟨w0,g0,e0,r0,_⟩:=r.get he;have hlen:=r.len;obtain⟨p,ws0,Gx0,rfl,_,_,_⟩:=r0.lst_inv
   ·refine⟨p,by rw[hv];exact .item hq (by rw[<-hlen];exact hj) e0,fun H' e hl=>?_⟩;obtain⟨w,A,B,C,e1,e2,r1,f⟩:=(r.same e).split he;rw[e0] at e1;cases e1;subst e2;obtain⟨p',ws,Gx,ep,rfl,hr,r2⟩:=r1.lst_inv;cases ep
    ·have hpG:p∈A++(p::Gx++C):=by simp
     rw[dt] at n0;obtain⟨nA,nB,nAB⟩:=n0;rw[dt] at nB;obtain⟨nB1,nC,nBC⟩:=nB;obtain⟨np,nx⟩:=List.nodup_cons.mp nB1;have hpl:=rdl hl (hs p hpG) hr;refine⟨ws,Gx,hpl,r2,hpG,fun a ha=>by simp[ha],nx,np,fun ys us Gy ry ny hy hsy=>?_⟩;have hA:p∉A:=fun z=>nAB p z p (by simp) rfl
     have hC:p∉C:=fun z=>nBC p (by simp) p z rfl
     have e3:=f (upd H' p (.lst us)) (.lst ys) (.ref p) (p::Gy) (fun _ _=>iu hpl) (g7 (ws:=.l _) hpl) (fun b hb _ h=>(aI fun (z:b=p)=>by
      subst z;rcases List.mem_append.mp hb with hb | hb
      ·exact hA hb
      ·exact hC hb).trans h) (.lst (.inl aO) ry)
     have bB:vs.set j (.ref p)=vs:=by
      obtain⟨hj',ej⟩:=List.getElem?_eq_some_iff.mp e0;rw[<-ej,List.set_getElem_self]
     rw[bB] at e3;refine⟨_,e3,?_,fun a ha=>?_⟩
     ·rw[dt];refine⟨nA,?_,fun a ha b hb z=>?_⟩
      ·rw[dt];refine⟨List.nodup_cons.mpr ⟨hy,ny⟩,nC,fun a ha b hb z=>?_⟩;subst z;rcases dz.mp ha with rfl | ha
       ·exact hC hb
       ·rcases hsy a ha with q | q
        ·exact nBC a (by simp[q]) a hb rfl
        ·exact q (hs a (by simp[hb]))
      ·subst z;rcases List.mem_append.mp hb with hb | hb
       ·rcases dz.mp hb with rfl | hb
        ·exact hA ha
        ·rcases hsy a hb with q | q
         ·exact nAB a ha a (by simp[q]) rfl
         ·exact q (hs a (by simp[ha]))
       ·exact nAB a ha a (by simp[hb]) rfl
     ·simp only[List.mem_append,List.mem_cons,List.cons_append] at ha ⊢;rcases ha with ha | ha | ha | ha
      ·exact .inl (.inl ha)
      ·exact .inl (.inr (.inl ha))
      ·exact .inr ha
      ·exact .inl (.inr (.inr (.inr ha)))
  cases rp with
  |lst hr r =>
   rename_i q vs ds G0;simp only[D.at1,Option.bind_eq_some_iff] at h;obtain⟨j,hj,h⟩:=h;have he:ds[j]? = some (.lst xs):=by
    split at h
    ·rename_i ys e;cases h;exact e
    ·cases h
   obtain⟨n1,n2⟩:=List.nodup_cons.mp nd;obtain⟨p,a1,ff⟩:=core r (fun a ha=>ah _ ha) n2 (.inl hr) rfl hj he;refine⟨p,a1,fun H' e hl=>?_⟩;obtain⟨ws,Gx,a2,a3,a4,a5,a6,a7,f⟩:=ff H' e hl;have hqp:q≠p:=fun z=>n1 (by rw[z];exact a4)
   refine⟨ws,Gx,a2,a3,ah _ a4,fun a ha=>ah _ (a5 a ha),a6,a7,fun ys us Gy ry ny hy hs=>?_⟩;obtain⟨G1,b1,b2,b3⟩:=f ys us Gy ry ny hy hs;have es:D.set1 (.lst ds) (some i) ys = .lst (ds.set j (.lst ys)):=by simp[D.set1,hj]
   rw[es];refine⟨q::G1,.lst (yy hqp (aH.rd e hr)) b1,List.nodup_cons.mpr ⟨fun z=>?_,b2⟩,fun a ha=>?_⟩
   ·rcases b3 q z with z | z
    ·exact n1 z
    ·rcases hs q z with z | z
     ·exact n1 (a5 q z)
     ·exact z ai
   ·rcases dz.mp ha with rfl | ha
    ·exact .inl ai
    ·exact (b3 a ha).imp (ah _) id
  |tup hr r =>
   rename_i q vs ds;simp only[D.at1,Option.bind_eq_some_iff] at h;obtain⟨j,hj,h⟩:=h;have he:ds[j]? = some (.lst xs):=by
    split at h
    ·rename_i ys e;cases h;exact e
    ·cases h
   obtain⟨p,a1,ff⟩:=core r (fun a ha=>ha) nd (.inr hr.sq) rfl hj he;refine⟨p,a1,fun H' e hl=>?_⟩;obtain⟨ws,Gx,a2,a3,a4,a5,a6,a7,f⟩:=ff H' e hl;refine⟨ws,Gx,a2,a3,a4,a5,a6,a7,fun ys us Gy ry ny hy hs=>?_⟩;obtain⟨G1,b1,b2,b3⟩:=f ys us Gy ry ny hy hs;have es:D.set1 (.tup ds) (some i) ys = .tup (ds.set j (.lst ys)):=by simp[D.set1,hj]
   rw[es];exact⟨G1,.tup (iu a2 (aH.tqT e hr)) b1,b2,b3⟩
  |_=>simp[D.at1] at h
end
end Pc
end
section
namespace Pc
open PySem PySem.Spec PyProof.Rows L2
theorem Rs.bind_ok {α β:Type}{x:Rs α}{f:α->Rs β}{b:β}(h:x.bind f = .ok b):∃ a,x = .ok a/\f a = .ok b:=by
 cases x with
 |ok a=>exact⟨a,rfl,h⟩
 |exc e=>cases h
 |bad=>cases h
theorem bV {α:Type}{o:Option α}{a:α}(h:dX o = .ok a):o=some a:=by
 cases o with
 |none=>cases h
 |some b=>cases h;rfl
theorem aH.new {H:Hp}{p:Addr}{o:HO}(h:H p=none):aH H (upd H p o):=fun b u e=>by
 rw[aI];exact e;intro z;subst z;rw[h] at e;cases e
theorem n8:lim<=sizeLine:=by decide
theorem eJ {n:Nat}(h:n<=lim):n<=sizeLine:=bh h n8
inductive Args (K:Frag) (env:En) (F:Nat->List Addr):Hp->Hp->List (D×Rt)->List V->List Addr->Prop where
 | nil {H H':Hp}(e:aH H H'):Args K env F H H' [] [] []
 | cons {H H1 H':Hp}{p:D×Rt}{v:V}{G G':List Addr}{l:List (D×Rt)}{vs:List V}(e:aH H H1) (r:Rep K H1 p.1 v G) (t:bD env F H p.2 H1 G) (s:Args K env F H1 H' l vs G'):Args K env F H H' (p::l) (v::vs) (G++G')
section
variable {K:Frag}{env:En}{F:Nat->List Addr}
theorem Args.same:∀{H H':Hp}{l:List (D×Rt)}{vs:List V}{G:List Addr},Args K env F H H' l vs G->aH H H'
 |_,_,_,_,_,.nil e=>e
 |_,_,_,_,_,.cons e _ _ s=>e.trans s.same
theorem Args.reps:∀{H H':Hp}{l:List (D×Rt)}{vs:List V}{G:List Addr},Args K env F H H' l vs G->aG K H' (l.map (·.1)) vs G
 |_,_,_,_,_,.nil _=>.nil
 |_,_,_,_,_,.cons _ r _ s=>.cons (r.same s.same) s.reps
theorem Args.cont:∀{H H':Hp}{l:List (D×Rt)}{vs:List V}{G:List Addr},Args K env F H H' l vs G->∀ a∈G,H a=none\/∃ i d t,a∈F i/\env[i]? = some (some (d,t))/\∀ q∈aV i t,q∈aQ (l.map (·.2))
 |_,_,_,_,_,.nil _,a,h=>by cases h
 | _,_,_,_,_,.cons (p:=p) (l:=l) e r t s,a,h=>by
  have e1:aQ ((p::l).map (·.2))=p.2.roots++aQ (l.map (·.2)):=by simp[aQ]
  rw[e1];rcases List.mem_append.mp h with h | h
  ·exact (t.cont a h).imp id fun ⟨i,d,t,x,y,z⟩=>⟨i,d,t,x,y,fun q hq=>az _ (z q hq)⟩
  ·exact (s.cont a h).imp (aH.no e) fun ⟨i,d,t,x,y,z⟩=>⟨i,d,t,x,y,fun q hq=>au _ (z q hq)⟩
theorem Args.two {H H':Hp}{p q:D×Rt}{x y:V}{G:List Addr}(ar:Args K env F H H' [p,q] [x,y] G) :
  ∃ H1 G1 G2,G=G1++G2/\aH H H1/\Rep K H1 p.1 x G1/\bD env F H p.2 H1 G1/\aH H1 H'/\Rep K H' q.1 y G2:=by
 cases ar with
 |cons e r t s =>
  cases s with
  |cons e' r' t' s' =>
   cases s' with
   |nil e''=>exact⟨_,_,_,by rw[ay],e,r,t,e'.trans e'',r'.same e''⟩
theorem Args.mv {P:Addr->Prop}{σ:L2.St}:∀{H H':Hp}{l:List (D×Rt)}{vs:List V}{G:List Addr}{R:List Nat},RE K P env σ H F->Args K env F H H' l vs G->cR (l.map (·.2))=some R->R.Nodup ->
  G.Nodup/\(∀ a∈G,∃ vs:ML,H' a=some vs.o)/\∀ a∈G,H a=none\/∃ i d t,i∈R/\a∈F i/\env[i]? = some (some (d,t))/\aX t=true
 |_,_,_,_,_,_,_,.nil _,_,_=>⟨bu,fun _ h=>(nomatch h),fun _ h=>(nomatch h)⟩
 | H,_,_,_,_,_,re,.cons (p:=p) (l:=l) (G:=G) (G':=G') e r t s,hm,nd=>by
  obtain⟨d,rt⟩:=p;cases rt with
  |sh Q=>simp[cR] at hm
  |mv R1 =>
   simp only[List.map_cons,cR,Option.map_eq_some_iff] at hm;obtain⟨R2,h2,rfl⟩:=hm;obtain⟨n1,n2,n12⟩:=dt.mp nd;obtain⟨a1,b1,c1⟩:=t.mv R1 rfl;obtain⟨a2,b2,c2⟩:=Args.mv (re.same e) s h2 n2;refine⟨dt.mpr ⟨a1,a2,fun x hx y hy z=>?_⟩,fun x hx=>?_,fun x hx=>?_⟩
   ·subst z;rcases c2 x hy with q | ⟨i2,d2,t2,m2,f2,e2,o2⟩
    ·exact r.nn hx q
    ·rcases c1 x hx with q | ⟨i1,d1,t1,m1,f1,e1,o1⟩
     ·obtain⟨v,_,rp⟩:=re.val i2 d2 t2 e2;exact rp.nn f2 q
     ·have q:=(re.one i1 d1 t1 e1 o1).2.2 x f1 i2 d2 t2 e2 f2;have q':i1=i2:=by cases t2<;>simp_all [aV,aX]
      exact n12 i1 m1 i2 m2 q'
   ·rcases List.mem_append.mp hx with hx | hx
    ·obtain⟨vs,q⟩:=b1 x hx;exact⟨vs,s.same _ _ q⟩
    ·exact b2 x hx
   ·rcases List.mem_append.mp hx with hx | hx
    ·exact (c1 x hx).imp id fun ⟨i,d,t,m,z⟩=>⟨i,d,t,az _ m,z⟩
    ·exact (c2 x hx).imp (aH.no e) fun ⟨i,d,t,m,z⟩=>⟨i,d,t,au _ m,z⟩
theorem Args.comb {P:Addr->Prop}{σ:L2.St}{H H':Hp}{l:List (D×Rt)}{vs:List V}{G:List Addr}(re:RE K P env σ H F)(ar:Args K env F H H' l vs G):bD env F H (mh (l.map (·.2))) H' G:=by
 unfold mh;cases hm:cR (l.map (·.2)) with
 |none=>exact⟨ar.cont,fun R e=>by cases e⟩
 |some R =>
  have er:∀(l:List Rt) (R:List Nat),cR l=some R->aQ l=R:=by
   intro l
   induction l with
   |nil=>intro R h;simp[cR] at h;subst h;rfl
   |cons x r ih =>
    intro R h;cases x with
    |sh Q=>simp[cR] at h
    |mv Q =>
     simp only[cR,Option.map_eq_some_iff] at h;obtain⟨R2,h2,rfl⟩:=h;have:=ih R2 h2;simp only[aQ,List.map_cons,List.flatten_cons,Rt.roots] at this ⊢;rw[this]
  have er:=er _ R hm;by_cases nd:R.Nodup
  ·simp only[nd,if_true];obtain⟨a,b,c⟩:=ar.mv re hm nd;refine⟨fun x hx=>?_,fun R' e=>by cases e;exact⟨a,b,c⟩⟩;rcases c x hx with q | ⟨i,d,t,m,f,e,o⟩
   ·exact .inl q
   ·exact .inr ⟨i,d,t,f,e,fun q hq=>by cases t<;>simp_all [aV,aX,Rt.roots]⟩
  ·simp only[nd,if_false];exact⟨fun x hx=>by have:=ar.cont x hx;rw[er] at this;exact this,fun R' e=>by cases e⟩
end
structure eY (H H':Hp)(G0:List Addr)(d:D)(G:List Addr):Prop where
 same:aH H H'
 sub:∀ a∈G,H a=none\/a∈G0
 new:d.inner=true->G.Nodup/\∀ a∈G,H a=none/\∃ vs:ML,H' a=some vs.o
section
variable {K:Frag}{H:Hp}{G0:List Addr}
theorem eY.nil {d:D}:eY H H G0 d []:=⟨aH.refl _,fun _ h=>(nomatch h),fun _=>⟨bu,fun _ h=>(nomatch h)⟩⟩
theorem iU {ds:List D}{vs:List V}{G:List Addr}{p:Addr}(r:aG K H ds vs G)(hs:∀ a∈G,a∈G0)(hp:H p=none) :
  Rep K (upd H p (.lst vs)) (.lst ds) (.ref p) (p::G)/\eY H (upd H p (.lst vs)) G0 (.lst ds) (p::G):=by
 have e:=aH.new (o:=.lst vs) hp;refine⟨.lst (.inl aO) (r.same e),e,fun a ha=>?_,fun f=>?_⟩
 ·rcases dz.mp ha with rfl | ha
  ·exact .inl hp
  ·exact .inr (hs a ha)
 ·have:G=[]:=r.flat f;subst this;exact⟨by simp,fun a ha=>by
   have:a=p:=by simpa using ha
   subst this;exact⟨hp,.l _,aO⟩⟩
theorem sY {ds:List D}{vs:List V}{G:List Addr}{p:Addr}(r:aG K H ds vs G)(hs:∀ a∈G,a∈G0)(hp:H p=none) :
  Rep K (upd H p (.tup vs)) (.tup ds) (.ref p) G/\eY H (upd H p (.tup vs)) G0 (.tup ds) G:=by
 have e:=aH.new (o:=.tup vs) hp;refine⟨.tup (.inl aO) (r.same e),e,fun a ha=>.inr (hs a ha),fun f=>?_⟩;have:G=[]:=r.flat f;subst this;exact⟨by simp,fun a ha=>(nomatch ha)⟩
theorem bD.new {env:En}{F:Nat->List Addr}{H1 H':Hp}{l:List (D×Rt)}{vs:List V}{G:List Addr}{d:D}{R:List Nat}(ar:Args K env F H H1 l vs G0)(nv:eY H1 H' G0 d G)(hR:∀ q∈aQ (l.map (·.2)),q∈R):bD env F H (eR d R) H' G:=by
 unfold eR;cases hi:d.inner with
 |true =>
  obtain⟨a,b⟩:=nv.new hi;have c:∀ x∈G,H x=none:=fun x hx=>aH.no ar.same (b x hx).1
  exact⟨fun x hx=>.inl (c x hx),fun R' e=>⟨a,fun x hx=>(b x hx).2,fun x hx=>.inl (c x hx)⟩⟩
 |false =>
  refine⟨fun x hx=>?_,fun R' e=>by cases e⟩;rcases nv.sub x hx with q | q
  ·exact .inl (aH.no ar.same q)
  ·exact (ar.cont x q).imp id fun ⟨i,d,t,f,e,z⟩=>⟨i,d,t,f,e,fun q hq=>hR q (z q hq)⟩
end
section
variable {X:Cx}
theorem bA {e:Expr}{t t':TE}(h:PE X e t)(k:∀ σ H Q,t' σ H Q->t σ H Q):PE X e t':=fun pins s σ H Q I q=>h pins s σ H Q I (k σ H Q q)
theorem l0 {e:Expr}{t t':TT}(h:PT X e t)(k:∀ σ H Q,t' σ H Q->t σ H Q):PT X e t':=fun pins s σ H Q I q=>h pins s σ H Q I (k σ H Q q)
theorem um {e:List Expr}{t t':TA}(h:PA X e t)(k:∀ σ H Q,t' σ H Q->t σ H Q):PA X e t':=fun pos pins s σ H Q I q=>h pos pins s σ H Q I (k σ H Q q)
theorem cB {e:Stmt}{t t':TS}(h:PS X e t)(k:∀ D σ H,t' D σ H->t D σ H):PS X e t':=fun pins s σ H D I q=>h pins s σ H D I (k D σ H q)
theorem qo {e:List Stmt}{t t':TS}(h:j9 X e t)(k:∀ D σ H,t' D σ H->t D σ H):j9 X e t':=fun pins s σ H D I q=>h pins s σ H D I (k D σ H q)
end
def tE (K:Frag)(T:Tb)(c:Ex):TE:=fun σ H Q=>∃ P env F,RE K P env σ H F/\∃ p,ev T c env = .ok p/\∀ v H' G,aH H H'->Rep K H' p.1 v G->bD env F H p.2 H' G->Q v H'
def rP (K:Frag)(T:Tb)(cs:kq):TA:=fun σ H Q=>∃ P env F,RE K P env σ H F/\∃ l,bB T cs env = .ok l/\∀ vs H' G,Args K env F H H' l vs G->Q vs H'
def ku (K:Frag)(T:Tb)(c:Ex):TT:=fun σ H Q=>∃ P env F,RE K P env σ H F/\∃ p b,ev T c env = .ok p/\truth p.1=some b/\∀ H',aH H H'->Q b H'
section
variable {K:Frag}{T:Tb}{P:Addr->Prop}{env:En}{F:Nat->List Addr}{σ:L2.St}{H:Hp}
theorem two {ca cb:Ex}{r:R2}{Q:VK}{p q:D×Rt}(re:RE K P env σ H F)(h1:ev T ca env = .ok p)(h2:ev T cb env = .ok q)(k:∀ x y H2 G,Args K env F H H2 [p,q] [x,y] G->r x y H2 Q):BB r (tE K T ca) (tE K T cb) σ H Q :=
 ⟨P,env,F,re,p,h1,fun v1 H1 G1 s1 rp1 rt1=>⟨P,env,F,re.same s1,q,h2,fun v2 H2 G2 s2 rp2 rt2=>k v1 v2 H2 _ (.cons s1 rp1 rt1 (.cons s2 rp2 rt2 (.nil (aH.refl _))))⟩⟩
end
noncomputable def rA (K:Frag)(f:D->D->Option D):R2:=fun x y H Q=>∃ d1 d2 d G,aG K H [d1,d2] [x,y] G/\f d1 d2=some d/\∀ v H' G',Rep K H' d v G'->eY H H' G d G'->Q v H'
noncomputable def BI (K:Frag):R2:=fun x y H Q=>∃ d1 d2 d G,aG K H [d1,d2] [x,y] G/\pq d1 d2=some d/\∀ v G',Rep K H d v G'->G'.Sublist G->Q v H
section
variable {X:Cx}{T:Tb}{a b c:Expr}{ca cb cc:Ex}{pos:Pos}
theorem zJ {op:Operator}(ho:eU X (binaryOp op) (rA X.K (eI op)))(ha:PE X a (tE X.K T ca))(hb:PE X b (tE X.K T cb)):PE X (.BinOp a op b pos) (tE X.K T (.bin op ca cb)):=by
 refine bA (AI ho ha hb) fun σ H Q ⟨P,env,F,re,p0,hev,k⟩=>?_
 unfold ev at hev;obtain⟨p,h1,hev⟩:=Rs.bind_ok hev;obtain⟨q,h2,hev⟩:=Rs.bind_ok hev;obtain⟨d,h3,hev⟩:=Rs.bind_ok hev;have h3:=bV h3;cases hev;refine two re h1 h2 fun x y H2 G ar=>⟨p.1,q.1,d,G,ar.reps,h3,fun v H' G' rp nv=>k v H' G' (ar.same.trans nv.same) rp (bD.new ar nv fun z hz=>by simpa[aQ] using hz)⟩
theorem yN {op:CmpOp}(ho:eU X (compareOp op) (rA X.K fun x y=>(gO op x y).map .bl))(ha:PE X a (tE X.K T ca))(hb:PE X b (tE X.K T cb))(hm:behindInMarks op b=false):PE X (.Compare a [op] [b] pos) (tE X.K T (.cmp op ca cb)):=by
 refine bA (vN ho ha hb hm) fun σ H Q ⟨P,env,F,re,p0,hev,k⟩=>?_
 unfold ev at hev;obtain⟨p,h1,hev⟩:=Rs.bind_ok hev;obtain⟨q,h2,hev⟩:=Rs.bind_ok hev;obtain⟨d,h3,hev⟩:=Rs.bind_ok hev;have h3:=bV h3;cases hev;refine two re h1 h2 fun x y H2 G ar=>⟨p.1,q.1,.bl d,G,ar.reps,by simp[h3],fun v H' G' rp nv=>k v H' G' (ar.same.trans nv.same) rp ?_⟩
 have:G'=[]:=rp.flat rfl;subst this;exact bD.nil
theorem B3 (ho:AD X (BI X.K))(ha:PE X a (tE X.K T ca))(hb:PE X b (tE X.K T cb))(hs:mn b):PE X (.Subscript a b pos) (tE X.K T (.ix ca cb)):=by
 refine bA (AY ho ha hb hs) fun σ H Q ⟨P,env,F,re,p0,hev,k⟩=>?_
 unfold ev at hev;obtain⟨p,h1,hev⟩:=Rs.bind_ok hev;obtain⟨q,h2,hev⟩:=Rs.bind_ok hev;obtain⟨d,h3,hev⟩:=Rs.bind_ok hev;have h3:=bV h3;cases hev;refine two re h1 h2 fun x y H2 G ar=>⟨p.1,q.1,d,G,ar.reps,h3,fun v G' rp sl=>k v H2 G' ar.same rp ?_⟩
 unfold mo;cases hf:d.flat with
 |true =>
  have:G'=[]:=rp.flat hf;subst this;exact bD.nil
 |false =>
  obtain⟨H1,g1,g2,e1,s1,_,rt1,s2,rp2⟩:=ar.two;have hq:q.1.flat=true:=by
   revert h3;cases p.1<;>cases q.1<;>simp[pq,D.flat]
  have rp2:=rp2.flat hq;have rp1:=rt1.later s2;subst rp2;rw[ay] at e1;subst e1;refine⟨fun z hz=>?_,fun R e=>by cases e⟩;exact rp1.cont z (sl.subset hz)
end
end Pc
end
section
namespace Pc
open PySem L2
structure iI (P:Addr->Prop)(H H':Hp):Prop where
 keep:∀ a,P a->H' a=H a
 tup:∀ b xs,H b=some (.tup xs)->H' b=some (.tup xs)
 fz:AQ H H'
theorem iI.refl {P:Addr->Prop}(H:Hp):iI P H H:=⟨fun _ _=>rfl,fun _ _ h=>h,fun _ _ _ h=>h⟩
theorem iI.trans {P:Addr->Prop}{H H1 H2:Hp}(a:iI P H H1)(b:iI P H1 H2):iI P H H2:=⟨fun x h=>(b.keep x h).trans (a.keep x h),fun x xs h=>b.tup x xs (a.tup x xs h),fun x o u h=>b.fz x o u (a.fz x o u h)⟩
theorem iI.of_same {P:Addr->Prop}{H H':Hp}(pl:∀ a,P a->H a≠none)(e:aH H H'):iI P H H':=⟨fun a h=>by
 cases q:H a with
 |none=>exact absurd q (pl a h)
 |some o=>exact e _ _ q,fun _ _=>e _ _,fun _ _ _ h=>e _ _ h⟩
theorem iI.weak {P P':Addr->Prop}{H H':Hp}(h:∀ a,P a->P' a)(e:iI P' H H'):iI P H H':=⟨fun a x=>e.keep a (h a x),e.tup,e.fz⟩
theorem iI.tqT {K:Frag}{P:Addr->Prop}{H H':Hp}(e:iI P H H'){b:Addr}{vs:List V}(h:iS K H b vs):iS K H' b vs:=by
 rcases h with h | h
 ·exact .inl (e.tup b vs h)
 ·exact .inr h
theorem iI.reps {K:Frag}{P:Addr->Prop}{H H':Hp}(e:iI P H H'){ds:List D}{vs:List V}{G:List Addr}(h:aG K H ds vs G)(hp:∀ a∈G,P a):aG K H' ds vs G :=
 h.keep (fun _ _=>e.tqT) e.fz fun b hb _ r=>(e.keep b (hp b hb)).trans r
def oz (env:En)(F:Nat->List Addr)(env':En)(F':Nat->List Addr):Prop:=∀(i:Nat) (d:D),env'[i]? = some (some (d,.lk))->env[i]? = some (some (d,.lk))/\F' i=F i
theorem oz.refl (env:En)(F:Nat->List Addr):oz env F env F:=fun _ _ h=>⟨h,rfl⟩
theorem oz.trans {e1 e2 e3:En}{F1 F2 F3:Nat->List Addr}(a:oz e1 F1 e2 F2)(b:oz e2 F2 e3 F3):oz e1 F1 e3 F3:=fun i d h=>by
 obtain⟨h1,h2⟩:=b i d h;obtain⟨h3,h4⟩:=a i d h1;exact⟨h3,h2.trans h4⟩
structure After (K:Frag)(P Z:Addr->Prop)(env:En)(F:Nat->List Addr)(H:Hp)(env':En)(σ':L2.St)(H':Hp)(F':Nat->List Addr):Prop where
 re:RE K P env' σ' H' F'
 z:∀ i,∀ a∈F' i,Z a
 ev:iI P H H'
 lk:oz env F env' F'
theorem After.trans {K:Frag}{P Z:Addr->Prop}{e1 e2 e3:En}{F1 F2 F3:Nat->List Addr}{H1 H2 H3:Hp}{σ2 σ3:L2.St}(a:After K P Z e1 F1 H1 e2 σ2 H2 F2)(b:After K P Z e2 F2 H2 e3 σ3 H3 F3):After K P Z e1 F1 H1 e3 σ3 H3 F3 :=
 ⟨b.re,b.z,a.ev.trans b.ev,a.lk.trans b.lk⟩
noncomputable def post (K:Frag)(P Z:Addr->Prop)(env:En)(F:Nat->List Addr)(H:Hp)(D:Ends):Fl->Prop
 |.nx env'=>∀ σ' H' F',After K P Z env F H env' σ' H' F'->D.nx σ' H'
 |.bk env'=>∀ σ' H' F',After K P Z env F H env' σ' H' F'->D.bk σ' H'
 |.ct env'=>∀ σ' H' F',After K P Z env F H env' σ' H' F'->D.ct σ' H'
 |.rt d fr=>∀ v H' G,Rep K H' d v G->iI P H H'->(∀ a∈G,Z a)->(fr=true->G.Nodup/\∀ a∈G,¬ P a/\∃ vs:ML,H' a=some vs.o)->D.rt v H'
 |.xc _ _=>False
 |.bad=>False
theorem post.trans {K:Frag}{P Z:Addr->Prop}{e1 e2:En}{F1 F2:Nat->List Addr}{H1 H2:Hp}{σ2:L2.St}{D:Ends}(a:After K P Z e1 F1 H1 e2 σ2 H2 F2):∀{f:Fl},post K P Z e1 F1 H1 D f->post K P Z e2 F2 H2 D f
 |.nx _,h=>fun σ' H' F' b=>h σ' H' F' (a.trans b)
 |.bk _,h=>fun σ' H' F' b=>h σ' H' F' (a.trans b)
 |.ct _,h=>fun σ' H' F' b=>h σ' H' F' (a.trans b)
 |.rt _ _,h=>fun v H' G r e z f=>h v H' G r (a.ev.trans e) z f
 |.xc _ _,h=>h
 |.bad,h=>h
section
variable {K:Frag}{P Z:Addr->Prop}{env:En}{σ:L2.St}{H:Hp}{F:Nat->List Addr}
theorem jT {i:Nat}{d:D}{t:Tg}{G:List Addr}(hi:i<env.length)(ht:t≠.lk):oz env F (put env i d t) (nD F i G):=fun j d' e=>by
 by_cases h:j=i
 ·subst h;rw[cN hi] at e;cases e;exact absurd rfl ht
 ·obtain⟨t0,e0,q⟩:=fJ h e;cases t0 with
  |lk=>exact⟨e0,cQ h⟩
  |own=>cases q
  |sh R=>cases q
theorem kT {i:Nat}{G:List Addr}(hz:∀ i,∀ a∈F i,Z a)(hg:∀ a∈G,Z a):∀ j,∀ a∈nD F i G j,Z a:=fun j a ha=>by
 by_cases h:j=i
 ·subst h;rw[cV] at ha;exact hg a ha
 ·rw[cQ h] at ha;exact hz j a ha
theorem tH {H':Hp}{D:Ends}{i:Nat}{mv:Bool}{p:Pc.D×Rt}{v:V}{G:List Addr}(re:RE K P env σ H F)(hz:∀ i,∀ a∈F i,Z a)(zp:∀ a,¬ P a->Z a)(e:aH H H')(rp:Rep K H' p.1 v G)(rt:bD env F H p.2 H' G)
  (h:post K P Z env F H D (qw (.nm i) mv env p)):D.nx (σ.set i (some v)) H':=by
 have re':=re.same e;have ez:∀ a∈G,Z a:=fun a ha=>by
  rcases rt.cont a ha with q | ⟨j,_,_,f,_⟩
  ·exact zp a fun z=>re.pl a z q
  ·exact hz j a f
 have jb:=iI.of_same (P:=P) re.pl e;unfold qw at h;by_cases hi:i<env.length
 ·simp only[hi,if_true] at h;have shared:∀ R,p.2.roots=R->post K P Z env F H D (.nx (put env i p.1 (.sh (R.filter (· != i)))))->D.nx (σ.set i (some v)) H':=fun R hR h=>by
   refine h _ H' (nD F i G) ⟨re'.put hi rp (fun o=>by cases o) (fun o=>by cases o) fun a ha j d' t' hj ej o m=>?_,kT hz ez,jb,jT hi (by intro z;cases z)⟩;rcases rt.cont a ha with q | ⟨k,d2,t2,f,e2,s⟩
   ·exact absurd q (re.nn ej m)
   ·have:=s j ((re.one j d' t' ej o).2.2 a m k d2 t2 e2 f);rw[hR] at this;simp only[aV,List.mem_filter];exact⟨this,by simpa using hj⟩
  cases hr:p.2 with
  |sh R=>rw[hr] at h;exact shared R (by rw[hr];rfl) h
  |mv R =>
   rw[hr] at h;obtain⟨m1,m2,m3⟩:=rt.mv R hr;cases R with
   |nil =>
    have fresh:∀ a∈G,H a=none:=fun a ha=>by
     rcases m3 a ha with q | ⟨_,_,_,q,_⟩
     ·exact q
     ·cases q
    refine h _ H' (nD F i G) ⟨re'.put hi rp (fun _=>⟨m1,m2,fun a ha j _ m=>?_⟩) (fun _ a ha z=>re.pl a z (fresh a ha)) fun a ha j d' t' hj ej o m=>?_,kT hz ez,jb,jT hi (by intro z;cases z)⟩
    ·obtain⟨d2,t2,e2⟩:=re.at' m;exact re.nn e2 m (fresh a ha)
    ·exact absurd (fresh a ha) (re.nn ej m)
   |cons r0 R0 =>
    cases mv with
    |false=>exact shared _ (by rw[hr];rfl) h
    |true =>
     simp only[if_true] at h;by_cases ho:fI env (r0::R0)=true
     ·rw[if_pos ho] at h;have fg:=re'.forget (env':=kill (r0::R0) env) (bU _ _) fun j d' t' ej=>(bR ej).1
      have ow:∀ k∈r0::R0,∃ d',env[k]? = some (some (d',.own)):=fun k hk=>by
       have:=cf.mp ho k hk;split at this
       ·rename_i d' q;exact⟨d',q⟩
       ·cases this
      have apart:∀ a∈G,∀ j,j≠i->a∉(match (kill (r0::R0) env)[j]? with | some (some _)=>F j | _=>[]):=fun a ha j hj m=>by
       split at m
       ·rename_i q ej;obtain⟨dj,tj⟩:=q;obtain⟨e0,h1,h2⟩:=bR ej;rcases m3 a ha with q | ⟨k,d2,t2,hk,f,e2,o2⟩
        ·exact re.nn e0 m q
        ·exact h2 k hk ((re.one k d2 t2 e2 o2).2.2 a f j dj tj e0 m)
       ·cases m
      refine h _ H' _ ⟨fg.put (by rw[bU];exact hi) rp (fun _=>⟨m1,m2,apart⟩) (fun _ a ha z=>?_) fun a ha j d' t' hj ej o m=>absurd m (apart a ha j hj),kT (fun j a ha=>?_) ez,jb,fun j d' ej=>?_⟩
      ·rcases m3 a ha with q | ⟨k,d2,t2,hk,f,e2,o2⟩
       ·exact re.pl a z q
       ·obtain⟨d3,e3⟩:=ow k hk;exact re.wr k d3 e3 a f z
      ·split at ha
       ·exact hz j a ha
       ·cases ha
      ·by_cases hj:j=i
       ·subst hj;rw[cN (by rw[bU];exact hi)] at ej;cases ej
       ·obtain⟨t0,e0,q⟩:=fJ hj ej;cases t0 with
        |lk =>
         refine⟨(bR e0).1,?_⟩;rw[cQ hj,e0]
        |own=>cases q
        |sh R=>cases q
     ·rw[if_neg ho] at h;exact h.elim
 ·simp only[hi,if_false] at h;exact h.elim
noncomputable def setM:List Nat->List V->L2.St->L2.St
 |i::is,v::vs,σ=>setM is vs (σ.set i (some v))
 |_,_,σ=>σ
theorem lp:∀{is:List Nat}{ds:List D}{vs:List V}{G:List Addr}{env env':En}{σ:L2.St}{F:Nat->List Addr},RE K P env σ H F->(∀ i,∀ a∈F i,Z a)->aG K H ds vs G->G.Nodup->(∀ a∈G,∃ vs:ML,H a=some vs.o)->(∀ a∈G,¬ P a)->(∀ a∈G,Z a) ->
  (∀ a∈G,∀ j,a∉F j)->bindM (fun _=>.own) is ds env=some env'->∃ F',RE K P env' (setM is vs σ) H F'/\(∀ i,∀ a∈F' i,Z a)/\oz env F env' F'/\is.length=vs.length
 | [],_,_,_,env,env',σ,F,re,hz,.nil,_,_,_,_,_,h=>by
  simp only[bindM,Option.some.injEq] at h;subst h;exact⟨F,re,hz,oz.refl _ _,rfl⟩
 | i::is,_,_,_,env,env',σ,F,re,hz,.cons (G:=G1) (G':=G2) r rs,nd,ll,np,gz,ap,h=>by
  simp only[bindM] at h;by_cases hi:i<env.length
  ·rw[if_pos hi] at h;obtain⟨n1,n2,n12⟩:=dt.mp nd;have re1:=re.put (t:=.own) hi r (fun _=>⟨n1,fun a ha=>ll a (az _ ha),fun a ha j _=>ap a (az _ ha) j⟩) (fun _ a ha=>np a (az _ ha)) fun a ha j _ _ _ _ _ m=>absurd m (ap a (az _ ha) j)
   obtain⟨F',a1,a2,a3,a4⟩:=lp re1 (kT hz fun a ha=>gz a (az _ ha)) rs n2 (fun a ha=>ll a (au _ ha)) (fun a ha=>np a (au _ ha)) (fun a ha=>gz a (au _ ha)) (fun a ha j m=>by
    by_cases hj:j=i
    ·subst hj;rw[cV] at m;exact n12 a m a ha rfl
    ·rw[cQ hj] at m;exact ap a (au _ ha) j m) h
   exact⟨F',a1,a2,(jT hi (by intro z;cases z)).trans a3,by simp[a4]⟩
  ·rw[if_neg hi] at h;cases h
 |[],_,_,_,_,_,_,_,_,_,.cons _ _,_,_,_,_,_,h=>by simp[bindM] at h
 |_::_,_,_,_,_,_,_,_,_,_,.nil,_,_,_,_,_,h=>by simp[bindM] at h
theorem nz {d:D}{R:List Nat}:cC d R≠.lk:=by unfold cC;split<;>intro z<;>cases z
theorem pe {i:Nat}{d:D}{v:V}{G:List Addr}{R:List Nat}(re:RE K P env σ H F)(hi:i<env.length)(rp:Rep K H d v G)(hs:∀ a∈G,∀(j:Nat) (d':D) (t':Tg),env[j]? = some (some (d',t'))->aX t'=true->a∈F j->j∈R) :
  RE K P (put env i d (cC d R)) (σ.set i (some v)) H (nD F i G):=by
 unfold cC;cases hf:d.flat with
 |true =>
  have:G=[]:=rp.flat hf;subst this;simp only[if_true];exact re.put hi rp (fun _=>⟨bu,fun _ h=>(nomatch h),fun _ h=>(nomatch h)⟩) (fun _ _ h=>(nomatch h)) fun _ h=>(nomatch h)
 |false =>
  simp only[Bool.false_eq_true,if_false];exact re.put hi rp (fun o=>by cases o) (fun o=>by cases o) fun a ha j d' t' hj ej o m=>hs a ha j d' t' ej o m
theorem jL {R:List Nat}:∀{is:List Nat}{ds:List D}{vs:List V}{G:List Addr}{env env':En}{σ:L2.St}{F:Nat->List Addr},RE K P env σ H F->(∀ i,∀ a∈F i,Z a)->aG K H ds vs G->(∀ a∈G,Z a) ->
  (∀ a∈G,∀(j:Nat) (d':D) (t':Tg),env[j]? = some (some (d',t'))->aX t'=true->a∈F j->j∈R)->bindM (fun d=>cC d R) is ds env=some env'->∃ F',RE K P env' (setM is vs σ) H F'/\(∀ i,∀ a∈F' i,Z a)/\oz env F env' F'/\is.length=vs.length
 | [],_,_,_,env,env',σ,F,re,hz,.nil,_,_,h=>by
  simp only[bindM,Option.some.injEq] at h;subst h;exact⟨F,re,hz,oz.refl _ _,rfl⟩
 | i::is,_,_,_,env,env',σ,F,re,hz,.cons (d:=d) (G:=G1) (G':=G2) r rs,gz,hs,h=>by
  simp only[bindM] at h;by_cases hi:i<env.length
  ·rw[if_pos hi] at h;have re1:=pe re hi r fun a ha=>hs a (az _ ha)
   obtain⟨F',a1,a2,a3,a4⟩:=jL re1 (kT hz fun a ha=>gz a (az _ ha)) rs (fun a ha=>gz a (au _ ha)) (fun a ha j d' t' ej o m=>by
    by_cases hj:j=i
    ·subst hj;rw[cN hi] at ej;simp only[Option.some.injEq,Prod.mk.injEq] at ej;obtain⟨rfl,rfl⟩:=ej;rw[cV] at m;cases hf:d.flat with
     |true=>rw[r.flat hf] at m;cases m
     |false=>simp[cC,hf,aX] at o
    ·rw[cQ hj] at m;obtain⟨t0,e0,rfl⟩:=fJ hj ej;rw[iZ] at o;exact hs a (au _ ha) j d' t0 e0 o m) h
   exact⟨F',a1,a2,(jT hi nz).trans a3,by simp[a4]⟩
  ·rw[if_neg hi] at h;cases h
 |[],_,_,_,_,_,_,_,_,_,.cons _ _,_,_,h=>by simp[bindM] at h
 |_::_,_,_,_,_,_,_,_,_,_,.nil,_,_,h=>by simp[bindM] at h
theorem m9 (R:List Nat)(env:En):(lock R env).length=env.length:=by simp[lock]
theorem j7 {R:List Nat}{env:En}{i:Nat}{d:D}{t:Tg}(e:(lock R env)[i]? = some (some (d,t))) :
  (env[i]? = some (some (d,t))/\(t = .own->i∉R))\/(t = .lk/\i∈R/\env[i]? = some (some (d,.own))):=by
 unfold lock at e;rw[List.getElem?_mapIdx] at e;cases q:env[i]? with
 |none=>rw[q] at e;cases e
 |some s =>
  rw[q] at e;cases s with
  |none=>cases e
  |some p =>
   obtain⟨a,b⟩:=p;simp only[Option.map_some,Option.some.injEq] at e;cases b with
   |own =>
    simp only at e;by_cases h:R.contains i=true
    ·rw[if_pos h] at e;cases e;exact .inr ⟨rfl,by simpa using h,rfl⟩
    ·rw[if_neg h] at e;cases e;exact .inl ⟨rfl,fun _ z=>h (by simpa using z)⟩
   |lk=>cases e;exact .inl ⟨rfl,fun z=>by cases z⟩
   |sh Q=>cases e;exact .inl ⟨rfl,fun z=>by cases z⟩
theorem tf {R:List Nat}{env:En}{i:Nat}{d:D}{t:Tg}(e:env[i]? = some (some (d,t))):∃ t',(lock R env)[i]? = some (some (d,t'))/\aX t'=aX t/\aV i t'=aV i t:=by
 unfold lock;rw[List.getElem?_mapIdx,e];cases t with
 |own =>
  simp only[Option.map_some];by_cases h:R.contains i=true
  ·exact⟨.lk,by rw[if_pos h],rfl,rfl⟩
  ·exact⟨.own,by rw[if_neg h],rfl,rfl⟩
 |lk=>exact⟨.lk,rfl,rfl,rfl⟩
 |sh Q=>exact⟨.sh Q,rfl,rfl,rfl⟩
theorem dZ {R:List Nat}{env:En}{i:Nat}{d:D}{t:Tg}(e:(lock R env)[i]? = some (some (d,t))):∃ t0,env[i]? = some (some (d,t0))/\aX t0=aX t/\aV i t0=aV i t:=by
 rcases j7 e with ⟨h,_⟩ | ⟨rfl,_,h⟩
 ·exact⟨t,h,rfl,rfl⟩
 ·exact⟨.own,h,rfl,rfl⟩
theorem RE.locked (re:RE K P env σ H F){R:List Nat}{G:List Addr}(hg:∀ a∈G,H a≠none)(hc:∀ a∈G,∀(i:Nat) (d:D) (t:Tg),env[i]? = some (some (d,t))->aX t=true->a∈F i->i∈R) :
  RE K (fun a=>P a\/a∈G) (lock R env) σ H F where
 len:=(m9 R env).trans re.len
 val:=fun i d t e=>let ⟨t0,e0,_⟩:=dZ e;re.val i d t0 e0
 emp:=fun i h=>re.emp i fun d t e=>by
  obtain⟨t',e',_⟩:=tf (R:=R) e;exact h d t' e'
 one:=fun i d t e o=>by
  obtain⟨t0,e0,o0,_⟩:=dZ e;obtain⟨a,b,c⟩:=re.one i d t0 e0 (o0.trans o);refine⟨a,b,fun x hx j d' t' ej m=>?_⟩;obtain⟨t1,e1,_,s1⟩:=dZ ej;rw[<-s1];exact c x hx j d' t1 e1 m
 wr:=fun i d e a ha z=>by
  rcases j7 e with ⟨h,hn⟩ | ⟨q,_⟩
  ·rcases z with z | z
   ·exact re.wr i d h a ha z
   ·exact hn rfl (hc a z i d .own h rfl ha)
  ·cases q
 pl:=fun a h=>h.elim (re.pl a) (hg a)
theorem km (R:List Nat)(env0 env:En):(unlock R env0 env).length=env.length:=by simp[unlock]
theorem g6 {R:List Nat}{env0 env:En}{i:Nat}{d:D}{t:Tg}(e:(unlock R env0 env)[i]? = some (some (d,t))) :
  (env[i]? = some (some (d,t))/\(t = .lk->¬ (i∈R/\∃ d0,env0[i]? = some (some (d0,.own)))))\/(t = .own/\i∈R/\env[i]? = some (some (d,.lk))/\∃ d0,env0[i]? = some (some (d0,.own))):=by
 unfold unlock at e;rw[List.getElem?_mapIdx] at e;cases q:env[i]? with
 |none=>rw[q] at e;cases e
 |some s =>
  rw[q] at e;cases s with
  |none=>cases e
  |some p =>
   obtain⟨a,b⟩:=p;simp only[Option.map_some,Option.some.injEq] at e;cases b with
   |own=>cases e;exact .inl ⟨rfl,fun z=>by cases z⟩
   |sh Q=>cases e;exact .inl ⟨rfl,fun z=>by cases z⟩
   |lk =>
    simp only at e;split at e
    ·rename_i d0 q0;by_cases h:R.contains i=true
     ·rw[if_pos h] at e;cases e;exact .inr ⟨rfl,by simpa using h,rfl,d0,q0⟩
     ·rw[if_neg h] at e;cases e;exact .inl ⟨rfl,fun _ z=>h (by simpa using z.1)⟩
    ·rename_i nq;cases e;exact .inl ⟨rfl,fun _ ⟨_,d0,q0⟩=>nq d0 q0⟩
theorem eF {R:List Nat}{env0 env:En}{i:Nat}{d:D}{t:Tg}(e:(unlock R env0 env)[i]? = some (some (d,t))):∃ t0,env[i]? = some (some (d,t0))/\aX t0=aX t/\aV i t0=aV i t:=by
 rcases g6 e with ⟨h,_⟩ | ⟨rfl,_,h,_⟩
 ·exact⟨t,h,rfl,rfl⟩
 ·exact⟨.lk,h,rfl,rfl⟩
theorem oj {R:List Nat}{env0 env:En}{i:Nat}{d:D}{t:Tg}(e:env[i]? = some (some (d,t))):∃ t',(unlock R env0 env)[i]? = some (some (d,t')):=by
 unfold unlock;rw[List.getElem?_mapIdx,e];cases t with
 |own=>exact⟨.own,rfl⟩
 |sh Q=>exact⟨.sh Q,rfl⟩
 |lk =>
  simp only[Option.map_some];split
  ·by_cases h:R.contains i=true
   ·exact⟨.own,by rw[if_pos h]⟩
   ·exact⟨.lk,by rw[if_neg h]⟩
  ·exact⟨.lk,rfl⟩
theorem After.unlocked {R:List Nat}{G:List Addr}{env':En}{σ':L2.St}{H':Hp}{F':Nat->List Addr}(re:RE K P env σ H F)(a:After K (fun a=>P a\/a∈G) Z (lock R env) F H env' σ' H' F'):After K P Z env F H (unlock R env env') σ' H' F' where
 re:={
  len:=(km R env env').trans a.re.len
  val:=fun i d t e=>let ⟨t0,e0,_⟩:=eF e;a.re.val i d t0 e0
  emp:=fun i h=>a.re.emp i fun d t e=>by
   obtain⟨t',e'⟩:=oj (R:=R) (env0:=env) e;exact h d t' e'
  one:=fun i d t e o=>by
   obtain⟨t0,e0,o0,_⟩:=eF e;obtain⟨x,y,c⟩:=a.re.one i d t0 e0 (o0.trans o);refine⟨x,y,fun z hz j d' t' ej m=>?_⟩;obtain⟨t1,e1,_,s1⟩:=eF ej;rw[<-s1];exact c z hz j d' t1 e1 m
  wr:=fun i d e b hb z=>by
   rcases g6 e with ⟨h,_⟩ | ⟨_,hR,h,d0,h0⟩
   ·exact a.re.wr i d h b hb (.inl z)
   ·obtain⟨h1,h2⟩:=a.lk i d h;rw[h2] at hb;exact re.wr i d0 h0 b hb z
  pl:=fun b h=>a.re.pl b (.inl h) }
 z:=a.z
 ev:=a.ev.weak fun _ h=>.inl h
 lk:=fun i d e=>by
  rcases g6 e with ⟨h,hn⟩ | ⟨q,_⟩
  ·obtain⟨h1,h2⟩:=a.lk i d h;rcases j7 h1 with ⟨h3,_⟩ | ⟨_,hR,h3⟩
   ·exact⟨h3,h2⟩
   ·exact absurd ⟨hR,d,h3⟩ (hn rfl)
  ·cases q
end
section
variable {K:Frag}{P Z:Addr->Prop}{env:En}{σ:L2.St}{H:Hp}{F:Nat->List Addr}
theorem dO {x:Nat}{d:D}(h:ownAt env x=some d):env[x]? = some (some (d,.own)):=by
 unfold ownAt at h;split at h
 ·rename_i d' q;cases h;exact q
 ·cases h
theorem kZ (re:RE K P env σ H F){x:Nat}{d:D}{path:Option Int}{xs:List D}{v:V}(hx:ownAt env x=some d)(hv:σ[x]? = some (some v))(h:d.at1 path=some xs) :
  ∃ p,PV K H v path p/\∀ H',aH H H'->∃ ws Gx,H' p=some (.lst ws)/\aG K H' xs ws Gx/\p∈F x/\(∀ a∈Gx,a∈F x)/\Gx.Nodup/\p∉Gx /\
   ∀ ys us Gy,aG K (upd H' p (.lst us)) ys us Gy->Gy.Nodup->p∉Gy->(∀ a∈Gy,a∈Gx\/a∉F x)->∃ G',Rep K (upd H' p (.lst us)) (d.set1 path ys) v G'/\G'.Nodup/\∀ a∈G',a∈F x\/a∈Gy:=by
 have hx':=dO hx;obtain⟨u,e,rp⟩:=re.val x d .own hx';rw[hv] at e;cases e;obtain⟨a,b,_⟩:=re.one x d .own hx' rfl;obtain⟨p,pv,f⟩:=qJ rp a h;exact⟨p,pv,fun H' e=>f H' e fun y hy=>let ⟨ws,q⟩:=b y hy;⟨ws,e _ _ q⟩⟩
theorem qE {D:Ends}{x:Nat}{d:Pc.D}{path:Option Int}{ys:List Pc.D}{rs:List Rt}(h:post K P Z env F H D (fO x path env d ys rs)):ys.length<=lim:=by
 unfold fO at h;cases hR:cR rs with
 |none=>rw[hR] at h;exact h.elim
 |some R =>
  rw[hR] at h;simp only at h;by_cases hc:(decide R.Nodup&&fI env R && !R.contains x&&decide (ys.length<=lim))=true
  ·simp only[Bool.and_eq_true,decide_eq_true_eq] at hc;exact hc.2
  ·rw[if_neg hc] at h;exact h.elim
theorem nr {H1:Hp}{D:Ends}{x:Nat}{d:Pc.D}{path:Option Int}{ys:List Pc.D}{rs:List Rt}{v:V}{p:Addr}{us:List V}{N:List Addr}
  (re:RE K P env σ H F) (hz:∀ i,∀ a∈F i,Z a) (zp:∀ a,¬ P a->Z a) (e:aH H H1) (hx:ownAt env x=some d) (hv:σ[x]? = some (some v)) (hp:p∈F x)
  (hN:∀ R,cR rs=some R->R.Nodup->N.Nodup/\(∀ a∈N,∃ vs:ML,H1 a=some vs.o)/\∀ a∈N,H a=none\/∃ i d t,i∈R/\a∈F i/\env[i]? = some (some (d,t))/\aX t=true)
  (hset:(∀ a∈N,a∉F x)->N.Nodup->∃ G',Rep K (upd H1 p (.lst us)) (d.set1 path ys) v G'/\G'.Nodup/\∀ a∈G',a∈F x\/a∈N)
  (h:post K P Z env F H D (fO x path env d ys rs)):D.nx σ (upd H1 p (.lst us)):=by
 unfold fO at h;cases hR:cR rs with
 |none=>rw[hR] at h;exact h.elim
 |some R =>
  rw[hR] at h;simp only at h;by_cases hc:(decide R.Nodup&&fI env R && !R.contains x&&decide (ys.length<=lim))=true
  ·rw[if_pos hc] at h;simp only[Bool.and_eq_true,decide_eq_true_eq,Bool.not_eq_true'] at hc;obtain⟨⟨⟨hc1,hc2⟩,hc3⟩,hc4⟩:=hc;have hxR:x∉R:=fun z=>by
    have:R.contains x=true:=by simpa using z
    rw[this] at hc3;cases hc3
   obtain⟨n1,n2,n3⟩:=hN R hR hc1;have hx':=dO hx;have ow:∀ k∈R,∃ d',env[k]? = some (some (d',.own)):=fun k hk=>by
    have:=cf.mp hc2 k hk;split at this
    ·rename_i d' q;exact⟨d',q⟩
    ·cases this
   have notx:∀ a∈N,a∉F x:=fun a ha m=>by
    rcases n3 a ha with q | ⟨i,d2,t2,hi,f,e2,o2⟩
    ·exact re.nn hx' m q
    ·have:=(re.one i d2 t2 e2 o2).2.2 a f x d .own hx' m;simp only[aV,List.mem_singleton] at this;subst this;exact hxR hi
   obtain⟨G',g1,g2,g3⟩:=hset notx n1;have re1:=re.same e;have pP:∀ a∈N,¬ P a:=fun a ha z=>by
    rcases n3 a ha with q | ⟨i,d2,t2,hi,f,e2,o2⟩
    ·exact re.pl a z q
    ·obtain⟨d3,e3⟩:=ow i hi;exact re.wr i d3 e3 a f z
   have re2:=re1.mutate (R:=R) (N:=N) hx' hv hp g1 g2 g3 fun a ha=>⟨n2 a ha,pP a ha,fun j dj tj ej m=>by
    rcases n3 a ha with q | ⟨i,d2,t2,hi,f,e2,o2⟩
    ·exact absurd q (re.nn ej m)
    ·exact⟨i,ah _ hi,(re.one i d2 t2 e2 o2).2.2 a f j dj tj ej m⟩⟩
   obtain⟨_,lsx,_⟩:=re1.one x d .own hx' rfl;obtain⟨ws,hpl⟩:=lsx p hp;have nPp:¬ P p:=re.wr x d hx' p hp;refine h σ _ _ ⟨re2,fun j a ha=>?_,(iI.of_same re.pl e).trans ⟨fun a z=>aI (fun q=>nPp (q ▸ z)),fun b xs r=>?_,g7 hpl⟩,fun j dj ej=>?_⟩
   ·unfold kB at ha;split at ha
    ·rcases g3 a ha with q | q
     ·exact hz x a q
     ·exact zp a (pP a q)
    ·split at ha
     ·exact hz j a ha
     ·cases ha
   ·refine (aI (fun q=>?_)).trans r;subst q;rw[hpl] at r;cases ws<;>cases r
   ·by_cases hj:j=x
    ·subst hj;rw[List.getElem?_set_self (by rw[bU];exact (List.getElem?_eq_some_iff.mp hx').1)] at ej;cases ej
    ·rw[List.getElem?_set_ne (da hj)] at ej;refine⟨(bR ej).1,?_⟩;unfold kB;rw[if_neg hj,ej]
  ·rw[if_neg hc] at h;exact h.elim
end
end Pc
end
section
namespace Pc
open PySem PySem.Spec PyProof.Rows L2
section
variable {K:Frag}{H:Hp}
theorem aG.inv2 {d e:D}{x y:V}{G:List Addr}(h:aG K H [d,e] [x,y] G):∃ G1 G2,Rep K H d x G1/\Rep K H e y G2/\G=G1++G2:=by
 cases h with
 |cons r s =>
  cases s with
  |cons r' s'=>cases s';exact⟨_,_,r,r',by rw[ay]⟩
theorem Rep.int_inv {i:Int}{v:V}{G:List Addr}(h:Rep K H (.int i) v G):v = .int i/\G=[]:=by cases h;exact⟨rfl,rfl⟩
theorem Rep.bl_inv {i:Bool}{v:V}{G:List Addr}(h:Rep K H (.bl i) v G):v = .bl i/\G=[]:=by cases h;exact⟨rfl,rfl⟩
theorem Rep.str_inv {i:Str}{v:V}{G:List Addr}(h:Rep K H (.str i) v G):v = .str i/\G=[]:=by cases h;exact⟨rfl,rfl⟩
theorem Rep.non_inv {v:V}{G:List Addr}(h:Rep K H .non v G):v = .non/\G=[]:=by cases h;exact⟨rfl,rfl⟩
theorem Rep.tup_inv {ds:List D}{v:V}{G:List Addr}(h:Rep K H (.tup ds) v G):∃ p vs,v = .ref p/\g8 K H p vs/\aG K H ds vs G:=by
 cases h with
 |tup a b=>exact⟨_,_,rfl,a.sq,b⟩
theorem Rep.tup_invT {ds:List D}{v:V}{G:List Addr}(h:Rep K H (.tup ds) v G):∃ p vs,v = .ref p/\iS K H p vs/\aG K H ds vs G:=by
 cases h with
 |tup a b=>exact⟨_,_,rfl,a,b⟩
end
section
variable {X:Cx}
theorem Inv.lstR {pins:List (Addr×Obj)}{σ:L2.St}{H:Hp}{s:Shared}{l:Addr}{xs:List V}(I:Inv X pins σ H s)(hH:Rd H l (.lst xs)):xs.length<=sizeLine/\∃(its:List Value) (n:Nat),aJ xs its/\xs.length=its.length/\s.heap.get? l=some { cls:=.type "list",data:=.seq its.toArray n }:=by
 obtain⟨z,its,n,r,e⟩:=hH.ok I.hok;exact⟨z,its,n,r,r.length,e⟩
noncomputable def Bp:R2:=fun x y H Q=>∃ l b xs zs,x = .ref l/\y = .ref b/\Rd H l (.lst xs)/\Rd H b (.lst zs)/\xs.length+zs.length<=sizeLine/\∀ p,H p=none->Q (.ref p) (upd H p (.lst (xs++zs)))
theorem vC:eU X (binaryOp .Add) Bp:=by
 intro pins s σ H x y v u Q I rx ry h;obtain⟨l,b,xs,zs,rfl,rfl,hH,hB,hz,q⟩:=h;cases rx;cases ry;obtain⟨z,its,n,r,hl,e⟩:=Inv.lstR I hH;obtain⟨z2,its2,n2,r2,hl2,e2⟩:=Inv.lstR I hB;refine PySem.P.add_list e e2 ?_ (by rw[ae,ae];omega);have ea:its.toArray++its2.toArray=(its++its2).toArray:=by simp
 rw[ea];exact⟨.ref _,_,I.lnew (t':=s.toks) (r.append r2) (by rw[ao];omega),rfl,q _ I.fresh⟩
noncomputable def BH:R2:=fun x y H Q=>∃ l k xs,x = .ref l/\y = .int k/\Rd H l (.lst xs)/\-(2 ^ 63)<=k/\k<2 ^ 63/\xs.length*k.toNat<=sizeLine /\
 ∀ p,H p=none->Q (.ref p) (upd H p (.lst (List.replicate k.toNat xs).flatten))
theorem v9:eU X (binaryOp .Mult) BH:=by
 intro pins s σ H x y v u Q I rx ry h;obtain⟨l,k,xs,rfl,rfl,hH,h1,h2,hz,q⟩:=h;cases rx;obtain⟨t,rfl⟩:=ry;obtain⟨z,its,n,r,hl,e⟩:=Inv.lstR I hH;have hlen:its.toArray.size*k.toNat<=sizeLine:=by rw[ae,<-hl];exact hz
 have hcap:¬ its.toArray.size*k.toNat > (2 ^ 63 - 1) / 8:=by
  have:(sizeLine:Nat)<=(2 ^ 63 - 1) / 8:=by decide
  omega
 have hfit:¬ (!Builtin.List.listFitsIndex k)=true:=by
  rw[fitsIndex_both h1 h2];exact ax
 have hlong:¬ Builtin.List.listTooLong (its.toArray.size*k.toNat)=true:=by
  rw[m6 hlen];exact ax
 have hnew:List.foldl (fun x1 x2=>x1++x2) #[] (List.replicate (if its.toArray.isEmpty=true then 0 else k.toNat) its.toArray)=(List.replicate k.toNat its).flatten.toArray:=by
  have f0:∀ m:Nat,List.foldl (fun x1 x2=>x1++x2) #[] (List.replicate m its.toArray)=(List.replicate m its).flatten.toArray:=fun m=>by
   have:=foldl_rep its m [];rw[fm] at this;exact this
  rw[f0];cases its with
  |nil=>simp
  |cons a r'=>rw[if_neg (by simp)]
 refine wpAny_binaryOp_repeat_ref (T:="list") (U:="int") (by decide) ⟨_,e,rfl⟩ (fun s'=>typeIs_int s' k t) noFill_list_mul F.fills_int_mul F.slot_int_rmul repeat_list F.slot_int_index.lookup
  (call_meets F.slot_int_rmul (typeIs_int s k t) F.entry_int_rmul (F.args_int_rmul_2 _ _) (int___rmul___int_list k t l its.toArray n)
   ⟨e,rfl,⟨_,e,rfl⟩,call_meets F.slot_list_mul ⟨_,e,rfl⟩ F.entry_list_mul (F.args_list_mul_2 _ _) (AutoListH.list___mul___list_int_3 l its.toArray n k t hfit hcap hlong) ⟨e,?_⟩⟩)
 rw[hnew];exact⟨.ref _,_,I.lnew (t':=s.toks) (r.rep k.toNat) (by rw[len_rep,Nat.mul_comm];exact hz),rfl,q _ I.fresh⟩
theorem aG.rep {K:Frag}{H:Hp}{ds:List D}{vs:List V}(h:aG K H ds vs []):∀ n:Nat,aG K H (List.replicate n ds).flatten (List.replicate n vs).flatten []
 |0=>.nil
 | n+1=>by
  rw[dh,dh,bg,bg];exact h.append (h.rep n)
theorem je {n:Nat}{d e:D}(h:ck n d=some e):n<=lim/\e=d:=by
 unfold ck at h;split at h
 ·cases h;exact⟨‹_›,rfl⟩
 ·cases h
theorem kO {i:Int}:small i=true↔(-(2 ^ 64)<i/\i<2 ^ 64):=by unfold small;exact decide_eq_true_iff
theorem wN {op:Operator}{i j k:Int}(h:binI op i j=some k):eU X (binaryOp op) (fun x y H Q=>x = .int i/\y = .int j/\Q (.int k) H):=by
 intro pins s σ H x y v u Q I rx ry q;obtain⟨rfl,rfl,q⟩:=q;cases op with
 |Add=>cases h;exact y1 pins s σ H _ _ v u Q I rx ry ⟨i,j,rfl,rfl,q⟩
 |Sub=>cases h;exact y2 pins s σ H _ _ v u Q I rx ry ⟨i,j,rfl,rfl,q⟩
 |Mult =>
  simp only[binI] at h;by_cases hc:(small i || small j)=true
  ·rw[if_pos hc] at h;cases h;refine zG pins s σ H _ _ v u Q I rx ry ⟨i,j,rfl,rfl,?_,q⟩;rw[fq,kO,kO] at hc;exact hc
  ·rw[if_neg hc] at h;cases h
 |FloorDiv =>
  simp only[binI] at h;by_cases hc:0<j/\j<1073741824
  ·rw[if_pos hc] at h;cases h;exact xj pins s σ H _ _ v u Q I rx ry ⟨i,j,rfl,rfl,hc,q⟩
  ·rw[if_neg hc] at h;cases h
 |Mod =>
  simp only[binI] at h;by_cases hc:0<j
  ·rw[if_pos hc] at h;cases h;exact zi pins s σ H _ _ v u Q I rx ry ⟨i,j,rfl,rfl,hc,q⟩
  ·rw[if_neg hc] at h;cases h
 |Pow =>
  simp only[binI] at h;by_cases hc:0<=j/\j<=1000000/\i.natAbs<2 ^ 64
  ·rw[if_pos hc] at h;cases h;exact Ai pins s σ H _ _ v u Q I rx ry ⟨i,j,rfl,rfl,hc,q⟩
  ·rw[if_neg hc] at h;cases h
 |LShift =>
  simp only[binI] at h;by_cases hc:0<=j/\j<=1000000/\i.natAbs<2 ^ 64
  ·rw[if_pos hc] at h;cases h;exact yJ pins s σ H _ _ v u Q I rx ry ⟨i,j,rfl,rfl,hc,q⟩
  ·rw[if_neg hc] at h;cases h
 |RShift =>
  simp only[binI] at h;by_cases hc:0<=j
  ·rw[if_pos hc] at h;cases h;exact zo pins s σ H _ _ v u Q I rx ry ⟨i,j,rfl,rfl,hc,q⟩
  ·rw[if_neg hc] at h;cases h
 |BitAnd=>cases h;exact zR pins s σ H _ _ v u Q I rx ry ⟨i,j,rfl,rfl,q⟩
 |BitOr=>cases h;exact Cc pins s σ H _ _ v u Q I rx ry ⟨i,j,rfl,rfl,q⟩
 |BitXor=>cases h;exact za pins s σ H _ _ v u Q I rx ry ⟨i,j,rfl,rfl,q⟩
 |_=>cases h
theorem xt (op:Operator):eU X (binaryOp op) (rA X.K (eI op)):=by
 intro pins s σ H x y v u Q I rx ry h;obtain⟨d1,d2,d,G,rs,hd,k⟩:=h;obtain⟨G1,G2,r1,r2,rfl⟩:=rs.inv2;cases d1 with
 |int i =>
  cases d2 with
  |int j =>
   obtain⟨rfl,rfl⟩:=r1.int_inv;obtain⟨rfl,rfl⟩:=r2.int_inv;have:eI op (.int i) (.int j)=(binI op i j).map .int:=by cases op<;>rfl
   rw[this,aa] at hd;obtain⟨z,hz,rfl⟩:=hd;exact wN hz pins s σ H _ _ v u Q I rx ry ⟨rfl,rfl,k _ H [] (.int z) eY.nil⟩
  |_=>cases op<;>simp[eI] at hd
 |str a =>
  cases d2 with
  |str b =>
   cases op with
   |Add =>
    obtain⟨hl,rfl⟩:=je hd;obtain⟨rfl,rfl⟩:=r1.str_inv;obtain⟨rfl,rfl⟩:=r2.str_inv;exact nZ pins s σ H _ _ v u Q I rx ry ⟨a,b,rfl,rfl,eJ hl,k _ H [] (.str _) eY.nil⟩
   |_=>simp[eI] at hd
  |_=>cases op<;>simp[eI] at hd
 |lst a =>
  obtain⟨p,vs,G',rfl,rfl,h1,h2⟩:=r1.lst_inv;cases d2 with
  |lst b =>
   cases op with
   |Add =>
    obtain⟨hl,rfl⟩:=je hd;obtain⟨p',vs',G'',rfl,rfl,h1',h2'⟩:=r2.lst_inv;refine vC pins s σ H _ _ v u Q I rx ry ⟨p,p',vs,vs',rfl,rfl,h1,h1',by rw[<-h2.len,<-h2'.len];exact eJ hl,fun q hq=>?_⟩;obtain⟨n1,n2⟩:=iU (G0:=p::G'++p'::G'') (h2.append h2') (fun a ha=>by simp at ha ⊢;rcases ha with ha | ha<;>simp[ha]) hq;exact k _ _ _ n1 n2
   |_=>simp[eI] at hd
  |int n =>
   cases op with
   |Mult =>
    simp only[eI] at hd;by_cases hc : -(2 ^ 63)<=n/\n<2 ^ 63
    ·rw[if_pos hc] at hd;by_cases hf:D.flats a=true
     ·rw[if_pos hf] at hd;obtain⟨hl,rfl⟩:=je hd;obtain⟨rfl,rfl⟩:=r2.int_inv;have eG:G'=[]:=h2.flat hf;subst eG;refine v9 pins s σ H _ _ v u Q I rx ry ⟨p,n,vs,rfl,rfl,h1,hc.1,hc.2,by rw[<-h2.len];exact eJ hl,fun q hq=>?_⟩;obtain⟨n1,n2⟩:=iU (G0:=[p] ++ []) (h2.rep n.toNat) (fun a ha=>(nomatch ha)) hq;exact k _ _ _ n1 n2
     ·rw[if_neg hf] at hd;cases hd
    ·rw[if_neg hc] at hd;cases hd
   |_=>simp[eI] at hd
  |_=>cases op<;>simp[eI] at hd
 |tup a =>
  obtain⟨p,vs,rfl,h1,h2⟩:=r1.tup_invT;cases d2 with
  |tup b =>
   cases op with
   |Add =>
    simp only[eI] at hd;by_cases hc:a.isEmpty=true
    ·rw[if_pos hc] at hd;cases hd
    ·rw[if_neg hc] at hd;obtain⟨hl,rfl⟩:=je hd;obtain⟨p',vs',rfl,h1',h2'⟩:=r2.tup_inv;refine wj pins s σ H _ _ v u Q I rx ry ⟨p,p',vs,vs',rfl,rfl,h1.sq,h1',?_,by rw[<-h2.len,<-h2'.len];exact eJ hl,fun hy=>?_,fun _ q hq=>?_⟩
     ·intro z;have:=h2.len;rw[z] at this;cases a with
      |nil=>exact hc rfl
      |cons _ _=>simp at this
     ·subst hy;cases h2' with
      |nil =>
       simp only[List.append_nil] at k;refine k _ H G1 (.tup h1 h2) ⟨aH.refl _,fun a ha=>.inr ha,fun f=>?_⟩;have:G1=[]:=h2.flat (by simpa[D.inner] using f);subst this;exact⟨bu,fun _ h=>(nomatch h)⟩
     ·obtain⟨n1,n2⟩:=sY (G0:=G1++G2) (h2.append h2') (fun a ha=>ha) hq;exact k _ _ _ n1 n2
   |_=>simp[eI] at hd
  |_=>cases op<;>simp[eI] at hd
 |_=>cases d2<;>cases op<;>simp[eI] at hd
open SeqAt in
theorem fT {f:D->D->Option Bool}:∀{xs ys:List D}{b:Bool},t9 f xs ys=some b->xs.length=ys.length/\∃ e:Nat->Bool,(∀ j x y,xs[j]? = some x->ys[j]? = some y->f x y=some (e j))/\b=(List.range xs.length).all e
 |[],[],b,h=>by cases h;exact⟨rfl,fun _=>true,fun j x y hx=>by simp at hx,rfl⟩
 | x::xs,y::ys,b,h=>by
  simp only[t9,Option.bind_eq_some_iff,Option.map_eq_some_iff] at h;obtain⟨a,h1,c,h2,rfl⟩:=h;obtain⟨hl,e,he,rfl⟩:=fT h2;refine⟨by simp[hl],fun j=>match j with | 0=>a | j+1=>e j,fun j x' y' hx hy=>?_,?_⟩
  ·cases j with
   |zero=>simp at hx hy;subst hx;subst hy;exact h1
   |succ j=>exact he j x' y' (by simpa using hx) (by simpa using hy)
  ·rw[aj,fw,c9,List.all_map];rfl
 |[],_::_,b,h=>by cases h
 |_::_,[],b,h=>by cases h
theorem hZ:∀(n:Nat) (d:D) (b:Bool),D.eqf n d d=some b->b=true
 |0,_,_,h=>by cases h
 |n+1,.non,b,h=>by cases h;rfl
 |n+1,.bl x,b,h=>by simp[D.eqf] at h;exact h
 |n+1,.int x,b,h=>by simp[D.eqf] at h;exact h
 |n+1,.str x,b,h=>by simp[D.eqf] at h;exact h
 | n+1,.lst xs,b,h=>by
  simp only[D.eqf,if_true] at h;obtain⟨_,e,he,rfl⟩:=fT h;rw[cf];intro j hj;have hj:j<xs.length:=by simpa using hj
  exact hZ n xs[j] _ (he j _ _ (by simp[hj]) (by simp[hj]))
 |n+1,.dct _,b,h=>by cases h
 |n+1,.mpi _,b,h=>by cases h
 |n+1,.mpt _,b,h=>by cases h
 |n+1,.mpz _,b,h=>by cases h
 | n+1,.tup xs,b,h=>by
  simp only[D.eqf,if_true] at h;obtain⟨_,e,he,rfl⟩:=fT h;rw[cf];intro j hj;have hj:j<xs.length:=by simpa using hj
  exact hZ n xs[j] _ (he j _ _ (by simp[hj]) (by simp[hj]))
section
variable {pins:List (Addr×Obj)}{σ:L2.St}{H:Hp}{s:Shared}
theorem fM.inj:∀{es:List DictEntry}{kvs kvs':List (Key×Option Int)},fM es kvs->fM es kvs'->kvs=kvs'
 |_,_,_,.nil,h=>by cases h;rfl
 | _,_,_,.cons hh hk hv r,h=>by
  cases h with
  |cons hh' hk' hv' r' =>
   rw[hk] at hk';rw[hv] at hv';cases hk';cases hv';rw[fM.inj r r']
  |si hk' hv' r'=>rw[hk] at hk';cases hk'
  |sn hk' hv' r'=>rw[hk] at hk';cases hk'
 | _,_,_,.si hk hv r,h=>by
  cases h with
  |cons hh' hk' hv' r'=>rw[hk] at hk';cases hk'
  |si hk' hv' r' =>
   rw[hk] at hk';rw[hv] at hv';cases hk';cases hv';rw[fM.inj r r']
  |sn hk' hv' r'=>rw[hv] at hv';cases hv'
 | _,_,_,.sn hk hv r,h=>by
  cases h with
  |cons hh' hk' hv' r'=>rw[hk] at hk';cases hk'
  |si hk' hv' r'=>rw[hv] at hv';cases hv'
  |sn hk' hv' r' =>
   rw[hk] at hk';cases hk';rw[fM.inj r r']
theorem oT.inj {K:Frag}{a:Addr}{kvs kvs':List (Key×Option Int)}(h:oT K a kvs)(h':oT K a kvs'):kvs=kvs':=by
 obtain⟨o,es,ep,h1,h2,h3,h4,_⟩:=h;obtain⟨o',es',ep',h1',h2',h3',h4',_⟩:=h';rw[h1] at h1';cases h1';rw[h3] at h3';cases h3';exact h4.inj h4'
theorem jq (I:L2.Inv X pins σ H s){a:Addr}{kvs:List (Key×Option Int)}(h:oT X.K a kvs):∃ o,s.heap.get? a=some o/\o.cls = .type "dict"/\o.ExactDict:=by
 obtain⟨o,es,ep,h1,h2,h3,h4,_⟩:=h;exact⟨o,I.kIn a o h1,h2.1,h2⟩
noncomputable def nf:HO->Bool
 |.frz _ _=>false
 |_=>true
noncomputable def nt:HO->Bool
 |.tup _=>false
 |_=>true
theorem dE {H:Hp}{a:Addr}{u u':HO}(h:Rd H a u)(h':Rd H a u')(hu:nf u=true:=by rfl)(hu':nf u'=true:=by rfl):u=u':=by
 rcases h with h | ⟨o,h⟩<;>rcases h' with h' | ⟨o',h'⟩<;>rw[h] at h'
 ·exact bp h'
 ·rw[bp h'] at hu;cases hu
 ·rw[<-bp h'] at hu';cases hu'
 ·cases h';rfl
theorem j0 (I:L2.Inv X pins σ H s){a:Addr}{o:Obj}(h:X.K.lookup a=some o):H a=none:=(I.bs a o (I.ok.mod.kin a o h)).2
theorem pH:∀{a b:List Int},a.map (Sum.inl (β:=Str))=b.map Sum.inl->a=b
 |[],[],_=>rfl
 |[],_::_,h=>by cases h
 |_::_,[],h=>by cases h
 | x::a,y::b,h=>by
  have h:(Sum.inl x:Key)::a.map Sum.inl=Sum.inl y::b.map Sum.inl:=h;injection h with h1 h2
  injection h1 with h1
  rw[h1,pH h2]
theorem qk:∀{a b:List (List Int)},lI a=lI b->a=b
 |[],[],_=>rfl
 |[],_::_,h=>by cases h
 |_::_,[],h=>by cases h
 | x::a,y::b,h=>by
  have h:(x.map Sum.inl,V.bl true)::lI a=(y.map Sum.inl,V.bl true)::lI b:=h;injection h with h1 h2
  injection h1 with h1 _
  rw[pH h1,qk h2]
theorem g8.not_rd (I:L2.Inv X pins σ H s){a:Addr}{vs:List V}{u:HO}(h:g8 X.K H a vs)(h':Rd H a u)(hu:nf u=true:=by rfl)(ht:nt u=true:=by rfl):False:=by
 rcases h with h | h
 ·rw[dE h' h hu] at ht;cases ht
 ·obtain⟨o,_,_,h1,_⟩:=h;exact Rd.ne_none h' (j0 I h1)
theorem mZ:∀{a b:List Int},a.map V.int=b.map V.int->a=b
 |[],[],_=>rfl
 |[],_::_,h=>by cases h
 |_::_,[],h=>by cases h
 | x::a,y::b,h=>by
  injection h with h1 h2
  injection h1 with h1
  rw[h1,mZ h2]
theorem nM.inj (I:Inv X pins σ H s):∀{m m':MV}{v:V},nM X.K H m v->nM X.K H m' v->m=m'
 |.tr,.tr,_,_,_=>rfl
 |.int i,.int j,_,h,h'=>by cases h;cases h';rfl
 | .tup a,.tup b,_,⟨p,e,h⟩,⟨p',e',h'⟩=>by
  subst e;cases e';rw[mZ (I.tuple_inj h.sq h'.sq)]
 |.tr,.int _,_,h,h'=>by cases h;cases h'
 |.int _,.tr,_,h,h'=>by cases h;cases h'
 |.tr,.tup _,_,h,⟨_,e,_⟩=>by cases h;cases e
 |.tup _,.tr,_,⟨_,e,_⟩,h=>by cases h;cases e
 |.int _,.tup _,_,h,⟨_,e,_⟩=>by cases h;cases e
 |.tup _,.int _,_,⟨_,e,_⟩,h=>by cases h;cases e
theorem gN.inj (I:Inv X pins σ H s):∀{a b:List (Int×MV)}{xs:List (Key×V)},gN X.K H a xs->gN X.K H b xs->a=b
 |[],[],_,_,_=>rfl
 |[],_::_,[],_,h=>h.elim
 |_::_,[],[],h,_=>h.elim
 |[],_::_,_::_,h,_=>h.elim
 |_::_,[],_::_,_,h=>h.elim
 |_::_,_::_,[],h,_=>h.elim
 | (k,m)::a,(k',m')::b,x::xs,⟨h1,h2,h3⟩,⟨g1,g2,g3⟩=>by
  rw[h1] at g1;injection g1 with g1
  have g1:k=k':=g1;rw[g1,show m=m' from nM.inj I h2 g2,gN.inj I h3 g3]
theorem Rep.inj (I:Inv X pins σ H s){d:D}{v:V}{G:List Addr}(h:Rep X.K H d v G):∀{e:D}{G':List Addr},Rep X.K H e v G'->d=e:=by
 refine Rep.rec (motive_1:=fun d v G _=>∀{e:D}{G':List Addr},Rep X.K H e v G'->d=e) (motive_2:=fun ds vs G _=>∀{es:List D}{G':List Addr},aG X.K H es vs G'->ds=es) ?non ?bl ?int ?str ?lst ?tup ?dct ?mpi ?mpt ?mpz ?nil ?cons h
 case non =>
  intro e' G' h;cases h;rfl
 case bl =>
  intro _ e' G' h;cases h;rfl
 case int =>
  intro _ e' G' h;cases h;rfl
 case str =>
  intro _ e' G' h;cases h;rfl
 case mpi =>
  intro p0 ks0 xs0 h r0 e' G' q;cases q with
  |mpi h' r'=>
   rw[h] at h';cases h';rw[gN.inj I r0 r']
  |mpz h' r'=>rw[h] at h';cases h'
  |mpt h'=>exact nomatch dE (.inl h) h'
  |lst h' _=>exact nomatch dE (.inl h) h'
  |tup h' _=>exact (g8.not_rd I h'.sq (.inl h)).elim
  |dct h' =>
   obtain⟨o,_,_,h1,_⟩:=h';exact absurd (j0 I h1) (Rd.ne_none (.inl h))
 case mpz =>
  intro p0 ks0 xs0 o0 h r0 e' G' q;cases q with
  |mpz h' r'=>
   rw[h] at h';cases h';rw[gN.inj I r0 r']
  |mpi h' r'=>rw[h] at h';cases h'
  |mpt h'=>exact nomatch dE (.inr ⟨_,h⟩) h'
  |lst h' _=>exact nomatch dE (.inr ⟨_,h⟩) h'
  |tup h' _=>exact (g8.not_rd I h'.sq (.inr ⟨_,h⟩)).elim
  |dct h' =>
   obtain⟨o,_,_,h1,_⟩:=h';exact absurd (j0 I h1) (Rd.ne_none (.inr ⟨_,h⟩))
 case mpt =>
  intro p0 ks0 h e' G' q;cases q with
  |mpt h'=>
   have:=dE h h';injection this with this
   rw[qk this]
  |mpi h' _=>exact nomatch dE h (.inl h')
  |mpz h' _=>exact nomatch dE h (.inr ⟨_,h'⟩)
  |lst h' _=>exact nomatch dE h h'
  |tup h' _=>exact (g8.not_rd I h'.sq h).elim
  |dct h' =>
   obtain⟨o,_,_,h1,_⟩:=h';exact absurd (j0 I h1) (Rd.ne_none h)
 case lst =>
  intro p0 vs0 ds0 G0 h r ih e' G' q;cases q with
  |mpi h' _=>exact nomatch dE h (.inl h')
  |mpz h' _=>exact nomatch dE h (.inr ⟨_,h'⟩)
  |mpt h'=>exact nomatch dE h h'
  |lst h' r' =>
   have e:=I.list_inj (.inl h) (.inl h');subst e;rw[ih r']
  |dct h' =>
   obtain⟨its,_,pl,_⟩:=I.list (.inl h);obtain⟨o,ho,hc,_⟩:=pl.isList;obtain⟨o',ho',hc',_⟩:=jq I h';rw[ho] at ho';cases ho';rw[hc] at hc';injection hc' with z;exact absurd z (by decide)
  |tup h' r' =>
   obtain⟨its,_,pl,_⟩:=I.list (.inl h);obtain⟨its',_,pt,_⟩:=I.tuple h'.sq;obtain⟨o,ho,hc,_⟩:=pl.isList;obtain⟨o',ho',hc',_⟩:=pt;rw[ho] at ho';cases ho';rw[hc] at hc';injection hc' with z;exact absurd z (by decide)
 case tup =>
  intro p0 vs0 ds0 G0 h r ih e' G' q;cases q with
  |mpi h' _=>exact (g8.not_rd I h.sq (.inl h')).elim
  |mpz h' _=>exact (g8.not_rd I h.sq (.inr ⟨_,h'⟩)).elim
  |mpt h'=>exact (g8.not_rd I h.sq h').elim
  |tup h' r' =>
   have e:=I.tuple_inj h.sq h'.sq;subst e;rw[ih r']
  |dct h' =>
   obtain⟨its',_,pt,_⟩:=I.tuple h.sq;obtain⟨o,ho,hc,_⟩:=pt;obtain⟨o',ho',hc',_⟩:=jq I h';rw[ho] at ho';cases ho';rw[hc] at hc';injection hc' with z;exact absurd z (by decide)
  |lst h' r' =>
   obtain⟨its,_,pl,_⟩:=I.list (.inl h');obtain⟨its',_,pt,_⟩:=I.tuple h.sq;obtain⟨o,ho,hc,_⟩:=pl.isList;obtain⟨o',ho',hc',_⟩:=pt;rw[ho] at ho';cases ho';rw[hc] at hc';injection hc' with z;exact absurd z (by decide)
 case dct =>
  intro p0 ks0 h e' G' q;cases q with
  |mpi h' _ =>
   obtain⟨o,_,_,h1,_⟩:=h;exact absurd (j0 I h1) (Rd.ne_none (.inl h'))
  |mpz h' _ =>
   obtain⟨o,_,_,h1,_⟩:=h;exact absurd (j0 I h1) (Rd.ne_none (.inr ⟨_,h'⟩))
  |mpt h' =>
   obtain⟨o,_,_,h1,_⟩:=h;exact absurd (j0 I h1) (Rd.ne_none h')
  |dct h'=>rw[oT.inj h h']
  |lst h' r' =>
   obtain⟨its,_,pl,_⟩:=I.list (.inl h');obtain⟨o,ho,hc,_⟩:=pl.isList;obtain⟨o',ho',hc',_⟩:=jq I h;rw[ho] at ho';cases ho';rw[hc] at hc';injection hc' with z;exact absurd z (by decide)
  |tup h' r' =>
   obtain⟨its',_,pt,_⟩:=I.tuple h'.sq;obtain⟨o,ho,hc,_⟩:=pt;obtain⟨o',ho',hc',_⟩:=jq I h;rw[ho] at ho';cases ho';rw[hc] at hc';injection hc' with z;exact absurd z (by decide)
 case nil=>intro e' G' h;cases h;rfl
 case cons =>
  intro d0 v0 ds0 vs0 G0 G1 h r i1 i2 e' G' q;cases q with
  |cons h' r'=>rw[i1 h',i2 r']
open SeqAt in
theorem pK (I:Inv X pins σ H s):∀(n:Nat) (A:Around) (d e:D) (v w:V) (G G':List Addr) (u u':Value) (b:Bool),A.units+n<cLine->Rep X.K H d v G->Rep X.K H e w G'->RelV v u->RelV w u'->D.eqf n d e=some b->RcAt A s u u' b/\EqAt A s u u' b
 |0,_,_,_,_,_,_,_,_,_,_,_,_,_,_,_,h=>by cases h
 | n+1,A,d,e,v,w,G,G',u,u',b,hu,r1,r2,q1,q2,h=>by
  have hu1:A.in1.units+n<cLine:=by show A.units+1+n<cLine;omega
  have hu0:A.units<cLine:=by omega
  have items:∀{xs ys:List D}{vs ws:List V}{G1 G2:List Addr}{its its':List Value}{c:Bool},aG X.K H xs vs G1->aG X.K H ys ws G2->aJ vs its->aJ ws its'->t9 (D.eqf n) xs ys=some c ->
    its.toArray.size=its'.toArray.size/\∃ ee:Nat->Bool,c=(List.range its.toArray.size).all ee/\∀ j (h1:j<its.toArray.size) (h2:j<its'.toArray.size),EqAt A.in1 s its.toArray[j] its'.toArray[j] (ee j):=by
   intro xs ys vs ws G1 G2 its its' c a1 a2 b1 b2 hc;obtain⟨hl,ee,he,rfl⟩:=fT hc;have l1:=a1.len;have l2:=a2.len;have l3:=b1.length;have l4:=b2.length;have sz:its.toArray.size=xs.length:=by rw[ae];omega
   refine⟨by rw[ae,ae];omega,ee,by rw[sz],fun j h1 h2=>?_⟩;have j1:j<xs.length:=by rw[<-sz];exact h1
   have j2:j<ys.length:=by omega
   obtain⟨v1,g1,e1,p1,_⟩:=a1.get (i:=j) (d:=xs[j]) (by simp[j1]);obtain⟨v2,g2,e2,p2,_⟩:=a2.get (i:=j) (d:=ys[j]) (by simp[j2]);obtain⟨u1,f1,t1⟩:=b1.get e1;obtain⟨u2,f2,t2⟩:=b2.get e2;have x1:its.toArray[j]=u1:=by
    have:=List.getElem?_eq_some_iff.mp f1;simpa using this.2
   have x2:its'.toArray[j]=u2:=by
    have:=List.getElem?_eq_some_iff.mp f2;simpa using this.2
   rw[x1,x2];exact (pK I n A.in1 _ _ _ _ _ _ _ _ _ hu1 p1 p2 t1 t2 (he j _ _ (by simp[j1]) (by simp[j2]))).2
  have refs:∀{l m:Addr}{c:Bool},(l=m->c=true)->RcAt A s (.ref l) (.ref m) c->RcAt A s (.ref l) (.ref m) c/\EqAt A s (.ref l) (.ref m) c:=fun {l m c} hs hr=>⟨hr,by
   by_cases z:l=m
   ·subst z;rw[hs rfl];exact EqAt.same _
   ·exact EqAt.of_refs z hr⟩
  cases d with
  |dct _=>cases h
  |mpi _=>cases e<;>cases h
  |mpt _=>cases e<;>cases h
  |mpz _=>cases e<;>cases h
  |non =>
   obtain⟨rfl,rfl⟩:=r1.non_inv;cases q1;cases e with
   |dct _=>cases h
   |mpi _=>cases h
   |mpt _=>cases h
   |mpz _=>cases h
   |non=>obtain⟨rfl,rfl⟩:=r2.non_inv;cases q2;cases h;exact⟨RcAt.none_none,EqAt.same _⟩
   |bl c=>obtain⟨rfl,rfl⟩:=r2.bl_inv;cases q2;cases h;exact⟨RcAt.none_bool c,EqAt.none_bool c⟩
   |int i=>obtain⟨rfl,rfl⟩:=r2.int_inv;obtain⟨t,rfl⟩:=q2;cases h;exact⟨RcAt.none_int i t,EqAt.none_int i t⟩
   |str x=>obtain⟨rfl,rfl⟩:=r2.str_inv;obtain⟨t,rfl⟩:=q2;cases h;exact⟨RcAt.none_str x t,EqAt.none_str x t⟩
   |lst ys =>
    obtain⟨m,ws,g,rfl,rfl,a1,a2⟩:=r2.lst_inv;cases q2;obtain⟨its,_,pl,_⟩:=I.list (.inl a1);cases h;exact⟨RcAt.none_list pl.isList hu0,EqAt.none_list pl.isList hu0⟩
   |tup ys =>
    obtain⟨m,ws,rfl,a1,a2⟩:=r2.tup_inv;cases q2;obtain⟨its,_,pl,_⟩:=I.tuple a1;cases h;exact⟨RcAt.none_tuple pl hu0,EqAt.none_tuple pl hu0⟩
  |bl a =>
   obtain⟨rfl,rfl⟩:=r1.bl_inv;cases q1;cases e with
   |dct _=>cases h
   |mpi _=>cases h
   |mpt _=>cases h
   |mpz _=>cases h
   |non=>obtain⟨rfl,rfl⟩:=r2.non_inv;cases q2;cases h;exact⟨RcAt.bool_none a,EqAt.bool_none a⟩
   |bl c=>obtain⟨rfl,rfl⟩:=r2.bl_inv;cases q2;cases h;exact⟨RcAt.bool_bool a c,EqAt.bool_bool a c⟩
   |int i=>obtain⟨rfl,rfl⟩:=r2.int_inv;obtain⟨t,rfl⟩:=q2;cases h;exact⟨RcAt.bool_int a i t,EqAt.bool_int a i t⟩
   |str x=>obtain⟨rfl,rfl⟩:=r2.str_inv;obtain⟨t,rfl⟩:=q2;cases h;exact⟨RcAt.bool_str a x t,EqAt.bool_str a x t⟩
   |lst ys =>
    obtain⟨m,ws,g,rfl,rfl,a1,a2⟩:=r2.lst_inv;cases q2;obtain⟨its,_,pl,_⟩:=I.list (.inl a1);cases h;exact⟨RcAt.bool_list a pl.isList hu0,EqAt.bool_list a pl.isList hu0⟩
   |tup ys =>
    obtain⟨m,ws,rfl,a1,a2⟩:=r2.tup_inv;cases q2;obtain⟨its,_,pl,_⟩:=I.tuple a1;cases h;exact⟨RcAt.bool_tuple a pl hu0,EqAt.bool_tuple a pl hu0⟩
  |int a =>
   obtain⟨rfl,rfl⟩:=r1.int_inv;obtain⟨t0,rfl⟩:=q1;cases e with
   |dct _=>cases h
   |mpi _=>cases h
   |mpt _=>cases h
   |mpz _=>cases h
   |non=>obtain⟨rfl,rfl⟩:=r2.non_inv;cases q2;cases h;exact⟨RcAt.int_none a t0,EqAt.int_none a t0⟩
   |bl c=>obtain⟨rfl,rfl⟩:=r2.bl_inv;cases q2;cases h;exact⟨RcAt.int_bool a t0 c,EqAt.int_bool a t0 c⟩
   |int i=>obtain⟨rfl,rfl⟩:=r2.int_inv;obtain⟨t,rfl⟩:=q2;cases h;exact⟨RcAt.int_int a t0 i t,EqAt.int_int a t0 i t⟩
   |str x=>obtain⟨rfl,rfl⟩:=r2.str_inv;obtain⟨t,rfl⟩:=q2;cases h;exact⟨RcAt.int_str a t0 x t,EqAt.int_str a t0 x t⟩
   |lst ys =>
    obtain⟨m,ws,g,rfl,rfl,a1,a2⟩:=r2.lst_inv;cases q2;obtain⟨its,_,pl,_⟩:=I.list (.inl a1);cases h;exact⟨RcAt.int_list a t0 pl.isList hu0,EqAt.int_list a t0 pl.isList hu0⟩
   |tup ys =>
    obtain⟨m,ws,rfl,a1,a2⟩:=r2.tup_inv;cases q2;obtain⟨its,_,pl,_⟩:=I.tuple a1;cases h;exact⟨RcAt.int_tuple a t0 pl hu0,EqAt.int_tuple a t0 pl hu0⟩
  |str a =>
   obtain⟨rfl,rfl⟩:=r1.str_inv;obtain⟨t0,rfl⟩:=q1;cases e with
   |dct _=>cases h
   |mpi _=>cases h
   |mpt _=>cases h
   |mpz _=>cases h
   |non=>obtain⟨rfl,rfl⟩:=r2.non_inv;cases q2;cases h;exact⟨RcAt.str_none a t0,EqAt.str_none a t0⟩
   |int i=>obtain⟨rfl,rfl⟩:=r2.int_inv;obtain⟨t,rfl⟩:=q2;cases h;exact⟨RcAt.str_int a t0 i t,EqAt.str_int a t0 i t⟩
   |str x=>obtain⟨rfl,rfl⟩:=r2.str_inv;obtain⟨t,rfl⟩:=q2;cases h;exact⟨RcAt.str_str a t0 x t,EqAt.str_str a t0 x t⟩
   |bl c=>obtain⟨rfl,rfl⟩:=r2.bl_inv;cases q2;cases h;exact⟨RcAt.str_bool a t0 c,EqAt.str_bool a t0 c⟩
   |lst ys =>
    obtain⟨m,ws,g,rfl,rfl,a1,a2⟩:=r2.lst_inv;cases q2;obtain⟨its,_,pl,_⟩:=I.list (.inl a1);cases h;exact⟨RcAt.str_list a t0 pl.isList hu0,EqAt.str_list a t0 pl.isList hu0⟩
   |tup ys =>
    obtain⟨m,ws,rfl,a1,a2⟩:=r2.tup_inv;cases q2;obtain⟨its,_,pl,_⟩:=I.tuple a1;cases h;exact⟨RcAt.str_tuple a t0 pl hu0,EqAt.str_tuple a t0 pl hu0⟩
  |lst xs =>
   obtain⟨l,vs,g,rfl,rfl,a1,a2⟩:=r1.lst_inv;cases q1;obtain⟨its,rv,pl,_⟩:=I.list (.inl a1);cases e with
   |dct _=>cases h
   |mpi _=>cases h
   |mpt _=>cases h
   |mpz _=>cases h
   |non=>obtain⟨rfl,rfl⟩:=r2.non_inv;cases q2;cases h;exact⟨RcAt.list_none pl.isList hu0,EqAt.list_none pl.isList hu0⟩
   |lst ys =>
    obtain⟨m,ws,g',rfl,rfl,b1,b2⟩:=r2.lst_inv;cases q2;obtain⟨its',rv',pl',_⟩:=I.list (.inl b1);have same:l=m->b=true:=fun z=>by
     subst z;have e0:=Rep.inj I r1 r2;rw[e0] at h;exact hZ _ _ _ h
    simp only[D.eqf] at h;by_cases hl:xs.length=ys.length
    ·rw[if_pos hl] at h;obtain⟨hz,ee,rfl,he⟩:=items a2 b2 rv rv' h;exact refs same (RcAt.lists pl.isList pl'.isList hz hu0 he)
    ·rw[if_neg hl] at h;cases h;have hz:(its.toArray.size != its'.toArray.size)=true:=by
      have l1:=a2.len;have l2:=b2.len;have l3:=rv.length;have l4:=rv'.length;simp only[bne_iff_ne,ne_eq,List.size_toArray];omega
     exact refs same (RcAt.lists_lengths pl.isList pl'.isList hz hu0)
   |bl c=>obtain⟨rfl,rfl⟩:=r2.bl_inv;cases q2;cases h;exact⟨RcAt.list_bool c pl.isList hu0,EqAt.list_bool c pl.isList hu0⟩
   |int c=>obtain⟨rfl,rfl⟩:=r2.int_inv;obtain⟨t,rfl⟩:=q2;cases h;exact⟨RcAt.list_int c t pl.isList hu0,EqAt.list_int c t pl.isList hu0⟩
   |str c=>obtain⟨rfl,rfl⟩:=r2.str_inv;obtain⟨t,rfl⟩:=q2;cases h;exact⟨RcAt.list_str c t pl.isList hu0,EqAt.list_str c t pl.isList hu0⟩
   |tup ys =>
    obtain⟨m,ws,rfl,b1,b2⟩:=r2.tup_inv;cases q2;obtain⟨its',rv',pl',_⟩:=I.tuple b1;cases h;exact⟨RcAt.list_tuple pl.isList pl' hu0,EqAt.list_tuple pl.isList pl' hu0⟩
  |tup xs =>
   obtain⟨l,vs,rfl,a1,a2⟩:=r1.tup_inv;cases q1;obtain⟨its,rv,pl,_⟩:=I.tuple a1;cases e with
   |dct _=>cases h
   |mpi _=>cases h
   |mpt _=>cases h
   |mpz _=>cases h
   |tup ys =>
    obtain⟨m,ws,rfl,b1,b2⟩:=r2.tup_inv;cases q2;obtain⟨its',rv',pl',_⟩:=I.tuple b1;have same:l=m->b=true:=fun z=>by
     subst z;have e0:=Rep.inj I r1 r2;rw[e0] at h;exact hZ _ _ _ h
    simp only[D.eqf] at h;by_cases hl:xs.length=ys.length
    ·rw[if_pos hl] at h;obtain⟨hz,ee,rfl,he⟩:=items a2 b2 rv rv' h;have q:=RcAt.tuples (e:=ee) pl pl' hu0 he;rw[<-hz,Nat.min_self,eh,Bool.and_true] at q;exact refs same q
    ·rw[if_neg hl] at h;cases h
   |non=>obtain⟨rfl,rfl⟩:=r2.non_inv;cases q2;cases h;exact⟨RcAt.tuple_none pl hu0,EqAt.tuple_none pl hu0⟩
   |bl c=>obtain⟨rfl,rfl⟩:=r2.bl_inv;cases q2;cases h;exact⟨RcAt.tuple_bool c pl hu0,EqAt.tuple_bool c pl hu0⟩
   |int c=>obtain⟨rfl,rfl⟩:=r2.int_inv;obtain⟨t,rfl⟩:=q2;cases h;exact⟨RcAt.tuple_int c t pl hu0,EqAt.tuple_int c t pl hu0⟩
   |str c=>obtain⟨rfl,rfl⟩:=r2.str_inv;obtain⟨t,rfl⟩:=q2;cases h;exact⟨RcAt.tuple_str c t pl hu0,EqAt.tuple_str c t pl hu0⟩
   |lst ys =>
    obtain⟨m,ws,g',rfl,rfl,b1,b2⟩:=r2.lst_inv;cases q2;obtain⟨its',rv',pl',_⟩:=I.list (.inl b1);cases h;exact⟨RcAt.tuple_list pl pl'.isList hu0,EqAt.tuple_list pl pl'.isList hu0⟩
end
end
section
open PySem.SeqAt
open PySem.AutoSeq1 (wpAny_loadPart')
open PySem.MeetsSeq PySem.MeetsSeq2 PySem.MeetsSeq3
theorem sf (A:Around)(s:Shared)(a:Int)(t:Tok)(c:Int)(u:Tok)(prog:Program)(w:World)(E:Value->Shared->Prop)(Q:Value->Shared->Prop)(h:Q (.bool (decide (a<=c))) s) :
  wpAny (model prog w) A (richCompare .LtE (.int a t) (.int c u)) Q E s :=
 (PyProof.Rows.le_int h:wpAny (model prog w) A (compareOp .LtE (.int a t) (.int c u)) Q E s)
noncomputable def rh (R:Result->Shared->Prop)(s0:Shared)(z1 z2:Nat)(rest:List (Value×Value)):Prop :=
 ∃(xs ys:List Value) (p q:List Int),rest=xs.zip ys/\IntsAre xs p/\IntsAre ys q/\p.length+z2=q.length+z1/\R (.ok (.ret (.bool (jQ p q)))) s0
theorem rh.turn {R:Result->Shared->Prop}{s0:Shared}{z1 z2:Nat}{y x:Value}{rest:List (Value×Value)}(h:rh R s0 z1 z2 ((y,x)::rest)):∃ a t c u,y = .int a t/\x = .int c u/\(a=c->rh R s0 z1 z2 rest)/\(a≠c->R (.ok (.ret (.bool (decide (a<=c))))) s0):=by
 obtain⟨xs,ys,p,q,hz,h1,h2,hl,hR⟩:=h;cases h1 with
 |nil=>rw[List.zip_nil_left] at hz;cases hz
 |cons a t h1'=>cases h2 with
  |nil=>rw[List.zip_nil_right] at hz;cases hz
  |cons c u h2' =>
   rw[gh] at hz;injection hz with e1 e2
   injection e1 with e3 e4
   refine⟨a,t,c,u,e3,e4,fun e=>?_,fun e=>?_⟩
   ·refine⟨_,_,_,_,e2,h1',h2',?_,?_⟩
    ·simp only[List.length_cons] at hl;omega
    ·unfold jQ at hR;rw[if_pos e] at hR;exact hR
   ·unfold jQ at hR;rw[if_neg e] at hR;exact hR
theorem rh.fin {R:Result->Shared->Prop}{s0:Shared}{z1 z2:Nat}(h:rh R s0 z1 z2 []):R (.ok (.ret (.bool (decide (z1<=z2))))) s0:=by
 obtain⟨xs,ys,p,q,hz,h1,h2,hl,hR⟩:=h;have e:jQ p q=decide (z1<=z2):=by
  cases h1 with
  |nil=>exact (decide_eq_true (by simp only[List.length_nil] at hl;omega)).symm
  |cons a t h1'=>cases h2 with
   |nil=>exact (decide_eq_false (by simp only[List.length_cons,List.length_nil] at hl;omega)).symm
   |cons c u h2'=>rw[gh] at hz;cases hz
 rw[<-e];exact hR
theorem le_meets (l b:Addr)(xs ys:Array Value)(n n2:Nat)(dd dd2:Option Addr)(sl sl2:Array (Option Value))(p q:List Int)(hp:IntsAre xs.toList p)(hq:IntsAre ys.toList q) :
  Meets (Builtin.«tuple.__le__» ⟨[.ref l,.ref b],[]⟩) (fun _ R s=>s.heap.get? l=some { cls:=.type "tuple",dict:=dd,data:=.seq xs n,slots:=sl }/\s.heap.get? b=some { cls:=.type "tuple",dict:=dd2,data:=.seq ys n2,slots:=sl2 }/\R (.ok (.ret (.bool (jQ p q)))) s) :=
 .of_wp fun prog w A R s h=>by
  obtain⟨hl,hb,h⟩:=h;have f2:=AutoSeq1.sub_tuple_tuple;have z1:xs.size=p.length:=by rw[<-hp.length];simp
  have z2:ys.size=q.length:=by rw[<-hq.length];simp
  obtain⟨hp',g,d,tk,os⟩:=s
  wp_walk using wpAny_loadPart' hl,wpAny_loadPart' hb,wpAny_forIn_list _ (fun rest b s'=>b.1=none/\s'=⟨hp',g,d,tk,os⟩/\rh R ⟨hp',g,d,tk,os⟩ xs.size ys.size rest) _
  case turn =>
   rintro⟨y,x⟩ rest b s' ⟨hb',rfl,hL⟩;obtain⟨a,t,c,u,rfl,rfl,k1,k2⟩:=hL.turn;obtain⟨e,he,hiff⟩:=HT.mW A.in1 ⟨hp',g,d,tk,os⟩ a t c u;refine wpAny_bind (he prog w _ _ ?_);cases e with
   |true =>
    have k:=k1 (hiff.mp rfl)
    wp_walk
    exact⟨rfl,rfl,k⟩
   |false =>
    have k:=k2 (fun q=>absurd (hiff.mpr q) ax);have hri:=sf A.in1 ⟨hp',g,d,tk,os⟩ a t c u prog w
    wp_walk using hri
    exact⟨_,rfl,by simpa using k⟩
  case fin =>
   rintro⟨b1,b2⟩ s' ⟨hb',rfl,hL⟩;simp only at hb';subst hb';have hR:=hL.fin
   wp_walk
   exact⟨_,rfl,by simpa[Builtin.Tuple.tupleCompareSizes] using hR⟩
  case h =>
   exact⟨rfl,rfl,xs.toList,ys.toList,p,q,rfl,hp,hq,by omega,h⟩
end
theorem wM {prog:Program}{w:World}{A:Around}{E:Value->Shared->Prop}{s:Shared}{l b:Addr}{xs ys:Array Value}{p q:List Int}{Q:Value->Shared->Prop}(hl:IsTup s.heap l xs)(hb:IsTup s.heap b ys)(hp:IntsAre xs.toList p)(hq:IntsAre ys.toList q)
  (hu:A.units<cLine) (h:Q (.bool (jQ p q)) s):wpAny (model prog w) A (compareOp .LtE (.ref l) (.ref b)) Q E s:=by
 obtain⟨⟨c1,d1,t1,sl1⟩,ho,hc,n,hd⟩:=id hl;obtain⟨⟨c2,d2,t2,sl2⟩,ho2,hc2,n2,hd2⟩:=id hb;cases hc;cases hd;cases hc2;cases hd2;exact richCompare_meets_room (op:=.LtE) ⟨_,ho,rfl⟩ ⟨_,ho2,rfl⟩ PySem.F.slot_tuple_le PySem.F.entry_tuple_le (PySem.F.args_tuple_le_2 _ _) (le_meets l b xs ys n n2 d1 d2 sl1 sl2 p q hp hq)
  ⟨ho,ho2,show Value.bool (jQ p q)≠Value.notImplemented/\Q (.bool (jQ p q)) s from ⟨(fun x=>nomatch x),h⟩⟩ hu
def lJ (A:Around)(s:Shared)(y x:Value)(b:Bool):Prop:=∀(prog:Program) (w:World) (E Q:Value->Shared->Prop),Q (.bool b) s->wpAny (model prog w) A (richCompare .Lt y x) Q E s
noncomputable def xI (A:Around)(s:Shared)(z:Bool):List (Value×Value)->Bool->Prop
 |[],b=>b=z
 |p::r,b=>∃ e,SeqAt.EqAt A.in1 s p.1 p.2 e/\(if e=true then xI A s z r b else lJ A.in1 s p.1 p.2 b)
section
open PySem.SeqAt
open PySem.AutoSeq1 (wpAny_loadPart')
open PySem.MeetsSeq PySem.MeetsSeq2 PySem.MeetsSeq3
theorem rE (l b:Addr)(xs ys:Array Value)(n n2:Nat)(dd dd2:Option Addr)(sl sl2:Array (Option Value))(c:Bool) :
  Meets (Builtin.«tuple.__lt__» ⟨[.ref l,.ref b],[]⟩) (fun A R s=>s.heap.get? l=some { cls:=.type "tuple",dict:=dd,data:=.seq xs n,slots:=sl }/\s.heap.get? b=some { cls:=.type "tuple",dict:=dd2,data:=.seq ys n2,slots:=sl2 }/\xI A s (decide (xs.size<ys.size)) (xs.toList.zip ys.toList) c/\R (.ok (.ret (.bool c))) s) :=
 .of_wp fun prog w A R s h=>by
  obtain⟨hl,hb,hc,h⟩:=h;have f2:=AutoSeq1.sub_tuple_tuple;obtain⟨hp',g,d,tk,os⟩:=s
  wp_walk using wpAny_loadPart' hl,wpAny_loadPart' hb,wpAny_forIn_list _ (fun rest b s'=>b.1=none/\s'=⟨hp',g,d,tk,os⟩/\xI A ⟨hp',g,d,tk,os⟩ (decide (xs.size<ys.size)) rest c) _
  case turn =>
   rintro⟨y,x⟩ rest b s' ⟨hb',rfl,hL⟩;obtain⟨e,he,hr⟩:=hL;refine wpAny_bind (he prog w _ _ ?_);cases e with
   |true =>
    rw[if_pos rfl] at hr
    wp_walk
    exact⟨rfl,rfl,hr⟩
   |false =>
    rw[if_neg ax] at hr;have hri:=hr prog w
    wp_walk using hri
    exact⟨_,rfl,h⟩
  case fin =>
   rintro⟨b1,b2⟩ s' ⟨hb',rfl,hL⟩;simp only at hb';subst hb';have hL:c=_:=hL;rw[hL] at h
   wp_walk
   exact⟨_,rfl,by simpa[Builtin.Tuple.tupleCompareSizes] using h⟩
  case h =>
   exact⟨rfl,rfl,hc⟩
theorem xx (l b:Addr)(xs ys:Array Value)(n n2:Nat)(dd dd2:Option Addr)(sl sl2:Array (Option Value))(c:Bool):∀(k i:Nat),min xs.size ys.size - i=k ->
  Meets (Builtin.«list.__eq__.loop» ⟨[.ref l,.ref b,rawInt (i:Int),rawInt 0],[]⟩) (fun A R s=>s.heap.get? l=some { cls:=.type "list",dict:=dd,data:=.seq xs n,slots:=sl }/\s.heap.get? b=some { cls:=.type "list",dict:=dd2,data:=.seq ys n2,slots:=sl2 }/\xI A s (decide (xs.size<ys.size)) ((xs.toList.zip ys.toList).drop i) c/\R (.ok (.ret (.bool c))) s):=by
 intro k
 induction k with
 |zero =>
  intro i hk prog w A R s h;obtain⟨hl,hb,hc,hR⟩:=h;have hz:(xs.toList.zip ys.toList).drop i=[]:=List.drop_eq_nil_of_le (by rw[List.length_zip,cn,cn];omega);rw[hz] at hc;have hc:c=_:=hc;have e12:xs[i]? = none\/ys[i]? = none:=by
   by_cases h1:i<xs.size
   ·right;rw[Array.getElem?_eq_none_iff];omega
   ·left;rw[Array.getElem?_eq_none_iff];omega
  unfold Builtin.«list.__eq__.loop»
  wp_walk using wpAny_loadPart' hl,wpAny_loadPart' hb
  rw[dw];rw[hc] at hR;have fin:∀(f:PySem.Fin) (s':Shared),f = .done (.ret (.bool (decide (xs.size<ys.size))))->s'=s->(match f with
   |.done f=>R (.ok f) s'
   |.again c'=>c'.quiet=true/\codeAny (model prog w) A c' R s'):=fun f s' e1 e2=>by subst e1 e2;exact hR
  rcases e12 with e | e
  ·rw[e]
   wp_walk using wpAny_loadPart' hl,wpAny_loadPart' hb
   exact hR
  ·rw[e];cases xs[i]?<;>(dsimp only;wp_walk using wpAny_loadPart' hl,wpAny_loadPart' hb;exact hR)
 |succ k ih =>
  intro i hk prog w A R s h;obtain⟨hl,hb,hc,hR⟩:=h;have hi1:i<xs.size:=by omega
  have hi2:i<ys.size:=by omega
  have hz:(xs.toList.zip ys.toList).drop i=(xs[i],ys[i])::(xs.toList.zip ys.toList).drop (i+1):=by
   rw[cw (by rw[List.length_zip,cn,cn];omega)];simp
  rw[hz] at hc;obtain⟨e,he,hr⟩:=hc;have e1:xs[i]? = some xs[i]:=by simp[hi1]
  have e2:ys[i]? = some ys[i]:=by simp[hi2]
  unfold Builtin.«list.__eq__.loop»
  wp_walk using wpAny_loadPart' hl,wpAny_loadPart' hb
  rw[dw,e1,e2];dsimp only;refine wpAny_bind (he prog w _ _ ?_);cases e with
  |true =>
   rw[if_pos rfl] at hr;rw[if_pos rfl];refine wpAny_pure ⟨plainId_quiet plain_eq_loop _,codeAny_builtin entry_eq_loop ?_⟩;rw[Around.under_plainId plain_eq_loop _];exact ih (i+1) (by omega) prog w A R s ⟨hl,hb,hr,hR⟩
  |false =>
   rw[if_neg ax] at hr;rw[if_neg ax];have hri:=hr prog w
   wp_walk using wpAny_loadPart' hl,wpAny_loadPart' hb
   rw[e1,e2];dsimp only
   wp_walk using hri
   exact hR
theorem qx (l b:Addr)(xs ys:Array Value)(n n2:Nat)(dd dd2:Option Addr)(sl sl2:Array (Option Value))(c:Bool) :
  Meets (Builtin.«list.__lt__» ⟨[.ref l,.ref b],[]⟩) (fun A R s=>s.heap.get? l=some { cls:=.type "list",dict:=dd,data:=.seq xs n,slots:=sl }/\s.heap.get? b=some { cls:=.type "list",dict:=dd2,data:=.seq ys n2,slots:=sl2 }/\xI A s (decide (xs.size<ys.size)) (xs.toList.zip ys.toList) c/\R (.ok (.ret (.bool c))) s):=by
 intro prog w A R s h;have h':=h;obtain⟨hl,hb,hc,hR⟩:=h;have f2:=AutoSeq1.sub_list_list;unfold Builtin.«list.__lt__»
 wp_walk using wpAny_loadPart' hl,wpAny_loadPart' hb
 refine⟨plainId_quiet plain_eq_loop _,codeAny_builtin entry_eq_loop ?_⟩;rw[Around.under_plainId plain_eq_loop _];exact xx l b xs ys n n2 dd dd2 sl sl2 c _ 0 rfl prog w A R s ⟨hl,hb,hc,hR⟩
theorem lJ.tuples {A:Around}{s:Shared}{l b:Addr}{xs ys:Array Value}{c:Bool}(hl:IsTup s.heap l xs)(hb:IsTup s.heap b ys)(hu:A.units<cLine)(h:xI A s (decide (xs.size<ys.size)) (xs.toList.zip ys.toList) c):lJ A s (.ref l) (.ref b) c:=by
 intro prog w E Q hQ;obtain⟨⟨c1,d1,t1,sl1⟩,ho,hc,n,hd⟩:=id hl;obtain⟨⟨c2,d2,t2,sl2⟩,ho2,hc2,n2,hd2⟩:=id hb;cases hc;cases hd;cases hc2;cases hd2;exact richCompare_meets_room (op:=.Lt) ⟨_,ho,rfl⟩ ⟨_,ho2,rfl⟩ PySem.F.slot_tuple_lt PySem.F.entry_tuple_lt (PySem.F.args_tuple_lt_2 _ _) (rE l b xs ys n n2 d1 d2 sl1 sl2 c)
  ⟨ho,ho2,h,show Value.bool c≠Value.notImplemented/\Q (.bool c) s from ⟨(fun x=>nomatch x),hQ⟩⟩ hu
theorem lJ.lists {A:Around}{s:Shared}{l b:Addr}{xs ys:Array Value}{c:Bool}(hl:s.heap.IsList l xs)(hb:s.heap.IsList b ys)(hu:A.units<cLine)(h:xI A s (decide (xs.size<ys.size)) (xs.toList.zip ys.toList) c):lJ A s (.ref l) (.ref b) c:=by
 intro prog w E Q hQ;obtain⟨⟨c1,d1,t1,sl1⟩,ho,hc,n,hd⟩:=id hl;obtain⟨⟨c2,d2,t2,sl2⟩,ho2,hc2,n2,hd2⟩:=id hb;cases hc;cases hd;cases hc2;cases hd2;exact richCompare_meets_room (op:=.Lt) ⟨_,ho,rfl⟩ ⟨_,ho2,rfl⟩ PySem.F.slot_list_lt PySem.F.entry_list_lt (PySem.F.args_list_lt_2 _ _) (qx l b xs ys n n2 d1 d2 sl1 sl2 c)
  ⟨ho,ho2,h,show Value.bool c≠Value.notImplemented/\Q (.bool c) s from ⟨(fun x=>nomatch x),hQ⟩⟩ hu
end
section
variable {X:Cx}{pins:List (Addr×Obj)}{σ:L2.St}{H:Hp}{s:Shared}
theorem om (I:Inv X pins σ H s){n:Nat}{A:Around}(hu1:A.in1.units+n<cLine)(ih:∀(d e:D) (v w:V) (G G':List Addr) (u u':Value) (b:Bool),Rep X.K H d v G->Rep X.K H e w G'->RelV v u->RelV w u'->D.ltf n d e=some b->lJ A.in1 s u u' b){z1 z2:Nat}{b:Bool} :
  ∀{xs ys:List D}{vs ws:List V}{G1 G2:List Addr}{its its':List Value},aG X.K H xs vs G1->aG X.K H ys ws G2->aJ vs its->aJ ws its'->xs.length+z2=ys.length+z1->xG (D.eqf n) (D.ltf n) xs ys=some b->xI A s (decide (z1<z2)) (its.zip its') b
 | [],[],_,_,_,_,_,_,a1,a2,b1,b2,hl,h=>by
  cases a1;cases a2;cases b1;cases b2;cases h;exact (decide_eq_false (by simp only[List.length_nil] at hl;omega)).symm
 | [],y::ys,_,_,_,_,_,_,a1,a2,b1,b2,hl,h=>by
  cases a1;cases b1;cases h;rw[List.zip_nil_left];exact (decide_eq_true (by simp only[List.length_nil,List.length_cons] at hl;omega)).symm
 | x::xs,[],_,_,_,_,_,_,a1,a2,b1,b2,hl,h=>by
  cases a2;cases b2;cases h;rw[List.zip_nil_right];exact (decide_eq_false (by simp only[List.length_nil,List.length_cons] at hl;omega)).symm
 | x::xs,y::ys,_,_,_,_,_,_,a1,a2,b1,b2,hl,h=>by
  unfold xG at h;obtain⟨e,h1,h2⟩:=ab.mp h;cases a1 with
  |cons p1 p2=>cases a2 with
   |cons r1 r2=>cases b1 with
    |cons t1 t2=>cases b2 with
     |cons q1 q2 =>
      refine⟨e,(pK I n A.in1 _ _ _ _ _ _ _ _ _ hu1 p1 r1 t1 q1 h1).2,?_⟩;cases e with
      |true =>
       rw[if_pos rfl] at h2 ⊢;exact om I hu1 ih p2 r2 t2 q2 (by simp only[List.length_cons] at hl;omega) h2
      |false =>
       rw[if_neg ax] at h2 ⊢;exact ih _ _ _ _ _ _ _ _ _ p1 r1 t1 q1 h2
theorem xH (I:Inv X pins σ H s):∀(n:Nat) (A:Around) (d e:D) (v w:V) (G G':List Addr) (u u':Value) (b:Bool),A.units+n<cLine->Rep X.K H d v G->Rep X.K H e w G'->RelV v u->RelV w u'->D.ltf n d e=some b->lJ A s u u' b
 |0,_,_,_,_,_,_,_,_,_,_,_,_,_,_,_,h=>by cases h
 | n+1,A,d,e,v,w,G,G',u,u',b,hu,r1,r2,q1,q2,h=>by
  have hu1:A.in1.units+n<cLine:=by show A.units+1+n<cLine;omega
  have hu0:A.units<cLine:=by omega
  have ih:=fun d e v w G G' u u' b=>xH I n A.in1 d e v w G G' u u' b hu1
  unfold D.ltf at h;split at h
  ·rename_i hn;cases hn;cases h;obtain⟨rfl,rfl⟩:=r1.int_inv;obtain⟨rfl,rfl⟩:=r2.int_inv;obtain⟨t,rfl⟩:=q1;obtain⟨t',rfl⟩:=q2;exact fun prog w E Q hQ=>HT.jG A s _ t _ t' prog w E Q hQ
  ·rename_i hn;cases hn;obtain⟨m,vs,rfl,a1,a2⟩:=r1.tup_inv;obtain⟨m',ws,rfl,c1,c2⟩:=r2.tup_inv;cases q1;cases q2;obtain⟨its,rv,pl,_⟩:=I.tuple a1;obtain⟨its',rv',pl',_⟩:=I.tuple c1;have l1:=a2.len;have l2:=c2.len;have l3:=rv.length;have l4:=rv'.length;exact lJ.tuples pl pl' hu0 (om I hu1 ih a2 c2 rv rv' (by rw[ae,ae];omega) h)
  ·rename_i hn;cases hn;obtain⟨m,vs,g,rfl,rfl,a1,a2⟩:=r1.lst_inv;obtain⟨m',ws,g',rfl,rfl,c1,c2⟩:=r2.lst_inv;cases q1;cases q2;obtain⟨its,rv,pl,_⟩:=I.list (.inl a1);obtain⟨its',rv',pl',_⟩:=I.list (.inl c1);have l1:=a2.len;have l2:=c2.len;have l3:=rv.length;have l4:=rv'.length;exact lJ.lists pl.isList pl'.isList hu0 (om I hu1 ih a2 c2 rv rv' (by rw[ae,ae];omega) h)
  ·cases h
end
section
variable {X:Cx}{pins:List (Addr×Obj)}{σ:L2.St}{H:Hp}{s:Shared}
open SeqAt in
theorem Cf (I:Inv X pins σ H s)(n:Nat)(A:Around)(d e:D)(v w:V)(G G':List Addr)(u u':Value)(b:Bool)(hu:A.units+n<cLine)(r1:Rep X.K H d v G)(r2:Rep X.K H e w G')(q1:RelV v u)(q2:RelV w u')(h:D.eqf n d e=some b):RcNeAt A s u u' (!b):=by
 cases n with
 |zero=>cases h
 |succ n =>
  have hu1:A.in1.units+n<cLine:=by show A.units+1+n<cLine;omega
  have hu0:A.units<cLine:=by omega
  have items:∀{xs ys:List D}{vs ws:List V}{G1 G2:List Addr}{its its':List Value}{c:Bool},aG X.K H xs vs G1->aG X.K H ys ws G2->aJ vs its->aJ ws its'->t9 (D.eqf n) xs ys=some c ->
    its.toArray.size=its'.toArray.size/\∃ ee:Nat->Bool,c=(List.range its.toArray.size).all ee/\∀ j (h1:j<its.toArray.size) (h2:j<its'.toArray.size),EqAt A.in1 s its.toArray[j] its'.toArray[j] (ee j):=by
   intro xs ys vs ws G1 G2 its its' c a1 a2 b1 b2 hc;obtain⟨hl,ee,he,rfl⟩:=fT hc;have l1:=a1.len;have l2:=a2.len;have l3:=b1.length;have l4:=b2.length;have sz:its.toArray.size=xs.length:=by rw[ae];omega
   refine⟨by rw[ae,ae];omega,ee,by rw[sz],fun j h1 h2=>?_⟩;have j1:j<xs.length:=by rw[<-sz];exact h1
   have j2:j<ys.length:=by omega
   obtain⟨v1,g1,e1,p1,_⟩:=a1.get (i:=j) (d:=xs[j]) (by simp[j1]);obtain⟨v2,g2,e2,p2,_⟩:=a2.get (i:=j) (d:=ys[j]) (by simp[j2]);obtain⟨u1,f1,t1⟩:=b1.get e1;obtain⟨u2,f2,t2⟩:=b2.get e2;have x1:its.toArray[j]=u1:=by
    have:=List.getElem?_eq_some_iff.mp f1;simpa using this.2
   have x2:its'.toArray[j]=u2:=by
    have:=List.getElem?_eq_some_iff.mp f2;simpa using this.2
   rw[x1,x2];exact (pK I n A.in1 _ _ _ _ _ _ _ _ _ hu1 p1 p2 t1 t2 (he j _ _ (by simp[j1]) (by simp[j2]))).2
  have lsti:∀{ys:List D}{w:V}{g:List Addr}{u:Value},Rep X.K H (.lst ys) w g->RelV w u->∃ m its vs g',u = .ref m/\s.heap.IsList m its.toArray/\aJ vs its/\aG X.K H ys vs g':=fun {ys w g u} r q=>by
   obtain⟨m,ws,g',rfl,rfl,a1,a2⟩:=r.lst_inv;cases q;obtain⟨its,rv,pl,_⟩:=I.list (.inl a1);exact⟨m,its,ws,g',rfl,pl.isList,rv,a2⟩
  have tupi:∀{ys:List D}{w:V}{g:List Addr}{u:Value},Rep X.K H (.tup ys) w g->RelV w u->∃ m its vs,u = .ref m/\s.heap.IsTuple m its.toArray/\aJ vs its/\aG X.K H ys vs g:=fun {ys w g u} r q=>by
   obtain⟨m,ws,rfl,a1,a2⟩:=r.tup_inv;cases q;obtain⟨its,rv,pl,_⟩:=I.tuple a1;exact⟨m,its,ws,rfl,pl,rv,a2⟩
  cases d with
  |dct _=>cases h
  |mpi _=>cases e<;>cases h
  |mpt _=>cases e<;>cases h
  |mpz _=>cases e<;>cases h
  |non =>
   obtain⟨rfl,rfl⟩:=r1.non_inv;cases q1;cases e with
   |dct _=>cases h
   |mpi _=>cases h
   |mpt _=>cases h
   |mpz _=>cases h
   |non=>obtain⟨rfl,rfl⟩:=r2.non_inv;cases q2;cases h;exact RcNeAt.none_none
   |bl c=>obtain⟨rfl,rfl⟩:=r2.bl_inv;cases q2;cases h;exact RcNeAt.none_bool c
   |int i=>obtain⟨rfl,rfl⟩:=r2.int_inv;obtain⟨t,rfl⟩:=q2;cases h;exact RcNeAt.none_int i t
   |str x=>obtain⟨rfl,rfl⟩:=r2.str_inv;obtain⟨t,rfl⟩:=q2;cases h;exact RcNeAt.none_str x t
   |lst ys=>obtain⟨m,its,vs,g',rfl,pl,_,_⟩:=lsti r2 q2;cases h;exact RcNeAt.none_list pl hu0
   |tup ys=>obtain⟨m,its,vs,rfl,pl,_,_⟩:=tupi r2 q2;cases h;exact RcNeAt.none_tuple pl hu0
  |bl a =>
   obtain⟨rfl,rfl⟩:=r1.bl_inv;cases q1;cases e with
   |dct _=>cases h
   |mpi _=>cases h
   |mpt _=>cases h
   |mpz _=>cases h
   |non=>obtain⟨rfl,rfl⟩:=r2.non_inv;cases q2;cases h;exact RcNeAt.bool_none a
   |bl c=>obtain⟨rfl,rfl⟩:=r2.bl_inv;cases q2;cases h;exact RcNeAt.bool_bool a c
   |int i=>obtain⟨rfl,rfl⟩:=r2.int_inv;obtain⟨t,rfl⟩:=q2;cases h;exact RcNeAt.bool_int a i t
   |str x=>obtain⟨rfl,rfl⟩:=r2.str_inv;obtain⟨t,rfl⟩:=q2;cases h;exact RcNeAt.bool_str a x t
   |lst ys=>obtain⟨m,its,vs,g',rfl,pl,_,_⟩:=lsti r2 q2;cases h;exact RcNeAt.bool_list a pl hu0
   |tup ys=>obtain⟨m,its,vs,rfl,pl,_,_⟩:=tupi r2 q2;cases h;exact RcNeAt.bool_tuple a pl hu0
  |int a =>
   obtain⟨rfl,rfl⟩:=r1.int_inv;obtain⟨t0,rfl⟩:=q1;cases e with
   |dct _=>cases h
   |mpi _=>cases h
   |mpt _=>cases h
   |mpz _=>cases h
   |non=>obtain⟨rfl,rfl⟩:=r2.non_inv;cases q2;cases h;exact RcNeAt.int_none a t0
   |bl c=>obtain⟨rfl,rfl⟩:=r2.bl_inv;cases q2;cases h;exact RcNeAt.int_bool a t0 c
   |int i=>obtain⟨rfl,rfl⟩:=r2.int_inv;obtain⟨t,rfl⟩:=q2;cases h;exact RcNeAt.int_int a t0 i t
   |str x=>obtain⟨rfl,rfl⟩:=r2.str_inv;obtain⟨t,rfl⟩:=q2;cases h;exact RcNeAt.int_str a t0 x t
   |lst ys=>obtain⟨m,its,vs,g',rfl,pl,_,_⟩:=lsti r2 q2;cases h;exact RcNeAt.int_list a t0 pl hu0
   |tup ys=>obtain⟨m,its,vs,rfl,pl,_,_⟩:=tupi r2 q2;cases h;exact RcNeAt.int_tuple a t0 pl hu0
  |str a =>
   obtain⟨rfl,rfl⟩:=r1.str_inv;obtain⟨t0,rfl⟩:=q1;cases e with
   |dct _=>cases h
   |mpi _=>cases h
   |mpt _=>cases h
   |mpz _=>cases h
   |non=>obtain⟨rfl,rfl⟩:=r2.non_inv;cases q2;cases h;exact RcNeAt.str_none a t0
   |bl c=>obtain⟨rfl,rfl⟩:=r2.bl_inv;cases q2;cases h;exact RcNeAt.str_bool a t0 c
   |int i=>obtain⟨rfl,rfl⟩:=r2.int_inv;obtain⟨t,rfl⟩:=q2;cases h;exact RcNeAt.str_int a t0 i t
   |str x=>obtain⟨rfl,rfl⟩:=r2.str_inv;obtain⟨t,rfl⟩:=q2;cases h;exact RcNeAt.str_str a t0 x t
   |lst ys=>obtain⟨m,its,vs,g',rfl,pl,_,_⟩:=lsti r2 q2;cases h;exact RcNeAt.str_list a t0 pl hu0
   |tup ys=>obtain⟨m,its,vs,rfl,pl,_,_⟩:=tupi r2 q2;cases h;exact RcNeAt.str_tuple a t0 pl hu0
  |lst xs =>
   obtain⟨l,its,vs,g1,rfl,pl,rv,a2⟩:=lsti r1 q1;cases e with
   |dct _=>cases h
   |mpi _=>cases h
   |mpt _=>cases h
   |mpz _=>cases h
   |non=>obtain⟨rfl,rfl⟩:=r2.non_inv;cases q2;cases h;exact RcNeAt.list_none pl hu0
   |bl c=>obtain⟨rfl,rfl⟩:=r2.bl_inv;cases q2;cases h;exact RcNeAt.list_bool c pl hu0
   |int c=>obtain⟨rfl,rfl⟩:=r2.int_inv;obtain⟨t,rfl⟩:=q2;cases h;exact RcNeAt.list_int c t pl hu0
   |str c=>obtain⟨rfl,rfl⟩:=r2.str_inv;obtain⟨t,rfl⟩:=q2;cases h;exact RcNeAt.list_str c t pl hu0
   |lst ys =>
    obtain⟨m,its',ws,g2,rfl,pl',rv',b2⟩:=lsti r2 q2;simp only[D.eqf] at h;by_cases hl:xs.length=ys.length
    ·rw[if_pos hl] at h;obtain⟨hz,ee,rfl,he⟩:=items a2 b2 rv rv' h;exact RcNeAt.lists pl pl' hz hu0 he
    ·rw[if_neg hl] at h;cases h;have hz:(its.toArray.size != its'.toArray.size)=true:=by
      have l1:=a2.len;have l2:=b2.len;have l3:=rv.length;have l4:=rv'.length;simp only[bne_iff_ne,ne_eq,List.size_toArray];omega
     exact RcNeAt.lists_lengths pl pl' hz hu0
   |tup ys=>obtain⟨m,its',ws,rfl,pl',_,_⟩:=tupi r2 q2;cases h;exact RcNeAt.list_tuple pl pl' hu0
  |tup xs =>
   obtain⟨l,its,vs,rfl,pl,rv,a2⟩:=tupi r1 q1;cases e with
   |dct _=>cases h
   |mpi _=>cases h
   |mpt _=>cases h
   |mpz _=>cases h
   |non=>obtain⟨rfl,rfl⟩:=r2.non_inv;cases q2;cases h;exact RcNeAt.tuple_none pl hu0
   |bl c=>obtain⟨rfl,rfl⟩:=r2.bl_inv;cases q2;cases h;exact RcNeAt.tuple_bool c pl hu0
   |int c=>obtain⟨rfl,rfl⟩:=r2.int_inv;obtain⟨t,rfl⟩:=q2;cases h;exact RcNeAt.tuple_int c t pl hu0
   |str c=>obtain⟨rfl,rfl⟩:=r2.str_inv;obtain⟨t,rfl⟩:=q2;cases h;exact RcNeAt.tuple_str c t pl hu0
   |lst ys=>obtain⟨m,its',ws,g2,rfl,pl',_,_⟩:=lsti r2 q2;cases h;exact RcNeAt.tuple_list pl pl' hu0
   |tup ys =>
    obtain⟨m,its',ws,rfl,pl',rv',b2⟩:=tupi r2 q2;simp only[D.eqf] at h;by_cases hl:xs.length=ys.length
    ·rw[if_pos hl] at h;obtain⟨hz,ee,rfl,he⟩:=items a2 b2 rv rv' h;have q:=RcNeAt.tuples (e:=ee) pl pl' hu0 he;rw[<-hz,Nat.min_self,eh,Bool.and_true] at q;exact q
    ·rw[if_neg hl] at h;cases h
end
section
variable {X:Cx}
theorem fW {K:Frag}{H:Hp}{d:D}{v:V}{G:List Addr}(h:Rep K H d v G)(s:d.eE=true):fY v=true:=by
 cases h<;>simp_all [D.eE,fY]
theorem eN {K:Frag}{H:Hp}:∀{ds:List D}{vs:List V}{G:List Addr},aG K H ds vs G->ds.all D.eE=true->vs.all fY=true
 |_,_,_,.nil,_=>rfl
 | _,_,_,.cons h r,s=>by
  simp only[List.all_cons,Bool.and_eq_true] at s ⊢;exact⟨fW h s.1,eN r s.2⟩
theorem wV {K:Frag}{H:Hp}{d e:D}{v w:V}{G G':List Addr}(h:Rep K H d v G)(h':Rep K H e w G')(s:d.eE=true)(s':e.eE=true):vi v w=D.eqs d e:=by
 cases h<;>cases h'<;>simp_all [D.eE,vi,D.eqs]
theorem jN {K:Frag}{H:Hp}{x:D}{w:V}{G0:List Addr}(hx:Rep K H x w G0)(sx:x.eE=true):∀{ds:List D}{vs:List V}{G:List Addr},aG K H ds vs G->ds.all D.eE=true->inV w vs=ds.any fun y=>D.eqs y x
 |_,_,_,.nil,_=>rfl
 | _,_,_,.cons h r,s=>by
  simp only[List.all_cons,Bool.and_eq_true] at s;have ih:=jN hx sx r s.2;unfold inV at ih ⊢;rw[ef,ef,ih,wV h hx s.1 sx]
theorem gN.any {K:Frag}{H:Hp}(n:Int):∀{q:List (Int×MV)}{x:List (Key×V)},gN K H q x->(x.any fun kv=>decide (kv.1=Sum.inl n))=q.any fun kv=>decide (kv.1=n)
 |[],[],_=>rfl
 | (k,m)::q,p::x,⟨a,_,c⟩=>by
  rw[ef,ef,c.any n,a];congr 1;exact decide_eq_decide.mpr ⟨fun e=>by injection e,fun e=>by rw[e]⟩
 |[],_::_,h=>h.elim
 |_::_,[],h=>h.elim
theorem gN.val {K:Frag}{H:Hp}(n:Int):∀{q:List (Int×MV)}{x:List (Key×V)}{e:Int×MV},gN K H q x->(q.find? fun kv=>decide (kv.1=n))=some e->∃ v,gT x (.inl n)=some v/\nM K H e.2 v
 |[],[],_,_,h=>by cases h
 | (k,m)::q,p::x,e,⟨a,b,c⟩,h=>by
  by_cases hk:k=n
  ·rw[List.find?_cons_of_pos (by simpa using hk)] at h;cases h;exact⟨p.2,hU (by rw[a,hk]),b⟩
  ·rw[List.find?_cons_of_neg (by simpa using hk)] at h;rw[ie (by rw[a];exact fun z=>hk (by injection z))];exact c.val n h
 |[],_::_,_,h,_=>h.elim
 |_::_,[],_,h,_=>h.elim
theorem lH {K:Frag}{H:Hp}:∀ ks:List Int,aG K H (ks.map D.int) (ks.map V.int) []
 |[]=>.nil
 |k::ks=>.cons (G:=[]) (G':=[]) (.int k) (lH ks)
theorem nM.rep {K:Frag}{H:Hp}:∀{m:MV}{v:V},nM K H m v->Rep K H (mvD m) v []
 |.tr,_,h=>by cases h;exact .bl true
 |.int i,_,h=>by cases h;exact .int i
 |.tup is,_,⟨b,e,h⟩=>by subst e;exact .tup h (lH is)
theorem jY:∀{a b:List Int},(a.map Sum.inl:List Key)=b.map Sum.inl->a=b
 |[],[],_=>rfl
 |[],_::_,e=>by simp at e
 |_::_,[],e=>by simp at e
 | x::xs,y::ys,e=>by
  rw[aq,aq] at e;injection e with e1 e2
  rw[Sum.inl.inj e1,jY e2]
theorem lZ (n:List Int):∀ ks:List (List Int),((lI ks).any fun kv=>decide (kv.1=n.map Sum.inl))=ks.contains n
 |[]=>rfl
 | k::ks=>by
  show (decide ((k.map Sum.inl:List Key)=n.map Sum.inl) || (lI ks).any fun kv=>decide (kv.1=n.map Sum.inl))=_;rw[lZ n ks,List.contains_cons];congr 1;by_cases e:k=n
  ·subst e;simp
  ·rw[aw (fun z=>e (jY z)),beq_eq_false_iff_ne.mpr (da e)]
theorem jm {K:Frag}{H:Hp}{i j:Int}{vs:List V}{G:List Addr}(h:aG K H [.int i,.int j] vs G):vs=[.int i,.int j]/\G=[]:=by
 cases h with
 |cons h r=>cases r with
  |cons h' r' =>
   cases r';obtain⟨rfl,rfl⟩:=h.int_inv;obtain⟨rfl,rfl⟩:=h'.int_inv;exact⟨rfl,rfl⟩
theorem tU {pins:List (Addr×Obj)}{σ:L2.St}{H:Hp}{s:Shared}{a:Addr}{ks:List Key}(I:Inv X pins σ H s)(h:g8 X.K H a (ks.map kV)):(tupleKind (aL X.prog X.w)).is s.heap ks a:=by
 obtain⟨its,r,⟨o,h1,h2,n,h3⟩,_⟩:=I.tuple h;exact⟨o,its.toArray,n,h1,h2,h3,by simpa using iK r⟩
noncomputable def vV:Option Int->V
 |none=>.non
 |some i=>.int i
theorem p8 {K:Frag}{H:Hp}:∀ z:Option Int,Rep K H (vOf z) (vV z) []
 |none=>.non
 |some i=>.int i
theorem r9 (q:Key×Option Int)(kvs:List (Key×Option Int))(k:Key):o5 (q::kvs) k=if q.1=k then some q.2 else o5 kvs k:=by
 unfold o5;rw[List.find?_cons];by_cases h:q.1=k
 ·rw[bf h,if_pos h];rfl
 ·rw[aw h,if_neg h]
theorem lM (q:Key×Value)(kvs:List (Key×Value))(k:Key):valueAt (q::kvs) k=if q.1=k then some q.2 else valueAt kvs k:=by
 unfold valueAt;rw[List.find?_cons];by_cases h:q.1=k
 ·rw[bf h,if_pos h];rfl
 ·rw[aw h,if_neg h]
theorem fM.pairs {P:Program}{w:World}:∀{es:List DictEntry}{kvs:List (Key×Option Int)},fM es kvs->(∀ e∈es,∀ s t,e.key = .str s t->e.hash=hashStr w s)->∃ vs:List (Key×Value),Pairs (aL P w) es vs/\vs.map (·.1)=kvs.map (·.1) /\
  (∀ k,(∀ z,o5 kvs k=some z->∃ u,RelV (vV z) u/\valueAt vs k=some u)/\(valueAt vs k).isSome=(o5 kvs k).isSome)/\(∀ e∈es,∃ k,(aL P w).is k e.key=true/\e.hash=(aL P w).hash k):=by
 have step:∀{e:DictEntry}{es:List DictEntry}{k:Key}{z:Option Int}{kvs:List (Key×Option Int)}{u:Value},(aL P w).is k e.key=true->e.hash=(aL P w).hash k->e.val=u->RelV (vV z) u ->
   (∃ vs:List (Key×Value),Pairs (aL P w) es vs/\vs.map (·.1)=kvs.map (·.1)/\(∀ k,(∀ z,o5 kvs k=some z->∃ u,RelV (vV z) u/\valueAt vs k=some u)/\(valueAt vs k).isSome=(o5 kvs k).isSome)/\(∀ e∈es,∃ k,(aL P w).is k e.key=true/\e.hash=(aL P w).hash k)) ->
   ∃ vs:List (Key×Value),Pairs (aL P w) (e::es) vs/\vs.map (·.1)=((k,z)::kvs).map (·.1)/\(∀ k',(∀ z',o5 ((k,z)::kvs) k'=some z'->∃ u,RelV (vV z') u/\valueAt vs k'=some u)/\(valueAt vs k').isSome=(o5 ((k,z)::kvs) k').isSome)/\(∀ e'∈e::es,∃ k,(aL P w).is k e'.key=true/\e'.hash=(aL P w).hash k):=by
  intro e es k z kvs u hk hh hv hr ⟨vs,p1,p2,p3,p4⟩;refine⟨(k,u)::vs,.cons hk hv p1,by rw[aq,aq,p2],fun k'=>?_,fun e' he=>?_⟩
  ·rw[r9,lM];by_cases h:k=k'
   ·rw[if_pos h,if_pos h];exact⟨fun z' q=>by cases q;exact⟨u,hr,rfl⟩,rfl⟩
   ·rw[if_neg h,if_neg h];exact p3 k'
  ·rcases dz.mp he with rfl | he
   ·exact⟨k,hk,hh⟩
   ·exact p4 e' he
 intro es kvs h
 induction h with
 |nil=>exact fun _=>⟨[],.nil,rfl,fun k=>⟨fun z h=>(by cases h),rfl⟩,fun _ h=>(nomatch h)⟩
 |@cons e es k v kvs t u hh hk hv r ih=>exact fun hs=>step (by rw[hk];exact dD P w k t) hh hv ⟨u,rfl⟩ (ih fun e he=>hs e (ah _ he))
 |@si e es k v kvs t u hk hv r ih=>exact fun hs=>step (by rw[hk];exact cL P w k t) (hs e ai k t hk) hv ⟨u,rfl⟩ (ih fun e he=>hs e (ah _ he))
 |@sn e es k kvs t hk hv r ih=>exact fun hs=>step (by rw[hk];exact cL P w k t) (hs e ai k t hk) hv (show RelV .non .none from rfl) (ih fun e he=>hs e (ah _ he))
theorem n6 {pins:List (Addr×Obj)}{σ:L2.St}{H:Hp}{s:Shared}(hx:uV X.w X.K)(I:Inv X pins σ H s){p:Addr}{kvs:List (Key×Option Int)}(h:oT X.K p kvs):∃ vs,s.heap.DictOf (aL X.prog X.w) p vs /\
  (∀ k,(∀ z,o5 kvs k=some z->∃ u,RelV (vV z) u/\valueAt vs k=some u)/\(valueAt vs k).isSome=(o5 kvs k).isSome)/\(∀ z v r,kvs=(.inr z,v)::r->(p==sysModules)=false):=by
 obtain⟨o,es,ep,h1,h2,h3,h4,h5⟩:=h;obtain⟨vs,p1,p2,p3,p4⟩:=h4.pairs (P:=X.prog) (w:=X.w) fun e he s t q=>(hx p o es ep h1 h3 kvs h4 e he s t q).2
 refine⟨vs,⟨o,es,ep,I.kIn _ o h1,h2,h3,fun e he=>p4 e (by simpa using he),p1,by rw[p2];exact h5⟩,p3,fun z v r q=>?_⟩;subst q;cases hl:es.toList with
 |nil=>rw[hl] at h4;cases h4
 |cons e l =>
  have hm:e∈es.toList:=by rw[hl];exact ai
  have hk:∃ t,e.key = .str z t:=by
   rw[hl] at h4;cases h4 with
   |si hk hv r=>exact⟨_,hk⟩
   |sn hk hv r=>exact⟨_,hk⟩
  obtain⟨t,hk⟩:=hk;exact (hx p o es ep h1 h3 _ h4 e hm z t hk).1
theorem uM {A:Around}{E:Value->Shared->Prop}{pins:List (Addr×Obj)}{σ:L2.St}{H:Hp}{s:Shared}{d1:D}{kvs:List (Key×Option Int)}{x y:V}{v u:Value}{G1 G2:List Addr}{b:Bool}{Q:Value->Shared->Prop}(hx:uV X.w X.K)(I:Inv X pins σ H s)(r1:Rep X.K H d1 x G1)(r2:Rep X.K H (.dct kvs) y G2)(rx:RelV x v)(ry:RelV y u)(hb:inD d1 (.dct kvs)=some b) :
  ((∀ s',Inv X pins σ H s'->Q (.bool b) s')->wpAny (model X.prog X.w) A (compareOp .In v u) Q E s)/\((∀ s',Inv X pins σ H s'->Q (.bool (!b)) s')->wpAny (model X.prog X.w) A (compareOp .NotIn v u) Q E s):=by
 cases r2 with
 |@dct p _ hp =>
  match kvs,hb,hp with
  | (.inr z,q)::r,hb,hp =>
   cases d1 with
   |str w =>
    cases hb;obtain⟨rfl,rfl⟩:=r1.str_inv;cases ry;obtain⟨t,rfl⟩:=rx;obtain⟨vs,dd,p3,p5⟩:=n6 hx I hp;have e:=(p3 (.inr w)).2;refine⟨fun h=>wpAny_in_of (cL X.prog X.w w t) (p5 z q r rfl) dd.mapOf ?_,fun h=>wpAny_notIn_of (cL X.prog X.w w t) (p5 z q r rfl) dd.mapOf ?_⟩
    ·rw[e];exact h _ (I.tok _)
    ·rw[e];exact h _ (I.tok _)
   |_=>cases hb
noncomputable def isMp:D->Bool
 |.mpi _=>true
 |.mpt _=>true
 |.mpz _=>true
 |_=>false
theorem gM {A:Around}{E:Value->Shared->Prop}{pins:List (Addr×Obj)}{σ:L2.St}{H:Hp}{s:Shared}{d1 d2:D}{x y:V}{v u:Value}{G1 G2:List Addr}{b:Bool}{Q:Value->Shared->Prop}(hu:A.units+1<cLine)(I:Inv X pins σ H s)(r1:Rep X.K H d1 x G1)(r2:Rep X.K H d2 y G2)(rx:RelV x v)(ry:RelV y u)(hm:isMp d2=true)(hb:inD d1 d2=some b) :
  ((∀ s',Inv X pins σ H s'->Q (.bool b) s')->wpAny (model X.prog X.w) A (compareOp .In v u) Q E s)/\((∀ s',Inv X pins σ H s'->Q (.bool (!b)) s')->wpAny (model X.prog X.w) A (compareOp .NotIn v u) Q E s):=by
 cases r2 with
 |@mpi p ks xs hr kr =>
  have inv:(∃ k,d1 = .int k/\b=ks.any fun q=>decide (q.1=k))\/∃ i j,d1 = .tup [.int i,.int j]/\ks=[]/\b=false:=by
   simp only[inD] at hb;split at hb
   ·cases hb;exact .inl ⟨_,rfl,rfl⟩
   ·split at hb
    ·rename_i he;cases hb;exact .inr ⟨_,_,rfl,List.isEmpty_iff.mp he,rfl⟩
    ·cases hb
   ·cases hb
  rcases inv with ⟨k,rfl,rfl⟩ | ⟨i,j,rfl,rfl,rfl⟩
  ·obtain⟨rfl,rfl⟩:=r1.int_inv;obtain rfl:u = .ref p:=ry;have g:vO H p (.int k) (gT xs (.inl k)):=.inl ⟨xs,.inl k,.inl hr,rfl,rfl⟩;have e:(gT xs (.inl k)).isSome=ks.any fun q=>decide (q.1=k):=by rw[<-fQ,kr.any]
   exact⟨fun h=>Cj hu I g rx (by rw[e];exact h),fun h=>qm hu I g rx (by rw[e];exact h)⟩
  ·obtain⟨q,vs,rfl,a1,a2⟩:=r1.tup_inv;obtain⟨rfl,rfl⟩:=jm a2;obtain rfl:u = .ref p:=ry;obtain rfl:v = .ref q:=rx;cases xs with
   |cons _ _=>exact kr.elim
   |nil =>
   obtain⟨z,hd,vs,rel,o,es,ep,h1,h2,h3,h4,h5,h6⟩:=i0 I.hok (.inl hr);cases rel;have hes:es.toList=[]:=by
    cases q:es.toList with
    |nil=>rfl
    |cons x r=>rw[q] at h5;cases h5
   have dd:s.heap.DictOfH (tupleKind (aL X.prog X.w)) p []:=⟨o,es,ep,h1,h2,h3,hes,fun x hx=>(nomatch hx),bu⟩;have ky:(tupleKind (aL X.prog X.w)).is s.heap ([i,j].map Sum.inl) q:=tU I a1;exact⟨fun h=>wpAny_in_heap (tupleKind_room_in1 hu) ky hd dd (h _ (I.tok _)),fun h=>wpAny_notIn_heap (tupleKind_room_in1 hu) ky hd dd (h _ (I.tok _))⟩
 |@mpz p ks xs ob hr kr =>
  have inv:∃ k,d1 = .int k/\b=ks.any fun q=>decide (q.1=k):=by
   simp only[inD] at hb;split at hb
   ·cases hb;exact⟨_,rfl,rfl⟩
   ·cases hb
  obtain⟨k,rfl,rfl⟩:=inv;obtain⟨rfl,rfl⟩:=r1.int_inv;obtain rfl:u = .ref p:=ry;have g:vO H p (.int k) (gT xs (.inl k)):=.inl ⟨xs,.inl k,.inr ⟨_,hr⟩,rfl,rfl⟩;have e:(gT xs (.inl k)).isSome=ks.any fun q=>decide (q.1=k):=by rw[<-fQ,kr.any]
  exact⟨fun h=>Cj hu I g rx (by rw[e];exact h),fun h=>qm hu I g rx (by rw[e];exact h)⟩
 |@mpt p ks hr =>
  have inv:∃ i j,d1 = .tup [.int i,.int j]/\b=ks.contains [i,j]:=by
   simp only[inD] at hb;split at hb
   ·cases hb;exact⟨_,_,rfl,rfl⟩
   ·cases hb
  obtain⟨i,j,rfl,rfl⟩:=inv;obtain⟨q,vs,rfl,a1,a2⟩:=r1.tup_inv;obtain⟨rfl,rfl⟩:=jm a2;obtain rfl:u = .ref p:=ry;obtain rfl:v = .ref q:=rx;obtain⟨z,hd,xs,rel,dd⟩:=nk I.hok hr;have ky:(tupleKind (aL X.prog X.w)).is s.heap ([i,j].map Sum.inl) q:=tU I a1;have e:ks.contains [i,j]=((atKey xs ([i,j].map Sum.inl))).isSome:=by
   have e1:=(rel.val ([i,j].map Sum.inl)).isSome_eq;rw[gj] at e1;rw[<-e1,<-fQ,lZ]
  refine⟨fun h=>wpAny_in_heap (tupleKind_room_in1 hu) ky hd dd ?_,fun h=>wpAny_notIn_heap (tupleKind_room_in1 hu) ky hd dd ?_⟩
  ·rw[<-e];exact h _ (I.tok _)
  ·rw[<-e];exact h _ (I.tok _)
 |_=>cases hm
theorem eP:∀{xs:List D}{k:List Int},fB xs=some k->xs=k.map D.int
 |[],k,h=>by cases h;rfl
 | .int i::r,k,h=>by
  have h:(fB r).map (i :: ·)=some k:=h;rw[aa] at h;obtain⟨k',h1,rfl⟩:=h;rw[eP h1];rfl
theorem iA {K:Frag}{H:Hp}:∀{ns:List Int}{vs:List V}{G:List Addr}{us:List Value},aG K H (ns.map D.int) vs G->aJ vs us->IntsAre us ns
 |[],_,_,_,.nil,.nil=>.nil
 | n::ns,_,_,_,.cons h r,.cons x y=>by
  obtain⟨rfl,_⟩:=h.int_inv;obtain⟨t,rfl⟩:=x;exact .cons _ _ (iA r y)
theorem gJ (op:CmpOp)(hx:X.A.units+40<cLine/\uV X.w X.K):eU X (compareOp op) (rA X.K fun x y=>(gO op x y).map .bl):=by
 have hu:=hx.1;intro pins s σ H x y v u Q I rx ry h;obtain⟨d1,d2,d,G,rs,hd,k⟩:=h;obtain⟨G1,G2,r1,r2,rfl⟩:=rs.inv2;rw[aa] at hd;obtain⟨b,hb,rfl⟩:=hd;have fin:Q (.bl b) H:=k _ H [] (.bl b) eY.nil;have ep:∀ c,c=b->EP X pins σ Q (.bool c) s:=fun c e=>⟨.bl b,H,I,by rw[e];rfl,fin⟩
 have onInts:∀{f:Int->Int->Bool},(∀ i j,gO op (.int i) (.int j)=some (f i j))->(∀ d1 d2,(∀ i j,¬ (d1 = .int i/\d2 = .int j))->gO op d1 d2=none)->eU X (compareOp op) (rO fun i j=>.bl (f i j))->wpAny (model X.prog X.w) X.A (compareOp op v u) (EP X pins σ Q) X.xe s:=by
  intro f h1 h2 ho;by_cases hi:∃ i j,d1 = .int i/\d2 = .int j
  ·obtain⟨i,j,rfl,rfl⟩:=hi;rw[h1] at hb;cases hb;obtain⟨rfl,rfl⟩:=r1.int_inv;obtain⟨rfl,rfl⟩:=r2.int_inv;exact ho pins s σ H _ _ v u Q I rx ry ⟨i,j,rfl,rfl,fin⟩
  ·rw[h2 d1 d2 fun i j z=>hi ⟨i,j,z⟩] at hb;cases hb
 have nope:∀(op:CmpOp),(op = .Gt\/op = .GtE)->∀ d1 d2:D,(∀ i j,¬ (d1 = .int i/\d2 = .int j))->gO op d1 d2=none:=by
  intro op ho d1 d2 hn;cases d1 with
  |int i =>
   cases d2 with
   |int j=>exact absurd ⟨rfl,rfl⟩ (hn i j)
   |_=>rcases ho with rfl | rfl<;>rfl
  |_=>rcases ho with rfl | rfl<;>cases d2<;>rfl
 cases op with
 |Lt =>
  cases d1 with
  |int i =>
   cases d2 with
   |int j =>
    cases hb;obtain⟨rfl,rfl⟩:=r1.int_inv;obtain⟨rfl,rfl⟩:=r2.int_inv;exact BY pins s σ H _ _ v u Q I rx ry ⟨i,j,rfl,rfl,fin⟩
   |_=>cases hb
  |tup xs =>
   cases d2 with
   |tup ys=>exact xH I 39 X.A _ _ _ _ _ _ _ _ _ (by omega) r1 r2 rx ry hb _ _ _ _ (ep _ rfl)
   |_=>cases hb
  |_=>cases d2<;>cases hb
 |LtE =>
  cases d1 with
  |int i =>
   cases d2 with
   |int j =>
    cases hb;obtain⟨rfl,rfl⟩:=r1.int_inv;obtain⟨rfl,rfl⟩:=r2.int_inv;exact Cs pins s σ H _ _ v u Q I rx ry ⟨i,j,rfl,rfl,fin⟩
   |_=>cases hb
  |tup xs =>
   cases d2 with
   |tup ys =>
    have hb:((fB xs).bind fun a=>(fB ys).map fun b=>jQ a b)=some b:=hb;rw[ab] at hb;obtain⟨ks,h1,hb⟩:=hb;rw[aa] at hb;obtain⟨ls,h2,rfl⟩:=hb;obtain rfl:=eP h1;obtain rfl:=eP h2;obtain⟨p,vs,rfl,a1,a2⟩:=r1.tup_inv;obtain⟨q,ws,rfl,b1,b2⟩:=r2.tup_inv;cases rx;cases ry;obtain⟨its,rv,p1,_⟩:=I.tuple a1;obtain⟨its2,rv2,p2,_⟩:=I.tuple b1;exact wM p1 p2 (iA a2 (by simpa using rv)) (iA b2 (by simpa using rv2)) (by omega) (ep _ rfl)
   |_=>cases hb
  |_=>cases d2<;>cases hb
 |Gt=>exact onInts (fun _ _=>rfl) (nope .Gt (.inl rfl)) AO
 |GtE=>exact onInts (fun _ _=>rfl) (nope .GtE (.inr rfl)) AL
 |Eq =>
  have hb:D.eqf 40 d1 d2=some b:=by cases d1<;>cases d2<;>exact hb
  exact (pK I 40 X.A d1 d2 x y G1 G2 v u b hu r1 r2 rx ry hb).1 _ _ _ _ (ep b rfl)
 |NotEq =>
  have hb:(D.eqf 40 d1 d2).map (!·)=some b:=by cases d1<;>cases d2<;>exact hb
  rw[aa] at hb;obtain⟨c,hc,rfl⟩:=hb;exact Cf I 40 X.A d1 d2 x y G1 G2 v u c hu r1 r2 rx ry hc _ _ _ _ (ep _ rfl)
 |Is =>
  cases d2 with
  |non =>
   obtain⟨rfl,rfl⟩:=r2.non_inv;refine Ae pins s σ H _ _ v u Q I rx ry ⟨rfl,?_⟩;have:decide (x=V.non)=b:=by
    cases r1<;>simp_all [gO,o6]
   rw[this];exact fin
  |bl c =>
   cases d1 with
   |bl a =>
    cases hb;obtain⟨rfl,rfl⟩:=r1.bl_inv;obtain⟨rfl,rfl⟩:=r2.bl_inv;cases rx;cases ry;exact wpAny_is_plain rfl (ep _ (by cases a<;>cases c<;>rfl))
   |_=>cases hb
  |_=>cases d1<;>cases hb
 |IsNot =>
  cases d2 with
  |non =>
   obtain⟨rfl,rfl⟩:=r2.non_inv;refine vX pins s σ H _ _ v u Q I rx ry ⟨rfl,?_⟩;have:(!decide (x=V.non))=b:=by
    cases r1<;>simp_all [gO,o6]
   rw[this];exact fin
  |bl c =>
   cases d1 with
   |bl a =>
    cases hb;obtain⟨rfl,rfl⟩:=r1.bl_inv;obtain⟨rfl,rfl⟩:=r2.bl_inv;cases rx;cases ry;exact wpAny_isNot_plain rfl (ep _ (by cases a<;>cases c<;>rfl))
   |_=>cases hb
  |_=>cases d1<;>cases hb
 |In =>
  have hb:inD d1 d2=some b:=by cases d1<;>cases d2<;>exact hb
  cases d2 with
  |lst ys =>
   simp only[inD] at hb;by_cases hc:(d1.eE&&ys.all D.eE)=true
   ·rw[if_pos hc] at hb;cases hb;rw[ak] at hc;obtain⟨p,vs,g,rfl,rfl,a1,a2⟩:=r2.lst_inv;refine lF pins s σ H _ _ v u Q I rx ry ⟨p,vs,rfl,.inl (.inl a1),fW r1 hc.1,eN a2 hc.2,?_⟩;rw[jN r1 hc.1 a2 hc.2];exact fin
   ·rw[if_neg hc] at hb;cases hb
  |tup ys =>
   simp only[inD] at hb;by_cases hc:(d1.eE&&ys.all D.eE)=true
   ·rw[if_pos hc] at hb;cases hb;rw[ak] at hc;obtain⟨p,vs,rfl,a1,a2⟩:=r2.tup_inv;refine lF pins s σ H _ _ v u Q I rx ry ⟨p,vs,rfl,.inr a1,fW r1 hc.1,eN a2 hc.2,?_⟩;rw[jN r1 hc.1 a2 hc.2];exact fin
   ·rw[if_neg hc] at hb;cases hb
  |str z =>
   cases d1 with
   |str w =>
    cases hb;obtain⟨rfl,rfl⟩:=r1.str_inv;obtain⟨rfl,rfl⟩:=r2.str_inv;exact qS pins s σ H _ _ v u Q I rx ry ⟨w,z,rfl,rfl,fin⟩
   |_=>cases hb
  |mpi ks=>exact (gM (by omega) I r1 r2 rx ry rfl hb).1 fun s' I'=>⟨.bl b,H,I',rfl,fin⟩
  |dct kvs=>exact (uM hx.2 I r1 r2 rx ry hb).1 fun s' I'=>⟨.bl b,H,I',rfl,fin⟩
  |mpt ks=>exact (gM (by omega) I r1 r2 rx ry rfl hb).1 fun s' I'=>⟨.bl b,H,I',rfl,fin⟩
  |mpz ks=>exact (gM (by omega) I r1 r2 rx ry rfl hb).1 fun s' I'=>⟨.bl b,H,I',rfl,fin⟩
  |_=>cases hb
 |NotIn =>
  have hb:(inD d1 d2).map (!·)=some b:=by cases d1<;>cases d2<;>exact hb
  rw[aa] at hb;obtain⟨c,hi,rfl⟩:=hb;clear hb;cases d2 with
  |lst ys =>
   simp only[inD] at hi;by_cases hc:(d1.eE&&ys.all D.eE)=true
   ·rw[if_pos hc] at hi;cases hi;rw[ak] at hc;obtain⟨p,vs,g,rfl,rfl,a1,a2⟩:=r2.lst_inv;refine ik pins s σ H _ _ v u Q I rx ry ⟨p,vs,rfl,.inl (.inl a1),fW r1 hc.1,eN a2 hc.2,?_⟩;rw[jN r1 hc.1 a2 hc.2];exact fin
   ·rw[if_neg hc] at hi;cases hi
  |tup ys =>
   simp only[inD] at hi;by_cases hc:(d1.eE&&ys.all D.eE)=true
   ·rw[if_pos hc] at hi;cases hi;rw[ak] at hc;obtain⟨p,vs,rfl,a1,a2⟩:=r2.tup_inv;refine ik pins s σ H _ _ v u Q I rx ry ⟨p,vs,rfl,.inr a1,fW r1 hc.1,eN a2 hc.2,?_⟩;rw[jN r1 hc.1 a2 hc.2];exact fin
   ·rw[if_neg hc] at hi;cases hi
  |str z =>
   cases d1 with
   |str w =>
    cases hi;obtain⟨rfl,rfl⟩:=r1.str_inv;obtain⟨rfl,rfl⟩:=r2.str_inv;exact lU pins s σ H _ _ v u Q I rx ry ⟨w,z,rfl,rfl,fin⟩
   |_=>cases hi
  |mpi ks=>exact (gM (by omega) I r1 r2 rx ry rfl hi).2 fun s' I'=>⟨.bl _,H,I',rfl,fin⟩
  |dct kvs=>exact (uM hx.2 I r1 r2 rx ry hi).2 fun s' I'=>⟨.bl _,H,I',rfl,fin⟩
  |mpt ks=>exact (gM (by omega) I r1 r2 rx ry rfl hi).2 fun s' I'=>⟨.bl _,H,I',rfl,fin⟩
  |mpz ks=>exact (gM (by omega) I r1 r2 rx ry rfl hi).2 fun s' I'=>⟨.bl _,H,I',rfl,fin⟩
  |_=>cases hi
theorem yH (n:Nat)(i:Int):Pc.g9 n i=L2.g9 n i:=rfl
theorem wD (hx:uV X.w X.K):AD X (BI X.K):=by
 intro value slice pins s σ H x y v u Q I rx ry h hs;obtain⟨d1,d2,d,G,rs,hd,k⟩:=h;obtain⟨G1,G2,r1,r2,rfl⟩:=rs.inv2;cases d2 with
 |int i =>
  obtain⟨rfl,rfl⟩:=r2.int_inv;rw[ay] at k;have seq:∀{xs:List D}{vs:List V}{g:List Addr},aG X.K H xs vs g->((g9 xs.length i).bind fun j=>xs[j]?)=some d->∃ w g',zH vs i=some w/\Rep X.K H d w g'/\g'.Sublist g:=fun {xs vs g} r e=>by
   rw[ab] at e;obtain⟨j,e1,e2⟩:=e;obtain⟨w,g',a,b,c⟩:=r.get e2;refine⟨w,g',?_,b,c⟩;unfold zH;rw[<-r.len,<-yH,e1];exact a
  cases d1 with
  |lst xs =>
   obtain⟨p,vs,g,rfl,rfl,a1,a2⟩:=r1.lst_inv;obtain⟨w,g',e1,e2,e3⟩:=seq a2 hd;exact vk value slice pins s σ H _ _ v u Q I rx ry ⟨p,vs,i,w,rfl,rfl,.inl a1,e1,k w g' e2 (e3.trans (List.sublist_cons_self _ _))⟩ hs
  |tup xs =>
   obtain⟨p,vs,rfl,a1,a2⟩:=r1.tup_inv;obtain⟨w,g',e1,e2,e3⟩:=seq a2 hd;exact zT value slice pins s σ H _ _ v u Q I rx ry ⟨p,vs,i,w,rfl,rfl,a1,e1,k w g' e2 e3⟩ hs
  |str z =>
   obtain⟨rfl,rfl⟩:=r1.str_inv;simp only[pq] at hd;by_cases hl:z.length<=lim
   ·rw[if_pos hl,aa] at hd;obtain⟨c,hc,rfl⟩:=hd;exact z8 value slice pins s σ H _ _ v u Q I rx ry ⟨z,i,c,rfl,rfl,eJ hl,hc,k _ [] (.str _) (f7 _)⟩ hs
   ·rw[if_neg hl] at hd;cases hd
  |dct kvs =>
   cases r1 with
   |dct hp =>
    simp only[pq] at hd;rw[aa] at hd;obtain⟨z,hz,rfl⟩:=hd;cases rx;obtain⟨t,rfl⟩:=ry;obtain⟨vs,dd,p3,_⟩:=n6 hx I hp;obtain⟨u',ru,hu⟩:=(p3 (.inl i)).1 z hz;have fin:EP X pins σ Q u' { s with toks:=s.toks+1 }:=⟨vV z,H,I.tok _,ru,k _ [] (p8 z) (f7 _)⟩;exact subscriptTail_builtinR (x:=u') dd.mapOf.typeIs slot_dict_getitem.lookup (wpAny_getItem_of (Q:=fun r s'=>r=u'/\EP X pins σ Q r s') (dD X.prog X.w i t) dd.mapOf hu ⟨rfl,fin⟩) hs
  |mpi ks =>
   cases r1 with
   |@mpi p _ xs hr kr =>
    simp only[pq] at hd;rw[aa] at hd;obtain⟨e,he,rfl⟩:=hd;obtain⟨v',hv',mr⟩:=kr.val i he;cases rx;obtain⟨t,rfl⟩:=ry;obtain⟨z,lo,vs,rel,dd⟩:=i0 I.hok (.inl hr);obtain⟨u',hu,ru⟩:∃ u',valueAt vs (.inl i)=some u'/\RelV v' u':=by
     have:=rel.val (.inl i);rw[hv'] at this;cases q:valueAt vs (.inl i) with
     |none=>rw[q] at this;exact this.elim
     |some u'=>rw[q] at this;exact⟨u',rfl,this⟩
    have fin:EP X pins σ Q u' { s with toks:=s.toks+1 }:=⟨v',H,I.tok _,ru,k _ [] mr.rep (f7 _)⟩;exact subscriptTail_builtinR (x:=u') dd.mapOf.typeIs slot_dict_getitem.lookup (wpAny_getItem_of (Q:=fun r s'=>r=u'/\EP X pins σ Q r s') (dD X.prog X.w i t) dd.mapOf hu ⟨rfl,fin⟩) hs
  |mpz ks =>
   cases r1 with
   |@mpz p _ xs ob hr kr =>
    simp only[pq] at hd;rw[aa] at hd;obtain⟨e,he,rfl⟩:=hd;obtain⟨v',hv',mr⟩:=kr.val i he;cases rx;obtain⟨t,rfl⟩:=ry;obtain⟨z,lo,vs,rel,dd⟩:=i0 I.hok (.inr ⟨_,hr⟩);obtain⟨u',hu,ru⟩:∃ u',valueAt vs (.inl i)=some u'/\RelV v' u':=by
     have:=rel.val (.inl i);rw[hv'] at this;cases q:valueAt vs (.inl i) with
     |none=>rw[q] at this;exact this.elim
     |some u'=>rw[q] at this;exact⟨u',rfl,this⟩
    have fin:EP X pins σ Q u' { s with toks:=s.toks+1 }:=⟨v',H,I.tok _,ru,k _ [] mr.rep (f7 _)⟩;exact subscriptTail_builtinR (x:=u') dd.mapOf.typeIs slot_dict_getitem.lookup (wpAny_getItem_of (Q:=fun r s'=>r=u'/\EP X pins σ Q r s') (dD X.prog X.w i t) dd.mapOf hu ⟨rfl,fin⟩) hs
  |_=>cases hd
 |str i =>
  obtain⟨rfl,rfl⟩:=r2.str_inv;rw[ay] at k;cases d1 with
  |dct kvs =>
   cases r1 with
   |dct hp =>
    simp only[pq] at hd;rw[aa] at hd;obtain⟨z,hz,rfl⟩:=hd;cases rx;obtain⟨t,rfl⟩:=ry;obtain⟨vs,dd,p3,_⟩:=n6 hx I hp;obtain⟨u',ru,hu⟩:=(p3 (.inr i)).1 z hz;have fin:EP X pins σ Q u' { s with toks:=s.toks+1 }:=⟨vV z,H,I.tok _,ru,k _ [] (p8 z) (f7 _)⟩;exact subscriptTail_builtinR (x:=u') dd.mapOf.typeIs slot_dict_getitem.lookup (wpAny_getItem_of (Q:=fun r s'=>r=u'/\EP X pins σ Q r s') (cL X.prog X.w i t) dd.mapOf hu ⟨rfl,fin⟩) hs
  |_=>cases hd
 |_=>cases d1<;>cases hd
end
section
variable {X:Cx}{T:Tb}{a b c:Expr}{ca cb cc:Ex}{pos:Pos}
theorem yB {i:Nat}{x:Str}(hN:X.N[i]? = some x)(hv:Af X.env.scope x)(hd:(x==("__debug__" : Str))=false) (hcd:(x==("__classdict__" : Str))=false):PE X (.Name x pos) (tE X.K T (.var i)):=by
 refine bA (tQ hN hv hd hcd) fun σ H Q ⟨P,env,F,re,p,hev,k⟩=>?_
 unfold ev at hev;cases hs:env[i]? with
 |none=>rw[hs] at hev;cases hev
 |some o =>
  cases o with
  |none=>rw[hs] at hev;cases hev
  |some q =>
   obtain⟨d,t⟩:=q;rw[hs] at hev;simp only[Rs.ok.injEq] at hev;subst hev;obtain⟨v,e1,rp⟩:=re.val i d t hs;refine⟨v,e1,k v H (F i) (aH.refl _) rp ?_⟩;cases hf:d.flat with
   |true =>
    rw[rp.flat hf];exact bD.nil
   |false =>
    simp only[Bool.false_eq_true,if_false];have ow:aX t=true->bD env F H (.mv [i]) H (F i):=fun o=>by
     obtain⟨n1,n2,n3⟩:=re.one i d t hs o;refine⟨fun a ha=>.inr ⟨i,d,t,ha,hs,fun q hq=>by cases t<;>simp_all [aV,aX,Rt.roots]⟩,fun R e=>?_⟩;cases e;exact⟨n1,n2,fun a ha=>.inr ⟨i,d,t,by simp,ha,hs,o⟩⟩
    cases t with
    |own=>exact ow rfl
    |lk=>exact ow rfl
    |sh R=>exact⟨fun a ha=>.inr ⟨i,d,.sh R,ha,hs,fun q hq=>hq⟩,fun R' e=>by cases e⟩
theorem uQ {K:Frag}{env:En}{F:Nat->List Addr}{H H':Hp}{d:D}{v:V}{G:List Addr}{r:Rt}(rp:Rep K H' d v G)(hf:d.flat=true):bD env F H r H' G:=by
 rw[rp.flat hf];exact bD.nil
theorem fS {e:Expr}{d:D}{v:V}(h:PE X e (tC v))(hr:∀ H,Rep X.K H d v []):PE X e (tE X.K T (.cst d)):=by
 refine bA h fun σ H Q ⟨P,env,F,re,p,hev,k⟩=>?_
 unfold ev at hev;cases hev;exact k v H [] (aH.refl _) (hr H) bD.nil
theorem zM {e:Expr}{i:Nat}{v:V}(h:PE X e (tC v))(hr:∀ H,Rep X.K H (T.gl i) v []):PE X e (tE X.K T (.glb i)):=by
 refine bA h fun σ H Q ⟨P,env,F,re,p,hev,k⟩=>?_
 unfold ev at hev;cases hev;exact k v H [] (aH.refl _) (hr H) bD.nil
theorem Ak (ha:PE X a (tE X.K T ca)):PE X (.UnaryOp .USub a pos) (tE X.K T (.neg ca)):=by
 refine bA (BS yT ha) fun σ H Q ⟨P,env,F,re,p,hev,k⟩=>?_
 unfold ev at hev;obtain⟨q,h1,hev⟩:=Rs.bind_ok hev;refine⟨P,env,F,re,q,h1,fun v H1 G s rp rt=>?_⟩;cases hq:q.1 with
 |int i =>
  rw[hq] at hev rp;cases hev;obtain⟨rfl,rfl⟩:=rp.int_inv;exact⟨i,rfl,k _ H1 [] s (.int _) bD.nil⟩
 |_=>rw[hq] at hev;cases hev
theorem Ar {op op':CmpOp}(hu:X.A.units+40<cLine/\uV X.w X.K)(ha:PE X a (tE X.K T ca))(hb:PE X b (tE X.K T cb))(hc:PE X c (tE X.K T cc))(hm:lastMarks [op,op'] [b,c]=false) :
  PE X (.Compare a [op,op'] [b,c] pos) (tE X.K T (.chn op op' ca cb cc))/\PT X (.Compare a [op,op'] [b,c] pos) (ku X.K T (.chn op op' ca cb cc)):=by
 have core:∀ σ H Q,tE X.K T (.chn op op' ca cb cc) σ H Q->oF (rA X.K fun x y=>(gO op x y).map .bl) (rA X.K fun x y=>(gO op' x y).map .bl) (tE X.K T ca) (tE X.K T cb) (tE X.K T cc) σ H Q:=by
  intro σ H Q ⟨P,env,F,re,p0,hev,k⟩;unfold ev at hev;obtain⟨p,h1,hev⟩:=Rs.bind_ok hev;obtain⟨q,h2,hev⟩:=Rs.bind_ok hev;obtain⟨kb,h3,hev⟩:=Rs.bind_ok hev;have h3:=bV h3;refine⟨P,env,F,re,p,h1,fun v1 H1 G1 s1 rp1 rt1=>⟨P,env,F,re.same s1,q,h2,fun v2 H2 G2 s2 rp2 rt2=>?_⟩⟩;refine⟨p.1,q.1,.bl kb,G1++(G2 ++ []),.cons (rp1.same s2) (.cons rp2 .nil),by simp[h3],fun v H3 G' rp nv=>?_⟩;obtain⟨rfl,_⟩:=rp.bl_inv;have e3:=s1.trans (s2.trans nv.same);refine⟨kb,rfl,?_⟩;cases kb with
  |false =>
   simp only[Bool.false_eq_true,if_false] at hev ⊢;cases hev;exact k _ H3 [] e3 (.bl _) bD.nil
  |true =>
   simp only[if_true] at hev ⊢;obtain⟨r,h4,hev⟩:=Rs.bind_ok hev;obtain⟨kb',h5,hev⟩:=Rs.bind_ok hev;have h5:=bV h5;cases hev;refine⟨P,env,F,re.same e3,r,h4,fun v3 H4 G3 s4 rp3 rt3=>⟨q.1,r.1,.bl kb',_,.cons (rp2.same (nv.same.trans s4)) (.cons rp3 .nil),by simp[h5],fun v H5 G' rp nv'=>?_⟩⟩;exact k _ H5 G' (e3.trans (s4.trans nv'.same)) rp (uQ rp rfl)
 refine⟨bA (sW (gJ op hu) (gJ op' hu) ha hb hc hm) core,l0 (sP (gJ op hu) (gJ op' hu) ha hb hc hm) fun σ H Q ⟨P,env,F,re,p,bb,hev,ht,k⟩=>?_⟩;refine core σ H _ ⟨P,env,F,re,p,hev,fun v H' G s rp rt=>?_⟩;have hp:∃ k,p.1 = .bl k:=by
  unfold ev at hev;obtain⟨p',h1,hev⟩:=Rs.bind_ok hev;obtain⟨q',h2,hev⟩:=Rs.bind_ok hev;obtain⟨kb,h3,hev⟩:=Rs.bind_ok hev;cases kb with
  |false=>cases hev;exact⟨_,rfl⟩
  |true =>
   simp only[if_true] at hev;obtain⟨r,h4,hev⟩:=Rs.bind_ok hev;obtain⟨kb',h5,hev⟩:=Rs.bind_ok hev;cases hev;exact⟨_,rfl⟩
 obtain⟨kk,hk⟩:=hp;rw[hk] at ht rp;obtain rfl:kk=bb:=bp ht;obtain⟨rfl,_⟩:=rp.bl_inv;exact⟨kk,rfl,k H' s⟩
theorem yz {op:CmpOp}(hu:X.A.units+40<cLine/\uV X.w X.K)(ha:PE X a (tE X.K T ca))(hb:PE X b (tE X.K T cb))(hm:behindInMarks op b=false):PT X (.Compare a [op] [b] pos) (ku X.K T (.cmp op ca cb)):=by
 refine l0 (wL (gJ op hu) ha hb hm) fun σ H Q ⟨P,env,F,re,p0,bb,hev,ht,k⟩=>?_
 unfold ev at hev;obtain⟨p,h1,hev⟩:=Rs.bind_ok hev;obtain⟨q,h2,hev⟩:=Rs.bind_ok hev;obtain⟨d,h3,hev⟩:=Rs.bind_ok hev;have h3:=bV h3;cases hev;obtain rfl:d=bb:=bp ht;refine two re h1 h2 fun x y H2 G ar=>⟨p.1,q.1,.bl d,G,ar.reps,by simp[h3],fun v H' G' rp nv=>?_⟩
 obtain⟨rfl,_⟩:=rp.bl_inv;exact⟨d,rfl,k H' (ar.same.trans nv.same)⟩
variable {rest:List Expr}
theorem zU (ha:PE X a (tE X.K T ca))(hb:PE X (.BoolOp .And (b::rest) pos) (tE X.K T cb)):PE X (.BoolOp .And (a::b::rest) pos) (tE X.K T (.and ca cb)):=by
 refine bA (zN ha hb) fun σ H Q ⟨P,env,F,re,p,hev,k⟩=>?_
 unfold ev at hev;obtain⟨q,h1,hev⟩:=Rs.bind_ok hev;refine⟨P,env,F,re,q,h1,fun v H1 G s rp rt=>?_⟩;cases hq:q.1 with
 |bl kb =>
  rw[hq] at hev rp;obtain⟨rfl,rfl⟩:=rp.bl_inv;cases kb with
  |true=>exact⟨true,rfl,by rw[if_pos rfl];exact⟨P,env,F,re.same s,p,hev,fun v H' G s' rp' rt'=>k v H' G (s.trans s') rp' (rt'.back s)⟩⟩
  |false =>
   cases hev;exact⟨false,rfl,by rw[if_neg ax];exact k _ H1 [] s (.bl _) bD.nil⟩
 |_=>rw[hq] at hev;cases hev
theorem AU (ha:PE X a (tE X.K T ca))(hb:PE X (.BoolOp .Or (b::rest) pos) (tE X.K T cb)):PE X (.BoolOp .Or (a::b::rest) pos) (tE X.K T (.or ca cb)):=by
 refine bA (BL ha hb) fun σ H Q ⟨P,env,F,re,p,hev,k⟩=>?_
 unfold ev at hev;obtain⟨q,h1,hev⟩:=Rs.bind_ok hev;refine⟨P,env,F,re,q,h1,fun v H1 G s rp rt=>?_⟩;cases hq:q.1 with
 |bl kb =>
  rw[hq] at hev rp;obtain⟨rfl,rfl⟩:=rp.bl_inv;cases kb with
  |false=>exact⟨false,rfl,by rw[if_neg ax];exact⟨P,env,F,re.same s,p,hev,fun v H' G s' rp' rt'=>k v H' G (s.trans s') rp' (rt'.back s)⟩⟩
  |true =>
   cases hev;exact⟨true,rfl,by rw[if_pos rfl];exact k _ H1 [] s (.bl _) bD.nil⟩
 |_=>rw[hq] at hev;cases hev
theorem yL (ha:PE X a (tE X.K T ca)):PE X (.UnaryOp .Not a pos) (tE X.K T (.not ca)):=by
 refine bA (z9 ha) fun σ H Q ⟨P,env,F,re,p,hev,k⟩=>?_
 unfold ev at hev;obtain⟨q,h1,hev⟩:=Rs.bind_ok hev;refine⟨P,env,F,re,q,h1,fun v H1 G s rp rt=>?_⟩;cases hq:q.1 with
 |bl kb =>
  rw[hq] at hev rp;obtain⟨rfl,rfl⟩:=rp.bl_inv;cases hev;exact⟨kb,rfl,k _ H1 [] s (.bl _) bD.nil⟩
 |_=>rw[hq] at hev;cases hev
theorem y3 (ha:PT X a (ku X.K T ca))(hb:PW X (.BoolOp .And (b::rest) pos) (ku X.K T cb)):PW X (.BoolOp .And (a::b::rest) pos) (ku X.K T (.and ca cb)):=by
 intro wh pins s σ H Q I h;refine ya ha hb wh pins s σ H Q I ?_;obtain⟨P,env,F,re,p,bb,hev,ht,k⟩:=h;unfold ev at hev;obtain⟨q,h1,hev⟩:=Rs.bind_ok hev;cases hq:q.1 with
 |bl kb =>
  rw[hq] at hev;cases kb with
  |true=>exact⟨P,env,F,re,q,true,h1,by rw[hq];rfl,fun H' s=>by show if true=true then _ else _;rw[if_pos rfl];exact⟨P,env,F,re.same s,p,bb,hev,ht,fun H2 s2=>k H2 (s.trans s2)⟩⟩
  |false =>
   cases hev;cases ht;exact⟨P,env,F,re,q,false,h1,by rw[hq];rfl,fun H' s=>by show if false=true then _ else _;rw[if_neg ax];exact k H' s⟩
 |_=>rw[hq] at hev;cases hev
theorem By (ha:PT X a (ku X.K T ca))(hb:PW X (.BoolOp .Or (b::rest) pos) (ku X.K T cb)):PW X (.BoolOp .Or (a::b::rest) pos) (ku X.K T (.or ca cb)):=by
 intro wh pins s σ H Q I h;refine BP ha hb wh pins s σ H Q I ?_;obtain⟨P,env,F,re,p,bb,hev,ht,k⟩:=h;unfold ev at hev;obtain⟨q,h1,hev⟩:=Rs.bind_ok hev;cases hq:q.1 with
 |bl kb =>
  rw[hq] at hev;cases kb with
  |false=>exact⟨P,env,F,re,q,false,h1,by rw[hq];rfl,fun H' s=>by show if false=true then _ else _;rw[if_neg ax];exact⟨P,env,F,re.same s,p,bb,hev,ht,fun H2 s2=>k H2 (s.trans s2)⟩⟩
  |true =>
   cases hev;cases ht;exact⟨P,env,F,re,q,true,h1,by rw[hq];rfl,fun H' s=>by show if true=true then _ else _;rw[if_pos rfl];exact k H' s⟩
 |_=>rw[hq] at hev;cases hev
theorem Ah (ha:PT X a (ku X.K T ca)):PT X (.UnaryOp .Not a pos) (ku X.K T (.not ca)):=by
 refine l0 (ym ha) fun σ H Q ⟨P,env,F,re,p,bb,hev,ht,k⟩=>?_
 unfold ev at hev;obtain⟨q,h1,hev⟩:=Rs.bind_ok hev;cases hq:q.1 with
 |bl kb =>
  rw[hq] at hev;cases hev;cases ht;exact⟨P,env,F,re,q,kb,h1,by rw[hq];rfl,fun H' s=>k H' s⟩
 |_=>rw[hq] at hev;cases hev
theorem wu {K:Frag}{H:Hp}{d:D}{v:V}{G:List Addr}{b:Bool}(rp:Rep K H d v G)(h:truth d=some b):z6 K v H b:=by
 cases rp with
 |dct _=>cases h
 |mpi _=>cases h
 |mpt _=>cases h
 |mpz _=>cases h
 |non=>cases h;rfl
 |bl c=>cases h;rfl
 |int i=>cases h;rfl
 |str z =>
  simp only[truth] at h;by_cases hl:z.length<=lim
  ·rw[if_pos hl] at h;cases h;exact⟨eJ hl,rfl⟩
  ·rw[if_neg hl] at h;cases h
 |lst a r =>
  rename_i vs ds g;cases h;refine .inl ⟨vs,.inl a,?_⟩;have:=r.len;cases ds<;>cases vs<;>simp_all
 |tup a r =>
  rename_i vs ds;cases h;refine .inr (.inl ⟨vs,a.sq,?_⟩);have:=r.len;cases ds<;>cases vs<;>simp_all
theorem bW {e:Expr}(h:PE X e (tE X.K T ca))(he:∀ whole,isTrue e X.env whole=(do let v <- whole;standAt e.pos;holding [v] (truthy v))):PT X e (ku X.K T ca):=by
 refine l0 (ux h he) fun σ H Q ⟨P,env,F,re,p,bb,hev,ht,k⟩=>?_
 exact⟨P,env,F,re,p,hev,fun v H' G s rp rt=>⟨bb,wu rp ht,k H' s⟩⟩
theorem zf (hc:PT X c (ku X.K T cc))(ha:PE X a (tE X.K T ca))(hb:PE X b (tE X.K T cb)):PE X (.IfExp c a b pos) (tE X.K T (.ite cc ca cb)):=by
 refine bA (tG hc ha hb) fun σ H Q ⟨P,env,F,re,p,hev,k⟩=>?_
 unfold ev at hev;obtain⟨q,h1,hev⟩:=Rs.bind_ok hev;obtain⟨kb,h2,hev⟩:=Rs.bind_ok hev;refine⟨P,env,F,re,q,kb,h1,bV h2,fun H' s=>?_⟩;cases kb with
 |true=>rw[if_pos rfl];exact⟨P,env,F,re.same s,p,hev,fun v H2 G s' rp' rt'=>k v H2 G (s.trans s') rp' (rt'.back s)⟩
 |false=>rw[if_neg ax];exact⟨P,env,F,re.same s,p,hev,fun v H2 G s' rp' rt'=>k v H2 G (s.trans s') rp' (rt'.back s)⟩
variable {es:List Expr}{cs:kq}
theorem tZ:PA X [] (rP X.K T .nil):=by
 refine um uJ fun σ H Q ⟨P,env,F,re,l,hev,k⟩=>?_
 unfold bB at hev;cases hev;exact k [] H [] (.nil (aH.refl _))
theorem qj (ha:PE X a (tE X.K T ca))(hr:PA X es (rP X.K T cs))(hs:starEach (a::es) X.env=(false,eval a X.env)::starEach es X.env):PA X (a::es) (rP X.K T (.cons ca cs)):=by
 refine um (lQ ha hr hs) fun σ H Q ⟨P,env,F,re,l,hev,k⟩=>?_
 unfold bB at hev;obtain⟨p,h1,hev⟩:=Rs.bind_ok hev;obtain⟨q,h2,hev⟩:=Rs.bind_ok hev;cases hev;exact⟨P,env,F,re,p,h1,fun v H1 G s rp rt=>⟨P,env,F,re.same s,q,h2,fun vs H2 G' ar=>k (v::vs) H2 _ (.cons s rp rt ar)⟩⟩
theorem bD.addNew {env:En}{F:Nat->List Addr}{H H1:Hp}{r:Rt}{G:List Addr}{p:Addr}{vs:List V}(h:bD env F H r H1 G)(e:aH H H1)(hp:H1 p=none)(hl:∀ a∈G,H1 a≠none):bD env F H r (upd H1 p (.lst vs)) (p::G) where
 cont:=fun a ha=>by
  rcases dz.mp ha with rfl | ha
  ·exact .inl (aH.no e hp)
  ·exact h.cont a ha
 mv:=fun R hr=>by
  obtain⟨a,b,c⟩:=h.mv R hr;refine⟨List.nodup_cons.mpr ⟨fun z=>hl p z hp,a⟩,fun x hx=>?_,fun x hx=>?_⟩
  ·rcases dz.mp hx with rfl | hx
   ·exact⟨.l _,aO⟩
   ·obtain⟨ws,q⟩:=b x hx;exact⟨ws,aH.new hp _ _ q⟩
  ·rcases dz.mp hx with rfl | hx
   ·exact .inl (aH.no e hp)
   ·exact c x hx
theorem As (h:PA X es (rP X.K T cs)):PE X (.List es pos) (tE X.K T (.lst cs)):=by
 refine bA (zK h) fun σ H Q ⟨P,env,F,re,p,hev,k⟩=>?_
 unfold ev at hev;obtain⟨l,h1,hev⟩:=Rs.bind_ok hev;by_cases hl:l.length<=lim
 ·rw[if_pos hl] at hev;cases hev;refine⟨P,env,F,re,l,h1,fun vs H1 G ar=>?_⟩;have rs:=ar.reps;have hlen:=rs.len;rw[ag] at hlen;refine⟨by rw[<-hlen];exact eJ hl,fun q hq=>?_⟩;have e:=aH.new (o:=.lst vs) hq;exact k _ _ (q::G) (ar.same.trans e) (.lst (.inl aO) (rs.same e)) ((ar.comb re).addNew ar.same hq fun a ha=>rs.nn ha)
 ·rw[if_neg hl] at hev;cases hev
theorem zD {x1:Nat}(h:PA X es (rP X.K T cs)):PE X (.Tuple es x1 pos) (tE X.K T (.tup cs)):=by
 refine bA (Al h) fun σ H Q ⟨P,env,F,re,p,hev,k⟩=>?_
 unfold ev at hev;obtain⟨l,h1,hev⟩:=Rs.bind_ok hev;by_cases hl:l.length<=lim
 ·rw[if_pos hl] at hev;cases hev;refine⟨P,env,F,re,l,h1,fun vs H1 G ar=>?_⟩;have rs:=ar.reps;have hlen:=rs.len;rw[ag] at hlen;refine⟨by rw[<-hlen];exact eJ hl,fun q hq=>?_⟩;have e:=aH.new (o:=.tup vs) hq;exact k _ _ G (ar.same.trans e) (.tup (.inl aO) (rs.same e)) ((ar.comb re).later e)
 ·rw[if_neg hl] at hev;cases hev
def yD (K:Frag)(n:Nat)(f:List D->Rs (D×Bool)):Sp:=fun vs H Q E=>∃ ds G,ds.length=n/\aG K H ds vs G/\∃ r,f ds = .ok r/\∀ v H' G',aH H H'->Rep K H' r.1 v G'->(∀ a∈G',H a=none\/a∈G)->(r.2=true->G'.Nodup/\∀ a∈G',H a=none/\∃ vs:ML,H' a=some vs.o)->Q v H'
theorem pA {K:Frag}{n:Nat}{f:List D->Rs (D×Bool)}{vs:List V}{H:Hp}{Q:VK}{E:XK}(h:yD K n f vs H Q E):vs.length=n:=by
 obtain⟨ds,G,h1,h2,_⟩:=h;rw[<-h1,h2.len]
theorem la {f:Nat}{n:Nat}{σ:L2.St}{H:Hp}{Q:VK}(hn:∀ ds r,T.cl f ds = .ok r->ds.length=n)(h:tE X.K T (.call f cs) σ H Q):uF (yD X.K n (T.cl f)) [] E0 (rP X.K T cs) σ H Q:=by
 obtain⟨P,env,F,re,p,hev,k⟩:=h;unfold ev at hev;obtain⟨l,h1,hev⟩:=Rs.bind_ok hev;obtain⟨r,h2,hev⟩:=Rs.bind_ok hev;cases hev;refine⟨P,env,F,re,l,h1,fun vs H1 G ar=>?_⟩;show yD X.K n (T.cl f) (vs ++ []) H1 Q E0;rw[ay];refine⟨l.map (·.1),G,hn _ _ h2,ar.reps,r,h2,fun v H' G' s rp sub fr=>k v H' G' (ar.same.trans s) rp ?_⟩;cases hr:r.2 with
 |true =>
  obtain⟨a,b⟩:=fr hr;have c:∀ x∈G',H x=none:=fun x hx=>aH.no ar.same (b x hx).1
  exact⟨fun x hx=>.inl (c x hx),fun R e=>⟨a,fun x hx=>(b x hx).2,fun x hx=>.inl (c x hx)⟩⟩
 |false =>
  refine⟨fun x hx=>?_,fun R e=>by cases e⟩;rcases sub x hx with q | q
  ·exact .inl (aH.no ar.same q)
  ·exact ar.cont x q
end
def m5 (K:Frag)(b:zt):List V->Hp->VK->Prop:=fun xs H Q=>∃ ds d G,aG K H ds xs G/\kC b ds=some d/\∀ v H' G',Rep K H' d v G'->eY H H' G d G'->Q v H'
section
variable {X:Cx}{T:Tb}
theorem mT {b:zt}{cs:kq}{σ:L2.St}{H:Hp}{Q:VK}(h:tE X.K T (.blt b cs) σ H Q):tCB (m5 X.K b) (rP X.K T cs) σ H Q:=by
 obtain⟨P,env,F,re,p,hev,k⟩:=h;unfold ev at hev;obtain⟨l,h1,hev⟩:=Rs.bind_ok hev;obtain⟨d,h2,hev⟩:=Rs.bind_ok hev;cases hev;exact⟨P,env,F,re,l,h1,fun vs H1 G ar=>⟨l.map (·.1),d,G,ar.reps,bV h2,fun v H' G' rp nv=>k v H' G' (ar.same.trans nv.same) rp (bD.new ar nv fun _ z=>z)⟩⟩
theorem aG.of1 {K:Frag}{H:Hp}{d:D}{xs:List V}{G:List Addr}(h:aG K H [d] xs G):∃ x,xs=[x]/\Rep K H d x G:=by
 cases h with
 |cons r s=>cases s;exact⟨_,rfl,by rw[ay];exact r⟩
theorem aG.of2 {K:Frag}{H:Hp}{d e:D}{xs:List V}{G:List Addr}(h:aG K H [d,e] xs G):∃ x y G1 G2,xs=[x,y]/\Rep K H d x G1/\Rep K H e y G2:=by
 cases h with
 |cons r s =>
  cases s with
  |cons r' s'=>cases s';exact⟨_,_,_,_,rfl,r,r'⟩
theorem Av {prog:Program}{w:World}(d:Addr)(hd:(d==sysModules)=false):MeetsIn prog w (Builtin.«dict.__len__» ⟨[.ref d],[]⟩) (fun _ R s=>∃ o es ep,s.heap.get? d=some o/\o.ExactDict/\o.data = .dict es ep/\R (.ok (.ret (.int es.size s.toks))) { s with toks:=s.toks+1 }):=by
 intro A R s h;obtain⟨o,es,ep,h1,h2,h3,h⟩:=h;unfold Builtin.«dict.__len__»
 wp_walk
 rw[h3];unfold Builtin.Dict.pendingCount;rw[hd]
 wp_walk
 simpa using h
theorem qX:eC X (.builtin "len") (m5 X.K .len):=by
 intro pins s σ H xs us Q I r h;obtain⟨ds,d,G,rs,hd,k⟩:=h
 match ds,hd with
 |[.lst ys],hd =>
  cases hd;obtain⟨x,rfl,rp⟩:=rs.of1;obtain⟨p,vs,g,rfl,rfl,a1,a2⟩:=rp.lst_inv;exact iF pins s σ H _ us Q I r ⟨p,vs,rfl,.inl (.inl a1),by rw[<-a2.len];exact k _ H [] (.int _) eY.nil⟩
 |[.tup ys],hd =>
  cases hd;obtain⟨x,rfl,rp⟩:=rs.of1;obtain⟨p,vs,rfl,a1,a2⟩:=rp.tup_inv;exact iF pins s σ H _ us Q I r ⟨p,vs,rfl,.inr a1,by rw[<-a2.len];exact k _ H [] (.int _) eY.nil⟩
 |[.str z],hd =>
  simp only[kC,xD] at hd;by_cases hl:z.length<=lim
  ·rw[if_pos hl] at hd;cases hd;obtain⟨x,rfl,rp⟩:=rs.of1;obtain⟨rfl,rfl⟩:=rp.str_inv;exact lL pins s σ H _ us Q I r ⟨z,rfl,eJ hl,k _ H [] (.int _) eY.nil⟩
  ·rw[if_neg hl] at hd;cases hd
 |[.mpt ks],hd =>
  cases hd;obtain⟨x,rfl,rp⟩:=rs.of1;obtain⟨u,rfl,rx⟩:=r.one;cases rp with
  |@mpt p _ hr =>
   obtain rfl:u = .ref p:=rx;obtain⟨z,lo,xs,rel,dd⟩:=nk I.hok hr;have hty:=dd.typeIs;obtain⟨o,es,ep,h1,h2,h3,h4,_,_⟩:=dd;have hl:ks.length=es.size:=by
    have e1:=Paired.length rel;have e2:=fk List.length h4;unfold lI at e1;rw[ag] at e1 e2;rw[e1,<-e2,cn]
   have hz:ks.length<=sizeLine:=by
    unfold lI at z
    rwa [ag] at z
   rw[sizeLine_eq] at hz;refine call_len_slot (n:=(ks.length:Int)) hty PySem.F.slot_dict_len (fun Q' hQ'=>call_meetsIn PySem.F.slot_dict_len hty PySem.F.entry_dict_len (PySem.F.args_dict_len_1 _) (Av p lo) ⟨o,es,ep,h1,h2,h3,?_⟩) (by omega) (by omega) ⟨.int _,H,(I.tok _).tok _,⟨_,rfl⟩,k _ H [] (.int _) eY.nil⟩;rw[<-hl];exact hQ'
theorem nJ {pins:List (Addr×Obj)}{s:Shared}{σ:L2.St}{H:Hp}{xs:List V}{us:List Value}{Q:VK}(I:Inv X pins σ H s)(r:aJ xs us){ds:List D}{d:D}{G:List Addr}(rs:aG X.K H ds xs G)(hd:kC .list ds=some d)(k:∀ v H' G',Rep X.K H' d v G'->eY H H' G d G'->Q v H')(hn:∀ ks,ds≠[.mpi ks]):wpAny (model X.prog X.w) X.A (call (.type "list") us) (EP X pins σ Q) X.xe s:=by
 match ds,hd with
 |[.mpi ks],hd=>exact absurd rfl (hn ks)
 |[.lst ys],hd =>
  cases hd;obtain⟨x,rfl,rp⟩:=rs.of1;obtain⟨p,vs,g,rfl,rfl,a1,a2⟩:=rp.lst_inv;refine iE pins s σ H _ us Q I r ⟨p,vs,rfl,.inl (.inl a1),fun l hl=>?_⟩;obtain⟨n1,n2⟩:=iU (G0:=p::g) a2 (fun a ha=>ah _ ha) hl;exact k _ _ _ n1 n2
 |[.tup ys],hd =>
  cases hd;obtain⟨x,rfl,rp⟩:=rs.of1;obtain⟨p,vs,rfl,a1,a2⟩:=rp.tup_inv;refine iE pins s σ H _ us Q I r ⟨p,vs,rfl,.inr a1,fun l hl=>?_⟩;obtain⟨n1,n2⟩:=iU (G0:=G) a2 (fun a ha=>ha) hl;exact k _ _ _ n1 n2
end
def gU (K:Frag)(P:Addr->Prop)(H0:Hp)(J:It)(ds:List D)(G:List Addr):Prop:=∀ H,iI P H0 H->(∀(i:Nat) (d:D),ds[i]? = some d->J.go i H/\∀ x H',J.yld i H x H'->aH H H'/\∃ G',Rep K H' d x G'/\∀ a∈G',a∈G)/\J.stop ds.length H
noncomputable def tI (K:Frag)(T:Tb)(it:rQ):TI:=fun σ H R=>∃ P env F,RE K P env σ H F/\∃ p,dI T it env = .ok p/\∀ J H' G,aH H H'->bD env F H (.sh p.2) H' G->(∀ a∈G,H' a≠none)->(∀ P',(∀ a∈G,P' a)->gU K P' H' J p.1 G)->R J H'
theorem rz {K:Frag}{P:Addr->Prop}{H0:Hp}{p:Addr}{vs:List V}{ds:List D}{G:List Addr}(h1:Rd H0 p (.lst vs))(h2:aG K H0 ds vs G)(hp:∀ a∈p::G,P a):gU K P H0 (Itl K p) ds (p::G):=fun H e=>by
 have ep:=e.keep p (hp p ai);have h1':Rd H p (.lst vs):=by
  rcases h1 with q | ⟨o,q⟩
  ·exact .inl (ep.trans q)
  ·exact .inr ⟨o,ep.trans q⟩
 have h2':=e.reps h2 fun a ha=>hp a (ah _ ha)
 refine⟨fun i d hd=>?_,⟨vs,.inl h1',by rw[h2.len];exact av _⟩⟩;obtain⟨v,G',a,b,c⟩:=h2'.get hd;refine⟨⟨vs,v,.inl h1',a⟩,fun x H' ⟨e1,e2⟩=>?_⟩;subst e1;have:=e2 vs (.inl h1');rw[a] at this;cases this;exact⟨aH.refl _,G',b,fun z hz=>ah _ (c.subset hz)⟩
theorem sX {K:Frag}{P:Addr->Prop}{H0:Hp}{p:Addr}{vs:List V}{ds:List D}{G:List Addr}(h1:iS K H0 p vs)(h2:aG K H0 ds vs G)(hp:∀ a∈G,P a):gU K P H0 (Itt K p) ds G:=fun H e=>by
 have h1':=e.tqT h1;have h2':=e.reps h2 hp;refine⟨fun i d hd=>?_,⟨vs,h1'.sq,by rw[h2.len];exact av _⟩⟩;obtain⟨v,G',a,b,c⟩:=h2'.get hd;refine⟨⟨vs,v,h1'.sq,a⟩,fun x H' ⟨e1,e2⟩=>?_⟩;subst e1;have:=e2 vs h1'.sq;rw[a] at this;cases this;exact⟨aH.refl _,G',b,fun z hz=>c.subset hz⟩
noncomputable def BN (xs:List V):It:=⟨fun i _=>i<xs.length,fun i H x H'=>H'=H/\xs[i]? = some x,fun i _=>xs.length<=i⟩
theorem lb {K:Frag}{P:Addr->Prop}{H0:Hp}{vs:List V}{ds:List D}(hr:∀ H,aG K H ds vs []):gU K P H0 (BN vs) ds []:=fun H e=>by
 have hl:=(hr H).len;refine⟨fun i d hd=>?_,by show vs.length<=ds.length;omega⟩;obtain⟨v,G',a,b,c⟩:=(hr H).get hd;refine⟨by show i<vs.length;rw[<-hl];exact (List.getElem?_eq_some_iff.mp hd).1,fun x H' ⟨e1,e2⟩=>?_⟩;subst e1;rw[a] at e2;cases e2;exact⟨aH.refl _,G',b,fun z hz=>c.subset hz⟩
theorem lD {P:Program}{w:World}{K:Frag}{tg:Expr}{it:Addr}{xs:List V}{Pv:Nat->Value->Prop}{St:Nat->Heap->Prop}(W:∀ A:Around,A.handled=none->Walks P w A it [it] [it] xs.length Pv St)(hP:∀ i v,Pv i v->∃ x,xs[i]? = some x/\RelV x v)
  (ob:∀ i h,St i h->∃ o n vs,h.get? it=some o/\o.cls = .type n/\o.data = .fields vs/\["enumerate","zip","dict_itemiterator","dict_reverseitemiterator","odict_iterator","itertools.zip_longest","itertools.pairwise"].contains n=false)
  (fr:∀ i h h',St i h->(∀ o,h.get? it=some o->h'.get? it=some o)->St i h') (le:∀ i h,St i h->i<=xs.length) (slf:∀(A:Around) (i:Nat) (s:Shared) (Q E:Value->Shared->Prop),St i s.heap->Q (.ref it) s->wpAny (model P w) A (pyIter (.ref it)) Q E s):Turn P w K tg (BN xs) [it] it St where
 mem:=by simp
 obj:=fun i h st b hb=>by
  have e:b=it:=by simpa using hb
  subst e;obtain⟨o,n,vs,h1,h2,h3,_⟩:=ob i h st;exact⟨o,h1,fun v z=>by rw[h3] at z;cases z⟩
 keep:=fun i h h' st k=>fr i h h' st fun o e=>k it (by simp) o e
 item:=by
  intro X hp hw hK hc i pins s σ H E I hf st hg;subst hp hw hK;obtain⟨f0,f1,f2,f3,f4,f5⟩:=hf it (by simp);refine (W X.A (I.ok.hd hc)).item i s _ _ hg st fun v h' tk hv st' kk=>?_
  obtain⟨x,ex,rx⟩:=hP i v hv;have I1:Inv X pins σ H { s with heap:=h',toks:=tk }:=I.turned (fun b o hb e=>kk b o (by simpa using hb) e) f0 f1 f3 f4 f5;obtain⟨o,n,vs,h1,h2,h3,h4⟩:=ob (i+1) h' st';exact⟨v,rfl,oZ (s:={ s with heap:=h',toks:=tk }) (n:=n) h1 h2 h3 h4 ⟨x,H,I1,rx,⟨rfl,ex⟩,st',fun b hb=>(hf b hb).1⟩⟩
 done:=by
  intro X hp hw hK hc i pins s σ H E I hf st hg;subst hp hw hK;obtain⟨f0,f1,f2,f3,f4,f5⟩:=hf it (by simp);have hi:i=xs.length:=Nat.le_antisymm (le i _ st) hg;subst hi;exact (W X.A (I.ok.hd hc)).done s _ _ st fun h' tk kk=>⟨rfl,I.turned (fun b o hb e=>kk b o (by simpa using hb) e) f0 f1 f3 f4 f5⟩
 self:=fun A i s Q E st h=>slf A i s Q E st h
noncomputable def eW (a c:Int)(n:Nat):List V:=(List.range n).map fun (i:Nat)=>.int (a+(i:Int)*c)
theorem jD (a c:Int)(n:Nat):(eW a c n).length=n:=by simp[eW]
theorem jy {K:Frag}{H:Hp}(c:Int):∀(n:Nat) (a:Int),aG K H (aS a c n) (eW a c n) []
 |0,a=>.nil
 | n+1,a=>by
  have e:eW a c (n+1) = .int a::eW (a+c) c n:=by
   unfold eW;rw[fw,aq,cv];congr 1
   ·simp
   ·refine dk fun i _=>?_
    simp only[Function.comp_apply,V.int.injEq,Nat.succ_eq_add_one]
    push_cast
    rw[Int.add_mul];omega
  rw[e];show aG K H (.int a::aS (a+c) c n) _ ([] ++ []);exact .cons (.int a) (jy c n (a+c))
theorem iz (a b c:Int)(hc:c≠0):0<=Builtin.Range.rangeSize a b c:=by
 unfold Builtin.Range.rangeSize;split
 ·rename_i h;split
  ·have:0<=(b - a - 1) / c:=Int.ediv_nonneg (by omega) (by omega);omega
  ·omega
 ·split
  ·have:0<=(a - b - 1) / (-c):=Int.ediv_nonneg (by omega) (by omega);omega
  ·omega
theorem mI {a b c:Int}(ha:eL a=true)(hb:eL b=true)(hc:c≠0)(hs:c.natAbs<1073741824):Builtin.Range.small a b c=true:=by
 unfold eL at ha hb;have ha:=of_decide_eq_true ha;have hb:=of_decide_eq_true hb;have hn:=iz a b c hc;have hu:Builtin.Range.rangeSize a b c<2 ^ 63:=by
  unfold Builtin.Range.rangeSize;split
  ·split
   ·have:=Int.ediv_le_self (b:=c) (a:=b - a - 1) (by omega);omega
   ·decide
  ·split
   ·have:=Int.ediv_le_self (b:=-c) (a:=a - b - 1) (by omega);omega
   ·decide
 unfold Builtin.Range.small;simp only[Builtin.Range.rangeFitsLong,Bool.and_eq_true,Bool.or_eq_true,decide_eq_true_eq,beq_iff_eq];refine⟨⟨⟨⟨⟨by omega,by omega⟩,by omega,by omega⟩,by omega,by omega⟩,by omega,hu⟩,.inr ?_⟩;split<;>simp only[Bool.and_eq_true,decide_eq_true_eq]<;>omega
section
variable {X:Cx}{tg:Expr}
theorem iP {pins:List (Addr×Obj)}{σ:L2.St}{H:Hp}{s:Shared}{R:It->Hp->Prop}{E:Value->Shared->Prop}{lo hi c:Int}{t u v:Tok}{tk:Nat}(I:Inv X pins σ H s)(h1:eL lo=true)(h2:eL hi=true)(h3:c≠0)(h4:c.natAbs<1073741824)
  (q:R (BN (eW lo c (Builtin.Range.rangeSize lo hi c).toNat)) H):wpAny (model X.prog X.w) X.A (pyIter (.ref s.heap.objs.size)) (z0 X pins σ tg R) E { s with heap:=s.heap.push { cls:=.type "range",data:=.fields #[.int lo t,.int hi u,.int c v] },toks:=tk }:=by
 refine wpAny_pyIter_range (IsRange.new ..) (mI h1 h2 h3 h4) ?_;have I1:Inv X pins σ H { s with heap:=s.heap.push { cls:=.type "range",data:=.fields #[.int lo t,.int hi u,.int c v] },toks:=tk }:=I.kept fun b o e=>Heap.get?_push_of_some _ e
 have hn:=iz lo hi c h3;let n:=(Builtin.Range.rangeSize lo hi c).toNat;refine⟨(s.heap.push { cls:=.type "range",data:=.fields #[.int lo t,.int hi u,.int c v] }).objs.size,[(s.heap.push { cls:=.type "range",data:=.fields #[.int lo t,.int hi u,.int c v] }).objs.size],
  (fun i h=>i<=n/\IsRangeIter h (s.heap.push { cls:=.type "range",data:=.fields #[.int lo t,.int hi u,.int c v] }).objs.size (lo+(i:Nat)*c) ((n:Int) - (i:Nat)) c),_,H,rfl,
  I1.kept (t':=tk) fun b o e=>Heap.get?_push_of_some _ e,lD (Pv:=fun i v=>i<n/\∃ t,v = .int (lo+i*c) t) (fun A hA=>?_) (fun i v hv=>?_) (fun i h st=>?_) (fun i h h' st k=>⟨st.1,k _ st.2⟩) (fun i h st=>by rw[jD];exact st.1) (fun A i s Q E st h=>wpAny_pyIter_rangeiter st.2 h),?_,fun b hb=>?_,q⟩
 ·rw[jD];have W:=Walks.range (prog:=X.prog) (w:=X.w) hA (s.heap.push { cls:=.type "range",data:=.fields #[.int lo t,.int hi u,.int c v] }).objs.size lo c n;exact⟨W.sub,fun i h h' st k=>⟨st.1,W.frame i h h' st.2 k⟩,fun i s Q E hi st hQ=>W.item i s Q E hi st.2 fun v h' tk hv st' kk=>hQ v h' tk ⟨hi,hv⟩ ⟨hi,st'⟩ kk,fun s Q E st hQ=>W.done s Q E st.2 hQ,fun i s Q E st h=>W.self i s Q E st.2 h⟩
 ·obtain⟨hi',t',rfl⟩:=hv;exact⟨.int (lo+i*c),by unfold eW;rw[List.getElem?_map,List.getElem?_range hi'];rfl,t',rfl⟩
 ·exact⟨_,_,_,st.2,rfl,rfl,by decide⟩
 ·refine⟨cy _,?_⟩;have e1:lo+((0:Nat):Int)*c=lo:=by simp
  have e2:((n:Nat):Int) - ((0:Nat):Int)=Builtin.Range.rangeSize lo hi c:=by omega
  rw[e1,e2];exact Heap.get?_push_size _ rfl
 ·have e:b=(s.heap.push { cls:=.type "range",data:=.fields #[.int lo t,.int hi u,.int c v] }).objs.size:=by simpa using hb
  subst e;exact I1.fpOk (av _) (I1.hok.fresh (av _))
end
section
variable {X:Cx}{tg:Expr}{T:Tb}{pins:List (Addr×Obj)}{σ:L2.St}{H:Hp}{s:Shared}{R:It->Hp->Prop}{E:Value->Shared->Prop}
theorem vJ {a:Addr}{xs:List V}(I:Inv X pins σ H s)(hq:ke X.K H a xs)(q:R (Itl X.K a) H):wpAny (model X.prog X.w) X.A (pyIter (.ref a)) (z0 X pins σ tg R) E s:=by
 obtain⟨its,rv,p,hz⟩:=I.list hq;refine wpAny_pyIter_list p.isList ?_;refine⟨s.heap.objs.size,[s.heap.objs.size],_,_,H,rfl,I.kept (t':=s.toks) fun b o e=>Heap.get?_push_of_some _ e,rL a _,⟨_,Heap.get?_push_size _ rfl,rfl,rfl⟩,fun b hb=>?_,q⟩;have e:b=s.heap.objs.size:=by simpa using hb
 subst e;exact I.fpOk (av _) (I.hok.fresh (av _))
theorem t8 {a:Addr}{xs:List V}(I:Inv X pins σ H s)(hq:g8 X.K H a xs)(q:R (Itt X.K a) H):wpAny (model X.prog X.w) X.A (pyIter (.ref a)) (z0 X pins σ tg R) E s:=by
 obtain⟨its,rv,p,hz⟩:=I.tuple hq;refine wpAny_pyIter_tuple (show s.heap.IsTuple a its.toArray from p) ?_;refine⟨s.heap.objs.size,[s.heap.objs.size],_,_,H,rfl,I.kept (t':=s.toks) fun b o e=>Heap.get?_push_of_some _ e,nV a _,⟨_,Heap.get?_push_size _ rfl,rfl,rfl⟩,fun b hb=>?_,q⟩;have e:b=s.heap.objs.size:=by simpa using hb
 subst e;exact I.fpOk (av _) (I.hok.fresh (av _))
noncomputable def ItZ (d:Addr)(o:Obj)(xs:List (Key×V)):It:=⟨fun i H=>H d=some (.frz o (.dK xs))/\i<xs.length,fun i H x H'=>H'=H/\∃ kv,xs[i]? = some kv/\x=kV kv.1,fun i H=>H d=some (.frz o (.dK xs))/\xs.length<=i⟩
theorem rJ {P:Program}{w:World}{K:Frag}{tg:Expr}{it d:Addr}{o:Obj}{xs:List (Key×V)}{vs:List (Key×Value)}{ep:Nat}(hne:d≠it)(rel:KV xs vs)(hat:∀ h:Heap,h.get? d=some o->h.DictAt (aL P w) d vs ep):Turn P w K tg (ItZ d o xs) [it] it (fun i h=>i<=vs.length/\h.IsKeyIter it d i vs.length ep) where
 mem:=by simp
 obj:=fun i h st b hb=>by
  have e:b=it:=by simpa using hb
  subst e;obtain⟨_,o',h1,h2,h3⟩:=st;exact⟨o',h1,fun v z=>by rw[h3] at z;cases z⟩
 keep:=fun i h h' st k=>⟨st.1,st.2.at fun o e=>k it (by simp) o e⟩
 item:=by
  intro X hp hw hK hc i pins s σ H E I hf st hg;subst hp hw hK;obtain⟨f0,f1,f2,f3,f4,f5⟩:=hf it (by simp);obtain⟨hz,hlt⟩:=hg;have ho:s.heap.get? d=some o:=(I.hok d _ hz).1;have hl:=rel.length;refine (Walks.dictKeys (I.ok.hd hc) it d hne vs ep).item i s _ _ (by omega) ⟨st.2,hat _ ho⟩ fun v h' tk hv st' kk=>?_
  obtain⟨k,x,hx,hk⟩:=hv;have I1:Inv X pins σ H { s with heap:=h',toks:=tk }:=I.turned (fun b o hb e=>kk b o (by simpa using hb) e) f0 f1 f3 f4 f5;obtain⟨oi,h1,h2,h3⟩:=st'.1;obtain⟨kv,e1⟩:∃ kv,xs[i]? = some kv:=⟨xs[i],List.getElem?_eq_getElem hlt⟩;have ek:kv.1=k:=by
   have:=fk (fun l:List Key=>l[i]?) rel.keys;simp only[List.getElem?_map,e1,hx,Option.map_some,Option.some.injEq] at this;exact this
  have rx:RelV (kV kv.1) v:=by
   rw[ek];rcases aW (show i4 k v=true from hk) with ⟨i,t,rfl,rfl⟩ | ⟨x,t,rfl,rfl⟩
   ·exact⟨t,rfl⟩
   ·exact⟨t,rfl⟩
  exact⟨v,rfl,oZ (s:={ s with heap:=h',toks:=tk }) (n:="dict_keyiterator") h1 h2 h3 (by decide) ⟨kV kv.1,H,I1,rx,⟨rfl,kv,e1,rfl⟩,⟨by omega,st'.1⟩,fun b hb=>(hf b hb).1⟩⟩
 done:=by
  intro X hp hw hK hc i pins s σ H E I hf st hg;subst hp hw hK;obtain⟨f0,f1,f2,f3,f4,f5⟩:=hf it (by simp);obtain⟨hz,hge⟩:=hg;have ho:s.heap.get? d=some o:=(I.hok d _ hz).1;have hl:=rel.length;have hi:i=vs.length:=by have:=st.1;omega
  subst hi;exact (Walks.dictKeys (I.ok.hd hc) it d hne vs ep).done s _ _ ⟨st.2,hat _ ho⟩ fun h' tk kk=>⟨rfl,I.turned (fun b o hb e=>kk b o (by simpa using hb) e) f0 f1 f3 f4 f5⟩
 self:=fun A i s Q E st h=>wpAny_pyIter_keyiter st.2 h
theorem vp {a:Addr}{o:Obj}{xs:List (Key×V)}(I:Inv X pins σ H s)(hq:H a=some (.frz o (.dK xs)))(q:R (ItZ a o xs) H):wpAny (model X.prog X.w) X.A (pyIter (.ref a)) (z0 X pins σ tg R) E s:=by
 have ho:s.heap.get? a=some o:=(I.hok a _ hq).1;obtain⟨z,lo,vs,rel,dd⟩:=i0 I.hok (.inr ⟨_,hq⟩);obtain⟨ep,o',es,h1,h2⟩:=dd.dictAt;rw[ho] at h1;cases h1;refine wpAny_pyIter_dict lo ⟨o,es,ho,h2⟩ ?_;refine⟨s.heap.objs.size,[s.heap.objs.size],_,_,H,rfl,I.kept (t':=s.toks) fun b o e=>Heap.get?_push_of_some _ e,rJ (vs:=vs) (ep:=ep) (bo (Heap.lt_size ho)) rel (fun h e=>⟨o,es,e,h2⟩),⟨cy _,⟨_,Heap.get?_push_size _ rfl,rfl,rfl⟩⟩,fun b hb=>?_,q⟩;have e:b=s.heap.objs.size:=by simpa using hb
 subst e;exact I.fpOk (av _) (I.hok.fresh (av _))
theorem qY {K:Frag}{P:Addr->Prop}{H0:Hp}{p:Addr}{o:Obj}{xs:List (Key×V)}{ks:List (Int×MV)}(h1:H0 p=some (.frz o (.dK xs)))(h2:gN K H0 ks xs):gU K P H0 (ItZ p o xs) (ks.map fun q=>.int q.1) []:=fun H e=>by
 have h1':=e.fz _ _ _ h1;have hl:=h2.len;refine⟨fun i d hd=>?_,⟨h1',by rw[ag];omega⟩⟩;have hi:i<ks.length:=by have:=(List.getElem?_eq_some_iff.mp hd).1;rwa [ag] at this
 refine⟨⟨h1',by omega⟩,fun x H' ⟨e1,kv,e2,e3⟩=>?_⟩;subst e1 e3;refine⟨aH.refl _,[],?_,fun a ha=>nomatch ha⟩;rw[List.getElem?_map] at hd;have key:∀{ks:List (Int×MV)}{xs:List (Key×V)}{i:Nat}{kv:Key×V}{q:Int×MV},gN K H0 ks xs->xs[i]? = some kv->ks[i]? = some q->kv.1 = .inl q.1:=by
  intro ks
  induction ks with
  |nil=>intro xs i kv q _ _ h;cases h
  |cons a r ih =>
   intro xs i kv q h e1 e2;cases xs with
   |nil=>cases e1
   |cons x xs =>
    cases i with
    |zero=>cases e1;cases e2;exact h.1
    |succ i=>exact ih h.2.2 e1 e2
 cases hq:ks[i]? with
 |none=>rw[hq] at hd;cases hd
 |some q =>
  rw[hq] at hd;cases hd;rw[key h2 e2 hq];exact .int q.1
noncomputable def lW (z:Str):List V:=z.cps.toList.map fun c=>.str ⟨#[c]⟩
theorem yO {z:Str}{t:Tok}(I:Inv X pins σ H s)(q:R (BN (lW z)) H):wpAny (model X.prog X.w) X.A (pyIter (.str z t)) (z0 X pins σ tg R) E s:=by
 have hlen:(lW z).length=z.cps.size:=by simp[lW]
 have core:∀(nm:String) (hn:["enumerate","zip","dict_itemiterator","dict_reverseitemiterator","odict_iterator","itertools.zip_longest","itertools.pairwise"].contains nm=false)
   (W:∀ A:Around,A.handled=none->Walks X.prog X.w A s.heap.objs.size [s.heap.objs.size] [s.heap.objs.size] z.cps.size (SignAt z) (fun i h=>h.IsStrIter s.heap.objs.size nm z t i))
   (slf:∀(A:Around) (i:Nat) (s':Shared) (Q E:Value->Shared->Prop),s'.heap.IsStrIter s.heap.objs.size nm z t i->Q (.ref s.heap.objs.size) s'->wpAny (model X.prog X.w) A (pyIter (.ref s.heap.objs.size)) Q E s'),
   z0 X pins σ tg R (.ref s.heap.objs.size) { s with heap:=s.heap.push { cls:=.type nm,data:=.fields #[.str z t,.int 0 0] } }:=by
  intro nm hn W slf;refine⟨s.heap.objs.size,[s.heap.objs.size],(fun i h=>i<=z.cps.size/\h.IsStrIter s.heap.objs.size nm z t i),_,H,rfl,I.kept (t':=s.toks) fun b o e=>Heap.get?_push_of_some _ e,
   lD (Pv:=SignAt z) (fun A hA=>?_) (fun i v hv=>?_) (fun i h st=>?_) (fun i h h' st k=>⟨st.1,let ⟨o,ho,r⟩:=st.2;⟨o,k o ho,r⟩⟩) (fun i h st=>by rw[hlen];exact st.1) (fun A i s Q E st h=>slf A i s Q E st.2 h),⟨cy _,⟨_,Heap.get?_push_size _ rfl,rfl,rfl⟩⟩,fun b hb=>?_,q⟩
  ·rw[hlen];have W:=W A hA;exact⟨W.sub,fun i h h' st k=>⟨st.1,W.frame i h h' st.2 k⟩,fun i s Q E hi st hQ=>W.item i s Q E hi st.2 fun v h' tk hv st' kk=>hQ v h' tk hv ⟨hi,st'⟩ kk,fun s Q E st hQ=>W.done s Q E st.2 hQ,fun i s Q E st h=>W.self i s Q E st.2 h⟩
  ·obtain⟨c,u,e,rfl⟩:=hv;exact⟨.str ⟨#[c]⟩,by simp[lW];exact e,u,rfl⟩
  ·obtain⟨o,ho,hc,hd⟩:=st.2;exact⟨o,nm,_,ho,hc,hd,hn⟩
  ·have e:b=s.heap.objs.size:=by simpa using hb
   subst e;exact I.fpOk (av _) (I.hok.fresh (av _))
 cases ha:z.cps.all (· < 128)
 ·exact wpAny_pyIter_wide ha (core "str_iterator" (by decide) (fun A' hA=>Walks.strWide hA _ z t) fun A i s' Q E st h=>wpAny_pyIter_striter_wide st h)
 ·exact wpAny_pyIter_ascii ha (core "str_ascii_iterator" (by decide) (fun A' hA=>Walks.strAscii hA _ z t) fun A i s' Q E st h=>wpAny_pyIter_striter_ascii st h)
theorem jv {K:Frag}{H:Hp}:∀(cs:List Nat),aG K H (cs.map fun c=>D.str ⟨#[c]⟩) (cs.map fun c=>V.str ⟨#[c]⟩) []
 |[]=>.nil
 | c::cs=>by
  show aG K H (_::_) (_::_) ([] ++ []);exact .cons (.str _) (jv cs)
theorem vb {e:Expr}{c:Ex}(h:PE X e (tE X.K T c)):PI X tg e (tI X.K T (.seq c)):=by
 intro pins s σ H R I hq;obtain⟨P,env,F,re,p,hev,k⟩:=hq;unfold dI at hev;obtain⟨q,h1,hev⟩:=Rs.bind_ok hev;obtain⟨l,h2,hev⟩:=Rs.bind_ok hev;have h2:=bV h2;cases hev;refine bM (h pins s σ H (fun v H'=>∃ G,aH H H'/\Rep X.K H' q.1 v G/\bD env F H q.2 H' G) I ⟨P,env,F,re,q,h1,fun v H' G s rp rt=>⟨G,s,rp,rt⟩⟩) fun u s1 ⟨v,H1,I1,r1,G,e,rp,rt⟩=>?_
 have rt':bD env F H (.sh q.2.roots) H1 G:=rt.part (fun _ h=>h) (fun _ h=>h) fun R e=>by cases e
 cases hd:q.1 with
 |lst xs =>
  rw[hd] at rp h2;cases h2;obtain⟨a,vs,g,rfl,rfl,a1,a2⟩:=rp.lst_inv;cases r1;exact vJ I1 (.inl a1) (k _ H1 (a::g) e rt' (fun b hb=>rp.nn hb) fun P' hP=>rz a1 a2 hP)
 |tup xs =>
  rw[hd] at rp h2;cases h2;obtain⟨a,vs,rfl,a1,a2⟩:=rp.tup_invT;cases r1;exact t8 I1 a1.sq (k _ H1 G e rt' (fun b hb=>rp.nn hb) fun P' hP=>sX a1 a2 hP)
 |str z =>
  rw[hd] at rp h2;simp only[uc] at h2;by_cases hl:z.length<=lim
  ·rw[if_pos hl] at h2;cases h2;obtain⟨rfl,rfl⟩:=rp.str_inv;obtain⟨t,rfl⟩:=r1;exact yO I1 (k _ H1 [] e bD.nil (fun _ h=>(nomatch h)) fun P' hP=>lb fun H=>jv _)
  ·rw[if_neg hl] at h2;cases h2
 |mpz ks =>
  rw[hd] at rp h2;cases h2;cases rp with
  |@mpz a _ xs o hz kr =>
   cases r1;exact vp I1 hz (k _ H1 [] e rt' (fun _ h=>(nomatch h)) fun P' hP=>qY hz kr)
 |_=>rw[hd] at h2;cases h2
theorem i7 (a b:Int):(Builtin.Range.rangeSize a b 1).toNat=(b - a).toNat:=by
 rw[rangeSize_one];split<;>omega
theorem yW {es:List Expr}{cs:kq}{it:rQ}{p pos:Pos}{e0:Expr}{rest:List Expr}(hes:es=e0::rest)(hg:Gl X "range") (hm:X.mg "range" = none) (ha:PA X es (rP X.K T cs)) (hs:starEach es X.env=(false,eval e0 X.env)::starEach rest X.env) (hpl:(backTo pos (starEach rest X.env)).any (·.1)=false)
  (hit:∀ env p,dI T it env = .ok p->p.2=[]/\∃ l,bB T cs env = .ok l/\((∃ j,l.map (·.1)=[.int j]/\eL j=true/\p.1=aS 0 1 j.toNat)\/(∃ i j,l.map (·.1)=[.int i,.int j]/\eL i=true/\eL j=true/\p.1=aS i 1 (j - i).toNat) \/
   ∃ i j k,l.map (·.1)=[.int i,.int j,.int k]/\eL i=true/\eL j=true/\k≠0/\k.natAbs<1073741824/\p.1=aS i k (Builtin.Range.rangeSize i j k).toNat)) :
  PI X tg (.Call (.Name "range" p) es [] pos) (tI X.K T it):=by
 subst hes;intro pins s σ H R I hq;obtain⟨P,env,F,re,q,hev,k⟩:=hq;obtain⟨hq2,l,hl,hc⟩:=hit env q hev;refine Call_ (j5 I hg hm boot_range (gd (bM (ha pos pins s σ H (fun vs H'=>∃ G,Args X.K env F H H' l vs G) I ⟨P,env,F,re,l,hl,fun vs H' G ar=>⟨G,ar⟩⟩) fun us s1 ⟨vs,H1,I1,r1,G,ar⟩=>?_) hs hpl));have rs:=ar.reps;have fin:∀(a c:Int) (n:Nat),q.1=aS a c n->R (BN (eW a c n)) H1:=fun a c n e=>by
  refine k _ H1 [] ar.same bD.nil (fun _ h=>(nomatch h)) fun P' _=>?_
  rw[e];exact lb fun H=>jy c n a
 have one:∀{d:D}{ds:List D}{vs:List V}{us:List Value}{G:List Addr},aG X.K H1 (d::ds) vs G->aJ vs us->∀ i,d = .int i->∃ t us' vs' G',us = .int i t::us'/\vs = .int i::vs'/\aG X.K H1 ds vs' G'/\aJ vs' us':=by
  intro d ds vs us G r rv i e;subst e;cases r with
  |cons r rr =>
   obtain⟨rfl,rfl⟩:=r.int_inv;cases rv with
   |cons x y =>
    obtain⟨t,rfl⟩:=x;exact⟨t,_,_,_,rfl,rfl,rr,y⟩
 have nil:∀{vs:List V}{us:List Value}{G:List Addr},aG X.K H1 [] vs G->aJ vs us->us=[]:=by
  intro vs us G r rv;cases r;cases rv;rfl
 rcases hc with ⟨j,e1,e2,e3⟩ | ⟨i,j,e1,e2,e3,e4⟩ | ⟨i,j,c,e1,e2,e3,e4,e5,e6⟩
 ·rw[e1] at rs;obtain⟨t,us',vs',G',rfl,_,rs,r1⟩:=one rs r1 j rfl;obtain rfl:=nil rs r1;refine call_range_1 (iP (c:=1) I1 (by decide) e2 (by decide) (by decide) ?_);refine fin _ _ _ ?_;rw[e3,i7];simp
 ·rw[e1] at rs;obtain⟨t,us',vs',G',rfl,_,rs,r1⟩:=one rs r1 i rfl;obtain⟨t',us'',vs'',G'',rfl,_,rs,r1⟩:=one rs r1 j rfl;obtain rfl:=nil rs r1;refine call_range_2 (iP (c:=1) I1 e2 e3 (by decide) (by decide) ?_);refine fin _ _ _ ?_;rw[e4,i7]
 ·rw[e1] at rs;obtain⟨t,us',vs',G',rfl,_,rs,r1⟩:=one rs r1 i rfl;obtain⟨t',us'',vs'',G'',rfl,_,rs,r1⟩:=one rs r1 j rfl;obtain⟨t3,us3,vs3,G3,rfl,_,rs,r1⟩:=one rs r1 c rfl;obtain rfl:=nil rs r1;refine call_range_3 e4 (iP (c:=c) I1 e2 e3 e4 e5 ?_) (.inl (PyProof.noPylong_small e5));exact fin _ _ _ e6
end
theorem rW {h:Heap}{o o':Obj}{b:Addr}(e:(h.push o).get? b=some o'):(b=h.objs.size/\o'=o)\/h.get? b=some o':=by
 obtain⟨e1,e2⟩:=Heap.get?_some_iff.mp e;by_cases hb:b=h.objs.size
 ·left;subst hb;refine⟨rfl,?_⟩;have:(h.push o).objs[h.objs.size]? = some o:=by cases h;simp[Heap.push]
  rw[this] at e1;exact (bp e1).symm
 ·right;refine Heap.get?_some_iff.mpr ⟨?_,e2⟩;cases h;simpa[Heap.push,Array.getElem?_push,hb] using e1
theorem y4 (n b:Nat)(h:b=n+1\/b=n):n<=b:=by omega
section
variable {X:Cx}{pins:List (Addr×Obj)}{σ:L2.St}{H:Hp}{s:Shared}
theorem ip {h':Heap}{t':Nat}{ch:List Addr}(I:Inv X pins σ H s)(k:∀ b o,b∉ch->s.heap.get? b=some o->h'.get? b=some o)(hf:∀ b∈ch,gQ X pins H b):Inv X pins σ H { s with heap:=h',toks:=t' }:=by
 have nit:∀ b u,H b=some u->b∉ch:=fun b u e z=>by
  have:=(hf b z).1;rw[this] at e;cases e
 refine I.step (g':=s.gens) (d':=s.drawn) (ch:=ch) (fun b hb=>?_) (fun b o _ _ hc e _=>k b o hc e) (fun b o _ _ hc e _=>⟨o.slots,k b o hc e⟩) (fun _ _ _ _ n=>n)
  (fun b o hc e=>⟨o,k b o hc e⟩) (fun _ _ e=>e) (fun _ _ _ e=>e) (fun b ps e=>⟨#[],by rw[e];simp⟩) (fun m hm=>?_) (fun b u e=>?_) I.bare
 ·obtain⟨f0,f1,f2,f3,f4,f5⟩:=hf b hb;exact⟨f3,f1,f4,f5⟩
 ·obtain⟨o,es,ep,ho,r⟩:=hm;exact⟨o,es,ep,k _ o (fun z=>(hf _ z).2.1 rfl) ho,r⟩
 ·refine (I.hok b u e).stay (fun c v hc q=>k c v ?_ q) (fun _ q=>q) fun _ _ q=>q
  rcases hc with z | z
  ·rw[z];exact nit b u e
  ·exact nit c _ z
theorem paired {h':Heap}{t':Nat}{ch:List Addr}{x y:V}{u v:Value}(I:Inv X pins σ H s)(hu:RelV x u)(hv:RelV y v)(hT:h'.get? s.heap.objs.size=some { cls:=.type "tuple",data:=.seq #[u,v] })
  (k:∀ b o,b∉ch->s.heap.get? b=some o->h'.get? b=some o) (hf:∀ b∈ch,gQ X pins H b) (hl:∀ b∈ch,b<s.heap.objs.size):Inv X pins σ (upd H s.heap.objs.size (.tup [x,y])) { s with heap:=h',toks:=t' }:=by
 have I1:Inv X pins σ (upd H s.heap.objs.size (.tup [x,y])) { s with heap:=s.heap.push { cls:=.type "tuple",data:=.seq #[u,v] },toks:=t' } :=
  I.laid (fun _ _ q=>Heap.get?_push_of_some _ q) (av _) ⟨by show 2<=sizeLine;decide,[u,v],.cons hu (.cons hv .nil),⟨_,Heap.get?_push_size _ rfl,rfl,_,rfl⟩⟩
 refine ip (s:={ s with heap:=s.heap.push { cls:=.type "tuple",data:=.seq #[u,v] },toks:=t' }) (ch:=ch) I1 (fun b o hb q=>?_) fun b hb=>?_
 ·rcases rW q with ⟨rfl,rfl⟩ | q
  ·exact hT
  ·exact k b o hb q
 ·obtain⟨f0,f⟩:=hf b hb;exact⟨by rw[aI (bo (hl b hb))];exact f0,f⟩
end
noncomputable def Ite (K:Frag)(l:Addr):It:=⟨fun i H=>∃ xs x,ke K H l xs/\xs[i]? = some x,fun i H v H'=>∃ T x,v = .ref T/\H T=none/\(∀ xs,ke K H l xs->xs[i]? = some x)/\H'=upd H T (.tup [.int i,x]),fun i H=>∃ xs,ke K H l xs/\xs.length<=i⟩
theorem rG {P:Program}{w:World}{K:Frag}{elts:List Expr}{x1:Nat}{pos:Pos}(l e it:Addr)(hne:e≠it):Turn P w K (.Tuple elts x1 pos) (Ite K l) [e,it] e (fun i h=>(∃ old,IsEnum h e it (i:Nat) old)/\h.IsListIter it l i) where
 mem:=by simp
 obj:=fun i h st b hb=>by
  obtain⟨⟨old,he⟩,hit⟩:=st;have hb:b=e\/b=it:=by simpa using hb
  rcases hb with rfl | rfl
  ·exact⟨_,he,fun v z=>by cases z⟩
  ·obtain⟨o,e,c,d⟩:=hit;exact⟨o,e,fun v z=>by rw[d] at z;cases z⟩
 keep:=fun i h h' st k=>⟨let ⟨old,he⟩:=st.1;⟨old,k e (by simp) _ he⟩,st.2.at fun o z=>k it (by simp) o z⟩
 item:=by
  intro X hP hw hK hc i pins s σ H E I hf st hg;subst hP hw hK;obtain⟨xs,x,hq,hx⟩:=hg;obtain⟨its,rv,p,hz⟩:=I.list hq;obtain⟨u,hu,ru⟩:=rv.get hx;obtain⟨⟨old,he⟩,hit⟩:=st;have lts:∀ b∈[e,it],b<s.heap.objs.size:=fun b hb=>by
   have hb:b=e\/b=it:=by simpa using hb
   rcases hb with rfl | rfl
   ·exact Heap.lt_size he
   ·obtain⟨o,e,_⟩:=hit;exact Heap.lt_size e
  refine wpAny_pyNext_enum_item he hit p.isList (x:=u) (by simpa using hu) hne fun h' ho hit' hT hsz hk=>?_
  have I2:Inv X pins σ (upd H s.heap.objs.size (.tup [.int i,x])) { s with heap:=h',toks:=s.toks+1 } :=
   paired (ch:=[e,it]) I ⟨s.toks,rfl⟩ ru hT (fun b o hb q=>hk b o (fun z=>hb (by simp[z])) (fun z=>hb (by simp[z])) q) hf lts
  have f2:∀ b∈[e,it],gQ X pins (upd H s.heap.objs.size (.tup [.int i,x])) b:=fun b hb=>by
   obtain⟨f0,f⟩:=hf b hb;exact⟨by rw[aI (bo (lts b hb))];exact f0,f⟩
  refine⟨_,rfl,wpAny_letOwnedTupleGo_enum (s:={ s with heap:=h',toks:=s.toks+1 }) ho fun h2 he2 hs2=>?_⟩;refine⟨.ref s.heap.objs.size,_,ip (ch:=[e]) I2 (fun b o hb q=>hs2.extBut b o (fun z=>hb (by simp[z])) q) (fun b hb=>f2 b (by simp at hb;simp[hb])),rfl,⟨_,x,rfl,I.fresh,fun ys hy=>by rw[I.list_inj hy hq];exact hx,rfl⟩,⟨⟨_,by simpa using he2⟩,hit'.at fun o z=>hs2.extBut it o (Ne.symm hne) z⟩,fun b hb=>(f2 b hb).1⟩
 done:=by
  intro X hP hw hK hc i pins s σ H E I hf st hg;subst hP hw hK;obtain⟨xs,hq,hx⟩:=hg;obtain⟨its,rv,p,hz⟩:=I.list hq;obtain⟨⟨old,he⟩,hit⟩:=st;have hl:=rv.length;exact wpAny_pyNext_enum_end (I.ok.hd hc) he hit p.isList (by simp;omega) fun h' eb=>⟨rfl,ip (t':=s.toks) (ch:=[it]) I (fun b o hb q=>eb b o (fun z=>hb (by simp[z])) q) fun b hb=>hf b (by simp at hb;simp[hb])⟩
 self:=fun A i s Q E st h=>by
  obtain⟨⟨old,he⟩,_⟩:=st;exact wpAny_pyIter_enum he h
theorem qD {K:Frag}{P:Addr->Prop}{H0:Hp}{p:Addr}{vs:List V}{ds:List D}{G:List Addr}(h1:Rd H0 p (.lst vs))(h2:aG K H0 ds vs G)(hp:∀ a∈p::G,P a):gU K P H0 (Ite K p) (ds.zipIdx.map fun q=>.tup [.int q.2,q.1]) (p::G):=fun H e=>by
 have ep:=e.keep p (hp p ai);have h1':Rd H p (.lst vs):=by
  rcases h1 with q | ⟨o,q⟩
  ·exact .inl (ep.trans q)
  ·exact .inr ⟨o,ep.trans q⟩
 have h2':=e.reps h2 fun a ha=>hp a (ah _ ha)
 refine⟨fun i d hd=>?_,⟨vs,.inl h1',by rw[ag,List.length_zipIdx,h2.len];exact av _⟩⟩;have hd:∃ d',ds[i]? = some d'/\d = .tup [.int i,d']:=by
  rw[List.getElem?_map,List.getElem?_zipIdx] at hd;cases q:ds[i]? with
  |none=>rw[q] at hd;cases hd
  |some d'=>rw[q] at hd;simp at hd;exact⟨d',rfl,hd.symm⟩
 obtain⟨d',hd',rfl⟩:=hd;obtain⟨v,G',a,b,c⟩:=h2'.get hd';refine⟨⟨vs,v,.inl h1',a⟩,fun x H' ⟨T,x',e1,e2,e3,e4⟩=>?_⟩;subst e1 e4;have:=e3 vs (.inl h1');rw[a] at this;cases this;have sm:aH H (upd H T (.tup [.int i,v])):=aH.new e2;refine⟨sm,G',.tup (.inl aO) ?_,fun z hz=>ah _ (c.subset hz)⟩;have r:=aG.cons (Rep.int (K:=K) (H:=upd H T (.tup [.int i,v])) (i:Int)) (aG.cons (b.same sm) .nil);rw[ay,fm] at r;exact r
section
variable {X:Cx}{T:Tb}
theorem lu {env:En}{F:Nat->List Addr}{H H':Hp}{l:List (D×Rt)}{vs:List V}{G:List Addr}{R:List Nat}(ar:Args X.K env F H H' l vs G)(h:∀ q,q∈aQ (l.map (·.2))->q∈R):bD env F H (.sh R) H' G where
 cont:=fun a ha=>(ar.cont a ha).imp id fun ⟨i,d,t,x,y,z⟩=>⟨i,d,t,x,y,fun q hq=>h q (z q hq)⟩
 mv:=fun R e=>by cases e
end
def tS (K:Frag)(T:Tb)(c:St):TS:=fun D σ H=>∃ P Z env F,RE K P env σ H F/\(∀ i,∀ a∈F i,Z a)/\(∀ a,¬ P a->Z a)/\post K P Z env F H D (bI T c env)
def xO (K:Frag)(T:Tb)(c:bZ):TS:=fun D σ H=>∃ P Z env F,RE K P env σ H F/\(∀ i,∀ a∈F i,Z a)/\(∀ a,¬ P a->Z a)/\post K P Z env F H D (aF T c env)
section
variable {K:Frag}{P Z:Addr->Prop}{env:En}{σ:L2.St}{H:Hp}{F:Nat->List Addr}{D:Ends}
theorem bP {α:Type}{x:Rs α}{k:α->Fl}(h:post K P Z env F H D (fD env x k)):∃ a,x = .ok a/\post K P Z env F H D (k a):=by
 cases x with
 |ok a=>exact⟨a,rfl,h⟩
 |exc e=>exact h.elim
 |bad=>exact h.elim
theorem After.same {H':Hp}(re:RE K P env σ H F)(hz:∀ i,∀ a∈F i,Z a)(e:aH H H'):After K P Z env F H env σ H' F:=⟨re.same e,hz,iI.of_same re.pl e,oz.refl _ _⟩
theorem zm {H':Hp}{r:Rt}{G:List Addr}(re:RE K P env σ H F)(hz:∀ i,∀ a∈F i,Z a)(zp:∀ a,¬ P a->Z a)(rt:bD env F H r H' G):∀ a∈G,Z a:=fun a ha=>by
 rcases rt.cont a ha with q | ⟨j,_,_,f,_⟩
 ·exact zp a fun z=>re.pl a z q
 ·exact hz j a f
end
section
variable {X:Cx}{T:Tb}{pos:Pos}{e:Expr}{c:Ex}
theorem vm:j9 X [] (xO X.K T .nil):=by
 refine qo wb fun D σ H ⟨P,Z,env,F,re,hz,zp,h⟩=>?_
 unfold aF at h;exact h σ H F (After.same re hz (aH.refl _))
theorem vf {st:Stmt}{rest:List Stmt}{cs:St}{cr:bZ}(h1:PS X st (tS X.K T cs))(h2:j9 X rest (xO X.K T cr)):j9 X (st::rest) (xO X.K T (.cons cs cr)):=by
 refine qo (sZ h1 h2) fun D σ H ⟨P,Z,env,F,re,hz,zp,h⟩=>⟨P,Z,env,F,re,hz,zp,?_⟩
 unfold aF at h;cases hs:bI T cs env with
 |nx env' =>
  rw[hs] at h;exact fun σ' H' F' af=>⟨P,Z,env',F',af.re,af.z,zp,post.trans af h⟩
 |bk env'=>rw[hs] at h;exact h
 |ct env'=>rw[hs] at h;exact h
 |rt d fr=>rw[hs] at h;exact h
 |xc e env'=>rw[hs] at h;exact h
 |bad=>rw[hs] at h;exact h
theorem vU:PS X (.Pass pos) (tS X.K T .pass):=by
 refine cB xy fun D σ H ⟨P,Z,env,F,re,hz,zp,h⟩=>?_
 unfold bI at h;exact h σ H F (After.same re hz (aH.refl _))
theorem zE {x:Str}{j:Nat}{pos':Pos}:PS X (.Expr (.Constant (.str x) j pos) pos') (tS X.K T .pass):=by
 refine cB z7 fun D σ H ⟨P,Z,env,F,re,hz,zp,h⟩=>?_
 unfold bI at h;exact h σ H F (After.same re hz (aH.refl _))
theorem wt:PS X (.Return none pos) (tS X.K T .retN):=by
 refine cB vI fun D σ H ⟨P,Z,env,F,re,hz,zp,h⟩=>?_
 unfold bI at h;exact h .non H [] .non (iI.refl _) (fun _ h=>(nomatch h)) fun _=>⟨bu,fun _ h=>(nomatch h)⟩
theorem zL (he:PE X e (tE X.K T c)):PS X (.Return (some e) pos) (tS X.K T (.ret c)):=by
 refine cB (y8 he) fun D σ H ⟨P,Z,env,F,re,hz,zp,h⟩=>?_
 unfold bI at h;obtain⟨p,hp,h⟩:=bP h;refine⟨P,env,F,re,p,hp,fun v H' G s rp rt=>h v H' G rp (iI.of_same re.pl s) (zm re hz zp rt) fun fr=>?_⟩;cases hr:p.2 with
 |sh R=>rw[hr] at fr;cases fr
 |mv R =>
  rw[hr] at fr;obtain⟨a,b,d⟩:=rt.mv R hr;refine⟨a,fun x hx=>⟨fun z=>?_,b x hx⟩⟩;rcases d x hx with q | ⟨i,d2,t2,hi,f,e2,o2⟩
  ·exact re.pl x z q
  ·have:=cf.mp fr i hi;split at this
   ·rename_i d' q;exact re.wr i d' q x f z
   ·cases this
theorem wq (he:PE X e (tE X.K T c))(hs:swapsWith e none pos.line X.env=pure false):PS X (.Expr e pos) (tS X.K T (.expr c)):=by
 refine cB (ji he hs) fun D σ H ⟨P,Z,env,F,re,hz,zp,h⟩=>?_
 unfold bI at h;obtain⟨p,hp,h⟩:=bP h;exact⟨P,env,F,re,p,hp,fun v H' G s rp rt=>h σ H' F (After.same re hz s)⟩
theorem ze {a b:List Stmt}{ca cb:bZ}(hc:PT X e (ku X.K T c))(ha:j9 X a (xO X.K T ca))(hb:j9 X b (xO X.K T cb)):PS X (.If e a b pos) (tS X.K T (.ite c ca cb)):=by
 refine cB (BX hc ha hb) fun D σ H ⟨P,Z,env,F,re,hz,zp,h⟩=>?_
 unfold bI at h;obtain⟨p,hp,h⟩:=bP h;cases ht:truth p.1 with
 |none=>rw[ht] at h;exact h.elim
 |some k =>
  rw[ht] at h;refine⟨P,env,F,re,p,k,hp,ht,fun H' s=>?_⟩;have af:=After.same (Z:=Z) re hz s;cases k with
  |true=>show if true=true then _ else _;rw[if_pos rfl];exact⟨P,Z,env,F,af.re,hz,zp,post.trans af h⟩
  |false=>show if false=true then _ else _;rw[if_neg ax];exact⟨P,Z,env,F,af.re,hz,zp,post.trans af h⟩
theorem uw {i:Nat}{x:Str}{pos':Pos}{mv:Bool}(hN:X.N.Nodup)(hi:X.N[i]? = some x)(hx:Loc X.env.scope x)(he:PE X e (tE X.K T c))(hs:swapsWith e (some (.Name x pos')) pos.line X.env=pure false)(hf:X.fn x=true\/X.env.scope.names.lookup x=some .local) :
  PS X (.Assign [.Name x pos'] e pos) (tS X.K T (.asg (.nm i) c mv)):=by
 refine cB (zc hN hi hx he hs hf) fun D σ H ⟨P,Z,env,F,re,hz,zp,h⟩=>?_
 unfold bI at h;obtain⟨p,hp,h⟩:=bP h;exact⟨P,env,F,re,p,hp,fun v H' G s rp rt=>tH re hz zp s rp rt h⟩
noncomputable def fH:List Nat->xC
 |[]=>BD
 |i::is=>xT (lE i) (fH is)
theorem gW:∀{is:List Nat}{vs:List V}{σ:L2.St}{H:Hp}{Q:L2.St->Hp->Prop},is.length=vs.length->Q (setM is vs σ) H->fH is vs σ H Q
 |[],[],_,_,_,_,q=>⟨rfl,q⟩
 |i::is,v::vs,σ,H,Q,hl,q=>⟨v,vs,rfl,gW (is:=is) (vs:=vs) (by simpa using hl) q⟩
 |[],_::_,_,_,_,hl,_=>by simp at hl
 |_::_,[],_,_,_,hl,_=>by simp at hl
theorem wX {tg:Expr}{is:List Nat}{mv:Bool}(hg:PG X tg (uT X.K is.length (fH is)))(he:PE X e (tE X.K T c))(hs:swapsWithSole [tg] e pos.line X.env=pure false)(hw:swappedStores [tg] e X.env=pure none)(h1:(assignEach [tg] X.env).map (·.2)=[assign tg X.env]) :
  PS X (.Assign [tg] e pos) (tS X.K T (.asg (.tp is) c mv)):=by
 refine cB (sk he hg hs hw h1) fun D σ H ⟨P,Z,env,F,re,hz,zp,h⟩=>?_
 unfold bI at h;obtain⟨p,hp,h⟩:=bP h;refine⟨P,env,F,re,p,hp,fun v H' G s rp rt=>?_⟩;have re':=re.same s;have ez:=zm re hz zp rt;have jb:=iI.of_same (P:=P) re.pl s;unfold qw at h;cases hd:p.1 with
 |tup ds =>
  rw[hd] at h rp;obtain⟨a,vs,rfl,a1,a2⟩:=rp.tup_inv;have fin:∀{o:Option En},post X.K P Z env F H D (xu o)->(∀ env',o=some env'->∃ F',RE X.K P env' (setM is vs σ) H' F'/\(∀ i,∀ a∈F' i,Z a)/\oz env F env' F'/\is.length=vs.length)->uT X.K is.length (fH is) (.ref a) σ H' D.nx:=fun {o} h q=>by
   cases o with
   |none=>exact h.elim
   |some env' =>
    obtain⟨F',b1,b2,b3,b4⟩:=q env' rfl;exact⟨a,vs,rfl,a1,b4.symm,gW b4 (h _ H' F' ⟨b1,b2,jb,b3⟩)⟩
  have shared:post X.K P Z env F H D (if is.all (fun i=>!p.2.roots.contains i) then xu (bindM (fun d=>cC d p.2.roots) is ds env) else .bad)->uT X.K is.length (fH is) (.ref a) σ H' D.nx:=fun h=>by
   by_cases hc:is.all (fun i=>!p.2.roots.contains i)=true
   ·rw[if_pos hc] at h;refine fin h fun env' he'=>jL re' hz a2 ez (fun x hx j d' t' ej o m=>?_) he'
    rcases rt.cont x hx with q | ⟨k,d2,t2,f,e2,sr⟩
    ·exact absurd q (re.nn ej m)
    ·exact sr j ((re.one j d' t' ej o).2.2 x m k d2 t2 e2 f)
   ·rw[if_neg hc] at h;exact h.elim
  cases hr:p.2 with
  |sh R=>rw[hr] at h shared;exact shared h
  |mv R =>
   cases R with
   |cons r0 R0=>rw[hr] at h shared;exact shared h
   |nil =>
    rw[hr] at h;obtain⟨m1,m2,m3⟩:=rt.mv [] hr;have fresh:∀ a∈G,H a=none:=fun a ha=>by
     rcases m3 a ha with q | ⟨_,_,_,q,_⟩
     ·exact q
     ·cases q
    exact fin h fun env' he'=>lp re' hz a2 m1 m2 (fun x hx z=>re.pl x z (fresh x hx)) ez (fun x hx j m=>by
     obtain⟨d2,t2,e2⟩:=re.at' m;exact re.nn e2 m (fresh x hx)) he'
 |_=>rw[hd] at h;exact h.elim
theorem Ax {b:List Stmt}{cb:bZ}(hp:PassesOwn (model X.prog X.w) X.A X.env X.xe)(hc:PT X e (ku X.K T c))(hb:j9 X b (xO X.K T cb)):PS X (.While e b [] pos) (tS X.K T (.whl c cb)):=by
 refine cB (uW hp hc hb) fun D σ H ⟨P,Z,env,F,re,hz,zp,h⟩=>?_
 unfold bI at h;refine⟨fun m σ' H'=>∃ env' F',After X.K P Z env F H env' σ' H' F'/\post X.K P Z env' F' H' D (eO (fun env=>(ev T c env).bind fun p=>dX (truth p.1)) (aF T cb) m env'),⟨T.fuel,env,F,After.same re hz (aH.refl _),h⟩,fun m σ1 H1 ⟨env1,F1,af,h1⟩=>?_⟩;cases m with
 |zero=>exact h1.elim
 |succ m =>
  unfold eO at h1;obtain⟨k,hk,h1⟩:=bP h1;obtain⟨p,hp1,hk⟩:=Rs.bind_ok hk;refine⟨P,env1,F1,af.re,p,k,hp1,bV hk,fun H2 s2=>?_⟩;have af2:=After.same (Z:=Z) af.re af.z s2;cases k with
  |false =>
   show if false=true then _ else _
   rw[if_neg ax];simp only[Bool.false_eq_true,if_false] at h1;exact h1 σ1 H2 F1 af2
  |true =>
   show if true=true then _ else _
   rw[if_pos rfl];simp only[if_true] at h1;refine⟨fun σ' H'=>∃ env' F',After X.K P Z env F H env' σ' H' F'/\post X.K P Z env' F' H' D (eO (fun env=>(ev T c env).bind fun p=>dX (truth p.1)) (aF T cb) m env'),fun σ' H' q=>⟨m,gr _,q⟩,P,Z,env1,F1,af2.re,af.z,zp,?_⟩;have h1:=post.trans af2 h1;cases hs:aF T cb env1 with
   |nx e'=>rw[hs] at h1;exact fun σ' H' F' af3=>⟨e',F',af.trans (af2.trans af3),post.trans af3 h1⟩
   |ct e'=>rw[hs] at h1;exact fun σ' H' F' af3=>⟨e',F',af.trans (af2.trans af3),post.trans af3 h1⟩
   |bk e'=>rw[hs] at h1;exact h1
   |rt d fr=>rw[hs] at h1;exact h1
   |xc x e'=>rw[hs] at h1;exact h1
   |bad=>rw[hs] at h1;exact h1
noncomputable def oO (K:Frag):ka->TG
 |.nm i=>lE i
 |.tp is=>uT K is.length (fH is)
theorem mF {K:Frag}{P Z:Addr->Prop}{env env':En}{σ:L2.St}{H:Hp}{F:Nat->List Addr}{t:ka}{d:Pc.D}{v:V}{G:List Addr}{R:List Nat}{Q:L2.St->Hp->Prop}(re:RE K P env σ H F)(hz:∀ i,∀ a∈F i,Z a)(rp:Rep K H d v G)(gz:∀ a∈G,Z a)
  (hs:∀ a∈G,∀(j:Nat) (d':Pc.D) (t':Tg),env[j]? = some (some (d',t'))->aX t'=true->a∈F j->j∈R) (hb:aZ R t d env=some env') (hQ:∀ σ' F',RE K P env' σ' H F'->(∀ i,∀ a∈F' i,Z a)->oz env F env' F'->Q σ' H):oO K t v σ H Q:=by
 cases t with
 |nm i =>
  simp only[aZ] at hb;by_cases hi:i<env.length
  ·rw[if_pos hi] at hb;cases hb;exact hQ _ _ (pe re hi rp hs) (kT hz gz) (jT hi nz)
  ·rw[if_neg hi] at hb;cases hb
 |tp is =>
  cases d with
  |tup ds =>
   simp only[aZ] at hb;obtain⟨a,vs,rfl,a1,a2⟩:=rp.tup_inv;obtain⟨F',b1,b2,b3,b4⟩:=jL re hz a2 gz hs hb;exact⟨a,vs,rfl,a1,b4.symm,gW b4 (hQ _ F' b1 b2 b3)⟩
  |_=>cases hb
theorem iG {t:ka}{R:List Nat}{b:En->Fl}:∀(ds:List Pc.D) (env:En),(∀ e,bT t R b ds env≠.bk e)/\∀ e,bT t R b ds env≠.ct e
 |[],env=>⟨fun e z=>(by cases z),fun e z=>(by cases z)⟩
 | d::ds,env=>by
  unfold bT;cases aZ R t d env with
  |none=>exact⟨fun e z=>(by cases z),fun e z=>(by cases z)⟩
  |some env' =>
   simp only;cases b env' with
   |nx e'=>exact iG ds e'
   |ct e'=>exact iG ds e'
   |bk e'=>exact⟨fun e z=>(by cases z),fun e z=>(by cases z)⟩
   |rt d fr=>exact⟨fun e z=>(by cases z),fun e z=>(by cases z)⟩
   |xc x e'=>exact⟨fun e z=>(by cases z),fun e z=>(by cases z)⟩
   |bad=>exact⟨fun e z=>(by cases z),fun e z=>(by cases z)⟩
theorem zw {tg iter:Expr}{t:ka}{it:rQ}{b:List Stmt}{cb:bZ}(hp:PassesOwn (model X.prog X.w) X.A X.env X.xe)(hc:X.calm=true)(hi:PI X tg iter (tI X.K T it))(hg:PG X tg (oO X.K t))(hb:j9 X b (xO X.K T cb))(hs:∀ x,foldedSetIterable iter X.env x=pure x) :
  PS X (.For tg iter b [] pos) (tS X.K T (.forr t it cb)):=by
 refine cB (Aa hp hc hi hg hb hs) fun D σ H ⟨P,Z,env,F,re,hz,zp,h⟩=>?_
 unfold bI at h;obtain⟨p,hp,h⟩:=bP h;refine⟨P,env,F,re,p,hp,fun J H1 G s1 rt nn wk=>?_⟩;have af1:=After.same (Z:=Z) re hz s1;have h:=post.trans af1 h;let P':Addr->Prop:=fun a=>P a\/a∈G
 have wk:=wk P' fun a ha=>.inr ha
 have seen:∀ a∈G,∀(i:Nat) (d:Pc.D) (t:Tg),env[i]? = some (some (d,t))->aX t=true->a∈F i->i∈p.2:=fun a ha i d t e o m=>by
  rcases rt.cont a ha with q | ⟨k,d2,t2,f,e2,sr⟩
  ·exact absurd q (re.nn e m)
  ·exact sr i ((re.one i d t e o).2.2 a m k d2 t2 e2 f)
 have reL:RE X.K P' (lock p.2 env) σ H1 F:=af1.re.locked nn seen;have gz:∀ a∈G,Z a:=zm re hz zp rt;let E':Ends:={ D with nx:=fun σ' H'=>∀ env' F',After X.K P' Z (lock p.2 env) F H1 env' σ' H' F'->D.nx σ' H' };have stepP:∀{f:Fl},(∀ e,f≠.bk e)->(∀ e,f≠.ct e)->post X.K P Z env F H1 D (match f with | .nx e=>.nx (unlock p.2 env e) | x=>x)->post X.K P' Z (lock p.2 env) F H1 D f:=fun {f} nb nc h=>by
  cases f with
  |nx e=>exact fun σ' H' F' af=>h σ' H' F' (af.unlocked af1.re)
  |bk e=>exact absurd rfl (nb e)
  |ct e=>exact absurd rfl (nc e)
  |rt d fr=>exact fun v H' G' rp ev z f=>h v H' G' rp (ev.weak fun _ q=>.inl q) z fun w=>⟨(f w).1,fun a ha=>⟨fun q=>((f w).2 a ha).1 (.inl q),((f w).2 a ha).2⟩⟩
  |xc x e=>exact h
  |bad=>exact h
 have h:=stepP (iG _ _).1 (iG _ _).2 h;have zpL:∀ a,¬ P' a->Z a:=fun a ha=>zp a fun q=>ha (.inl q)
 refine⟨fun i m σ' H'=>m=p.1.length - i/\i<=p.1.length/\∃ env' F',After X.K P' Z (lock p.2 env) F H1 env' σ' H' F'/\post X.K P' Z env' F' H' D (bT t p.2 (aF T cb) (p.1.drop i) env'),⟨p.1.length,by simp,Nat.zero_le _,lock p.2 env,F,After.same reL hz (aH.refl _),by simpa using h⟩,?_⟩;rintro i m σ2 H2 ⟨rfl,hi,env2,F2,af2,h2⟩;obtain⟨w1,w2⟩:=wk H2 af2.ev;by_cases hlt:i<p.1.length
 ·right;have hd:p.1[i]? = some p.1[i]:=by simp[hlt]
  obtain⟨g1,g2⟩:=w1 i _ hd;refine⟨g1,fun σ' H'=>∃ env' F',After X.K P' Z (lock p.2 env) F H1 env' σ' H' F'/\post X.K P' Z env' F' H' D (bT t p.2 (aF T cb) (p.1.drop (i+1)) env'),fun σ' H' q=>⟨p.1.length - (i+1),by omega,rfl,hlt,q⟩,fun x H3 y=>?_⟩;obtain⟨s3,G3,rp3,sub3⟩:=g2 x H3 y;have af3:=After.same (Z:=Z) af2.re af2.z s3;have h2:=post.trans af3 h2;rw[cw hlt] at h2;unfold bT at h2;cases hb:aZ p.2 t p.1[i] env2 with
  |none=>rw[hb] at h2;exact h2.elim
  |some env4 =>
   rw[hb] at h2;refine mF af3.re af2.z rp3 (fun a ha=>gz a (sub3 a ha)) (fun a ha j d' t' ej o m=>?_) hb fun σ4 F4 re4 z4 lk4=>?_
   ·cases t' with
    |own=>exact absurd (.inr (sub3 a ha)) (af2.re.wr j d' ej a m)
    |lk =>
     obtain⟨e5,e6⟩:=af2.lk j d' ej;rw[e6] at m;obtain⟨t0,e0,o0,_⟩:=dZ e5;exact seen a (sub3 a ha) j d' t0 e0 (o0.trans o) m
    |sh Q=>cases o
   ·have af4:After X.K P' Z env2 F2 H3 env4 σ4 H3 F4:=⟨re4,z4,iI.refl _,lk4⟩;refine⟨P',Z,env4,F4,re4,z4,zpL,?_⟩;have h2:=post.trans af4 h2;have all:=(af2.trans af3).trans af4;cases hs:aF T cb env4 with
    |nx e'=>simp only[hs] at h2;exact fun σ' H' F' af5=>⟨e',F',all.trans af5,post.trans af5 h2⟩
    |ct e'=>simp only[hs] at h2;exact fun σ' H' F' af5=>⟨e',F',all.trans af5,post.trans af5 h2⟩
    |bk e'=>simp only[hs] at h2;exact h2
    |rt d fr=>simp only[hs] at h2;exact h2
    |xc x e'=>simp only[hs] at h2;exact h2
    |bad=>simp only[hs] at h2;exact h2
 ·left;have e:i=p.1.length:=by omega
  subst e;rw[gv] at h2;exact⟨w2,h2 σ2 H2 F2 (After.same af2.re af2.z (aH.refl _))⟩
end
noncomputable def eV (cells:List (Str×Addr)):List (Str×NameKind)->List (Str×Addr)->List (Str×Addr)
 |[],acc=>acc
 | (n,k)::r,acc=>eV cells r (if k == .free then (match cells.lookup n with | some c=>(n,c)::acc | none=>acc) else acc)
theorem nT {scope:Scope}{env:Env}(h:∀ x,(x,NameKind.free)∈scope.names->∃ c,env.cells.lookup x=some c):closureFor scope env=pure (eV env.cells scope.names []):=by
 unfold closureFor;have gen:∀(names:List (Str×NameKind)) (acc:List (Str×Addr)),(∀ x,(x,NameKind.free)∈names->∃ c,env.cells.lookup x=some c) ->
   (forIn names acc fun (p:Str×NameKind) (cs:List (Str×Addr))=>(match p with
    | (name,kind)=>if (kind == .free)=true then (do let c <- cellOf env name;pure (ForInStep.yield ((name,c)::cs))) else pure (ForInStep.yield cs):Sem (ForInStep (List (Str×Addr)))))=(pure (eV env.cells names acc):Sem (List (Str×Addr))):=by
  intro names
  induction names with
  |nil=>intro acc _;rfl
  |cons x r ih =>
   intro acc hx;obtain⟨n,k⟩:=x;rw[List.forIn_cons];simp only[eV];have hr:∀ x,(x,NameKind.free)∈r->∃ c,env.cells.lookup x=some c:=fun x hm=>hx x (ah _ hm)
   by_cases hk:(k==NameKind.free)=true
   ·have e:k = .free:=by simpa using hk
    subst e;obtain⟨c,hc⟩:=hx n ai;simp only[hk,if_true,cellOf,hc];exact ih ((n,c)::acc) hr
   ·simp only[hk,if_false];exact ih acc hr
 have:=gen scope.names [] h;simpa using this
theorem lq {cells:List (Str×Addr)}{x:Str}{c:Addr}:∀{names:List (Str×NameKind)}{acc:List (Str×Addr)},(∀ y d,acc.lookup y=some d->cells.lookup y=some d)->(eV cells names acc).lookup x=some c->cells.lookup x=some c
 |[],acc,ha,h=>ha x c h
 | (n,k)::r,acc,ha,h=>by
  simp only[eV] at h;refine lq (names:=r) (fun y d q=>?_) h;by_cases hk:(k==NameKind.free)=true
  ·rw[if_pos hk] at q;cases hc:cells.lookup n with
   |none=>rw[hc] at q;exact ha y d q
   |some e =>
    rw[hc] at q;simp only[List.lookup_cons] at q;cases hy:y==n with
    |true =>
     rw[hy] at q;have:=eq_of_beq hy;subst this;rw[hc];exact q
    |false=>rw[hy] at q;exact ha y d q
  ·rw[if_neg hk] at q;exact ha y d q
theorem kS {cells:List (Str×Addr)}{x:Str}:∀{names:List (Str×NameKind)}{acc:List (Str×Addr)},(∃ c,acc.lookup x=some c)->∃ c,(eV cells names acc).lookup x=some c
 |[],acc,h=>h
 | (n,k)::r,acc,h=>by
  simp only[eV];refine kS (names:=r) ?_;by_cases hk:(k==NameKind.free)=true
  ·rw[if_pos hk];cases hc:cells.lookup n with
   |none=>exact h
   |some e =>
    simp only[List.lookup_cons];cases hy:x==n with
    |true=>exact⟨e,rfl⟩
    |false=>exact h
  ·rw[if_neg hk];exact h
theorem jB {cells:List (Str×Addr)}{x:Str}{c:Addr}(hc:cells.lookup x=some c):∀{names:List (Str×NameKind)}{acc:List (Str×Addr)},(x,NameKind.free)∈names->∃ c,(eV cells names acc).lookup x=some c
 |[],acc,h=>by cases h
 | (n,k)::r,acc,h=>by
  simp only[eV];rcases dz.mp h with e | h
  ·cases e;refine kS (names:=r) ?_;simp only[beq_self_eq_true,if_true,hc,List.lookup_cons];exact⟨c,rfl⟩
  ·exact jB hc (names:=r) h
noncomputable def inner (X:Cx)(scope:Scope)(N':List Str)(C:Addr)(s0:Shared)(H0:Hp)(ex:List Addr):Cx :=
 { X with N:=N',s₀:=s0,H₀:=H0,env:=compEnvC scope (cellsFrom (C+1) scope.names (eV X.env.cells scope.names [])) C X.env,outer:=X.stack,stack:=X.stack,ex:=ex,fn:=fun x=>scope.names.lookup x==some .cell,pn:=[],xe:=fun _ _=>False }
structure cW (X:Cx)(scope:Scope)(N':List Str)(pick:List (Option Nat)):Prop where
 kind:scope.kind = .function
 cells:∀ y∈scope.names,y.2 = .cell->scope.names.lookup y.1=some .cell
 names:∀ y∈scope.names,y.2 = .local->scope.names.lookup y.1=some .local
 len:pick.length=N'.length
 outer:∀ x,scope.names.lookup x=some .free->(X.env.kindOf x=some .cell\/X.env.kindOf x=some .free)
 free:∀ x,(x,NameKind.free)∈scope.names->scope.names.lookup x=some .free
 pick:∀(i j:Nat) (x:Str),pick[i]? = some (some j)->N'[i]? = some x->scope.names.lookup x=some .free/\X.N[j]? = some x
noncomputable def eA (σ:L2.St)(pick:List (Option Nat)):L2.St:=pick.map fun o=>o.bind fun j=>(σ[j]?).join
theorem dH {env:Env}:∀{names:List (Str×NameKind)}{x:Str}{k:NameKind},(names.map fun (n,k)=>if (k==NameKind.free&&env.scope.kind == .function&&env.kindOf n==some .cell) then (n,NameKind.cell) else (n,k)).lookup x=some k ->
  ∃ k0,names.lookup x=some k0/\(k=k0\/(k0 = .free/\k = .cell))
 |[],_,_,h=>by simp at h
 | (n,k0)::r,x,k,h=>by
  rw[aq] at h;by_cases hc:(k0==NameKind.free&&env.scope.kind == .function&&env.kindOf n==some .cell)=true
  ·simp only[hc,if_true,List.lookup_cons] at h;simp only[List.lookup_cons];cases hx:x==n with
   |true =>
    rw[hx] at h;cases h;rw[ak,ak] at hc;exact⟨k0,rfl,.inr ⟨by simpa using hc.1.1,rfl⟩⟩
   |false=>rw[hx] at h;exact dH h
  ·have hc:(k0==NameKind.free&&env.scope.kind == .function&&env.kindOf n==some .cell)=false:=by simpa using hc
   simp only[hc,Bool.false_eq_true,if_false,List.lookup_cons] at h;simp only[List.lookup_cons];cases hx:x==n with
   |true=>rw[hx] at h;cases h;exact⟨k0,rfl,.inl rfl⟩
   |false=>rw[hx] at h;exact dH h
theorem dR {env:Env}:∀{names:List (Str×NameKind)}{x:Str},names.lookup x=some .free ->
  (names.map fun (n,k)=>if (k==NameKind.free&&env.scope.kind == .function&&env.kindOf n==some .cell) then (n,NameKind.cell) else (n,k)).lookup x=some .cell \/
  (names.map fun (n,k)=>if (k==NameKind.free&&env.scope.kind == .function&&env.kindOf n==some .cell) then (n,NameKind.cell) else (n,k)).lookup x=some .free
 |[],_,h=>by simp at h
 | (n,k0)::r,x,h=>by
  rw[aq];by_cases hc:(k0==NameKind.free&&env.scope.kind == .function&&env.kindOf n==some .cell)=true
  ·simp only[hc,if_true,List.lookup_cons] at h ⊢;cases hx:x==n with
   |true=>left;rfl
   |false=>rw[hx] at h;exact dR h
  ·have hc:(k0==NameKind.free&&env.scope.kind == .function&&env.kindOf n==some .cell)=false:=by simpa using hc
   simp only[hc,Bool.false_eq_true,if_false,List.lookup_cons] at h ⊢;cases hx:x==n with
   |true=>rw[hx] at h;cases h;right;rfl
   |false=>rw[hx] at h;exact dR h
theorem fA:∀(names:List (Str×NameKind)) (n:Nat) (acc:List (Str×Addr)),cellsFrom n names acc=cellsFrom n names []++acc
 |[],_,_=>rfl
 | (nm,k)::r,n,acc=>by
  unfold cellsFrom;split
  ·rw[fA r (n+1) ((nm,n)::acc),fA r (n+1) [(nm,n)],du];rfl
  ·exact fA r n acc
theorem oy:∀(names:List (Str×NameKind)) (n:Nat) {x:Str}{c:Addr},(x,c)∈cellsFrom n names []->(x,NameKind.cell)∈names
 |[],_,_,_,h=>by cases h
 | (nm,k)::r,n,x,c,h=>by
  unfold cellsFrom at h;split at h
  ·rename_i hk;rw[fA] at h;rcases List.mem_append.mp h with h | h
   ·exact ah _ (oy r _ h)
   ·have e:(x,c)=(nm,n):=by simpa using h
    cases e;rw[show k = .cell by simpa using hk];exact ai
  ·exact ah _ (oy r _ h)
theorem l7:∀(names:List (Str×NameKind)) (n:Nat) {x:Str},(x,NameKind.cell)∈names->∃ c,(cellsFrom n names []).lookup x=some c
 | (nm,k)::r,n,x,h=>by
  unfold cellsFrom;rcases dz.mp h with e | h
  ·cases e;rw[if_pos (by decide),fA,ft];cases (cellsFrom (n+1) r []).lookup nm with
   |some c=>exact⟨c,rfl⟩
   |none=>exact⟨n,by simp⟩
  ·split
   ·obtain⟨c,hc⟩:=l7 r (n+1) h;rw[fA,ft,hc];exact⟨c,rfl⟩
   ·exact l7 r n h
theorem nfe {M:Model}{A:Around}{E:Value->Shared->Prop}{s:Shared}{scope:Scope}{globals:Addr}{cl:List (Str×Addr)}{qual:Str}{env:Env}{Q:Env->Shared->Prop}
  (h:Q { scope:=scope,locals:=s.heap.objs.size,globals:=globals,cells:=cellsFrom (s.heap.objs.size+1) scope.names cl,qual:=qual,func:=none,code:=env.code,frame:=env.frame,builtins:=env.builtins } { s with heap:=pushCells (s.heap.push { cls:=.type "dict",data:=.dict #[] }) scope.names }) :
  wpAny M A (newFunctionEnv scope globals cl [] qual none .none (some env)) Q E s:=by
 simp only[newFunctionEnv,Option.isSome_some,if_true];refine wpAny_bind (wpAny_alloc (wpAny_bind (wpAny_layCells _ (fun name kind cells=>by cases hkc:kind==NameKind.cell<;>simp[hkc]) _ _ _ _ ?_)));rw[show ({ s with heap:=s.heap.push { cls:=.type "dict",data:=.dict #[] } }:Shared).heap.objs.size=s.heap.objs.size+1 from Heap.size_push ..];exact wpAny_pure h
section
variable {X:Cx}{scope:Scope}{N':List Str}{pick:List (Option Nat)}{pins:List (Addr×Obj)}{σ:L2.St}{H:Hp}{s:Shared}
theorem mR (S:cW X scope N' pick)(I:Inv X pins σ H s){fp:List Addr}(hf:∀ b∈fp,gQ X pins H b)(hl:∀ b∈fp,b<s.heap.objs.size) :
  Inv (inner X scope N' s.heap.objs.size s H fp) [] (eA σ pick) H { s with heap:=pushCells (s.heap.push { cls:=.type "dict",data:=.dict #[] }) scope.names }:=by
 have old:∀ x c,(eV X.env.cells scope.names []).lookup x=some c->X.env.cells.lookup x=some c:=fun x c h=>lq (acc:=[]) (fun y d q=>by simp at q) h
 have hk:∀ b o,s.heap.get? b=some o->(pushCells (s.heap.push { cls:=.type "dict",data:=.dict #[] }) scope.names).get? b=some o:=fun b o e=>pushCells_keeps _ _ b o (Heap.get?_push_of_some _ e)
 have hn:(pushCells (s.heap.push { cls:=.type "dict",data:=.dict #[] }) scope.names).Ns s.heap.objs.size (fun _=>none):=(Heap.Ns.new s.heap (.type "dict")).keeps (pushCells_keeps _ _);have ok:=cellsFrom_ok scope.names (s.heap.push { cls:=.type "dict",data:=.dict #[] }) (s.heap.objs.size+1) [] ⟨fun _ _ hm=>(nomatch hm),List.Pairwise.nil⟩ (by rw[Heap.size_push];exact av _);rw[Heap.size_push] at ok;generalize hh:pushCells (s.heap.push { cls:=.type "dict",data:=.dict #[] }) scope.names=h' at *;have oldlt:∀ x c,X.env.cells.lookup x=some c->c<s.heap.objs.size:=fun x c h=>by
  obtain⟨v,hv⟩:=I.cell x c h;exact hv.lt
 have look:∀ x c,(cellsFrom (s.heap.objs.size+1) scope.names (eV X.env.cells scope.names [])).lookup x=some c->((x,c)∈cellsFrom (s.heap.objs.size+1) scope.names []/\s.heap.objs.size+1<=c)\/((x,NameKind.cell)∉scope.names/\X.env.cells.lookup x=some c):=fun x c h=>by
  rw[fA,ft] at h;cases q:(cellsFrom (s.heap.objs.size+1) scope.names []).lookup x with
  |some c' =>
   rw[q] at h;cases h;have hm:=br q;exact .inl ⟨hm,(ok.empty _ _ hm).2⟩
  |none =>
   rw[q] at h;refine .inr ⟨fun z=>?_,old x c h⟩;obtain⟨c',hc'⟩:=l7 scope.names (s.heap.objs.size+1) z;rw[q] at hc';cases hc'
 have sees:∀ x c,scope.names.lookup x=some .free->(eV X.env.cells scope.names []).lookup x=some c->(cellsFrom (s.heap.objs.size+1) scope.names (eV X.env.cells scope.names [])).lookup x=some c:=fun x c hx h=>by
  rw[fA,ft];cases q:(cellsFrom (s.heap.objs.size+1) scope.names []).lookup x with
  |some c' =>
   have:=S.cells _ (oy _ _ (br q)) rfl;rw[hx] at this;cases this
  |none=>rw[h];rfl
 refine⟨⟨I.ok.mod,S.kind,I.ok.glob,I.ok.blt,av _,fun x y c h1 h2=>?inj,fun x hx=>?_,fun x c hx h=>?cab,I.ok.hd,I.ok.frames,.inl rfl,fun b hb=>?_,I.bs,bh I.ok.bsz I.sz,fun b o e hb=>?_,fun b hb hb'=>?_,I.stack,I.stkFree⟩,
  rfl,I.bare,Un.kept hk,⟨_,hn,fun i x v h1 h2 h3=>?_⟩,fun x c h=>?_,I.hok.fresh (Nat.le_refl _),fun x c h=>?frc,fun p hp=>absurd (show p∈([]:List (Addr×Obj)) from hp) (by simp),I.hok.kept hk,?_⟩
 case inj =>
  rcases look x c h1 with ⟨m1,l1⟩ | ⟨_,o1⟩<;>rcases look y c h2 with ⟨m2,l2⟩ | ⟨_,o2⟩
  ·exact name_of_addr ok.apart m1 m2
  ·exact absurd (ba (oldlt y c o2) (Nat.le_of_succ_le l1)) (c8 _)
  ·exact absurd (ba (oldlt x c o1) (Nat.le_of_succ_le l2)) (c8 _)
  ·exact I.ok.inj x y c o1 o2
 case cab =>
  have hx:scope.names.lookup x=some .cell:=by simpa[inner] using hx
  rcases look x c h with ⟨_,l1⟩ | ⟨n1,_⟩
  ·exact bh (Nat.le_succ _) l1
  ·exact absurd (br hx) n1
 case frc =>
  rcases look x c h with ⟨_,l1⟩ | ⟨_,o1⟩
  ·exact I.hok.fresh (bh (Nat.le_succ _) l1)
  ·exact I.freeC x c o1
 ·have hx:(relabel scope X.env).names.lookup x=some .cell\/(relabel scope X.env).names.lookup x=some .free:=hx;have hfree:scope.names.lookup x=some .free\/scope.names.lookup x=some .cell:=by
   rcases hx with hx | hx
   ·obtain⟨k0,h1,h2 | ⟨h2,_⟩⟩:=dH hx
    ·subst h2;exact .inr h1
    ·rw[h2] at h1;exact .inl h1
   ·obtain⟨k0,h1,h2 | ⟨h2,h3⟩⟩:=dH hx
    ·subst h2;exact .inl h1
    ·cases h3
  rcases hfree with hfree | hfree
  ·obtain⟨c,hc⟩:=I.ok.has x (S.outer x hfree);obtain⟨c',hc'⟩:=jB (acc:=[]) hc (br hfree);exact⟨c',sees x c' hfree hc'⟩
  ·obtain⟨c,hc⟩:=l7 scope.names (s.heap.objs.size+1) (br hfree);refine⟨c,?_⟩;show (cellsFrom (s.heap.objs.size+1) scope.names (eV X.env.cells scope.names [])).lookup x=some c;rw[fA,ft,hc];rfl
 ·refine⟨bo (hl b hb),fun x c h=>?_⟩;rcases look x c h with ⟨_,l1⟩ | ⟨_,o1⟩
  ·exact fun e=>c8 _ (ba (hl b hb) (e ▸ Nat.le_of_succ_le l1))
  ·exact (hf b hb).2.2.2.2.1 x c o1
 ·obtain⟨f0,f1,f2,f3,f4,f5⟩:=hf b hb;rcases f3 with f3 | f3
  ·exact I.ok.noex b o e f3
  ·exact absurd (ba (Heap.lt_size e) (bh I.ok.bsz f3)) (c8 _)
 ·obtain⟨f0,f1,f2,f3,f4,f5⟩:=hf b hb;exact (dz.mp (I.stkSub b hb')).elim f1 f2
 ·
  have h2':(pick.map fun o=>o.bind fun j=>(σ[j]?).join)[i]? = some (some v):=h2;rw[List.getElem?_map] at h2';cases hp:pick[i]? with
  |none=>rw[hp] at h2';cases h2'
  |some o =>
   rw[hp] at h2';cases o with
   |none=>simp at h2'
   |some j =>
    simp only[Option.map_some,Option.bind_some,Option.some.injEq] at h2';have hj:σ[j]? = some (some v):=by
     cases q:σ[j]? with
     |none=>rw[q] at h2';cases h2'
     |some o=>rw[q] at h2';cases o with
      |none=>cases h2'
      |some w=>simp at h2';rw[h2']
    obtain⟨k1,k2⟩:=S.pick i j x hp h1;obtain⟨m0,hn0,hl0⟩:=I.loc;have vis:Af X.env.scope x:=by
     rcases S.outer x k1 with q | q
     ·exact .inr (.inl q)
     ·exact .inr (.inr q)
    obtain⟨u,r,lk⟩:=hl0 j x v k2 hj vis;refine⟨u,r,?_⟩;rcases lk with ⟨z,_⟩ | ⟨_,c,hc,hcell⟩
    ·rcases S.outer x k1 with q | q<;>· rw[z] at q;cases q
    ·obtain⟨c',hc'⟩:=jB (names:=scope.names) (acc:=[]) hc (br k1);have:=old x c' hc';rw[hc] at this;cases this;refine .inr ⟨dR k1,c,sees x c k1 hc',?_⟩;obtain⟨o,ho,hd⟩:=hcell;exact⟨o,hk c o ho,hd⟩
 ·rcases look x c h with ⟨m1,_⟩ | ⟨_,o1⟩
  ·exact⟨none,(ok.empty _ _ m1).1⟩
  ·obtain⟨v,o,ho,hd⟩:=I.cell x c o1;exact⟨v,o,hk c o ho,hd⟩
 ·show (pick.map _).length=N'.length;rw[ag,S.len]
end
noncomputable abbrev pM (ifs:List Expr)(env:Env):Sem Bool:=forIn ifs true fun c r=>if r=true then do let ok <- isTrue c env (eval c env);pure (ForInStep.yield ok) else pure (ForInStep.yield r)
noncomputable def Az (X:Cx)(ifs:List Expr)(t:TT):Prop :=
 ∀(pins:List (Addr×Obj)) (s:Shared) (σ:L2.St) (H:Hp) (Q:Bool->Hp->Prop),Inv X pins σ H s->t σ H Q->wpAny (model X.prog X.w) X.A (pM ifs X.env) (TP X pins σ Q) X.xe s
theorem xq {X:Cx}:Az X [] (fun _ H Q=>Q true H):=fun _ _ _ H Q I h=>wpAny_tests_nil ⟨H,I,h⟩
theorem v8 {X:Cx}{c:Expr}{t:TT}(h:PT X c t):Az X [c] t:=fun pins s σ H Q I q=>wpAny_tests_one (h pins s σ H Q I q)
section
variable {prog:Program}{w:World}{A:Around}{R:Result->Shared->Prop}{s:Shared}
theorem nu {elt target iter:Expr}{ifs:List Expr}{scope:Scope}{pos:Pos}{it acc:Value}{env:Env}(I:Nat->Shared->Prop)
  (turn:∀ n s,I n s->wpAny (model prog w) A (pyNext it) (fun r s₁=>match r with
   |none=>R (.ok .next) s₁
   |some v=>wpAny (model prog w) A (letOwnedTupleGo target it v) (fun _ s₀=>wpAny (model prog w) A (assign target env v) (fun _ s₂ =>
     wpAny (model prog w) A (pM ifs env) (fun ok s₃ =>
      if ok=true then wpAny (model prog w) A (eval elt env) (fun x s₄ =>
       wpAny (model prog w) A (call (.builtin "list.append") [acc,x]) (fun _ s₅=>∃ m,m<n/\I m s₅) (fun _ _=>False) s₄) (fun _ _=>False) s₃
      else ∃ m,m<n/\I m s₃) (fun _ _=>False) s₂) (fun _ _=>False) s₀) (fun _ _=>False) s₁) (fun _ _=>False) s)
  (n:Nat) (h:I n s):codeAny (model prog w) A (.compLoop (.ListComp elt [⟨target,iter,ifs,0⟩] scope pos) 0 it acc env) R s:=by
 refine codeAny_loop rfl I (fun n s hI=>?_) n h;show wpAny _ A ((compTurn (.ListComp elt [⟨target,iter,ifs,0⟩] scope pos) 0 it acc env).onRaise (fun x=>do noteFrame x env;theTreesLotGoes x)) _ _ s;refine wpAny_noted ?_;rw[compTurn_list];refine wpAny_bind (wpAny_standAt (wpAny_bind (wpAny_mono (turn n s hI) (fun r s₁ h₁=>?_) fun _ _ h'=>h'.elim)));cases r with
 |none=>exact wpAny_pure h₁
 |some v =>
  refine wpAny_bind (wpAny_mono h₁ (fun _ s₀ h₀=>?_) fun _ _ h'=>h'.elim);refine wpAny_bind (wpAny_mono h₀ (fun _ s₂ h₂=>wpAny_bind (wpAny_mono h₂ (fun ok s₃ h₃=>?_) fun _ _ h'=>h'.elim)) fun _ _ h'=>h'.elim);cases ok with
  |false=>exact wpAny_pure ⟨rfl,h₃⟩
  |true =>
   exact wpAny_bind (wpAny_bind (wpAny_mono h₃ (fun x s₄ h₄=>wpAny_bind (wpAny_mono h₄ (fun _ s₅ h₅=>wpAny_pure (wpAny_pure ⟨rfl,h₅⟩)) fun _ _ h'=>h'.elim)) fun _ _ h'=>h'.elim))
end
def uB (pick:List (Option Nat))(wi:TI)(g:TG)(tt:TT)(te:TE):TE:=fun σ H Q=>wi σ H fun J H1=>∀ l,H1 l=none->∃ W:Nat->Nat->Hp->Prop,(∃ m,W 0 m (upd H1 l (.lst [])))/\∀ i m H,W i m H ->
 (J.stop i H/\Q (.ref l) H)\/(J.go i H/\∃ N:Hp->Prop,(∀ H',N H'->∃ m',m'<m/\W (i+1) m' H')/\∀ x H',J.yld i H x H'->g x (eA σ pick) H' fun σ2 H2 =>
  tt σ2 H2 fun b H3=>if b=true then te σ2 H3 fun y H4=>∃ xs,H4 l=some (.lst xs)/\xs.length<sizeLine/\N (upd H4 l (.lst (xs ++ [y]))) else N H3)
section
variable {X:Cx}{scope:Scope}{N':List Str}{pick:List (Option Nat)}{tg iter elt:Expr}{ifs:List Expr}{pos:Pos}{wi:TI}{g:TG}{tt:TT}{te:TE}
theorem jE (S:cW X scope N' pick)(hc:X.calm=true)(hin:∀ C s0 H0 ex,PG (inner X scope N' C s0 H0 ex) tg g/\Az (inner X scope N' C s0 H0 ex) ifs tt/\PE (inner X scope N' C s0 H0 ex) elt te)
  (gk:∀(v:V) (σ:L2.St) (H:Hp) (Q:L2.St->Hp->Prop),g v σ H Q->g v σ H fun σ' H'=>Q σ' H'/\σ'.length=σ.length/\∀(i:Nat) u,pick[i]?≠some none->σ[i]? = some u->σ'[i]? = some u)
  {pins:List (Addr×Obj)}{σ:L2.St}{H:Hp}{s:Shared}{it:Addr}{fp:List Addr}{tn:Nat->Heap->Prop}{J:It}{E:Value->Shared->Prop}{RR:Value->Addr->Result->Shared->Prop}(I:Inv X pins σ H s) (T:Turn X.prog X.w X.K tg J fp it tn) (st:tn 0 s.heap) (hf:∀ b∈fp,gQ X pins H b)
  (Q:VK) (h:∀ l,H l=none->∃ W:Nat->Nat->Hp->Prop,(∃ m,W 0 m (upd H l (.lst [])))/\∀ i m H,W i m H ->
   (J.stop i H/\Q (.ref l) H)\/(J.go i H/\∃ N:Hp->Prop,(∀ H',N H'->∃ m',m'<m/\W (i+1) m' H')/\∀ x H',J.yld i H x H'->g x (eA σ pick) H' fun σ2 H2 =>
    tt σ2 H2 fun b H3=>if b=true then te σ2 H3 fun y H4=>∃ xs,H4 l=some (.lst xs)/\xs.length<sizeLine/\N (upd H4 l (.lst (xs ++ [y]))) else N H3))
  (hR:∀(l C:Addr) (s':Shared) (H':Hp) (m:Str->Option Value),s'.heap.Ns C m->gQ X pins H' C->Q (.ref l) H'->Inv X pins σ H' s'->RR (.ref l) C (.ok .next) s') :
  wpAny (model X.prog X.w) X.A (newList []) (fun acc s₃=>wpAny (model X.prog X.w) X.A (newFunctionEnv scope X.env.globals (eV X.env.cells scope.names []) [] X.env.qual none .none (some X.env)) (fun cenv s₄ =>
   codeAny (model X.prog X.w) X.A (.compStart (.ListComp elt [⟨tg,iter,ifs,0⟩] scope pos) 0 (.ref it) acc { cenv with scope:=relabel scope X.env }) (RR acc cenv.locals) s₄) E s₃) E s:=by
 have hltI:∀ b∈fp,b<s.heap.objs.size:=fun b hb=>let ⟨o,e,_⟩:=T.obj 0 _ st b hb;Heap.lt_size e
 refine wpAny_newObj_type (nfe ?_);dsimp only;have I3:Inv X pins σ (upd H s.heap.objs.size (.lst [])) { s with heap:=s.heap.push { cls:=.type "list",data:=.seq ([]:List Value).toArray } }:=I.lnew (ys:=[]) (its:=[]) (t':=s.toks) .nil (cy _);obtain⟨W,⟨m0,w0⟩,turn⟩:=h s.heap.objs.size I.fresh;have hC:(s.heap.push { cls:=.type "list",dict:=none,data:=.seq ([]:List Value).toArray }).objs.size=s.heap.objs.size+1:=Heap.size_push ..;have hf3:∀ b∈fp,gQ X pins (upd H s.heap.objs.size (.lst [])) b:=fun b hb=>⟨by rw[aI (bo (hltI b hb))];exact (hf b hb).1,(hf b hb).2⟩
 have keep3:∀ b o,(s.heap.push { cls:=.type "list",dict:=none,data:=.seq ([]:List Value).toArray }).get? b=some o->(pushCells ((s.heap.push { cls:=.type "list",dict:=none,data:=.seq ([]:List Value).toArray }).push { cls:=.type "dict",data:=.dict #[] }) scope.names).get? b=some o:=fun b o e=>pushCells_keeps _ _ b o (Heap.get?_push_of_some _ e)
 have I4:=mR (s:={ s with heap:=s.heap.push { cls:=.type "list",dict:=none,data:=.seq ([]:List Value).toArray } }) S I3 hf3 (fun b hb=>by show b<(s.heap.push _).objs.size;rw[hC];exact fv (hltI b hb));dsimp only at I4;generalize hh₁:pushCells ((s.heap.push { cls:=.type "list",dict:=none,data:=.seq ([]:List Value).toArray }).push { cls:=.type "dict",data:=.dict #[] }) scope.names=h₁ at *;have st4:tn 0 h₁:=T.keep 0 _ _ st fun b hb o e=>keep3 b o (Heap.get?_push_of_some _ e)
 generalize hY:inner X scope N' (s.heap.push { cls:=.type "list",dict:=none,data:=.seq ([]:List Value).toArray }).objs.size { s with heap:=s.heap.push { cls:=.type "list",dict:=none,data:=.seq ([]:List Value).toArray } } (upd H s.heap.objs.size (.lst [])) fp=Y at I4;have hYin:=hin (s.heap.push { cls:=.type "list",dict:=none,data:=.seq ([]:List Value).toArray }).objs.size { s with heap:=s.heap.push { cls:=.type "list",dict:=none,data:=.seq ([]:List Value).toArray } } (upd H s.heap.objs.size (.lst [])) fp;rw[hY] at hYin;obtain⟨yg,yt,ye⟩:=hYin;have yE:Y.env=compEnvC scope (cellsFrom ((s.heap.push { cls:=.type "list",dict:=none,data:=.seq ([]:List Value).toArray }).objs.size+1) scope.names (eV X.env.cells scope.names [])) (s.heap.push { cls:=.type "list",dict:=none,data:=.seq ([]:List Value).toArray }).objs.size X.env:=by rw[<-hY];rfl
 have hCL:(s.heap.push { cls:=.type "list",dict:=none,data:=.seq ([]:List Value).toArray }).objs.size≠X.env.locals:=by
  rw[hC];exact Nat.ne_of_gt (fv I.lt)
 have back:∀{H5:Hp}{s5:Shared},Inv Y [] (eA σ pick) H5 s5->Q (.ref s.heap.objs.size) H5->RR (.ref s.heap.objs.size) (s.heap.push { cls:=.type "list",dict:=none,data:=.seq ([]:List Value).toArray }).objs.size (.ok .next) s5:=fun {H5 s5} I5 q=>by
  subst hY;obtain⟨m,hn,_⟩:=I5.loc;have J5:Inv X pins σ H5 s5:=Inv.call' I3 I5.os I5.base I5.hok I5.bare fun b hb=>by
   obtain⟨f0,f1,f2,f3,f4,f5⟩:=hf b hb;exact⟨f3,f1,f4,f5⟩
  have lt3:∀{b:Addr}{o:Obj},s.heap.get? b=some o->b≠(s.heap.push { cls:=.type "list",dict:=none,data:=.seq ([]:List Value).toArray }).objs.size:=fun e=>by rw[hC];exact bo (fv (Heap.lt_size e))
  refine hR _ _ s5 H5 m hn ⟨I5.free,hCL,I.nofs (by rw[hC];exact Nat.le_succ _),.inr (by rw[hC];exact Nat.le_succ_of_le I.sz),fun x c e z=>?_,fun p hp z=>?_⟩ q J5
  ·obtain⟨v,o,ho,_⟩:=I.cell x c e;exact lt3 ho z
  ·exact lt3 (I.pin p hp).1 z
 have yP:Y.prog=X.prog:=by rw[<-hY];rfl
 have yw:Y.w=X.w:=by rw[<-hY];rfl
 have yK:Y.K=X.K:=by rw[<-hY];rfl
 have yA:Y.A=X.A:=by rw[<-hY];rfl
 have yc:Y.calm=true:=by rw[<-hY];exact hc
 have yx:Y.xe=fun _ _=>False:=by rw[<-hY];rfl
 have yp:Y.pn=[]:=by rw[<-hY];rfl
 have yex:Y.ex=fp:=by rw[<-hY];rfl
 have stat:∀{H':Hp},(∀ b∈fp,H' b=none)->∀ b∈fp,gQ Y [] H' b:=fun {H'} hn b hb=>by
  have hb':b∈Y.ex:=by rw[yex];exact hb
  obtain⟨x1,x2⟩:=I4.ok.exf b hb';exact⟨hn b hb,x1,I4.ok.exfs b hb',.inl hb',x2,fun p hp=>by rw[yp] at hp;cases hp⟩
 rw[<-yP,<-yw,<-yA];have loop:codeAny (model Y.prog Y.w) Y.A (.compLoop (.ListComp elt [⟨tg,iter,ifs,0⟩] scope pos) 0 (.ref it) (.ref s.heap.objs.size) Y.env) (RR (.ref s.heap.objs.size) (s.heap.push { cls:=.type "list",dict:=none,data:=.seq ([]:List Value).toArray }).objs.size) { s with heap:=h₁ }:=by
  refine nu (fun n s5=>∃ i H5,Inv Y [] (eA σ pick) H5 s5/\tn i s5.heap/\(∀ b∈fp,H5 b=none)/\W i n H5) ?_ m0 ⟨0,_,I4,st4,fun b hb=>(hf3 b hb).1,w0⟩;rintro n s5 ⟨i,H5,I5,st5,fr5,w5⟩;rcases turn i n H5 w5 with ⟨stop,qn⟩ | ⟨go,N,hN,step⟩
  ·have d:=T.done Y yP yw yK yc i [] s5 (eA σ pick) H5 (fun _ _=>False) I5 (stat fr5) st5 stop;rw[<-yP,<-yw] at d;refine bM d fun r s6 ⟨hr,I6⟩=>?_
   subst hr;exact back I6 qn
  ·have d:=T.item Y yP yw yK yc i [] s5 (eA σ pick) H5 (fun _ _=>False) I5 (stat fr5) st5 go;rw[<-yP,<-yw] at d;refine bM d fun r s6 ⟨u,hr,h6⟩=>?_
   subst hr;refine bM h6 fun _ s7 ⟨x,H7,I7,r7,y7,st7,fr7⟩=>?_
   have I7':=I7.pinned (stat fr7) (T.obj _ _ st7);have yg':=yg _ s7 (eA σ pick) H7 x u _ I7' r7 (gk _ _ _ _ (step x H7 y7));rw[yx] at yg';refine bM yg' fun _ s8 ⟨σ8,H8,I8,q8,l8,k8⟩=>?_
   have yt':=yt _ s8 σ8 H8 _ I8 q8;rw[yx] at yt';refine bM yt' fun b s9 ⟨H9,I9,q9⟩=>?_
   have again:∀{σ':L2.St}{H':Hp}{s':Shared},Inv Y ([]++j3 fp s7.heap) σ' H' s'->σ'=σ8->N H'->∃ m,m<n/\∃ i H5,Inv Y [] (eA σ pick) H5 s'/\tn i s'.heap/\(∀ b∈fp,H5 b=none)/\W i m H5:=fun {σ' H' s'} J e nn=>by
    subst e;obtain⟨m',hm,w'⟩:=hN H' nn;refine⟨m',hm,i+1,H',(J.unpinned).weak (l8.symm) (fun j v e=>?_),T.keep _ _ _ st7 fun b hb o e=>(J.pin (b,o) (au _ (au _ (dP hb e)))).1,fun b hb=>?_,w'⟩
    ·refine k8 j _ (fun z=>?_) e;unfold eA at e;rw[List.getElem?_map,z] at e;simp at e
    ·obtain⟨o,e,_⟩:=T.obj _ _ st7 b hb;exact (J.pin (b,o) (au _ (au _ (dP hb e)))).2.1
   cases b with
   |false =>
    rw[if_neg ax];exact again I9 rfl q9
   |true =>
    rw[if_pos rfl];have q9:te σ8 H9 fun y H4=>∃ xs,H4 s.heap.objs.size=some (.lst xs)/\xs.length<sizeLine/\N (upd H4 s.heap.objs.size (.lst (xs ++ [y]))):=q9
    have ye':=ye _ s9 σ8 H9 _ I9 q9;rw[yx] at ye';refine bM ye' fun v s10 ⟨y,H10,I10,r10,xs,e10,z10,n10⟩=>?_
    have ap:=k9 _ s10 σ8 H10 (.ref s.heap.objs.size) [y] (.ref s.heap.objs.size) [v] (fun _ H'=>N H') I10 rfl (.cons r10 .nil) ⟨s.heap.objs.size,xs,y,rfl,rfl,e10,z10,n10⟩;rw[yx] at ap;exact bM ap fun _ s11 ⟨_,H11,I11,_,n11⟩=>again I11 rfl n11
 show codeAny (model Y.prog Y.w) Y.A (.compStart (.ListComp elt [⟨tg,iter,ifs,0⟩] scope pos) 0 (.ref it) (.ref s.heap.objs.size) (compEnvC scope (cellsFrom ((s.heap.push { cls:=.type "list",dict:=none,data:=.seq ([]:List Value).toArray }).objs.size+1) scope.names (eV X.env.cells scope.names [])) (s.heap.push { cls:=.type "list",dict:=none,data:=.seq ([]:List Value).toArray }).objs.size X.env))
  (RR (.ref s.heap.objs.size) (s.heap.push { cls:=.type "list",dict:=none,data:=.seq ([]:List Value).toArray }).objs.size) { s with heap:=h₁ }
 rw[<-yE];refine codeAny_compStart_list loop ?_;have l2:=loop;rw[yP,yw] at l2 ⊢;exact T.self Y.A 0 _ _ _ st4 l2
theorem dY (S:cW X scope N' pick)(hh:∀ x,(X.env.kindOf x=some .cell\/X.env.kindOf x=some .free)->∃ c,X.env.cells.lookup x=some c):closureFor scope X.env=pure (eV X.env.cells scope.names []) :=
 nT fun x hx=>hh x (S.outer x (S.free x hx))
theorem vo (S:cW X scope N' pick)(hc:X.calm=true)(hi:PI X tg iter wi)(hin:∀ C s0 H0 ex,PG (inner X scope N' C s0 H0 ex) tg g/\Az (inner X scope N' C s0 H0 ex) ifs tt/\PE (inner X scope N' C s0 H0 ex) elt te)
  (gk:∀(v:V) (σ:L2.St) (H:Hp) (Q:L2.St->Hp->Prop),g v σ H Q->g v σ H fun σ' H'=>Q σ' H'/\σ'.length=σ.length/\∀(i:Nat) u,pick[i]?≠some none->σ[i]? = some u->σ'[i]? = some u) (hs:∀ x,foldedSetIterable iter X.env x=pure x) :
  PE X (.ListComp elt [⟨tg,iter,ifs,0⟩] scope pos) (uB pick wi g tt te):=by
 intro pins s σ H Q I h;rw[eval_ListComp];refine wpAny_comprehension_free (use:=none) rfl hs (dY S I.ok.has) S.kind S.names (bM (hi pins s σ H _ I h) fun v s1 h1=>bM h1 fun itv s2 h2=>?_);obtain⟨it,fp,tn,J,H2,e,I2,T,st2,f2,q⟩:=h2;subst e;refine jE (RR:=fun acc C=>compPost (model X.prog X.w) X.A X.xe none (EP X pins σ Q) acc C) S hc hin gk I2 T st2 f2 Q q fun l C s' H' m hn fc hq J0=>?_
 obtain⟨f0,f1,f2,f3,f4,f5⟩:=fc;exact⟨m,hn,fun h' sb=>⟨.ref l,H',J0.turned (t':=s'.toks) (fun b o hb e=>sb.extBut b o hb e) f0 f1 f3 f4 f5,rfl,hq⟩⟩
theorem nY {i:Nat}{x:Str}{pos' spos:Pos}(S:cW X scope N' pick)(hc:X.calm=true)(hi:PI X tg iter wi)(hin:∀ C s0 H0 ex,PG (inner X scope N' C s0 H0 ex) tg g/\Az (inner X scope N' C s0 H0 ex) ifs tt/\PE (inner X scope N' C s0 H0 ex) elt te)
  (gk:∀(v:V) (σ:L2.St) (H:Hp) (Q:L2.St->Hp->Prop),g v σ H Q->g v σ H fun σ' H'=>Q σ' H'/\σ'.length=σ.length/\∀(i:Nat) u,pick[i]?≠some none->σ[i]? = some u->σ'[i]? = some u) (hs:∀ x,foldedSetIterable iter X.env x=pure x)
  (hN:X.N.Nodup) (hx:X.N[i]? = some x) (hl:Loc X.env.scope x) (hf:X.fn x=true\/X.env.scope.names.lookup x=some .local) (hsw:swapsWith (.ListComp elt [⟨tg,iter,ifs,0⟩] scope pos) (some (.Name x pos')) spos.line X.env=pure true) :
  PS X (.Assign [.Name x pos'] (.ListComp elt [⟨tg,iter,ifs,0⟩] scope pos) spos) (vS (uB pick wi g tt te) (lE i)):=by
 intro pins s σ H D I h;rw[exec_Assign_Name_used _ _ _ _ hsw];refine wpAny_bind (wpAny_standAt (wpAny_bind ?_));show wpAny _ X.A (do let _ <- comprehension (.ListComp elt [⟨tg,iter,ifs,0⟩] scope pos) scope X.env _ (newList []) false (eval iter X.env) (some (assign (.Name x pos') X.env))) _ _ s;refine wpAny_bind (wpAny_mono (wpAny_comprehension_free (use:=some (assign (.Name x pos') X.env)) (Q:=fun _ s'=>SP X pins D .next s') rfl hs (dY S I.ok.has) S.kind S.names
  (bM (hi pins s σ H _ I h) fun v s1 h1=>bM h1 fun itv s2 h2=>?_)) (fun _ s' hq=>wpAny_pure (wpAny_pure hq)) fun _ _ e=>e)
 obtain⟨it,fp,tn,J,H2,e,I2,T,st2,f2,q⟩:=h2;subst e;refine jE (RR:=fun acc C=>compPost (model X.prog X.w) X.A X.xe (some (assign (.Name x pos') X.env)) (fun _ s'=>SP X pins D .next s') acc C) S hc hin gk I2 T st2 f2 (fun x H1=>lE i x σ H1 D.nx) q fun l C s' H' m hn fc hq J0=>?_
 obtain⟨o,es,ep,ho,hd,hr⟩:=id hn;have J1:=J0.pinned (fp:=[C]) (fun b hb=>by rw[gi.mp hb];exact fc) fun b hb=>by rw[gi.mp hb];exact⟨o,ho,fun v z=>by rw[hd] at z;cases z⟩
 show wpAny (model X.prog X.w) X.A (assign (.Name x pos') X.env (.ref l)) _ _ s';refine wpAny_assign_Name (jx J1 hN hx hl (v:=.ref l) rfl (fun s2 I2=>?_) hf);have hC2:=(I2.pin (C,o) (List.mem_append_right _ (List.mem_append_right _ (dP (by simp) ho)))).1;obtain⟨f0,f1,f2,f3,f4,f5⟩:=fc;refine⟨m,⟨o,es,ep,hC2,hd,hr⟩,fun h' sb=>?_⟩;exact⟨_,H',I2.unpinned.turned (t':=s2.toks) (fun b o hb e=>sb.extBut b o hb e) f0 f1 f3 f4 f5,hq⟩
end
noncomputable def cZ (own:Nat)(pick:List Nat):List (Option Nat):=List.replicate own none++pick.map some
theorem mm (σ:L2.St)(pk:List (Option Nat)):(eA σ pk).length=pk.length:=by simp[eA]
theorem kx (env:En)(own:Nat)(pick:List Nat):(bF env own pick).length=own+pick.length:=by simp[bF]
noncomputable def kQ (F:Nat->List Addr)(env:En)(own:Nat)(pick:List Nat):Nat->List Addr:=fun i=>match (bF env own pick)[i]? with
 | some (some _)=>match pick[i - own]? with
  |some j=>F j
  |none=>[]
 |_=>[]
theorem dM {env:En}{own:Nat}{pick:List Nat}{i:Nat}{d:D}{t:Tg}(h:(bF env own pick)[i]? = some (some (d,t))):t = .sh []/\own<=i/\∃ j t0,pick[i - own]? = some j/\env[j]? = some (some (d,t0)):=by
 unfold bF at h;by_cases hi:i<own
 ·rw[List.getElem?_append_left (by simpa using hi),List.getElem?_replicate] at h;split at h<;>cases h
 ·have hi:own<=i:=gu hi;rw[List.getElem?_append_right (by simpa using hi),List.length_replicate,List.getElem?_map] at h;cases hp:pick[i - own]? with
  |none=>rw[hp] at h;cases h
  |some j =>
   rw[hp] at h;simp only[Option.map_some,Option.some.injEq] at h;split at h
   ·rename_i d0 t0 q;cases h;exact⟨rfl,hi,j,t0,rfl,q⟩
   ·cases h
section
variable {K:Frag}{P:Addr->Prop}{env:En}{σ:L2.St}{H:Hp}{F:Nat->List Addr}
theorem RE.picked (re:RE K P env σ H F)(own:Nat)(pick:List Nat):RE K (fun _=>False) (bF env own pick) (eA σ (cZ own pick)) H (kQ F env own pick) where
 len:=by rw[kx,mm];simp[cZ]
 val:=fun i d t h=>by
  obtain⟨rfl,hi,j,t0,hp,he⟩:=dM h;obtain⟨v,e,r⟩:=re.val j d t0 he;refine⟨v,?_,?_⟩
  ·unfold eA cZ;rw[List.getElem?_map,List.getElem?_append_right (by simpa using hi),List.length_replicate,List.getElem?_map,hp];simp[e]
  ·unfold kQ;rw[h,hp];exact r
 emp:=fun i h=>by
  unfold kQ;split
  ·rename_i p q;exact absurd q (h p.1 p.2)
  ·rfl
 one:=fun i d t h o=>by
  obtain⟨rfl,_⟩:=dM h;cases o
 wr:=fun i d h=>by
  obtain⟨q,_⟩:=dM h;cases q
 pl:=fun _ h=>h.elim
theorem rD {own:Nat}{pick:List Nat}{i:Nat}{a:Addr}(re:RE K P env σ H F)(h:a∈kQ F env own pick i):∃ j∈pick,∃ d t,a∈F j/\env[j]? = some (some (d,t)):=by
 unfold kQ at h;split at h
 ·rename_i p q;obtain⟨_,hi,j,t0,hp,he⟩:=dM (d:=p.1) (t:=p.2) q;rw[hp] at h;exact⟨j,List.mem_of_getElem? hp,p.1,t0,h,he⟩
 ·cases h
end
noncomputable def Au (K:Frag)(T:Tb):j8->TT
 |.none=>fun _ H Q=>Q true H
 |.some c=>ku K T c
section
variable {X:Cx}{T:Tb}{scope:Scope}{N':List Str}{own:Nat}{pick:List Nat}{t:ka}{it:rQ}{c:j8}{e:Ex}
theorem An {σ:L2.St}{H:Hp}{Q:Bool->Hp->Prop}{P:Addr->Prop}{env:En}{F:Nat->List Addr}{k:Bool}(re:RE X.K P env σ H F)(hk:pC T c env = .ok k)(q:∀ H',aH H H'->Q k H'):Au X.K T c σ H Q:=by
 cases c with
 |none =>
  unfold pC at hk;cases hk;exact q H (aH.refl _)
 |some c =>
  unfold pC at hk;obtain⟨p,h1,h2⟩:=Rs.bind_ok hk;exact⟨P,env,F,re,p,k,h1,bV h2,q⟩
theorem kY {σ:L2.St}{H:Hp}{Q:VK}(h:tE X.K T (.comp own pick t it c e) σ H Q):uB (cZ own pick) (tI X.K T it) (oO X.K t) (Au X.K T c) (tE X.K T e) σ H Q:=by
 obtain⟨P,env,F,re,p0,hev,k⟩:=h;unfold ev at hev;obtain⟨p,h1,hev⟩:=Rs.bind_ok hev;obtain⟨tot,h2,hev⟩:=Rs.bind_ok hev;have hlim:p.1.length<=lim:=Decidable.byContradiction fun hn=>by rw[if_neg hn] at hev;cases hev
 rw[if_pos hlim] at hev;cases hev;refine⟨P,env,F,re,p,h1,fun J H1 Gs s1 rt nn wk l hl=>?_⟩;have re1:=re.same s1;have wk:=wk (fun a=>a∈Gs) fun a ha=>ha
 let S0:Addr->Prop:=fun a=>a∈Gs\/∃ j∈pick,∃ d t,a∈F j/\env[j]? = some (some (d,t))
 have S0n:∀ a,S0 a->H1 a≠none:=fun a ha=>by
  rcases ha with ha | ⟨j,_,d,t,m,ej⟩
  ·exact nn a ha
  ·exact re1.nn ej m
 have lS:¬ S0 l:=fun z=>S0n l z hl
 refine⟨fun i m H2=>m=p.1.length - i/\i<=p.1.length/\∃(acc rest:List (D×Rt)) (vs:List V) (G:List Addr),fV (fun d=>bS (aZ [] t d (bF env own pick)) (pC T c) (ev T e)) (p.1.drop i) = .ok rest/\tot=acc++rest/\acc.length<=i/\H2 l=some (.lst vs)/\aG X.K H2 (acc.map (·.1)) vs G/\aH H1 H2/\l∉G /\
  (∀ a∈G,H1 a=none\/S0 a)/\(acc.all (fun q=>q.1.flat || ic q.2)=true->G.Nodup/\∀ a∈G,H1 a=none/\∃ ws:ML,H2 a=some ws.o),?_,?_⟩
 ·refine⟨p.1.length,by simp,Nat.zero_le _,[],tot,[],[],by simpa using h2,rfl,Nat.le_refl _,aO,.nil,aH.new hl,by simp,fun _ h=>(nomatch h),fun _=>⟨List.nodup_nil,fun _ h=>(nomatch h)⟩⟩
 ·rintro i m H2 ⟨rfl,hi,acc,rest,vs,G,hgo,htot,hacc,hl2,rs,s2,hlG,hG,hfr⟩;obtain⟨w1,w2⟩:=wk H2 (iI.of_same (fun a ha=>nn a ha) s2);by_cases hlt:i<p.1.length
  ·right;have hd:p.1[i]? = some p.1[i]:=by simp[hlt]
   obtain⟨g1,g2⟩:=w1 i _ hd;refine⟨g1,fun H3=>i+1<=p.1.length/\∃(acc rest:List (D×Rt)) (vs:List V) (G:List Addr),fV (fun d=>bS (aZ [] t d (bF env own pick)) (pC T c) (ev T e)) (p.1.drop (i+1)) = .ok rest/\tot=acc++rest/\acc.length<=i+1/\H3 l=some (.lst vs)/\aG X.K H3 (acc.map (·.1)) vs G/\aH H1 H3/\l∉G /\
    (∀ a∈G,H1 a=none\/S0 a)/\(acc.all (fun q=>q.1.flat || ic q.2)=true->G.Nodup/\∀ a∈G,H1 a=none/\∃ ws:ML,H3 a=some ws.o),fun H3 q=>⟨p.1.length - (i+1),by omega,rfl,q⟩,fun x H3 y=>?_⟩
   obtain⟨s3,G3,rp3,sub3⟩:=g2 x H3 y;rw[cw hlt] at hgo;unfold fV at hgo;obtain⟨o,hstep,hgo⟩:=Rs.bind_ok hgo;obtain⟨rest',hrest,hgo⟩:=Rs.bind_ok hgo;cases hb:aZ [] t p.1[i] (bF env own pick) with
   |none=>rw[hb] at hstep;cases hstep
   |some env4 =>
    rw[hb] at hstep;unfold bS at hstep;obtain⟨kc,hkc,hstep⟩:=Rs.bind_ok hstep;have rep:=(re1.same (s2.trans s3)).picked own pick;let Z:Addr->Prop:=fun a=>S0 a
    have zF:∀ i,∀ a∈kQ F env own pick i,Z a:=fun i a ha=>by
     obtain⟨j,hj,d,t,m,ej⟩:=rD (re1.same (s2.trans s3)) ha;exact .inr ⟨j,hj,d,t,m,ej⟩
    refine mF (Z:=Z) rep zF rp3 (fun a ha=>.inl (sub3 a ha)) (fun a ha j d' t' ej o m=>?_) hb fun σ4 F4 re4 z4 _=>?_
    ·obtain⟨rfl,_⟩:=dM ej;cases o
    ·refine An re4 hkc fun H5 s5=>?_
     have base5:=s2.trans (s3.trans s5);have l5:H5 l=some (.lst vs):=s5 _ _ (s3 _ _ hl2);cases kc with
     |false =>
      show if false=true then _ else _
      rw[if_neg ax];simp only[Bool.false_eq_true,if_false] at hstep;cases hstep;cases hgo;refine⟨hlt,acc,rest',vs,G,hrest,htot,Nat.le_succ_of_le hacc,l5,rs.same (s3.trans s5),base5,hlG,hG,fun f=>?_⟩;obtain⟨n1,n2⟩:=hfr f;exact⟨n1,fun a ha=>⟨(n2 a ha).1,let ⟨ws,q⟩:=(n2 a ha).2;⟨ws,s5 _ _ (s3 _ _ q)⟩⟩⟩
     |true =>
      show if true=true then _ else _
      rw[if_pos rfl];simp only[if_true] at hstep;obtain⟨q,hq,hstep⟩:=Rs.bind_ok hstep;cases hstep;cases hgo;refine⟨_,env4,F4,re4.same s5,q,hq,fun yv H6 Gy s6 rpy rty=>?_⟩;have l6:H6 l=some (.lst vs):=s6 _ _ l5;have base6:=base5.trans s6;have old6:=s3.trans (s5.trans s6);have yS:∀ a∈Gy,H5 a=none\/S0 a:=fun a ha=>(rty.cont a ha).imp id fun ⟨i,d,t,m,_⟩=>z4 i a m
      have ly:l∉Gy:=fun z=>by
       rcases yS l z with q | q
       ·rw[l5] at q;cases q
       ·exact lS q
      have len6:vs.length=acc.length:=by have:=rs.len;rw[ag] at this;exact this.symm
      refine⟨vs,l6,Nat.lt_of_le_of_lt (Nat.le_trans (Nat.le_of_eq len6) (Nat.le_trans hacc (Nat.le_of_lt (Nat.lt_of_lt_of_le hlt hlim)))) (by decide),hlt,acc ++ [q],rest',vs ++ [yv],G++(Gy ++ []),hrest,by rw[htot];simp,by simp;exact hacc,aO,?_,?_,?_,?_,?_⟩
      ·rw[df];exact (aG.append (rs.same old6) (.cons rpy .nil)).upd l6 (by simp;exact⟨hlG,ly⟩)
      ·intro b o e;rw[aI (fun z=>by subst z;rw[hl] at e;cases e)];exact base6 _ _ e
      ·simp;exact⟨hlG,ly⟩
      ·intro a ha;rw[ay] at ha;rcases List.mem_append.mp ha with ha | ha
       ·exact hG a ha
       ·exact (yS a ha).imp (aH.no base5) id
      ·intro f;rw[List.all_append,ak] at f;obtain⟨n1,n2⟩:=hfr f.1;have fy:Gy.Nodup/\∀ a∈Gy,H5 a=none/\∃ ws:ML,H6 a=some ws.o:=by
        have f2:q.1.flat=true\/ic q.2=true:=by simpa using f.2
        rcases f2 with f2 | f2
        ·rw[rpy.flat f2];exact⟨bu,fun _ h=>(nomatch h)⟩
        ·have:q.2 = .mv []:=by
          cases hr:q.2 with
          |sh R=>rw[hr] at f2;cases f2
          |mv R=>cases R with
           |nil=>rfl
           |cons a b=>rw[hr] at f2;cases f2
         obtain⟨m1,m2,m3⟩:=rty.mv [] this;refine⟨m1,fun a ha=>⟨?_,m2 a ha⟩⟩;rcases m3 a ha with z | ⟨_,_,_,z,_⟩
         ·exact z
         ·cases z
       rw[ay];refine⟨dt.mpr ⟨n1,fy.1,fun a ha b hb z=>?_⟩,fun a ha=>?_⟩
       ·subst z;obtain⟨_,ws,w⟩:=n2 a ha;have:=s5 _ _ (s3 _ _ w);rw[(fy.2 a hb).1] at this;cases this
       ·have ne:a≠l:=fun z=>by
         subst z;rcases List.mem_append.mp ha with ha | ha
         ·exact hlG ha
         ·exact ly ha
        rcases List.mem_append.mp ha with ha | ha
        ·obtain⟨u1,ws,w⟩:=n2 a ha;exact⟨u1,ws,by rw[aI ne];exact old6 _ _ w⟩
        ·obtain⟨u1,ws,w⟩:=fy.2 a ha;exact⟨aH.no base5 u1,ws,by rw[aI ne];exact w⟩
  ·left;have ei:i=p.1.length:=by omega
   subst ei;refine⟨w2,?_⟩;rw[gv] at hgo;unfold fV at hgo;cases hgo;rw[ay] at htot;subst htot;refine k _ H2 (l::G) (s1.trans s2) (.lst (.inl hl2) rs) ?_;have hl0:=aH.no s1 hl;cases hf:tot.all (fun q=>q.1.flat || ic q.2) with
   |true =>
    obtain⟨n1,n2⟩:=hfr hf;have new:∀ a∈l::G,H a=none:=fun a ha=>by
     rcases dz.mp ha with rfl | ha
     ·exact hl0
     ·exact aH.no s1 (n2 a ha).1
    refine⟨fun a ha=>.inl (new a ha),fun R e=>⟨List.nodup_cons.mpr ⟨hlG,n1⟩,fun a ha=>?_,fun a ha=>.inl (new a ha)⟩⟩;rcases dz.mp ha with rfl | ha
    ·exact⟨.l _,hl2⟩
    ·exact (n2 a ha).2
   |false =>
    refine⟨fun a ha=>?_,fun R e=>by cases e⟩;rcases dz.mp ha with rfl | ha
    ·exact .inl hl0
    ·rcases hG a ha with q | q | ⟨j,hj,d,t,m,ej⟩
     ·exact .inl (aH.no s1 q)
     ·exact (rt.cont a q).imp id fun ⟨i,d,t,x,y,z⟩=>⟨i,d,t,x,y,fun r hr=>az _ (z r hr)⟩
     ·refine .inr ⟨j,d,t,m,ej,fun r hr=>au _ ?_⟩;unfold lG;rw[List.mem_flatten];exact⟨aV j t,List.mem_map.mpr ⟨j,hj,by rw[ej]⟩,hr⟩
theorem kW {K:Frag}{t:ka}{pk:List (Option Nat)}(ht:∀ i,(t = .nm i\/∃ is,t = .tp is/\i∈is)->pk[i]? = some none)(v:V)(σ:L2.St)(H:Hp)(Q:L2.St->Hp->Prop)(h:oO K t v σ H Q) :
  oO K t v σ H fun σ' H'=>Q σ' H'/\σ'.length=σ.length/\∀(i:Nat) u,pk[i]?≠some none->σ[i]? = some u->σ'[i]? = some u:=by
 cases t with
 |nm i=>exact⟨h,by simp,fun j u hj e=>by rw[List.getElem?_set_ne];exact e;rintro rfl;exact hj (ht i (.inl rfl))⟩
 |tp is =>
  obtain⟨a,xs,e1,e2,e3,h⟩:=h;refine⟨a,xs,e1,e2,e3,?_⟩;have gen:∀(is:List Nat) (xs:List V) (σ1:L2.St),(∀ i∈is,pk[i]? = some none)->σ1.length=σ.length->(∀(i:Nat) u,pk[i]?≠some none->σ[i]? = some u->σ1[i]? = some u)->fH is xs σ1 H Q->fH is xs σ1 H fun σ' H'=>Q σ' H'/\σ'.length=σ.length/\∀(i:Nat) u,pk[i]?≠some none->σ[i]? = some u->σ'[i]? = some u:=by
   intro is
   induction is with
   |nil=>intro xs σ1 _ hl hk h;exact⟨h.1,h.2,hl,hk⟩
   |cons j js ih =>
    intro xs σ1 hi hl hk h;obtain⟨v,r,e,h⟩:=h;refine⟨v,r,e,ih r (σ1.set j (some v)) (fun i hm=>hi i (List.mem_cons_of_mem _ hm)) (by simp[hl]) (fun i u hi' e'=>?_) h⟩;rw[List.getElem?_set_ne];exact hk i u hi' e';rintro rfl;exact hi' (hi j ai)
  exact gen is xs σ (fun i hm=>ht i (.inr ⟨is,rfl,hm⟩)) rfl (fun _ _ _ e=>e) h
end
def jU (K:Frag)(T:Tb)(x:Nat)(path:j8):TE:=fun σ H Q=>∃ P env F po v p,RE K P env σ H F/\jb T path env = .ok po/\σ[x]? = some (some v)/\PV K H v po p/\∀ H',aH H H'->Q (.ref p) H'
section
variable {X:Cx}{T:Tb}{pos:Pos}{i:Nat}{x:Str}
theorem yj (hN:X.N[i]? = some x)(hv:Af X.env.scope x)(hd:(x==("__debug__" : Str))=false) (hcd:(x==("__classdict__" : Str))=false):PE X (.Name x pos) (jU X.K T i .none):=by
 refine bA (tQ hN hv hd hcd) fun σ H Q ⟨P,env,F,po,v,p,re,hpo,hv,pv,k⟩=>?_
 unfold jb at hpo;cases hpo;cases pv;exact⟨_,hv,k H (aH.refl _)⟩
end
def qV (K:Frag)(m:m7):V->List V->Hp->VK->Prop:=fun x vs H Q=>∃ l ws xs ds Gx G ys,x = .ref l/\H l=some (.lst ws)/\aG K H xs ws Gx/\aG K H ds vs G/\qt m xs ds=some ys/\ys.length<=lim/\l∉Gx/\l∉G/\Gx.Nodup /\
 ∀ us Gy v,aG K (upd H l (.lst us)) ys us Gy->(∀ a∈Gy,a∈Gx\/(m.copies=false/\a∈G))->((∀ a∈Gx,a∉G)->G.Nodup\/m.copies=true->Gy.Nodup)->Q v (upd H l (.lst us))
section
variable {X:Cx}
def uE:V->List V->Hp->VK->Prop:=fun x vs H Q=>∃ l b xs zs,x = .ref l/\vs=[.ref b]/\H l=some (.lst xs)/\Rd H b (.lst zs)/\xs.length+zs.length<=sizeLine/\Q .non (upd H l (.lst (xs++zs)))
theorem oJ:MtM X "list.extend" uE:=by
 intro pins s σ H x vs v us Q I rx rv h;obtain⟨l,b,xs,zs,rfl,rfl,hH,hB,hz,q⟩:=h;cases rx;obtain⟨u,rfl,ru⟩:=rv.one;cases ru;obtain⟨z,its,n,r,hl,e⟩:=I.lstM hH;obtain⟨z2,its2,n2,r2,hl2,e2⟩:=Inv.lstR I hB;have hsz:its.toArray.size+its2.toArray.size<=sizeLine:=by rw[ae,ae];omega
 have hlong:¬ (!its.toArray.isEmpty&&Builtin.List.listTooLong (its.toArray.size+its2.toArray.size))=true:=by
  rw[m6 hsz,Bool.and_false];exact ax
 refine call_meets F.slot_list_extend ⟨_,e,rfl⟩ F.entry_list_extend (F.args_list_extend_2 _ _)
  (AutoSeq1.list_extend_list_list_0 l its.toArray n b its2.toArray n2 hlong (by rw[ae];omega) (by omega)) ⟨e,e2,?_⟩
 refine⟨.non,_,I.lset (its':=its++its2) hH e (by simp) (r.append r2) ?_,rfl,q⟩;rw[ao];omega
theorem nO:MtM X "list.append" (qV X.K .append):=by
 intro pins s σ H x vs v us Q I rx rv h;obtain⟨l,ws,xs,ds,Gx,G,ys,rfl,hl,r1,r2,hm,hlen,n1,n2,nd,k⟩:=h
 match ds,hm with
 |[d],hm =>
  cases hm;obtain⟨y,rfl,rp⟩:=r2.of1;refine k9 pins s σ H _ _ v us Q I rx rv ⟨l,ws,y,rfl,rfl,hl,?_,k (ws ++ [y]) (Gx++(G ++ [])) _ ?_ (fun a ha=>?_) fun dj o=>?_⟩
  ·rw[<-r1.len];simp only[List.length_append,List.length_singleton] at hlen;exact ba (ba (gr _) hlen) n8
  ·exact (r1.append (.cons rp .nil)).upd hl (by simp;exact⟨n1,n2⟩)
  ·simp at ha;exact ha.imp id fun z=>⟨rfl,z⟩
  ·rcases o with o | o
   ·rw[ay];exact dt.mpr ⟨nd,o,fun a ha b hb z=>by subst z;exact dj a ha hb⟩
   ·cases o
theorem oo:MtM X "list.extend" (qV X.K .extend):=by
 intro pins s σ H x vs v us Q I rx rv h;obtain⟨l,ws,xs,ds,Gx,G,ys,rfl,hl,r1,r2,hm,hlen,n1,n2,nd,k⟩:=h
 match ds,hm with
 |[.lst zs],hm =>
  simp only[qt] at hm;by_cases hf:D.flats zs=true
  ·rw[if_pos hf] at hm;cases hm;obtain⟨y,rfl,rp⟩:=r2.of1;obtain⟨b,wz,gz,rfl,rfl,a1,a2⟩:=rp.lst_inv;have eg:gz=[]:=a2.flat hf;subst eg;refine oJ pins s σ H _ _ v us Q I rx rv ⟨l,b,ws,wz,rfl,rfl,hl,a1,?_,k (ws++wz) (Gx ++ []) _ ?_ (fun a ha=>?_) fun _ _=>?_⟩
   ·rw[<-r1.len,<-a2.len];simp only[List.length_append] at hlen;exact bh hlen n8
   ·exact (r1.append a2).upd hl (by simp;exact n1)
   ·simp at ha;exact .inl ha
   ·rw[ay];exact nd
  ·rw[if_neg hf] at hm;cases hm
theorem jV {T:Tb}{i:Nat}{path:j8}{m:m7}{cs:kq}{D:Ends}{σ:L2.St}{H:Hp}(h:tS X.K T (.mut i path m cs) D σ H):sQ (tBM X.K "list" (qV X.K m) (jU X.K T i path) (rP X.K T cs)) D σ H:=by
 obtain⟨P,Z,env,F,re,hz,zp,h⟩:=h;unfold bI at h;cases hx:ownAt env i with
 |none=>rw[hx] at h;exact h.elim
 |some d =>
  rw[hx] at h;obtain⟨po,hpo,h⟩:=bP h;cases hat:d.at1 po with
  |none=>rw[hat] at h;exact h.elim
  |some xs =>
   rw[hat] at h;obtain⟨l,hl,h⟩:=bP h;cases hm:qt m xs (l.map (·.1)) with
   |none=>rw[hm] at h;exact h.elim
   |some ys =>
    rw[hm] at h;have hx':=dO hx;obtain⟨v,hv,_⟩:=re.val i d .own hx';obtain⟨p,pv,f⟩:=kZ re hx hv hat;refine⟨P,env,F,po,v,p,re,hpo,hv,pv,fun H1 s1=>?_⟩;obtain⟨ws1,g1,e1,_⟩:=f H1 s1;refine⟨.inl ⟨rfl,ws1,.inl (.inl e1)⟩,P,env,F,re.same s1,l,hl,fun vs H2 G ar=>?_⟩;have s2:=s1.trans ar.same;obtain⟨ws,Gx,a1,a2,a3,a4,a5,a6,fs⟩:=f H2 s2;by_cases hroot:(aQ (l.map (·.2))).contains i=true
    ·simp only[hroot,if_true] at h;exact h.elim
    simp only[hroot,if_false] at h;have disj:∀ a∈F i,a∉G:=fun a ha hg=>by
     rcases ar.cont a hg with q | ⟨j,d2,t2,m2,e2,sr⟩
     ·exact (re.same s1).nn hx' ha q
     ·exact hroot (by simpa using sr i ((re.one i d .own hx' rfl).2.2 a ha j d2 t2 e2 m2))
    have nG:=disj p a3;refine⟨p,ws,xs,l.map (·.1),Gx,G,ys,rfl,a1,a2,ar.reps,hm,qE h,a6,nG,a5,fun us Gy w rs sub nd=>?_⟩;refine nr (N:=if m.copies then [] else G) re hz zp s2 hx hv a3 (fun R hR ndR=>?_) (fun hN hNd=>?_) h
    ·cases hc:m.copies with
     |true=>exact⟨bu,fun _ h=>(nomatch h),fun _ h=>(nomatch h)⟩
     |false =>
      rw[hc] at hR;obtain⟨n1,n2,n3⟩:=Args.mv (re.same s1) ar hR ndR;exact⟨n1,n2,fun a ha=>(n3 a ha).imp (aH.no s1) id⟩
    ·have ngy:Gy.Nodup:=nd (fun a ha=>disj a (a4 a ha)) (by
      cases hc:m.copies with
      |true=>exact .inr rfl
      |false=>rw[hc] at hNd;exact .inl hNd)
     obtain⟨G',b1,b2,b3⟩:=fs ys us Gy rs ngy (fun z=>(sub p z).elim a6 fun q=>nG q.2) fun a ha=>(sub a ha).imp id fun q z=>disj a z q.2
     refine⟨G',b1,b2,fun a ha=>?_⟩;rcases b3 a ha with q | q
     ·exact .inl q
     ·rcases sub a q with z | ⟨z1,z2⟩
      ·exact .inl (a4 a z)
      ·rw[z1];exact .inr z2
theorem rH {T:Tb}{i:Nat}{path:j8}{m:m7}{D:Ends}{σ:L2.St}{H:Hp}(h:tS X.K T (.mut i path m .nil) D σ H):sQ (AX X.K "list" (qV X.K m) (jU X.K T i path)) D σ H:=by
 obtain⟨P,env,F,po,v,p,re,hpo,hv,pv,k⟩:=jV h;refine⟨P,env,F,po,v,p,re,hpo,hv,pv,fun H' s=>?_⟩;obtain⟨ty,P',env',F',re',l,hl,f⟩:=k H' s;unfold bB at hl;cases hl;exact⟨ty,f [] H' [] (.nil (aH.refl _))⟩
theorem rV {T:Tb}{i:Nat}{path:j8}{c e:Ex}{D:Ends}{σ:L2.St}{H:Hp}(h:tS X.K T (.setix i path c e) D σ H):vS (tE X.K T e) (Bd (jU X.K T i path) (tE X.K T c) xA) D σ H:=by
 obtain⟨P,Z,env,F,re,hz,zp,h⟩:=h;unfold bI at h;cases hx:ownAt env i with
 |none=>rw[hx] at h;exact h.elim
 |some d =>
  rw[hx] at h;obtain⟨q,hq,h⟩:=bP h;obtain⟨po,hpo,h⟩:=bP h;cases hat:d.at1 po with
  |none=>rw[hat] at h;exact h.elim
  |some xs =>
   rw[hat] at h;obtain⟨qi,hqi,h⟩:=bP h;cases hqq:qi.1 with
   |int n =>
    rw[hqq] at h;cases hj:g9 xs.length n with
    |none=>simp only[hj] at h;exact h.elim
    |some j =>
     simp only[hj] at h;have hx':=dO hx;obtain⟨v,hv,_⟩:=re.val i d .own hx';refine⟨P,env,F,re,q,hq,fun w H1 G s1 rp rt=>?_⟩;have re1:=re.same s1;obtain⟨p,pv,f⟩:=kZ re1 hx hv hat;refine⟨P,env,F,po,v,p,re1,hpo,hv,pv,fun H2 s2=>⟨P,env,F,re1.same s2,qi,hqi,fun wi H3 Gi s3 rpi rti=>?_⟩⟩;rw[hqq] at rpi;obtain⟨rfl,_⟩:=rpi.int_inv;obtain⟨ws,Gx,a1,a2,a3,a4,a5,a6,fs⟩:=f H3 (s2.trans s3);have jl:=yo hj;refine⟨p,ws,n,j,rfl,rfl,a1,by rw[<-a2.len];exact hj,?_⟩;have hroots:∀ R,q.2 = .mv R->i∉R->∀ a∈F i,a∉G:=fun R hr hiR a ha hg=>by
      rcases rt.cont a hg with z | ⟨k,d2,t2,m2,e2,sr⟩
      ·exact re.nn hx' ha z
      ·have:=sr i ((re.one i d .own hx' rfl).2.2 a ha k d2 t2 e2 m2);rw[hr] at this;exact hiR this
     have s13:=s2.trans s3;refine nr (N:=G) re hz zp (s1.trans s13) hx hv a3 (fun R hR ndR=>?_) (fun hN hNd=>?_) h
     ·have hr:q.2 = .mv R:=by
       cases hr:q.2 with
       |sh Q=>rw[hr] at hR;cases hR
       |mv Q=>rw[hr] at hR;simp[cR] at hR;rw[hR]
      obtain⟨n1,n2,n3⟩:=rt.mv R hr;exact⟨n1,fun a ha=>let ⟨ws,z⟩:=n2 a ha;⟨ws,s13 _ _ z⟩,n3⟩
     ·obtain⟨u,A,B,C,e1,e2,r1,g⟩:=a2.split (i:=j) (d:=xs[j]) (List.getElem?_eq_getElem jl);subst e2;have hpG:p∉G:=fun z=>hN p z a3
      have pAC:∀ b∈A++C,b≠p:=fun b hb z=>by
       rw[z] at hb;refine a6 ?_;rcases List.mem_append.mp hb with hb | hb
       ·exact az _ hb
       ·exact au _ (au _ hb)
      have rs:=g (upd H3 p (.lst (ws.set j w))) q.1 w G (fun _ _=>iu a1) (g7 (ws:=.l _) a1) (fun b hb _ h=>(aI (pAC b hb)).trans h) ((rp.same s13).upd a1 hpG);have gsub:∀ a∈A++(G++C),a∈A++(B++C)\/a∈G:=fun a ha=>by
       simp only[List.mem_append] at ha ⊢;rcases ha with ha | ha | ha
       ·exact .inl (.inl ha)
       ·exact .inr ha
       ·exact .inl (.inr (.inr ha))
      have ng:(A++(G++C)).Nodup:=by
       rw[dt] at a5;obtain⟨nA,nB,nAB⟩:=a5;rw[dt] at nB;obtain⟨_,nC,_⟩:=nB;rw[dt];refine⟨nA,dt.mpr ⟨hNd,nC,fun a ha b hb z=>?_⟩,fun a ha b hb z=>?_⟩
       ·subst z;exact hN a ha (a4 a (by simp[hb]))
       ·subst z;rcases List.mem_append.mp hb with hb | hb
        ·exact hN a hb (a4 a (by simp[ha]))
        ·exact nAB a ha a (by simp[hb]) rfl
      obtain⟨G',b1,b2,b3⟩:=fs (xs.set j q.1) (ws.set j w) _ rs ng (fun z=>(gsub p z).elim a6 hpG) fun a ha=>(gsub a ha).imp id fun z y=>hN a z y
      refine⟨G',b1,b2,fun a ha=>?_⟩;rcases b3 a ha with z | z
      ·exact .inl z
      ·exact (gsub a z).imp (a4 a) id
   |_=>rw[hqq] at h;exact h.elim
end
section
variable {X:Cx}
noncomputable def gK:List String:=["int","bool","str","list","tuple"]
theorem ty_type {T:String}(h:T∈gK):typeOf (.type T)=pure (.type "type"):=by
 simp only[gK,List.mem_cons,List.not_mem_nil,or_false] at h;rcases h with rfl | rfl | rfl | rfl | rfl<;>kernel_rfl
def Ce (K:Frag):List V->Hp->VK->Prop:=fun xs H Q=>∃ x T d G,xs=[x,.ty T]/\T∈gK/\((∀ kvs,d≠.dct kvs)/\(∀ ks,d≠.mpi ks)/\(∀ ks,d≠.mpt ks)/\∀ ks,d≠.mpz ks)/\Rep K H d x G/\Q (.bl (tY T d)) H
theorem rq:eC X (.builtin "isinstance") (Ce X.K):=by
 intro pins s σ H xs us Q I r h;obtain⟨x,T,d,G,rfl,hT,hnd,rp,q⟩:=h;obtain⟨u,w,rfl,rx,rt⟩:=r.two;obtain rfl:w=Value.type T:=rt;have hty:=ty_type hT;have yes:∀{Tx:String},s.TypeIs u Tx->isSubtype (.type Tx) (.type T)=pure true->tY T d=true->wpAny (model X.prog X.w) X.A (call (.builtin "isinstance") [u,.type T]) (EP X pins σ Q) X.xe s:=fun h1 h2 h3 =>
  call_isinstance (isinstance_true hty h2) ⟨h1,⟨.bl true,H,I,rfl,by rw[h3] at q;exact q⟩⟩
 have no:tY T d=false->EP X pins σ Q (.bool false) { s with toks:=s.toks+1 }:=fun h=>⟨.bl false,H,I.tok _,rfl,by rw[h] at q;exact q⟩
 simp only[gK,List.mem_cons,List.not_mem_nil,or_false] at hT;cases d with
 |dct kvs=>exact absurd rfl (hnd.1 kvs)
 |mpi ks=>exact absurd rfl (hnd.2.1 ks)
 |mpt ks=>exact absurd rfl (hnd.2.2.1 ks)
 |mpz ks=>exact absurd rfl (hnd.2.2.2 ks)
 |non =>
  obtain⟨rfl,_⟩:=rp.non_inv;cases rx;rcases hT with rfl | rfl | rfl | rfl | rfl
  ·exact call_isinstance (isinstance_false_none (by decide) hty F.sub_NoneType_int) (no rfl)
  ·exact call_isinstance (isinstance_false_none (by decide) hty F.sub_NoneType_bool) (no rfl)
  ·exact call_isinstance (isinstance_false_none (by decide) hty F.sub_NoneType_str) (no rfl)
  ·exact call_isinstance (isinstance_false_none (by decide) hty F.sub_NoneType_list) (no rfl)
  ·exact call_isinstance (isinstance_false_none (by decide) hty F.sub_NoneType_tuple) (no rfl)
 |bl b =>
  obtain⟨rfl,_⟩:=rp.bl_inv;cases rx;rcases hT with rfl | rfl | rfl | rfl | rfl
  ·exact yes (PySem.typeIs_bool s b) F.sub_bool_int rfl
  ·exact yes (PySem.typeIs_bool s b) F.sub_bool_bool rfl
  ·exact call_isinstance (isinstance_false_bool (by decide) hty F.sub_bool_str) (no rfl)
  ·exact call_isinstance (isinstance_false_bool (by decide) hty F.sub_bool_list) (no rfl)
  ·exact call_isinstance (isinstance_false_bool (by decide) hty F.sub_bool_tuple) (no rfl)
 |int i =>
  obtain⟨rfl,_⟩:=rp.int_inv;obtain⟨t,rfl⟩:=rx;rcases hT with rfl | rfl | rfl | rfl | rfl
  ·exact yes (typeIs_int s i t) F.sub_int_int rfl
  ·exact call_isinstance (isinstance_false_int (by decide) hty F.sub_int_bool) (no rfl)
  ·exact call_isinstance (isinstance_false_int (by decide) hty F.sub_int_str) (no rfl)
  ·exact call_isinstance (isinstance_false_int (by decide) hty F.sub_int_list) (no rfl)
  ·exact call_isinstance (isinstance_false_int (by decide) hty F.sub_int_tuple) (no rfl)
 |str z =>
  obtain⟨rfl,_⟩:=rp.str_inv;obtain⟨t,rfl⟩:=rx;rcases hT with rfl | rfl | rfl | rfl | rfl
  ·exact call_isinstance (isinstance_false_str (by decide) hty F.sub_str_int) (no rfl)
  ·exact call_isinstance (isinstance_false_str (by decide) hty F.sub_str_bool) (no rfl)
  ·exact yes (typeIs_str s z t) F.sub_str_str rfl
  ·exact call_isinstance (isinstance_false_str (by decide) hty F.sub_str_list) (no rfl)
  ·exact call_isinstance (isinstance_false_str (by decide) hty F.sub_str_tuple) (no rfl)
 |lst ds =>
  obtain⟨p,vs,g,rfl,_,a1,_⟩:=rp.lst_inv;cases rx;obtain⟨its,_,pl,_⟩:=I.list (.inl a1);obtain⟨o,ho,hc,_⟩:=pl.isList;rcases hT with rfl | rfl | rfl | rfl | rfl
  ·exact call_isinstance (isinstance_false_list (by decide) hty F.sub_list_int) ⟨⟨o,ho,hc⟩,no rfl⟩
  ·exact call_isinstance (isinstance_false_list (by decide) hty F.sub_list_bool) ⟨⟨o,ho,hc⟩,no rfl⟩
  ·exact call_isinstance (isinstance_false_list (by decide) hty F.sub_list_str) ⟨⟨o,ho,hc⟩,no rfl⟩
  ·exact yes ⟨o,ho,hc⟩ F.sub_list_list rfl
  ·exact call_isinstance (isinstance_false_list (by decide) hty F.sub_list_tuple) ⟨⟨o,ho,hc⟩,no rfl⟩
 |tup ds =>
  obtain⟨p,vs,rfl,a1,_⟩:=rp.tup_inv;cases rx;obtain⟨its,_,pl,_⟩:=I.tuple a1;obtain⟨o,ho,hc,_⟩:=pl;rcases hT with rfl | rfl | rfl | rfl | rfl
  ·exact call_isinstance (isinstance_false_tuple (by decide) hty F.sub_tuple_int) ⟨⟨o,ho,hc⟩,no rfl⟩
  ·exact call_isinstance (isinstance_false_tuple (by decide) hty F.sub_tuple_bool) ⟨⟨o,ho,hc⟩,no rfl⟩
  ·exact call_isinstance (isinstance_false_tuple (by decide) hty F.sub_tuple_str) ⟨⟨o,ho,hc⟩,no rfl⟩
  ·exact call_isinstance (isinstance_false_tuple (by decide) hty F.sub_tuple_list) ⟨⟨o,ho,hc⟩,no rfl⟩
  ·exact yes ⟨o,ho,hc⟩ F.sub_tuple_tuple rfl
theorem u0 {T:Tb}{b:String}{c:Ex}{σ:L2.St}{H:Hp}{Q:VK}(hb:b∈gK)(h:tE X.K T (.blt (.isi b) (.cons c .nil)) σ H Q):tCB (Ce X.K) (uC (tE X.K T c) (uC (tC (.ty b)) Ao)) σ H Q:=by
 obtain⟨P,env,F,re,p,hev,k⟩:=h;unfold ev bB bB at hev;obtain⟨l,h1,hev⟩:=Rs.bind_ok hev;obtain⟨q,h2,h1⟩:=Rs.bind_ok h1;cases h1;obtain⟨d',h3,hev⟩:=Rs.bind_ok hev;have h3:kC (.isi b) [q.1]=some d':=bV h3;have hnd:(∀ kvs,q.1≠.dct kvs)/\(∀ ks,q.1≠.mpi ks)/\(∀ ks,q.1≠.mpt ks)/\∀ ks,q.1≠.mpz ks:=⟨fun kvs e=>(by rw[e] at h3;cases h3),fun kvs e=>(by rw[e] at h3;cases h3),fun kvs e=>(by rw[e] at h3;cases h3),fun kvs e=>(by rw[e] at h3;cases h3)⟩;have hd:d' = .bl (tY b q.1):=by
  cases hq:q.1 with
  |dct kvs=>exact absurd hq (hnd.1 kvs)
  |mpi ks=>exact absurd hq (hnd.2.1 ks)
  |mpt ks=>exact absurd hq (hnd.2.2.1 ks)
  |mpz ks=>exact absurd hq (hnd.2.2.2 ks)
  |_=>rw[hq] at h3;cases h3;rfl
 subst hd;cases hev;exact⟨P,env,F,re,q,h2,fun v H1 G s rp rt=>⟨v,b,q.1,G,rfl,hb,hnd,rp,k _ H1 [] s (.bl _) bD.nil⟩⟩
theorem mP:∀{r:List D},r.all D.isBl=true->∃ bs:List Bool,r=bs.map D.bl
 |[],_=>⟨[],rfl⟩
 | x::r,ha=>by
  rw[c9,ak] at ha;obtain⟨bs,rfl⟩:=mP ha.2;cases x with
  |bl c=>exact⟨c::bs,rfl⟩
  |_=>cases ha.1
theorem all_range (bs:List Bool):(List.range bs.length).all (fun i=>bs[i]?.getD true)=bs.all id:=by
 rw[Bool.eq_iff_iff,cf,cf];constructor
 ·intro h x hx;obtain⟨i,hi,rfl⟩:=List.mem_iff_getElem.mp hx;have:=h i (by simpa using hi);simpa[hi] using this
 ·intro h i hi;have hi:i<bs.length:=by simpa using hi
  simpa[hi] using h bs[i] (List.getElem_mem hi)
theorem jX:∀{ds:List D}{b:Bool},allB ds=some b->ds.all D.isBl=true->∃ bs:List Bool,ds=bs.map D.bl/\b=bs.all id
 |[],b,h,_=>by cases h;exact⟨[],rfl,rfl⟩
 | .bl c::r,b,h,ha=>by
  have ha':r.all D.isBl=true:=by simpa[D.isBl] using ha
  cases c with
  |false =>
   cases h;have:=mP ha';obtain⟨bs,rfl⟩:=this;exact⟨false::bs,rfl,by simp⟩
  |true =>
   obtain⟨bs,rfl,rfl⟩:=jX (ds:=r) h ha';exact⟨true::bs,rfl,by simp⟩
 |.non::r,b,h,_=>by cases h
 |.int _::r,b,h,_=>by cases h
 |.str _::r,b,h,_=>by cases h
 |.lst _::r,b,h,_=>by cases h
 |.tup _::r,b,h,_=>by cases h
theorem j4 {K:Frag}{H:Hp}:∀{bs:List Bool}{vs:List V}{G:List Addr}{us:List Value},aG K H (bs.map D.bl) vs G->aJ vs us->us=bs.map Value.bool
 |[],_,_,_,.nil,.nil=>rfl
 | b::bs,_,_,_,.cons h r,.cons x y=>by
  obtain⟨rfl,_⟩:=h.bl_inv;cases x;rw[aq,<-j4 r y]
theorem qM (hc:X.calm=true):eC X (.builtin "all") (m5 X.K .all):=by
 intro pins s σ H xs us Q I r h;obtain⟨ds,d,G,rs,hd,k⟩:=h
 match ds,hd with
 |[.lst ys],hd =>
  simp only[kC,x4] at hd;by_cases hb:ys.all D.isBl=true
  ·rw[if_pos hb,aa] at hd;obtain⟨b,hb',rfl⟩:=hd;obtain⟨bs,rfl,rfl⟩:=jX hb' hb;obtain⟨x,rfl,rp⟩:=rs.of1;obtain⟨p,vs,g,rfl,rfl,a1,a2⟩:=rp.lst_inv;obtain⟨u,rfl,ru⟩:=r.one;cases ru;obtain⟨its,rv,pl,_⟩:=I.list (.inl a1);have ei:=j4 a2 rv;subst ei;have hlt:p<s.heap.objs.size:=by
    obtain⟨o,ho,_⟩:=pl.isList;exact Heap.lt_size ho
   refine call_all_walk (wpAny_pyIter_list pl.isList ⟨s.heap.objs.size,[s.heap.objs.size,p],[s.heap.objs.size],(bs.map Value.bool).toArray.size,_,_,fun i=>bs[i]?.getD true,rfl,Walks.list (A:=X.A.in1) (show X.A.in1.handled=none from I.ok.hd hc) s.heap.objs.size p (bo hlt) (bs.map Value.bool).toArray,⟨⟨_,Heap.get?_push_size _ rfl,rfl,rfl⟩,pl.isList.at fun o e=>Heap.get?_push_of_some _ e⟩,fun i v s' Q' E' hP hQ=>?_,fun h' tk hk=>?_⟩)
   ·have hP:(bs.map Value.bool).toArray[i]? = some v:=hP;rw[List.getElem?_toArray,List.getElem?_map,aa] at hP;obtain⟨b,e1,rfl⟩:=hP;have hQ:Q' (bs[i]?.getD true) s':=hQ;rw[e1] at hQ;exact wpAny_truthy_bool hQ
   ·have e:(List.range (bs.map Value.bool).toArray.size).all (fun i=>bs[i]?.getD true)=bs.all id:=by
     simp only[List.size_toArray,List.length_map];exact all_range bs
    rw[e];refine⟨.bl (bs.all id),H,?_,rfl,k _ H [] (.bl _) eY.nil⟩;have I1:Inv X pins σ H { s with heap:=s.heap.push { cls:=.type "list_iterator",data:=.fields #[.ref p,.int 0 0] } }:=I.kept (t':=s.toks) fun b o e=>Heap.get?_push_of_some _ e
    obtain⟨f0,f1,f2,f3,f4,f5⟩:=I.fpOk (b:=s.heap.objs.size) (av _) (I.hok.fresh (av _));exact I1.turned (t':=tk) (fun b o hb e=>hk b o (by simpa using hb) e) f0 f1 f3 f4 f5
  ·rw[if_neg hb] at hd;cases hd
theorem lh:∀{ds:List D}{a r:Int},qW a ds=some r->∃ ns:List Int,ds=ns.map D.int/\r=a+ns.sum
 |[],a,r,h=>by cases h;exact⟨[],rfl,by simp⟩
 | .int i::ds,a,r,h=>by
  obtain⟨ns,rfl,rfl⟩:=lh (ds:=ds) (a:=a+i) h;exact⟨i::ns,rfl,by rw[gm];omega⟩
 |.non::_,_,_,h=>by cases h
 |.bl _::_,_,_,h=>by cases h
 |.str _::_,_,_,h=>by cases h
 |.lst _::_,_,_,h=>by cases h
 |.tup _::_,_,_,h=>by cases h
theorem jI {K:Frag}{H:Hp}:∀{ns:List Int}{vs:List V}{G:List Addr}{us:List Value},aG K H (ns.map D.int) vs G->aJ vs us->us.length=ns.length/\∀ i u,us[i]? = some u->∃ t,u=Value.int (ns.getD i 0) t
 |[],_,_,_,.nil,.nil=>⟨rfl,fun i u h=>by simp at h⟩
 | n::ns,_,_,_,.cons h r,.cons x y=>by
  obtain⟨rfl,_⟩:=h.int_inv;obtain⟨t,rfl⟩:=x;obtain⟨a,b⟩:=jI r y;refine⟨by simp[a],fun i u h=>?_⟩;cases i with
  |zero=>simp at h;exact⟨t,by simp[<-h]⟩
  |succ i =>
   obtain⟨t',e⟩:=b i u (by simpa using h);exact⟨t',by simpa using e⟩
theorem qL (hc:X.calm=true):eC X (.builtin "sum") (m5 X.K .sum):=by
 intro pins s σ H xs us Q I r h;obtain⟨ds,d,G,rs,hd,k⟩:=h
 match ds,hd with
 |[.lst ys],hd =>
  simp only[kC,xZ] at hd;rw[aa] at hd;obtain⟨b,hb',rfl⟩:=hd;obtain⟨ns,rfl,rfl⟩:=lh hb';obtain⟨x,rfl,rp⟩:=rs.of1;obtain⟨p,vs,g,rfl,rfl,a1,a2⟩:=rp.lst_inv;obtain⟨u,rfl,ru⟩:=r.one;cases ru;obtain⟨its,rv,pl,_⟩:=I.list (.inl a1);obtain⟨hl,hv⟩:=jI a2 rv;have hlt:p<s.heap.objs.size:=by
   obtain⟨o,ho,_⟩:=pl.isList;exact Heap.lt_size ho
  refine call_sum_walkG (wpAny_pyIter_list pl.isList ⟨s.heap.objs.size,[s.heap.objs.size,p],[s.heap.objs.size],its.toArray.size,_,_,fun i=>ns.getD i 0,rfl,Walks.list (A:=X.A.in1) (show X.A.in1.handled=none from I.ok.hd hc) s.heap.objs.size p (bo hlt) its.toArray,⟨⟨_,Heap.get?_push_size _ rfl,rfl,rfl⟩,pl.isList.at fun o e=>Heap.get?_push_of_some _ e⟩,fun b hb=>?_,fun i v hP=>?_,fun h' tk t' hk=>?_⟩)
  ·simp only[List.mem_cons,List.not_mem_nil,or_false] at hb;rw[Heap.size_push];rcases hb with rfl | rfl
   ·exact gr _
   ·exact fv hlt
  ·have hP:its.toArray[i]? = some v:=hP;rw[List.getElem?_toArray] at hP;exact hv i v hP
  ·rw[preSum_getD,ae,hl,List.take_length];refine⟨.int ns.sum,H,?_,⟨_,rfl⟩,by have:=k (.int (0+ns.sum)) H [] (.int _) eY.nil;rwa [Int.zero_add] at this⟩;have I1:Inv X pins σ H { s with heap:=s.heap.push { cls:=.type "list_iterator",data:=.fields #[.ref p,.int 0 0] } }:=I.kept (t':=s.toks) fun b o e=>Heap.get?_push_of_some _ e
   obtain⟨f0,f1,f2,f3,f4,f5⟩:=I.fpOk (b:=s.heap.objs.size) (av _) (I.hok.fresh (av _));exact I1.turned (t':=tk) (fun b o hb e=>hk b o (by simpa using hb) e) f0 f1 f3 f4 f5
end
section
variable {X:Cx}{T:Tb}
theorem gN.map {K:Frag}{H:Hp}(k:Int){m:MV}{v:V}(hm:nM K H m v):∀{q:List (Int×MV)}{x:List (Key×V)},gN K H q x->gN K H (q.map fun z=>if z.1=k then (z.1,m) else z) (x.map fun z=>if z.1=Sum.inl k then (z.1,v) else z)
 |[],[],_=>trivial
 | (j,n)::q,p::x,⟨a,b,c⟩=>by
  refine⟨?_,?_,c.map k hm⟩
  ·show (if p.1=Sum.inl k then (p.1,v) else p).1=Sum.inl (if j=k then (j,m) else (j,n)).1;rw[show (if p.1=Sum.inl k then (p.1,v) else p).1=p.1 by split<;>rfl,show (if j=k then (j,m) else (j,n)).1=j by split<;>rfl];exact a
  ·show nM K H (if j=k then (j,m) else (j,n)).2 (if p.1=Sum.inl k then (p.1,v) else p).2;by_cases e:j=k
   ·rw[if_pos e,if_pos (by rw[a,<-e])];exact hm
   ·rw[if_neg e,if_neg (by rw[a];exact fun z=>e (by injection z))];exact b
 |[],_::_,h=>h.elim
 |_::_,[],h=>h.elim
theorem gN.snoc {K:Frag}{H:Hp}(k:Int){m:MV}{v:V}(hm:nM K H m v):∀{q:List (Int×MV)}{x:List (Key×V)},gN K H q x->gN K H (q ++ [(k,m)]) (x ++ [(.inl k,v)])
 |[],[],_=>⟨rfl,hm,trivial⟩
 |_::_,_::_,⟨a,b,c⟩=>⟨a,b,c.snoc k hm⟩
 |[],_::_,h=>h.elim
 |_::_,[],h=>h.elim
theorem gN.put {K:Frag}{H:Hp}(k:Int){m:MV}{v:V}(hm:nM K H m v){q:List (Int×MV)}{x:List (Key×V)}(h:gN K H q x):gN K H (qZ q k m) (putK x (.inl k) v):=by
 unfold qZ putK;rw[h.any k];split
 ·exact h.map k hm
 ·exact h.snoc k hm
theorem kF {K:Frag}{H:Hp}:∀{xs:List D}{k:List Int}{vs:List V}{G:List Addr},fB xs=some k->aG K H xs vs G->vs=k.map V.int
 |[],k,vs,G,h,r=>by cases h;cases r;rfl
 | .int i::xs,k,vs,G,h,r=>by
  have h:(fB xs).map (i :: ·)=some k:=h;rw[aa] at h;obtain⟨k',h1,rfl⟩:=h;cases r with
  |cons r1 r2 =>
   obtain⟨rfl,_⟩:=r1.int_inv;rw[kF h1 r2];rfl
 |.non::_,_,_,_,h,_=>by cases h
 |.bl _::_,_,_,_,h,_=>by cases h
 |.str _::_,_,_,_,h,_=>by cases h
 |.lst _::_,_,_,_,h,_=>by cases h
 |.tup _::_,_,_,_,h,_=>by cases h
 |.dct _::_,_,_,_,h,_=>by cases h
 |.mpi _::_,_,_,_,h,_=>by cases h
 |.mpt _::_,_,_,_,h,_=>by cases h
 |.mpz _::_,_,_,_,h,_=>by cases h
theorem yq {K:Frag}{H:Hp}{d:D}{m:MV}{v:V}{G:List Addr}(h:Ap d=some m)(r:Rep K H d v G):nM K H m v:=by
 cases d with
 |bl b =>
  cases b with
  |true=>cases h;cases r;rfl
  |false=>cases h
 |int i=>cases h;cases r;rfl
 |tup xs =>
  have h:(fB xs).map MV.tup=some m:=h;rw[aa] at h;obtain⟨k,h1,rfl⟩:=h;obtain⟨q,vs,rfl,a1,a2⟩:=r.tup_invT;rw[kF h1 a2] at a1;exact⟨q,rfl,a1⟩
 |_=>cases h
theorem xo {K:Frag}{H:Hp}{p:Addr}{o o':ML}(h:H p=some o.o)(b:Addr)(vs:List V)(t:iS K H b vs):iS K (upd H p o'.o) b vs:=by
 rcases t with t | t
 ·refine .inl ((aI fun e=>?_).trans t);subst e;rw[h] at t;cases o<;>cases t
 ·exact .inr t
theorem wo (ks:List (List Int))(n:List Int):putK (lI ks) (n.map .inl) (.bl true)=lI (ub ks n):=by
 unfold putK ub;rw[lZ];split
 ·unfold lI;rw[cv];refine dk fun k _=>?_
  show (if (k.map Sum.inl:List Key)=n.map Sum.inl then ((k.map Sum.inl:List Key),V.bl true) else (k.map Sum.inl,V.bl true))=_;split<;>rfl
 ·unfold lI;rw[df];rfl
theorem o7 {K:Frag}{P:Addr->Prop}{env:En}{σ:L2.St}{H:Hp}{F:Nat->List Addr}(re:RE K P env σ H F){i:Nat}{ks:List (Int×MV)}(hx:env[i]? = some (some (.mpi ks,.own))):∃ p xs,σ[i]? = some (some (.ref p))/\F i=[p]/\H p=some (.dK xs)/\gN K H ks xs:=by
 obtain⟨v,hv,rp⟩:=re.val i _ _ hx;obtain⟨_,lv,_⟩:=re.one i _ _ hx rfl;generalize hF:F i=G at rp lv;cases rp with
 |@mpi p _ xs h kr=>exact⟨p,xs,hv,rfl,h,kr⟩
theorem wJ {K:Frag}{P:Addr->Prop}{env:En}{σ:L2.St}{H:Hp}{F:Nat->List Addr}(re:RE K P env σ H F){i:Nat}{ks:List (List Int)}(hx:env[i]? = some (some (.mpt ks,.own))):∃ p,σ[i]? = some (some (.ref p))/\F i=[p]/\H p=some (.dT (lI ks)):=by
 obtain⟨v,hv,rp⟩:=re.val i _ _ hx;obtain⟨_,lv,_⟩:=re.one i _ _ hx rfl;generalize hF:F i=G at rp lv;cases rp with
 |@mpt p _ h =>
  refine⟨p,hv,rfl,?_⟩;obtain⟨vs,q⟩:=lv p (by simp);rcases h with h | ⟨o,h⟩
  ·exact h
  ·rw[q] at h;cases vs<;>cases h
theorem p6 {K:Frag}{H:Hp}{q:Addr}{i j:Int}(h:iS K H q [.int i,.int j]):H q=some (.tup ([i,j].map (kV∘Sum.inl))):=by
 rcases h with h | ⟨h,_⟩
 ·exact h
 ·cases h
theorem sE {pins:List (Addr×Obj)}{σ:L2.St}{H:Hp}{s:Shared}{a:Addr}(I:Inv X pins σ H s)(e:H a=some (.dK [])):Inv X pins σ (upd H a (.dT [])) s:=by
 obtain⟨z,hd,vs,rel,o,es,ep,h1,h2,h3,h4,h5,h6⟩:=tW I.hok e;cases rel;have hes:es.toList=[]:=by
  cases q:es.toList with
  |nil=>rfl
  |cons x r=>rw[q] at h5;cases h5
 exact jk (t':=s.toks) I (by rw[e];exact True.intro) ⟨rfl,fun _ _=>rfl⟩ ⟨o,h1⟩ ⟨cy _,hd,[],.nil,o,es,ep,h1,h2,h3,hes,bu⟩
def xW (H:Hp)(a:Addr)(y v:V)(H':Hp):Prop:=kz H a y v H'\/∃ k b,H a=some (.dK [])/\y = .ref b/\H b=some (.tup (k.map kV))/\H'=upd H a (.dT (putK [] k v))
def uX (td ty tv:TE):TS:=fun D σ H=>tv σ H fun v H1=>td σ H1 fun x H2=>ty σ H2 fun y H3=>∃ a H4,x = .ref a/\xW H3 a y v H4/\D.nx σ H4
theorem wg (H:Hp)(a:Addr)(o o':HO):upd (upd H a o) a o'=upd H a o':=by
 funext b;by_cases h:b=a
 ·subst h;rw[aO,aO]
 ·rw[aI h,aI h,aI h]
theorem sy {o i value:Expr}{pos pos':Pos}{td ty tv:TE}(hu:X.A.units+1<cLine)(ho:PE X o td)(hi:PE X i ty)(hv:PE X value tv)(hs:swapsWith value (some (.Subscript o i pos')) pos.line X.env=pure false) :
  PS X (.Assign [.Subscript o i pos'] value pos) (uX td ty tv):=by
 intro pins s σ H D I h;refine wpAny_Assign_Subscript (bM (hv pins s σ H _ I h) fun r s1 ⟨v,H1,I1,rv,q1⟩=>bM (ho pins s1 σ H1 _ I1 q1) fun u s2 ⟨x,H2,I2,rx,q2⟩=>bM (hi pins s2 σ H2 _ I2 q2) fun iv s3 ⟨y,H3,I3,ry,a,H4,ex,g,q3⟩=>?_) hs;subst ex;obtain rfl:u=Value.ref a:=rx;rcases g with g | ⟨k,b,e1,e2,e3,e4⟩
 ·exact k6 hu I3 g ry rv fun s4 I4=>⟨σ,H4,I4,q3⟩
 ·subst e2 e4;have hb:b≠a:=fun z=>by subst z;rw[e1] at e3;cases e3
  refine k6 hu (sE I3 e1) (kz.t (kvs:=[]) aO (by rw[aI hb];exact e3) (by decide)) ry rv fun s4 I4=>⟨σ,_,I4,?_⟩
  rw[wg];exact q3
theorem mY {d:D}(h:rf d=true):d = .bl true:=by
 unfold rf at h;split at h
 ·rfl
 ·cases h
theorem rT {K:Frag}{P:Addr->Prop}{env:En}{σ:L2.St}{H:Hp}{F:Nat->List Addr}(re:RE K P env σ H F){i:Nat}{d d' y u:D}(hx:env[i]? = some (some (d,.own)))(hp:tw d y u=some d') :
  ∃ p,∃ m:ML,σ[i]? = some (some (.ref p))/\F i=[p]/\H p=some m.o/\∀ H3 wi Gi wv Gv,aH H H3->Rep K H3 y wi Gi->Rep K H3 u wv Gv->∃ m':ML,xW H3 p wi wv (upd H3 p m'.o)/\Rep K (upd H3 p m'.o) d' (.ref p) [p]:=by
 unfold tw at hp;split at hp
 ·rename_i ks n;by_cases hl:ks.length<lim
  ·rw[if_pos hl,aa] at hp;obtain⟨mv,hmv,rfl⟩:=hp;obtain⟨p,xs,hv,hF,hH,kr⟩:=o7 re hx;refine⟨p,.k xs,hv,hF,hH,fun H3 wi Gi wv Gv sm rp ru=>?_⟩;have h3:H3 p=some (ML.k xs).o:=sm _ _ hH;have kr3:=kr.keep fun _ _=>aH.tqT sm
   have mr:=yq hmv ru;obtain⟨rfl,_⟩:=rp.int_inv;refine⟨.k (putK xs (.inl n) wv),.inl (kz.k (k:=.inl n) h3 ?_),.mpi aO ((kr3.put n mr).keep fun b vs=>xo (o':=.k _) h3 b vs)⟩;rw[kr.len,sizeLine_eq];unfold lim at hl;omega
  ·rw[if_neg hl] at hp;cases hp
 ·rename_i a b;by_cases ht:rf u=true
  ·rw[if_pos ht] at hp;cases hp;obtain rfl:=mY ht;obtain⟨p,xs,hv,hF,hH,kr⟩:=o7 re hx;cases xs with
   |cons _ _=>exact kr.elim
   |nil =>
    refine⟨p,.k [],hv,hF,hH,fun H3 wi Gi wv Gv sm rp ru=>⟨.t (lI [[a,b]]),.inr ?_,.mpt (.inl aO)⟩⟩;obtain⟨q,vs,rfl,a1,a2⟩:=rp.tup_invT;obtain⟨rfl,rfl⟩:=jm a2;cases ru;exact⟨[a,b].map Sum.inl,q,sm _ _ hH,rfl,p6 a1,rfl⟩
  ·rw[if_neg ht] at hp;cases hp
 ·rename_i ks a b;by_cases ht:(rf u&&decide (ks.length<lim))=true
  ·rw[if_pos ht] at hp;cases hp;rw[ak] at ht;have hl:=of_decide_eq_true ht.2;obtain rfl:=mY ht.1;obtain⟨p,hv,hF,hH⟩:=wJ re hx;refine⟨p,.t (lI ks),hv,hF,hH,fun H3 wi Gi wv Gv sm rp ru=>⟨.t (lI (ub ks [a,b])),.inl ?_,.mpt (.inl aO)⟩⟩;obtain⟨q,vs,rfl,a1,a2⟩:=rp.tup_invT;obtain⟨rfl,rfl⟩:=jm a2;cases ru;show kz H3 p _ _ (upd H3 p (.dT (lI (ub ks [a,b]))));rw[<-wo];refine kz.t (sm _ _ hH) (p6 a1) ?_;unfold lI;rw[ag,sizeLine_eq];unfold lim at hl;omega
  ·rw[if_neg ht] at hp;cases hp
 ·cases hp
theorem rm {i:Nat}{c e:Ex}{D:Ends}{σ:L2.St}{H:Hp}(h:tS X.K T (.putd i c e) D σ H):uX (jU X.K T i .none) (tE X.K T c) (tE X.K T e) D σ H:=by
 obtain⟨P,Z,env,F,re,hz,zp,h⟩:=h;unfold bI at h;cases hx:ownAt env i with
 |none=>rw[hx] at h;exact h.elim
 |some d =>
  rw[hx] at h;obtain⟨u,hu,h⟩:=bP h;obtain⟨q,hq,h⟩:=bP h;cases hp:tw d q.1 u.1 with
  |none=>rw[hp] at h;exact h.elim
  |some d' =>
   rw[hp] at h;have hx':=dO hx;obtain⟨p,m,hv,hF,hH,inv⟩:=rT re hx' hp;refine⟨P,env,F,re,u,hu,fun wv H1 Gv s1 rpv rtv=>⟨P,env,F,none,.ref p,p,re.same s1,by unfold jb;rfl,hv,.top p,fun H2 s2=>⟨P,env,F,re.same (s1.trans s2),q,hq,fun wi H3 Gi s3 rpi rti=>?_⟩⟩⟩;have e:=(s1.trans s2).trans s3;have hp3:H3 p=some m.o:=e _ _ hH;obtain⟨m',i1,i2⟩:=inv H3 wi Gi wv Gv e rpi (rpv.same (s2.trans s3));refine⟨p,upd H3 p m'.o,rfl,i1,?_⟩;have hpx:p∈F i:=by rw[hF];simp
   have re1:=re.same e;have re2:=re1.mutateM (vs:=m') (R:=[]) (N:=[]) (G:=[p]) (d':=d') hx' hv hpx i2 (by simp) (fun a ha=>.inl (by rw[hF];exact ha)) (fun a ha=>nomatch ha);have nPp:¬ P p:=re.wr i _ hx' p hpx;refine h σ _ _ ⟨re2,fun j a ha=>?_,(iI.of_same re.pl e).trans ⟨fun a z=>aI (fun q=>nPp (q ▸ z)),fun b xs r=>?_,g7 hp3⟩,fun j dj ej=>?_⟩
   ·unfold kB at ha;split at ha
    ·exact hz i a (by rw[hF];exact ha)
    ·split at ha
     ·exact hz j a ha
     ·cases ha
   ·refine (aI (fun q=>?_)).trans r;subst q;rw[hp3] at r;cases m<;>cases r
   ·by_cases hj:j=i
    ·subst hj;rw[List.getElem?_set_self (by rw[bU];exact (List.getElem?_eq_some_iff.mp hx').1)] at ej;cases ej
    ·rw[List.getElem?_set_ne (da hj)] at ej;refine⟨(bR ej).1,?_⟩;unfold kB;rw[if_neg hj,ej]
theorem lj {K:Frag}{H:Hp}:∀ ks:List (Int×MV),aG K H (ks.map fun q=>D.int q.1) (ks.map fun q=>V.int q.1) []
 |[]=>.nil
 |k::ks=>.cons (G:=[]) (G':=[]) (.int k.1) (lj ks)
theorem kM {P:Program}{w:World}{K:Frag}{H:Hp}:∀{ks:List (Int×MV)}{xs:List (Key×V)}{vs:List (Key×Value)}{us:List Value},gN K H ks xs->KV xs vs->us.length=vs.length->(∀(j:Nat) u,us[j]? = some u->∃ k x,vs[j]? = some (k,x)/\(aL P w).is k u=true)->aJ (ks.map fun q=>V.int q.1) us
 | [],[],_,us,_,r,hl,_=>by
  cases r;rw[List.length_eq_zero_iff.mp hl];exact .nil
 |[],_::_,_,_,h,_,_,_=>h.elim
 |_::_,[],_,_,h,_,_,_=>h.elim
 | (k,m)::ks,x::xs,_,us,⟨hk0,_,kr⟩,r,hl,h=>by
  have r:Paired _ (x::xs) _:=r;cases r with
  |@cons _ q _ qs h1 t =>
   cases us with
   |nil=>cases hl
   |cons u us =>
    obtain⟨k',y,e,hk⟩:=h 0 u rfl;have e:some q=some (k',y):=e;cases e;have h1:x.1=k':=h1.1;rw[hk0] at h1;have h1:(Sum.inl k:Key)=k':=h1;subst h1;obtain⟨i,t',e1,e2⟩ | ⟨x',t',e1,_⟩:=aW (show i4 (.inl k) u=true from hk)
    ·cases e1;exact .cons ⟨t',e2⟩ (kM kr t (gw hl) fun j u hu=>h (j+1) u hu)
    ·cases e1
theorem og (hc:X.calm=true):eC X (.type "list") (m5 X.K .list):=by
 intro pins s σ H xs us Q I r h;obtain⟨ds,d,G,rs,hd,k⟩:=h;by_cases hm:∃ ks,ds=[.mpi ks]
 ·obtain⟨ks,rfl⟩:=hm;simp only[kC,tJ] at hd;by_cases hl:ks.length<=lim
  ·rw[if_pos hl] at hd;cases hd;obtain⟨x,rfl,rp⟩:=rs.of1;obtain⟨u,rfl,rx⟩:=r.one;cases rp with
   |@mpi p _ xs hr kr =>
    obtain rfl:u = .ref p:=rx;obtain⟨z,lo,vs,rel,dd⟩:=i0 I.hok (.inl hr);obtain⟨ep,hat⟩:=dd.dictAt;have hlen:vs.length=ks.length:=by rw[<-rel.length,kr.len]
    refine PySem.W.kdl_call (PySem.W.kdl_dict (knd:=aL X.prog X.w) (kvs:=vs) (ep:=ep) lo) (I.ok.hd hc) hat (by rw[hlen,sizeLine_eq];unfold lim at hl;omega) fun h' tk acc c hk hD hacc=>?_
    have hv:aJ (ks.map fun q=>V.int q.1) acc.toList:=kM kr rel (by rw[cn];exact hacc.1) fun j u hu=>hacc.2 j u (by rw[<-Array.getElem?_toList];exact hu)
    refine⟨.ref s.heap.objs.size,upd H s.heap.objs.size (.lst (ks.map fun q=>V.int q.1)),I.laid hk (av _) ⟨by rw[ag,sizeLine_eq];unfold lim at hl;omega,acc.toList,c,hv,by rw[hD,Array.toArray_toList]⟩,rfl,?_⟩;obtain⟨n1,n2⟩:=iU (G0:=[p]) (lj (K:=X.K) (H:=H) ks) (fun a ha=>nomatch ha) I.fresh;exact k _ _ _ n1 n2
  ·rw[if_neg hl] at hd;cases hd
 ·exact nJ I r rs hd k fun ks e=>hm ⟨ks,e⟩
end
section
variable {prog:Program}{w:World}{A:Around}
def TupI (h:Heap)(v:Value)(k:List Int):Prop:=∃ a o its n,v = .ref a/\h.get? a=some o/\o.cls = .type "tuple"/\o.data = .seq its n/\IntsAre its.toList k
end
theorem kP:∀ k:List Int,D.flats (k.map D.int)=true
 |[]=>rfl
 |_::k=>kP k
section
variable {X:Cx}{pins:List (Addr×Obj)}{σ:L2.St}{H:Hp}{s:Shared}
theorem kK (I:Inv X pins σ H s):∀{ys:List D}{ks:List (List Int)}{vs:List V}{G:List Addr}{us:List Value},iY ys=some ks->aG X.K H ys vs G->aJ vs us->ks.length=us.length/\(∀ i k,ks[i]? = some k->TupI s.heap (us.getD i .none) k)/\(∀ k∈ks,k≠[])/\G=[]
 | [],ks,_,_,_,h,.nil,.nil=>by
  cases h;exact⟨rfl,fun i k h=>(by simp at h),fun k h=>(nomatch h),rfl⟩
 | .tup xs::r,ks,_,_,_,h,.cons r1 r2,.cons (b:=u) v1 v2=>by
  have h:((fB xs).bind fun k=>if k.isEmpty then none else (iY r).map (k :: ·))=some ks:=h;rw[ab] at h;obtain⟨k,h1,h2⟩:=h;by_cases he:k.isEmpty=true
  ·rw[if_pos he] at h2;cases h2
  ·rw[if_neg he,aa] at h2;obtain⟨ks',h3,rfl⟩:=h2;obtain⟨l,t,ne,g⟩:=kK I h3 r2 v2;have:=eP h1;subst this;have gf:=r1.flat (kP k);obtain⟨p,vs',rfl,a1,a2⟩:=r1.tup_inv;obtain rfl:u = .ref p:=v1;obtain⟨its,rv,⟨o,e1,e2,n,e3⟩,_⟩:=I.tuple a1;refine⟨by simp[l],fun i k' hk=>?_,fun k' hk=>?_,by rw[gf,g];rfl⟩
   ·cases i with
    |zero =>
     have hk:some k=some k':=hk;cases hk;exact⟨p,o,_,n,rfl,e1,e2,e3,iA a2 rv⟩
    |succ i=>exact t i k' hk
   ·rcases dz.mp hk with rfl | hk
    ·intro z;subst z;exact he rfl
    ·exact ne k' hk
end
section
variable {X:Cx}
end
section
variable {X:Cx}{T:Tb}
end
structure StrIt (ty:String):Prop where
 item:∀{prog:Program}{w:World}{A:Around}{E:Value->Shared->Prop}{s:Shared}{it:Addr}{x:Str}{t:Tok}{i c:Nat}{Q:Value->Shared->Prop},s.heap.IsStrIter it ty x t i->x.cps[i]? = some c ->
  (∀ h',h'.IsStrIter it ty x t (i+1)->Heap.SameBut it s.heap h'->Q (.str ⟨#[c]⟩ s.toks) { s with heap:=h',toks:=s.toks+1 })->wpAny (model prog w) A (Builtin.SmallTypes.nextOf (.ref it)) Q E s
 done:∀{prog:Program}{w:World}{A:Around}{E:Value->Shared->Prop}{s:Shared}{it:Addr}{x:Str}{t:Tok}{i:Nat}{Q:Value->Shared->Prop},A.handled=none->s.heap.IsStrIter it ty x t i->x.cps[i]? = none ->
  (∀ h' e,Heap.ExtBut it s.heap h'->(∃ o,h'.get? e=some o/\o.cls = .type "StopIteration")->E (.ref e) { s with heap:=h' })->wpAny (model prog w) A (Builtin.SmallTypes.nextOf (.ref it)) Q E s
 n1:ty≠"list"
section
variable {prog:Program}{w:World}{A:Around}{E:Value->Shared->Prop}{s:Shared}{z TI TO i1 i2 l1:Addr}{k1 k2:Nat}{xs:Array Value}{x a b:Value}{y:Str}{t:Tok}{c:Nat}{ty:String}
end
section
variable {prog:Program}{w:World}{A:Around}{E:Value->Shared->Prop}{s:Shared}
end
theorem qR {d:D}{l:List D}(h:oX d=some l):d = .lst l\/∃ y,d = .str y/\l=y.cps.toList.map fun c=>D.str ⟨#[c]⟩:=by
 cases d<;>simp[oX] at h
 ·exact .inr ⟨_,rfl,h.symm⟩
 ·rw[h];exact .inl rfl
section
variable {X:Cx}{T:Tb}
end
noncomputable def BV (y:Str):It:=⟨fun i H=>∃ c,y.cps[i]? = some c,fun i H v H'=>∃ T c,v = .ref T/\H T=none/\y.cps[i]? = some c/\H'=upd H T (.tup [.int i,.str ⟨#[c]⟩]),fun i H=>i=y.cps.size⟩
def xY (ty:String)(y:Str)(t:Tok):Prop:=∀{prog:Program}{w:World}{A:Around},A.handled=none->∀(it:Addr),Draws prog w A it [it] y.cps.size (fun i v=>∃ c u,y.cps[i]? = some c/\v=Value.str { cps:=#[c] } u) fun i h=>h.IsStrIter it ty y t i
theorem n9 {P:Program}{w:World}{K:Frag}{elts:List Expr}{x1:Nat}{pos:Pos}{ty:String}{y:Str}{t:Tok}(S:xY ty y t)(e it:Addr)(hne:e≠it):Turn P w K (.Tuple elts x1 pos) (BV y) [e,it] e (fun i h=>(∃ old,IsEnum h e it (i:Nat) old)/\h.IsStrIter it ty y t i) where
 mem:=by simp
 obj:=fun i h st b hb=>by
  obtain⟨⟨old,he⟩,hit⟩:=st;have hb:b=e\/b=it:=by simpa using hb
  rcases hb with rfl | rfl
  ·exact⟨_,he,fun v z=>by cases z⟩
  ·obtain⟨o,e,c,d⟩:=hit;exact⟨o,e,fun v z=>by rw[d] at z;cases z⟩
 keep:=fun i h h' st k=>by
  obtain⟨⟨old,he⟩,⟨o,e1,r⟩⟩:=st;exact⟨⟨old,k e (by simp) _ he⟩,⟨o,k it (by simp) o e1,r⟩⟩
 item:=by
  intro X hP hw hK hc i pins s σ H E I hf st hg;subst hP hw hK;obtain⟨c,hc0⟩:=hg;obtain⟨⟨old,he⟩,hit⟩:=st;have lts:∀ b∈[e,it],b<s.heap.objs.size:=fun b hb=>by
   have hb:b=e\/b=it:=by simpa using hb
   rcases hb with rfl | rfl
   ·exact Heap.lt_size he
   ·obtain⟨o,e,_⟩:=hit;exact Heap.lt_size e
  have hi:i<y.cps.size:=(Array.getElem?_eq_some_iff.mp hc0).1;refine wpAny_pyNext_enum_itemD (S (A:=X.A.in1) (I.ok.hd hc) it) he hit hi hne (by simpa using hne) fun x h' tk hx ho hit' hT hsz hk=>?_
  obtain⟨c',u,hc',rfl⟩:=hx;rw[hc0] at hc';cases hc';have I2:Inv X pins σ (upd H s.heap.objs.size (.tup [.int i,.str ⟨#[c]⟩])) { s with heap:=h',toks:=tk+1 } :=
   paired (ch:=[e,it]) I ⟨tk,rfl⟩ ⟨u,rfl⟩ hT (fun b o hb q=>hk b o (fun z=>hb (by simp[z])) (fun z=>hb (by simp[z])) q) hf lts
  have f2:∀ b∈[e,it],gQ X pins (upd H s.heap.objs.size (.tup [.int i,.str ⟨#[c]⟩])) b:=fun b hb=>by
   obtain⟨f0,f⟩:=hf b hb;exact⟨by rw[aI (bo (lts b hb))];exact f0,f⟩
  refine⟨_,rfl,wpAny_letOwnedTupleGo_enum (s:={ s with heap:=h',toks:=tk+1 }) ho fun h2 he2 hs2=>?_⟩;refine⟨.ref s.heap.objs.size,_,ip (ch:=[e]) I2 (fun b o hb q=>hs2.extBut b o (fun z=>hb (by simp[z])) q) (fun b hb=>f2 b (by simp at hb;simp[hb])),rfl,⟨_,c,rfl,I.fresh,hc0,rfl⟩,⟨⟨_,by simpa using he2⟩,hit'.extBut hs2.extBut (Ne.symm hne)⟩,fun b hb=>(f2 b hb).1⟩
 done:=by
  intro X hP hw hK hc i pins s σ H E I hf st hg;subst hP hw hK;obtain⟨⟨old,he⟩,hit⟩:=st;have hg:i=y.cps.size:=hg;subst hg;exact wpAny_pyNext_enum_endD (S (A:=X.A.in1) (I.ok.hd hc) it) he hit fun h' eb=>⟨rfl,ip (t':=s.toks) (ch:=[it]) I (fun b o hb q=>eb b o (fun z=>hb (by simp[z])) q) fun b hb=>hf b (by simp at hb;simp[hb])⟩
 self:=fun A i s Q E st h=>by
  obtain⟨⟨old,he⟩,_⟩:=st;exact wpAny_pyIter_enum he h
theorem oa {K:Frag}{P:Addr->Prop}{H0:Hp}{y:Str}:gU K P H0 (BV y) ((y.cps.toList.map fun c=>D.str ⟨#[c]⟩).zipIdx.map fun q=>.tup [.int q.2,q.1]) []:=fun H e=>by
 refine⟨fun i d hd=>?_,show _=_ by rw[ag,List.length_zipIdx,ag,cn]⟩;obtain⟨c,hc,rfl⟩:∃ c,y.cps[i]? = some c/\d = .tup [.int i,.str ⟨#[c]⟩]:=by
  rw[List.getElem?_map,List.getElem?_zipIdx,List.getElem?_map,Array.getElem?_toList] at hd;cases q:y.cps[i]? with
  |none=>rw[q] at hd;cases hd
  |some c=>rw[q] at hd;simp at hd;exact⟨c,rfl,hd.symm⟩
 refine⟨⟨c,hc⟩,fun x H' ⟨T,c',e1,e2,e3,e4⟩=>?_⟩;subst e1 e4;rw[hc] at e3;cases e3;exact⟨aH.new e2,[]++([] ++ []),.tup (.inl aO) (.cons (.int _) (.cons (.str _) .nil)),fun z hz=>by simpa using hz⟩
section
variable {X:Cx}{T:Tb}
theorem xp {e:Expr}{c:Ex}{elts:List Expr}{x1:Nat}{p tp pos:Pos}(hg:Gl X "enumerate") (hm:X.mg "enumerate" = none) (ha:PA X [e] (rP X.K T (.cons c .nil))) (hs:starEach [e] X.env=(false,eval e X.env)::starEach [] X.env):PI X (.Tuple elts x1 tp) (.Call (.Name "enumerate" p) [e] [] pos) (tI X.K T (.enum c)):=by
 intro pins s σ H R I hq;obtain⟨P,env,F,re,q,hev,k⟩:=hq;unfold dI at hev;obtain⟨r,h1,hev⟩:=Rs.bind_ok hev;obtain⟨l,h2,hev⟩:=Rs.bind_ok hev;cases hev;have hl:bB T (.cons c .nil) env = .ok [r]:=by unfold bB;rw[h1];unfold bB;rfl
 refine Call_ (j5 I hg hm boot_enumerate (gd (bM (ha pos pins s σ H (fun vs H'=>∃ G,Args X.K env F H H' [r] vs G) I ⟨P,env,F,re,[r],hl,fun vs H' G ar=>⟨G,ar⟩⟩) fun us s1 ⟨vs,H1,I1,r1,G,ar⟩=>?_) hs rfl));have rs:aG X.K H1 [r.1] vs G:=ar.reps;obtain⟨x,rfl,rp⟩:=rs.of1;obtain⟨u,rfl,ru⟩:=r1.one;have fp:∀ b∈[s1.heap.objs.size+1,s1.heap.objs.size],gQ X pins H1 b:=fun b hb=>by
  simp only[List.mem_cons,List.not_mem_nil,or_false] at hb;have hb:s1.heap.objs.size<=b:=y4 _ _ hb;exact I1.fpOk hb (I1.hok.fresh hb)
 rcases qR (bV h2) with e2 | ⟨y,e2,rfl⟩
 ·rw[e2] at rp;obtain⟨a,vs,g,rfl,rfl,a1,a2⟩:=rp.lst_inv;cases ru;obtain⟨its,rv,pl,hz⟩:=I1.list (.inl a1);exact call_enumerate_list pl.isList fun h' he hit hsz hk=>wpAny_pyIter_enum he ⟨_,[s1.heap.objs.size+1,s1.heap.objs.size],_,_,H1,rfl,I1.kept (t':=s1.toks) hk,rG a _ _ (Nat.succ_ne_self _),⟨⟨_,he⟩,hit⟩,fp,k _ H1 (a::g) ar.same (lu ar fun q hq=>by simpa[aQ] using hq) (fun b hb=>rp.nn hb) fun P' hP=>qD a1 a2 hP⟩
 ·rw[e2] at rp;obtain⟨rfl,rfl⟩:=rp.str_inv;obtain⟨tk,rfl⟩:=ru;have dr:xY (strIterType y) y tk:=by
   intro prog w A hA it;unfold strIterType;split
   ·exact Draws.strAscii hA it y tk
   ·exact Draws.strWide hA it y tk
  exact call_enumerate_str fun h' he hit hsz hk=>wpAny_pyIter_enum he ⟨_,[s1.heap.objs.size+1,s1.heap.objs.size],_,_,H1,rfl,I1.kept (t':=s1.toks) hk,n9 dr _ _ (Nat.succ_ne_self _),⟨⟨_,he⟩,hit⟩,fp,k _ H1 [] ar.same (lu ar fun q hq=>by simpa[aQ] using hq) (fun b hb=>(nomatch hb)) fun P' hP=>oa⟩
end
section
variable {prog:Program}{w:World}{A:Around}{E:Value->Shared->Prop}{s:Shared}
end
section
variable {X:Cx}{T:Tb}
end
section
variable {X:Cx}{T:Tb}
end
section
variable {prog:Program}{w:World}{A:Around}{R:Result->Shared->Prop}{it:Addr}{fp wr:List Addr}{n:Nat}{P:Nat->Value->Prop}{Sta:Nat->Heap->Prop}{dv:Value}{bx:Addr}
end
section
variable {X:Cx}{T:Tb}
end
noncomputable def isK (k:Int):Value->Bool
 |.int i _=>i==k
 |_=>false
theorem qe:∀{vs:List Value}{ns:List Int},IntsAre vs ns->vs.length=ns.length/\∀(i:Nat) v,vs[i]? = some v->∃ n t,ns[i]? = some n/\v = .int n t
 |_,_,.nil=>⟨rfl,fun i v h=>by simp at h⟩
 | _,_,.cons n t r=>by
  obtain⟨l,g⟩:=qe r;refine⟨by simp[l],fun i v h=>?_⟩;cases i with
  |zero =>
   rw[List.getElem?_cons_zero] at h;cases h;exact⟨n,t,rfl,rfl⟩
  |succ i =>
   rw[List.getElem?_cons_succ] at h;obtain⟨m,u,h1,h2⟩:=g i v h;exact⟨m,u,by rw[List.getElem?_cons_succ];exact h1,h2⟩
theorem eM {lt:Nat->Nat->Bool}{n:Nat}:∀(k j m:Nat),j+k=n->m<n->bY lt k j m<n
 |0,_,m,_,h=>h
 | k+1,j,m,e,h=>by
  unfold bY;refine eM k (j+1) _ (by omega) ?_;split
  ·omega
  ·exact h
theorem qd:(toString "min" ++ toString ".loop" : String) = "min.loop":=by decide
section
variable {prog:Program}{w:World}{A:Around}{R:Result->Shared->Prop}{it:Addr}{fp wr:List Addr}{n:Nat}{P:Nat->Value->Prop}{Sta:Nat->Heap->Prop}{bx:Addr}{val:Nat->Value}{lt:Nat->Nat->Bool}{h0:Heap}
def Kp (wr:List Addr)(bx:Addr)(h0 h:Heap):Prop:=∀ b o,b∉wr->b≠bx->h0.get? b=some o->h.get? b=some o
theorem w8 (W:Walks prog w A.in1 it fp wr n P Sta)(hval:∀ i v,P i v->v=val i)(hb:bx∉fp)
  (hcmp:∀(i j:Nat) (s':Shared) (Q E:Value->Shared->Prop),i<n->j<n->Kp wr bx h0 s'.heap->Q (.bool (lt i j)) s'->wpAny (model prog w) A.in1 (richCompare .Lt (val i) (val j)) Q E s') :
  ∀(k j:Nat) (s:Shared) (m:Nat) (c:Nat),n - j=k->j<=n->m<n->Sta j s.heap->Kp wr bx h0 s.heap->s.heap.get? bx=some { cls:=.type "list",dict:=none,data:=.seq #[val m,val m] c,slots:=#[] } ->
  (∀ hp tk,Kp wr bx h0 hp->R (.ok (.ret (val (bY lt k j m)))) { s with heap:=hp,toks:=tk }) ->
  codeAny (model prog w) A (.builtin "min.loop" ⟨[.ref it,.none,.ref bx],[]⟩) R s:=by
 have hw:bx∉wr:=fun h=>hb (W.sub _ h)
 intro k
 induction k with
 |zero =>
  intro j s m c hk hj hm st kp hB q;have e:j=n:=by omega
  subst e;refine codeAny_builtin F.entry_min_loop (by
   rw[Around.under_plainId F.plain_min_loop _];show wpAny _ A.in1 (seqItems? (.ref bx) >>= _) _ _ s;refine wpAny_bind (wpAny_seqItems hB rfl (wpAny_bind (wpAny_tryCatch (W.done s _ _ st fun hp tk hk'=>?_))));have hB':=hk' bx _ hw hB;show wpAny _ A.in1 (updateSeq bx (fun _=>#[]) >>= _) _ _ _;exact wpAny_bind (wpAny_updateSeq hB' rfl (wpAny_bind (wpAny_letGo (wpAny_pure (q _ tk fun b o h1 h2 e=>(Heap.get?_update_other _ _ (da h2)).trans (hk' b o h1 (kp b o h1 h2 e))))))))
 |succ k ih =>
  intro j s m c hk hj hm st kp hB q;have hlt:j<n:=by omega
  refine codeAny_builtin F.entry_min_loop (by
   rw[Around.under_plainId F.plain_min_loop _];show wpAny _ A.in1 (seqItems? (.ref bx) >>= _) _ _ s;refine wpAny_bind (wpAny_seqItems hB rfl (wpAny_bind (wpAny_tryCatch (W.item j s _ _ hlt st fun v hp tk hv st' hk'=>?_))));have hB':=hk' bx _ hw hB;have hve:=hval j v hv;subst hve;have kp':Kp wr bx h0 hp:=fun b o h1 h2 e=>hk' b o h1 (kp b o h1 h2 e)
   show wpAny _ A.in1 (tryCatch (holding [val j,val j] (richCompare .Lt (val j) (val m) >>= _)) _ >>= _) _ _ _;refine wpAny_bind (wpAny_tryCatch (wpAny_holding (wpAny_bind (hcmp j m _ _ _ hlt hm kp' (wpAny_bind (wpAny_holding (wpAny_truthy_bool (wpAny_bind (wpAny_letGo (wpAny_pure ?_))))))))));cases hg:lt j m with
   |true =>
    simp only[if_true];refine wpAny_bind (wpAny_updateSeq hB' rfl (wpAny_bind (wpAny_letGo ?_)));rw[qd];refine wpAny_pure ⟨plainId_quiet F.plain_min_loop _,ih (j+1) _ j _ (by omega) hlt hlt (W.frame _ _ _ st' fun b hbf o e=>(Heap.get?_update_other _ _ (fun h:bx=b=>hb (h ▸ hbf))).trans e) (fun b o h1 h2 e=>(Heap.get?_update_other _ _ (da h2)).trans (kp' b o h1 h2 e)) (Heap.get?_update_self _ hB' rfl) fun hp2 tk2 hk2=>?_⟩;have:=q hp2 tk2 hk2;unfold bY at this
    rwa [hg,if_pos rfl] at this
   |false =>
    simp only[Bool.false_eq_true,if_false];refine wpAny_bind (wpAny_letGo ?_);rw[qd];refine wpAny_pure ⟨plainId_quiet F.plain_min_loop _,ih (j+1) _ m c (by omega) hlt hm st' kp' hB' fun hp2 tk2 hk2=>?_⟩;have:=q hp2 tk2 hk2;unfold bY at this
    rwa [hg,if_neg (by decide)] at this)
theorem se (W:Walks prog w A.in1 it fp wr n P Sta)(hval:∀ i v,P i v->v=val i)(hb:bx∉fp)(hn:0<n)
  (hcmp:∀(i j:Nat) (s':Shared) (Q E:Value->Shared->Prop),i<n->j<n->Kp wr bx h0 s'.heap->Q (.bool (lt i j)) s'->wpAny (model prog w) A.in1 (richCompare .Lt (val i) (val j)) Q E s')
  {s:Shared}{c:Nat}(st:Sta 0 s.heap) (kp:Kp wr bx h0 s.heap) (hB:s.heap.get? bx=some { cls:=.type "list",dict:=none,data:=.seq #[] c,slots:=#[] })
  (q:∀ hp tk,Kp wr bx h0 hp->R (.ok (.ret (val (bY lt (n - 1) 1 0)))) { s with heap:=hp,toks:=tk }) :
  codeAny (model prog w) A (.builtin "min.loop" ⟨[.ref it,.none,.ref bx],[]⟩) R s:=by
 have hw:bx∉wr:=fun h=>hb (W.sub _ h)
 refine codeAny_builtin F.entry_min_loop (by
  rw[Around.under_plainId F.plain_min_loop _];show wpAny _ A.in1 (seqItems? (.ref bx) >>= _) _ _ s;refine wpAny_bind (wpAny_seqItems hB rfl (wpAny_bind (wpAny_tryCatch (W.item 0 s _ _ hn st fun v hp tk hv st' hk'=>?_))));have hB':=hk' bx _ hw hB;have hve:=hval 0 v hv;subst hve;have kp':Kp wr bx h0 hp:=fun b o h1 h2 e=>hk' b o h1 (kp b o h1 h2 e)
  show wpAny _ A.in1 (updateSeq bx (fun _=>#[val 0,val 0]) >>= _) _ _ _;refine wpAny_bind (wpAny_updateSeq hB' rfl ?_);rw[qd];refine wpAny_pure ⟨plainId_quiet F.plain_min_loop _,w8 W hval hb hcmp (n - 1) 1 _ 0 _ rfl hn hn (W.frame _ _ _ st' fun b hbf o e=>(Heap.get?_update_other _ _ (fun h:bx=b=>hb (h ▸ hbf))).trans e) (fun b o h1 h2 e=>(Heap.get?_update_other _ _ (da h2)).trans (kp' b o h1 h2 e)) (Heap.get?_update_self _ hB' rfl) fun hp2 tk2 hk2=>?_⟩;exact q _ tk2 hk2)
end
theorem qF {prog:Program}{w:World}{A:Around}{E:Value->Shared->Prop}{s:Shared}{x:Value}{Q:Value->Shared->Prop}
  (h:wpAny (model prog w) A.in1 (pyIter x) (fun iv s₂=>∃ it fp wr n P Sta,∃(val:Nat->Value) (lt:Nat->Nat->Bool),iv = .ref it/\Walks prog w A.in1 it fp wr n P Sta/\Sta 0 s₂.heap/\(∀ b∈fp,b<s₂.heap.objs.size)/\0<n/\(∀ i v,P i v->v=val i) /\
   (∀(i j:Nat) (s':Shared) (Q E:Value->Shared->Prop),i<n->j<n->(∀ b o,b∉wr->s₂.heap.get? b=some o->s'.heap.get? b=some o)->Q (.bool (lt i j)) s'->wpAny (model prog w) A.in1 (richCompare .Lt (val i) (val j)) Q E s') /\
   ∀ hp tk,(∀ b o,b∉wr->s₂.heap.get? b=some o->hp.get? b=some o)->Q (val (bY lt (n - 1) 1 0)) { s₂ with heap:=hp,toks:=tk }) E s) :
  wpAny (model prog w) A (call (.builtin "min") [x]) Q E s:=by
 refine wpAny_call (codeAny_call_builtin F.plain_min F.entry_min ?_);have hc:wpAny (model prog w) A.in1 (Builtin.«min» ⟨[x],[]⟩) (fun fin s'=>match fin with
   |.done f=>(match (Except.ok f:Result) with | .ok (.ret v)=>Q v s' | .ok _=>False | .error e=>E e s')
   |.again c=>c.quiet=true/\codeAny (model prog w) A c (fun r s2=>match r with | .ok (.ret v)=>Q v s2 | .ok _=>False | .error e=>E e s2) s') E s:=by
  show wpAny _ A.in1 (Builtin.Builtins.bindParams "min" ["key","default"] 0 ⟨[],[]⟩ >>= _) _ _ s;refine wpAny_bind (wpAny_of_eq (show Builtin.Builtins.bindParams "min" ["key","default"] 0 ⟨[],[]⟩=pure [none,none] from rfl) (wpAny_bind (wpAny_pure (wpAny_bind (wpAny_mono h (fun iv s₂ h₂=>?_) fun _ _ e=>e)))));obtain⟨it,fp,wr,n,P,Sta,val,lt,rfl,W,st,hfp,hn,hval,hcmp,q⟩:=h₂;refine wpAny_bind (wpAny_newObj_type ?_);rw[qd];have fresh:∀ b o,s₂.heap.get? b=some o->b≠s₂.heap.objs.size:=fun b o e=>bo (Heap.lt_size e)
  refine wpAny_pure ⟨plainId_quiet F.plain_min_loop _,se (h0:=s₂.heap) (lt:=lt) W hval (fun hm=>c8 _ (hfp _ hm)) hn (fun i j s' Q E hi hj kp hQ=>hcmp i j s' Q E hi hj (fun b o hbw e=>kp b o hbw (fresh b o e) e) hQ) (W.frame _ _ _ st fun b _ o e=>Heap.get?_push_of_some _ e) (fun b o _ _ e=>Heap.get?_push_of_some _ e) (Heap.get?_push_size _ rfl) fun hp tk hk=>?_⟩;exact q hp tk fun b o hbw e=>hk b o hbw (fresh b o e) e
 have ha:=PySem.F.args_min1 x;simp only[checkBuiltinCall,F.kind_min];cases hsig:Manifest.signature? "min" with
 |none=>exact wpAny_pure hc
 |some sig =>
  simp only[argsOk,hsig] at ha;have h2:Bind.checkArgs "min" sig ⟨[x],[]⟩=pure ():=ha;show wpAny _ A.in1 (Bind.checkArgs "min" sig ⟨[x],[]⟩) _ _ s;rw[h2];exact wpAny_pure hc
section
variable {X:Cx}{pins:List (Addr×Obj)}{σ:L2.St}{H:Hp}{s:Shared}
theorem uh (hc:X.calm=true)(I:Inv X pins σ H s){p:Addr}{vs:List V}{its:List Value}{Q:VK}(rv:aJ vs its)(pl:s.heap.IsList p its.toArray)(hn:0<its.length)(lt:Nat->Nat->Bool)
  (hcmp:∀(i j:Nat) (u v:Value),its[i]? = some u->its[j]? = some v->∀(s':Shared) (Q E:Value->Shared->Prop),(∀ b o,s.heap.get? b=some o->s'.heap.get? b=some o)->Q (.bool (lt i j)) s'->wpAny (model X.prog X.w) X.A.in1 (richCompare .Lt u v) Q E s')
  (k:∀ v,vs[bY lt (its.length - 1) 1 0]? = some v->Q v H):wpAny (model X.prog X.w) X.A (call (.builtin "min") [.ref p]) (EP X pins σ Q) X.xe s:=by
 have hlt:p<s.heap.objs.size:=by
  obtain⟨o,ho,_⟩:=pl;exact Heap.lt_size ho
 have atN:∀ i,i<its.length->its[i]? = some (its.getD i .none):=fun i hi=>by
  simp[List.getD,List.getElem?_eq_getElem hi]
 refine qF (wpAny_pyIter_list pl ⟨s.heap.objs.size,[s.heap.objs.size,p],[s.heap.objs.size],its.toArray.size,_,_,fun i=>its.getD i .none,lt,rfl,Walks.list (A:=X.A.in1) (show X.A.in1.handled=none from I.ok.hd hc) s.heap.objs.size p (bo hlt) its.toArray,⟨⟨_,Heap.get?_push_size _ rfl,rfl,rfl⟩,pl.at fun o e=>Heap.get?_push_of_some _ e⟩,fun c hb=>?_,by rw[ae];exact hn,fun i v hP=>?_,fun i j s' Q' E' hi hj kp hQ=>?_,fun hp tk hk=>?_⟩)
 ·simp only[List.mem_cons,List.not_mem_nil,or_false] at hb;rw[Heap.size_push];rcases hb with rfl | rfl
  ·exact gr _
  ·exact fv hlt
 ·have hP:its.toArray[i]? = some v:=hP;rw[List.getElem?_toArray] at hP;simp[List.getD,hP]
 ·rw[ae] at hi hj;exact hcmp i j _ _ (atN i hi) (atN j hj) s' Q' E' (fun b o e=>kp b o (by
   intro z;rw[gi] at z;subst z;exact c8 _ (Heap.lt_size e)) (Heap.get?_push_of_some _ e)) hQ
 ·have J1:Inv X pins σ H { s with heap:=s.heap.push { cls:=.type "list_iterator",data:=.fields #[.ref p,.int 0 0] } }:=I.kept (t':=s.toks) fun b o e=>Heap.get?_push_of_some _ e
  obtain⟨f0,f1,f2,f3,f4,f5⟩:=I.fpOk (b:=s.heap.objs.size) (av _) (I.hok.fresh (av _));have J2:=J1.turned (t':=tk) (fun b o hb e=>hk b o (by simpa using hb) e) f0 f1 f3 f4 f5;rw[ae];have hb:bY lt (its.length - 1) 1 0<its.length:=eM _ _ _ (by omega) hn;have hvb:bY lt (its.length - 1) 1 0<vs.length:=by rw[rv.length];exact hb
  obtain⟨u,e1,e2⟩:=rv.get (List.getElem?_eq_getElem hvb);have:its.getD (bY lt (its.length - 1) 1 0) .none=u:=by
   have:=atN _ hb;rw[e1] at this;cases this;rfl
  show EP X pins σ Q (its.getD (bY lt (its.length - 1) 1 0) .none) _;rw[this];exact⟨_,H,J2,e2,k _ (List.getElem?_eq_getElem hvb)⟩
theorem oV {its:List Value}{ns:List Int}(hi:IntsAre its ns)(i j:Nat)(u v:Value)(hu:its[i]? = some u)(hv:its[j]? = some v)(s':Shared)(Q E:Value->Shared->Prop)(h:Q (.bool (decide (ns.getD i 0<ns.getD j 0))) s'):wpAny (model X.prog X.w) X.A.in1 (richCompare .Lt u v) Q E s':=by
 obtain⟨_,hat⟩:=qe hi;obtain⟨a,t,h1,rfl⟩:=hat i u hu;obtain⟨b,t',h2,rfl⟩:=hat j v hv;have e1:ns.getD i 0=a:=by simp[List.getD,h1]
 have e2:ns.getD j 0=b:=by simp[List.getD,h2]
 rw[e1,e2] at h;exact HT.jG _ _ _ _ _ _ _ _ _ _ h
theorem oI (hu:X.A.units+1<cLine){a b:Addr}{xs ys:List Value}{ns ms:List Int}(h1:IsTup s.heap a xs.toArray)(h2:IsTup s.heap b ys.toArray)(i1:IntsAre xs ns)(i2:IntsAre ys ms)(s':Shared)(Q E:Value->Shared->Prop)(kp:∀ b o,s.heap.get? b=some o->s'.heap.get? b=some o)(h:Q (.bool (HT.lexLt ns ms)) s') :
  wpAny (model X.prog X.w) X.A.in1 (richCompare .Lt (.ref a) (.ref b)) Q E s':=by
 obtain⟨o,ho,r⟩:=h1;obtain⟨o',ho',r'⟩:=h2;exact (HT.nQ (A:=X.A.in1) ⟨o,kp _ _ ho,r⟩ ⟨o',kp _ _ ho',r'⟩ (by simpa using i1) (by simpa using i2) hu h:wpAny (model X.prog X.w) X.A.in1 (compareOp .Lt (.ref a) (.ref b)) Q E s')
end
theorem qf:∀ a b:List Int,gP a b=HT.lexLt a b
 |[],[]=>rfl
 |[],_::_=>rfl
 |_::_,[]=>rfl
 | x::a,y::b=>by
  show (if x==y then gP a b else decide (x<y))=_;rw[HT.jt,qf a b];by_cases e:x=y
  ·rw[if_pos e,if_pos (by rw[e];exact eh y)]
  ·rw[if_neg e,if_neg (by rw[beq_iff_eq];exact e)]
section
variable {X:Cx}
theorem nR (hc:X.calm=true)(hu:X.A.units+40<cLine):eC X (.builtin "min") (m5 X.K .min2):=by
 intro pins s σ H xs us Q I r h;obtain⟨ds,d,G,rs,hd,k⟩:=h
 match ds,hd with
 |[.int i,.int j],hd =>
  cases hd;obtain⟨x,y,G1,G2,rfl,rp,rp'⟩:=rs.of2;obtain⟨rfl,rfl⟩:=rp.int_inv;obtain⟨rfl,rfl⟩:=rp'.int_inv;exact qu hc pins s σ H _ us Q I r ⟨i,j,rfl,k _ H [] (.int _) eY.nil⟩
 |[.lst ys],hd =>
  have hd:minD ys=some d:=hd;obtain⟨x,rfl,rp⟩:=rs.of1;obtain⟨l,vs,g,rfl,rfl,a1,a2⟩:=rp.lst_inv;obtain⟨u,rfl,rx⟩:=r.one;obtain rfl:u = .ref l:=rx;obtain⟨its,rv,pl,_⟩:=I.list (.inl a1);have hlen:its.length=ys.length:=by rw[<-rv.length,<-a2.len]
  unfold minD at hd;by_cases he:ys.isEmpty=true
  ·rw[if_pos he] at hd;cases hd
  rw[if_neg he] at hd;have hn:0<its.length:=by
   rw[hlen];cases ys with
   |nil=>exact absurd rfl he
   |cons _ _=>exact Nat.succ_pos _
  have fin:∀ lt:Nat->Nat->Bool,ys[bY lt (ys.length - 1) 1 0]? = some d->(d.flat=true\/g=[])->∀ v,vs[bY lt (its.length - 1) 1 0]? = some v->Q v H:=fun lt hy hf v hv=>by
   rw[hlen] at hv;obtain⟨v',G',e1,e2,e3⟩:=a2.get hy;rw[hv] at e1;cases e1;have:G'=[]:=by
    rcases hf with hf | rfl
    ·exact e2.flat hf
    ·exact List.sublist_nil.mp e3
   subst this;exact k _ H [] e2 eY.nil
  cases hk:fB ys with
  |some ns =>
   rw[hk] at hd;have hy:=eP hk;have ia:IntsAre its ns:=by
    rw[hy] at a2;exact iA a2 rv
   refine uh hc I rv pl.isList hn _ (fun i j u v hi hj s' Q' E' _ h=>oV ia i j u v hi hj s' Q' E' h) (fin _ hd (.inl ?_));rw[hy] at hd;obtain⟨n,_,rfl⟩:=List.mem_map.mp (List.mem_of_getElem? hd);rfl
  |none =>
   rw[hk] at hd;dsimp only at hd;rw[ab] at hd;obtain⟨ks,hks,hd⟩:=hd;obtain⟨kl,kt,kn,kg⟩:=kK I hks a2 rv;refine uh hc I rv pl.isList hn _ (fun i j u v hi hj s' Q' E' kp h=>?_) (fin _ hd (.inr kg));have at1:∀(i:Nat) (u:Value),its[i]? = some u->∃ a xs,u = .ref a/\IsTup s.heap a xs.toArray/\IntsAre xs (ks.getD i []):=fun i u hi=>by
    have hlt:i<ks.length:=by rw[kl];exact (List.getElem?_eq_some_iff.mp hi).1
    obtain⟨a,o,xs,n,e1,e2,e3,e4,e5⟩:=kt i _ (List.getElem?_eq_getElem hlt);have hgu:its.getD i .none=u:=by rw[List.getD_eq_getElem?_getD,hi];rfl
    rw[hgu] at e1;refine⟨a,xs.toList,e1,⟨o,e2,e3,n,by rw[e4]⟩,?_⟩;rw[List.getD_eq_getElem?_getD,List.getElem?_eq_getElem hlt];exact e5
   obtain⟨a,xs,rfl,t1,i1⟩:=at1 i u hi;obtain⟨b,zs,rfl,t2,i2⟩:=at1 j v hj;rw[qf] at h;exact oI (by omega) t1 t2 i1 i2 s' Q' E' kp h
end
section
variable {X:Cx}
end
section
variable {X:Cx}
theorem kG:∀{xs:List D}{k:List Str},nj xs=some k->xs=k.map D.str
 |[],k,h=>by cases h;rfl
 | .str i::r,k,h=>by
  have h:(nj r).map (i :: ·)=some k:=h;rw[aa] at h;obtain⟨k',h1,rfl⟩:=h;rw[kG h1];rfl
theorem jw {K:Frag}{H:Hp}:∀{ns:List Str}{vs:List V}{G:List Addr}{us:List Value},aG K H (ns.map D.str) vs G->aJ vs us->StrsAre us ns
 |[],_,_,_,.nil,.nil=>.nil
 | n::ns,_,_,_,.cons h r,.cons x y=>by
  obtain⟨rfl,_⟩:=h.str_inv;obtain⟨t,rfl⟩:=x;exact .cons _ _ (jw r y)
def rJoin (K:Frag):V->List V->Hp->VK->Prop:=fun x xs H Q=>∃(z:Str) (p:Addr) (ys:List Str) (G:List Addr),x = .str z/\xs=[.ref p]/\Rep K H (.lst (ys.map .str)) (.ref p) G/\(ys.map (·.length)).sum+ys.length*z.length<=lim/\Q (.str (Str.join z ys)) H
theorem vZ:AH X "str.join" (rJoin X.K):=by
 intro pins s σ H x xs v us Q I rx r h;obtain⟨z,p,ys,G,rfl,rfl,rp,hl,q⟩:=h;obtain⟨t,rfl⟩:=rx;obtain⟨u,rfl,ru⟩:=r.one;cases ru;obtain⟨p',vs,g,e,rfl,a1,a2⟩:=rp.lst_inv;cases e;obtain⟨its,rv,pl,_⟩:=I.list (.inl a1);refine join_list pl.isList (by simpa using jw a2 rv) (Nat.le_trans hl (by decide)) fun t' k=>⟨.str _,H,I.kept (t':=k) fun b o e=>e,?_,q⟩
 show RelV (.str _) (.str (Builtin.Str.glued z ys) t');rw[StrLaws.glued_eq_join];exact⟨t',rfl⟩
theorem qP {T:Tb}{co ce:Ex}{σ:L2.St}{H:Hp}{Q:VK}(h:tE X.K T (.mth .sjoin co (.cons ce .nil)) σ H Q):tBM X.K "str" (rJoin X.K) (tE X.K T co) (rP X.K T (.cons ce .nil)) σ H Q:=by
 obtain⟨P,env,F,re,p,hev,k⟩:=h;unfold ev at hev;obtain⟨q,h1,hev⟩:=Rs.bind_ok hev;obtain⟨l,h2,hev⟩:=Rs.bind_ok hev;obtain⟨d,h3,hev⟩:=Rs.bind_ok hev;have h3:=bV h3;cases hev;have inv:∃(z:Str) (ys:List Str),q.1 = .str z/\l.map (·.1)=[.lst (ys.map .str)]/\(ys.map (·.length)).sum+ys.length*z.length<=lim/\d = .str (Str.join z ys):=by
  generalize q.1=a at h3;generalize l.map (·.1)=bs at h3
  match a,bs,h3 with
  |.str z,[.lst xs],h3 =>
   have h3:((nj xs).bind fun ys=>if (ys.map (·.length)).sum+ys.length*z.length<=lim then some (D.str (Str.join z ys)) else none)=some d:=h3;rw[ab] at h3;obtain⟨ys,hy,h3⟩:=h3;by_cases hc:(ys.map (·.length)).sum+ys.length*z.length<=lim
   ·rw[if_pos hc] at h3;cases h3;exact⟨z,ys,rfl,by rw[kG hy],hc,rfl⟩
   ·rw[if_neg hc] at h3;cases h3
 obtain⟨z,ys,e1,e2,hc,rfl⟩:=inv;refine⟨P,env,F,re,q,h1,fun v H1 G s rp rt=>?_⟩;rw[e1] at rp;obtain⟨rfl,rfl⟩:=rp.str_inv;refine⟨rfl,P,env,F,re.same s,l,h2,fun ws H2 G' ar=>?_⟩;have rs:=ar.reps;rw[e2] at rs;obtain⟨x,rfl,rp2⟩:=rs.of1;obtain⟨p',vs,g,rfl,rfl,a1,a2⟩:=id rp2.lst_inv;exact⟨z,p',ys,_,rfl,rfl,rp2,hc,k _ H2 [] (s.trans ar.same) (.str _) bD.nil⟩
end
structure Sc where
 N:List Str
 sc:Scope
 fns:List Str
 pQ:List Str
 eT:List Str
noncomputable def idxOf:List Str->Str->Option Nat
 |[],_=>none
 |y::r,x=>if y=x then some 0 else (idxOf r x).map (· + 1)
theorem bN:∀{l:List Str}{x:Str}{i:Nat},idxOf l x=some i->l[i]? = some x
 | y::r,x,i,h=>by
  simp only[idxOf] at h;by_cases e:y=x
  ·rw[if_pos e] at h;cases h;rw[e];rfl
  ·rw[if_neg e,aa] at h;obtain⟨j,hj,rfl⟩:=h;simpa using bN hj
noncomputable def cM (sc:Scope)(x:Str):Option NameKind:=sc.names.lookup x
noncomputable def mG (sc:Scope)(x:Str):Bool:=match cM sc x with
 |some .local=>true
 |some .cell=>true
 |some .free=>true
 |_=>false
noncomputable def iQ (sc:Scope)(x:Str):Bool:=match cM sc x with
 |some .local=>true
 |some .cell=>true
 |_=>false
noncomputable def nL (sc:Scope)(x:Str):Bool:=match cM sc x with
 |some .globalImplicit=>true
 |_=>false
noncomputable def cI (x:Str):Bool:=!(x==("__debug__" : Str)) && !(x==("__classdict__" : Str)) && !(x==("__name__" : Str))
noncomputable def notStar:Expr->Bool
 |.Starred _ _=>false
 |_=>true
noncomputable def fC:Expr->Bool
 |.Set _ _ _=>false
 |_=>true
noncomputable def fX:Expr->Bool
 |.Slice _ _ _ _=>false
 |_=>true
noncomputable def eK:Expr->Bool
 |.ListComp _ _ _ _=>true
 |.SetComp _ _ _ _=>true
 |.DictComp _ _ _ _ _=>true
 |_=>false
noncomputable def cP (f:Expr->Option Ex):List Expr->Option kq
 |[]=>some .nil
 |e::es=>if notStar e then (f e).bind fun c=>(cP f es).map fun cs=>.cons c cs else none
noncomputable def A5 (f:Expr->Option Ex)(op:BoolOp):List Expr->Option Ex
 |[]=>none
 |[a]=>f a
 |a::r=>(f a).bind fun c=>(A5 f op r).map fun d=>match op with
  |.And=>.and c d
  |.Or=>.or c d
noncomputable def jP (S:Sc):List Expr->Option (List Nat)
 |[]=>some []
 |.Name x _::r=>if iQ S.sc x then (idxOf S.N x).bind fun i=>(jP S r).map fun is=>i::is else none
 |_::_=>none
noncomputable def qH (S:Sc):Expr->Option ka
 |.Name x _=>if iQ S.sc x then (idxOf S.N x).map .nm else none
 |.Tuple es _ _=>(jP S es).map .tp
 |_=>none
noncomputable def sj (f:Expr->Option Ex):Option Expr->Option j8
 |none=>some .none
 |some e=>(f e).map .some
noncomputable def rg (S:Sc)(x:Str):Bool:=nL S.sc x&&S.eT.contains x
noncomputable def isTup:Expr->Bool
 |.Tuple _ _ _=>true
 |_=>false
noncomputable def AA (S:Sc)(f:Expr->Option Ex)(tp:Bool):Expr->Option rQ
 | .Call (.Name x p) es [] pos=>if x = "range" then (if rg S "range" then (match cP f es with
   | some (.cons a .nil)=>some (.rng1 a)
   | some (.cons a (.cons b .nil))=>some (.rng2 a b)
   | some (.cons a (.cons b (.cons c .nil)))=>some (.rng3 a b c)
   |_=>none) else none) else if x = "enumerate" then (if rg S "enumerate" && tp then (match es with
   |[e]=>if notStar e then (f e).map .enum else none
   |_=>none) else none) else if x = "reversed" then none else if x = "zip" then none else (f (.Call (.Name x p) es [] pos)).map .seq
 |e=>if fC e then (f e).map .seq else none
noncomputable def aY (sc:Scope):List Str:=(sc.names.filter fun p=>(p.2 == .local || p.2 == .cell)&&p.1 != (".0" : Str)).map (·.1)
noncomputable def be (sc:Scope):List Str:=(sc.names.filter fun p=>p.2 == .free).map (·.1)
noncomputable def hW:List (Option Nat)->Option (List Nat)
 |[]=>some []
 |some i::r=>(hW r).map (i :: ·)
 |none::_=>none
noncomputable def iL (S:Sc)(sc:Scope):Bool :=
 sc.kind == .function&&sc.names.all (fun p=>p.2 != .cell || cM sc p.1==some .cell)&&sc.names.all (fun p=>p.2 != .local || cM sc p.1==some .local)&&sc.names.all (fun p=>p.2 != .free || (cM sc p.1==some .free&&(cM S.sc p.1==some .cell || cM S.sc p.1==some .free))) &&
 decide (aY sc++be sc).Nodup
noncomputable def rB (own:Nat):ka->Bool
 |.nm i=>decide (i<own)
 |.tp is=>is.all fun i=>decide (i<own)
noncomputable def Bv (x:Str):Option zt:=if x = "len" then some .len else if x = "all" then some .all else if x = "list" then some .list else if x = "min" then some .min2 else if x = "sum" then some .sum else none
noncomputable def y9 (t:Str):Option String:=if t = "int" then some "int" else if t = "bool" then some "bool" else if t = "str" then some "str" else if t = "list" then some "list" else if t = "tuple" then some "tuple" else none
noncomputable def AS (S:Sc)(f:Expr->Option Ex):List Expr->Option Ex
 |[a,.Name t _]=>if nL S.sc t&&S.eT.contains t&&cI t&&notStar a then (y9 t).bind fun u=>(f a).map fun ca=>.blt (.isi u) (.cons ca .nil) else none
 |_=>none
noncomputable def kU:List Expr->Bool
 | [.Call (.Name r _) [_] [] _]=>r==("reversed" : Str)
 |_=>false
noncomputable def B2 (S:Sc)(f:Expr->Option Ex):List Expr->Option Ex
 |_=>none
noncomputable def kH:List Expr->Bool
 | [.Call (.Name r _) _ [] _]=>r==("range" : Str)
 |_=>false
noncomputable def A9 (S:Sc)(f:Expr->Option Ex):List Expr->Option Ex
 |_=>none
noncomputable def pz (S:Sc)(f:Expr->Option Ex)(x:Str)(es:List Expr):Option Ex :=
 if cI x&&nL S.sc x then (match idxOf S.fns x with
  |some i=>(cP f es).map fun cs=>.call i cs
  |none=>if S.eT.contains x then (if x = "isinstance" then AS S f es else if x = "list"/\kU es=true then B2 S f es else if x = "list"/\kH es=true then A9 S f es else match es with
    |[]=>none
    |e::r=>(Bv x).bind fun b=>(cP f (e::r)).map fun cs=>.blt b cs) else none) else none
noncomputable def ua (S:Sc)(f:Expr->Option Ex)(x:Str)(a d:Expr)(k:Str):Option Ex :=
 none
noncomputable def sO:Expr->Bool
 |.Name _ _=>true
 |.Subscript _ _ _=>true
 |.Constant _ _ _=>true
 |_=>false
noncomputable def vQ (f:Expr->Option Ex)(o:Expr)(name:Str)(es:List Expr)(apos cpos:Pos):Option Ex:=match es with
 |[e]=>if apos.endLine==cpos.line&&sO o then if name = "join" then (f o).bind fun co=>(cP f [e]).bind fun cs=>(match cs with
  |.cons ce .nil=>some (.mth .sjoin co (.cons ce .nil))
  |_=>none)
  else none
  else none
 |_=>none
noncomputable def BO (f:Expr->Option Ex):List Expr->Option j8
 |[]=>some .none
 |[c]=>(f c).map .some
 |_=>none
noncomputable def nE (S:Sc)(f:Sc->Expr->Option Ex)(elt tg iter:Expr)(ifs:List Expr)(sc:Scope):Option Ex :=
 if iL S sc&&fC iter then
  (AA S (f S) (isTup tg) iter).bind fun it=>(hW ((be sc).map (idxOf S.N))).bind fun pick =>
   (qH { S with N:=aY sc++be sc,sc:=sc } tg).bind fun t=>if rB (aY sc).length t then
    (BO (f { S with N:=aY sc++be sc,sc:=sc }) ifs).bind fun c=>(f { S with N:=aY sc++be sc,sc:=sc } elt).map fun ce=>.comp (aY sc).length pick t it c ce
   else none
 else none
noncomputable def vg (S:Sc)(x:Str):Option Ex:=if cI x then (if mG S.sc x then (idxOf S.N x).map .var else if nL S.sc x then (idxOf S.pQ x).map .glb else none) else none
noncomputable def BC:Const->Option Ex
 |.int i=>some (.cst (.int i))
 |.bool b=>some (.cst (.bl b))
 |.none=>some (.cst .non)
 |.str s=>some (.cst (.str s))
 |_=>none
noncomputable def cUn (op:UnaryOp)(o:Option Ex):Option Ex:=match op with
 |.USub=>o.map .neg
 |.Not=>o.map .not
 |_=>none
noncomputable def rX (f:Expr->Option Ex)(a:Expr)(op:CmpOp)(b:Expr):Option Ex:=if behindInMarks op b then none else (f a).bind fun ca=>(f b).map fun cb=>.cmp op ca cb
noncomputable def uo (f:Expr->Option Ex)(a:Expr)(op op':CmpOp)(b c:Expr):Option Ex:=if lastMarks [op,op'] [b,c] then none else (f a).bind fun ca=>(f b).bind fun cb=>(f c).map fun cc=>.chn op op' ca cb cc
noncomputable def BU (f:Expr->Option Ex)(a:Expr):List CmpOp->List Expr->Option Ex
 |[],_=>none
 |[op],bs=>(match bs with
  |[]=>none
  |[b]=>rX f a op b
  |_::_::_=>none)
 |op::op'::ops,bs=>(match ops with
  |[]=>(match bs with
   |[]=>none
   |[_]=>none
   |b::c::r=>(match r with
    |[]=>uo f a op op' b c
    |_::_=>none))
  |_::_=>none)
noncomputable def xR (f:Expr->Option Ex)(a b:Expr):Option Ex:=match b with
 |.Slice lo hi st _=>(match st with
  |none=>(f a).bind fun ca=>(sj f lo).bind fun l=>(sj f hi).map fun h=>.sl ca l h
  |some _=>none)
 |b=>if fX b then (f a).bind fun ca=>(f b).map fun cb=>.ix ca cb else none
noncomputable def sA (S:Sc)(f:Expr->Option Ex)(x:Str)(es:List Expr):List Keyword->Option Ex
 |[]=>pz S f x es
 |[⟨k,d,_⟩]=>(match k with
  |none=>none
  |some k=>(match es with
   |[]=>none
   |[a]=>ua S f x a d k
   |_::_::_=>none))
 |_::_::_=>none
noncomputable def tK (S:Sc)(f:Expr->Option Ex)(g:Expr)(es:List Expr)(ks:List Keyword)(cpos:Pos):Option Ex:=match g with
 |.Name x _=>sA S f x es ks
 |.Attribute o name apos=>(match ks with
  |[]=>vQ f o name es apos cpos
  |_::_=>none)
 |_=>none
noncomputable def cLC (S:Sc)(f:Sc->Expr->Option Ex)(elt:Expr)(sc:Scope):List Comprehension->Option Ex
 |[]=>none
 |[⟨tg,iter,ifs,as⟩]=>if as=0 then nE S f elt tg iter ifs sc else none
 |_::_::_=>none
noncomputable def rR:Option Expr->Option Str
 | some (.Name x _)=>some x
 |_=>none
noncomputable def yY:Expr->Option Int
 | .Constant (.int v) _ _=>some v
 |_=>none
noncomputable def uS (S:Sc):List (Option Expr)->List Expr->Option (List (Nat×Int))
 |[],[]=>some []
 |k::ks,e::vs=>(rR k).bind fun x=>(yY e).bind fun v=>if cI x&&nL S.sc x then (idxOf S.pQ x).bind fun i=>(uS S ks vs).map fun l=>(i,v)::l else none
 |_,_=>none
noncomputable def Ag (S:Sc):List (Option Expr)->List Expr->Option Ex
 |[],[]=>none
 |k::ks,vs=>if (k::ks).length<=15 then (uS S (k::ks) vs).map .ddsp else none
 |_,_=>none
noncomputable def cE:Nat->Sc->Expr->Option Ex
 |0,_,_=>none
 |n+1,S,e=>match e with
  |.Name x _=>vg S x
  |.Constant c _ _=>BC c
  |.BinOp a op b _=>(cE n S a).bind fun ca=>(cE n S b).map fun cb=>.bin op ca cb
  |.UnaryOp op a _=>cUn op (cE n S a)
  |.BoolOp op es _=>A5 (cE n S) op es
  |.Compare a ops bs _=>BU (cE n S) a ops bs
  |.IfExp c a b _=>(cE n S c).bind fun cc=>(cE n S a).bind fun ca=>(cE n S b).map fun cb=>.ite cc ca cb
  |.List es _=>(cP (cE n S) es).map .lst
  |.Tuple es _ _=>(cP (cE n S) es).map .tup
  |.Subscript a b _=>xR (cE n S) a b
  |.Call g es ks pos=>tK S (cE n S) g es ks pos
  |.ListComp elt gens sc _=>cLC S (cE n) elt sc gens
  |.Dict ks vs _=>Ag S ks vs
  |_=>none
structure Ctx (X:Cx)(S:Sc)(T:Tb):Prop where
 N:X.N=S.N
 nd:S.N.Nodup
 vis:∀ x,mG S.sc x=true->Af X.env.scope x
 loc:∀ x,iQ S.sc x=true->Loc X.env.scope x/\(X.fn x=true\/X.env.scope.names.lookup x=some .local)
 gl:∀ x,nL S.sc x=true->Gl X x
 cel:∀ x,(cM S.sc x=some .cell\/cM S.sc x=some .free)->(X.env.kindOf x=some .cell\/X.env.kindOf x=some .free)
 units:X.A.units+40<cLine/\uV X.w X.K
 calm:X.calm=true
 fns:∀ i x,idxOf S.fns x=some i->∃ f fd ps k,mz X.prog X.w X.K X.mg X.base yC k f fd ps (yD X.K ps.length (T.cl i))/\gB k X.A/\X.mg x=some (.ref f)/\PySem.W.keepIn X.K (.ref f)=true/\Binds X.K fd ps []/\∀ ds r,T.cl i ds = .ok r->ds.length=ps.length
 pQ:∀ i x,idxOf S.pQ x=some i->∃ v u,X.mg x=some u/\RelV v u/\∀ H,Rep X.K H (T.gl i) v []
 eT:∀ x,S.eT.contains x=true->X.mg x=none
theorem bG {e:Expr}{es:List Expr}{env:Env}(h:notStar e=true):starEach (e::es) env=(false,eval e env)::starEach es env:=by
 cases e<;>first | rfl | (cases h)
theorem n4 {e:Expr}{env:Env}(h:fC e=true)(x:Value):foldedSetIterable e env x=pure x:=by
 cases e<;>first | rfl | (cases h)
theorem tF {e:Expr}(h:fX e=true):mn e:=by
 intro o i;cases e<;>first | rfl | (cases h)
theorem bH {f:Expr->Option Ex}{e:Expr}{es:List Expr}{cs:kq}(h:cP f (e::es)=some cs):notStar e=true/\∃ c d,f e=some c/\cP f es=some d/\cs = .cons c d:=by
 unfold cP at h;by_cases hs:notStar e=true
 ·rw[if_pos hs] at h;rw[ab] at h;obtain⟨c,h1,h2⟩:=h;rw[aa] at h2;obtain⟨d,h2,rfl⟩:=h2;exact⟨hs,c,d,h1,h2,rfl⟩
 ·rw[if_neg hs] at h;cases h
theorem cY {f:Expr->Option Ex}{env:Env}{pos:Pos}:∀{es:List Expr}{cs:kq},cP f es=some cs->(backTo pos (starEach es env)).any (·.1)=false
 |[],cs,_=>rfl
 | e::es,cs,h=>by
  obtain⟨hs,c,d,_,h2,_⟩:=bH h;rw[bG hs];show (false || (backTo pos (starEach es env)).any (·.1))=false;rw[cY h2];rfl
theorem cH {x:Str}(h:cI x=true):(x==("__debug__" : Str))=false/\(x==("__classdict__" : Str))=false/\x≠"__name__":=by
 unfold cI at h;rw[ak,ak] at h;obtain⟨⟨h1,h2⟩,h3⟩:=h;refine⟨by simpa using h1,by simpa using h2,fun e=>?_⟩;subst e;simp at h3
theorem zZ {X:Cx}{T:Tb}{c a b:Expr}{cc ca cb:Ex}{pos:Pos}(hc:PT X c (ku X.K T cc))(ha:PT X a (ku X.K T ca))(hb:PT X b (ku X.K T cb)):PT X (.IfExp c a b pos) (ku X.K T (.ite cc ca cb)):=by
 intro pins s σ H Q I h;obtain⟨P,env,F,re,p,bb,hev,ht,k⟩:=h;unfold ev at hev;obtain⟨q,h1,hev⟩:=Rs.bind_ok hev;obtain⟨kb,h2,hev⟩:=Rs.bind_ok hev;refine isTrue_IfExp (bM (hc pins s σ H (fun d H'=>d=kb/\aH H H') I ⟨P,env,F,re,q,kb,h1,bV h2,fun H' s=>⟨rfl,s⟩⟩) fun d s1 ⟨H1,I1,e,s⟩=>?_);subst e;cases d with
 |true=>exact ha pins s1 σ H1 Q I1 ⟨P,env,F,re.same s,p,bb,hev,ht,fun H' s'=>k H' (s.trans s')⟩
 |false=>exact hb pins s1 σ H1 Q I1 ⟨P,env,F,re.same s,p,bb,hev,ht,fun H' s'=>k H' (s.trans s')⟩
theorem tN {T:Tb}{a:Ex}{env:En}{p}(hev:dI T (.rng1 a) env = .ok p):p.2=[]/\∃ l,bB T (.cons a .nil) env = .ok l/\((∃ j,l.map (·.1)=[.int j]/\eL j=true/\p.1=aS 0 1 j.toNat)\/(∃ i j,l.map (·.1)=[.int i,.int j]/\eL i=true/\eL j=true/\p.1=aS i 1 (j - i).toNat) \/
   ∃ i j k,l.map (·.1)=[.int i,.int j,.int k]/\eL i=true/\eL j=true/\k≠0/\k.natAbs<1073741824/\p.1=aS i k (Builtin.Range.rangeSize i j k).toNat):=by
 unfold dI at hev;obtain⟨q,h1,hev⟩:=Rs.bind_ok hev;split at hev
 ·rename_i j hj;split at hev
  ·rename_i ho;cases hev;exact⟨rfl,[q],by unfold bB;rw[h1];unfold bB;rfl,.inl ⟨j,by simp[hj],ho,rfl⟩⟩
  ·cases hev
 ·cases hev
theorem uZ {T:Tb}{a b:Ex}{env:En}{p}(hev:dI T (.rng2 a b) env = .ok p):p.2=[]/\∃ l,bB T (.cons a (.cons b .nil)) env = .ok l/\((∃ j,l.map (·.1)=[.int j]/\eL j=true/\p.1=aS 0 1 j.toNat)\/(∃ i j,l.map (·.1)=[.int i,.int j]/\eL i=true/\eL j=true/\p.1=aS i 1 (j - i).toNat) \/
   ∃ i j k,l.map (·.1)=[.int i,.int j,.int k]/\eL i=true/\eL j=true/\k≠0/\k.natAbs<1073741824/\p.1=aS i k (Builtin.Range.rangeSize i j k).toNat):=by
 unfold dI at hev;obtain⟨q,h1,hev⟩:=Rs.bind_ok hev;obtain⟨r,h2,hev⟩:=Rs.bind_ok hev;split at hev
 ·rename_i i j hi hj;split at hev
  ·rename_i ho;cases hev;rw[ak] at ho;exact⟨rfl,[q,r],by unfold bB;rw[h1];unfold bB;rw[h2];unfold bB;rfl,.inr (.inl ⟨i,j,by simp[hi,hj],ho.1,ho.2,rfl⟩)⟩
  ·cases hev
 ·cases hev
theorem so {T:Tb}{a b c:Ex}{env:En}{p}(hev:dI T (.rng3 a b c) env = .ok p):p.2=[]/\∃ l,bB T (.cons a (.cons b (.cons c .nil))) env = .ok l/\((∃ j,l.map (·.1)=[.int j]/\eL j=true/\p.1=aS 0 1 j.toNat)\/(∃ i j,l.map (·.1)=[.int i,.int j]/\eL i=true/\eL j=true/\p.1=aS i 1 (j - i).toNat) \/
   ∃ i j k,l.map (·.1)=[.int i,.int j,.int k]/\eL i=true/\eL j=true/\k≠0/\k.natAbs<1073741824/\p.1=aS i k (Builtin.Range.rangeSize i j k).toNat):=by
 unfold dI at hev;obtain⟨q,h1,hev⟩:=Rs.bind_ok hev;obtain⟨r,h2,hev⟩:=Rs.bind_ok hev;obtain⟨t,h3,hev⟩:=Rs.bind_ok hev;split at hev
 ·rename_i i j k hi hj hk;split at hev
  ·rename_i ho;cases hev;simp only[Bool.and_eq_true,bne_iff_ne,decide_eq_true_eq] at ho;exact⟨rfl,[q,r,t],by unfold bB;rw[h1];unfold bB;rw[h2];unfold bB;rw[h3];unfold bB;rfl,.inr (.inr ⟨i,j,k,by simp[hi,hj,hk],ho.1.1.1,ho.1.1.2,ho.1.2,ho.2,rfl⟩)⟩
  ·cases hev
 ·cases hev
def SE (X:Cx)(T:Tb)(e:Expr)(c:Ex):Prop:=PE X e (tE X.K T c)/\PT X e (ku X.K T c)
section
variable {X:Cx}{S:Sc}{T:Tb}
theorem dB {f:Expr->Option Ex}(hf:∀ e c,f e=some c->SE X T e c):∀{es:List Expr}{cs:kq},cP f es=some cs->PA X es (rP X.K T cs)
 |[],cs,h=>by cases h;exact tZ
 | e::es,cs,h=>by
  obtain⟨hs,c,d,h1,h2,rfl⟩:=bH h;exact qj (hf e c h1).1 (dB hf h2) (bG hs)
theorem xX {f:Expr->Option Ex}{op:BoolOp}{pos:Pos}(hf:∀ e c,f e=some c->SE X T e c):∀{es:List Expr}{c:Ex},A5 f op es=some c->PE X (.BoolOp op es pos) (tE X.K T c)/\PW X (.BoolOp op es pos) (ku X.K T c)
 |[],c,h=>by cases h
 | [a],c,h=>by
  have h:f a=some c:=h;have ⟨h1,h2⟩:=hf a c h;refine⟨yR h1,?_⟩;cases op with
  |And=>exact vW h2
  |Or=>exact yU h2
 | a::b::r,c,h=>by
  unfold A5 at h;rw[ab] at h;obtain⟨ca,h1,h2⟩:=h;rw[aa] at h2;obtain⟨cb,h2,h3⟩:=h2;subst h3;have ⟨ia,ta⟩:=hf a ca h1;have ⟨ib,tb⟩:=xX (pos:=pos) hf h2;cases op with
  |And=>exact⟨zU ia ib,y3 ta tb⟩
  |Or=>exact⟨AU ia ib,By ta tb⟩
theorem mE (C:Ctx X S T):∀{es:List Expr}{is:List Nat},jP S es=some is->BJ X es (fH is)/\(assignEach es X.env).length=is.length/\(assignEach es X.env).findIdx? (·.1)=none:=by
 intro es
 induction es with
 |nil=>intro is h;cases h;exact⟨wI,rfl,rfl⟩
 |cons e es ih =>
  intro is h;cases e with
  |Name x p =>
   unfold jP at h;by_cases hl:iQ S.sc x=true
   ·rw[if_pos hl,ab] at h;obtain⟨i,h1,h2⟩:=h;rw[aa] at h2;obtain⟨js,h2,rfl⟩:=h2;obtain⟨a,b,c⟩:=ih h2;have hN:=C.nd;rw[<-C.N] at hN;have hi:=bN h1;rw[<-C.N] at hi;refine⟨rZ (pI hN hi (C.loc x hl).1 (C.loc x hl).2) a,?_,?_⟩
    ·show (assignEach es X.env).length+1=js.length+1;rw[b]
    ·show List.findIdx? (·.1) ((false,_)::assignEach es X.env)=none;rw[List.findIdx?_cons];simp[c]
   ·rw[if_neg hl] at h;cases h
  |_=>cases h
theorem rY (C:Ctx X S T){e:Expr}{t:ka}(h:qH S e=some t):PG X e (oO X.K t):=by
 cases e with
 |Name x p =>
  unfold qH at h;dsimp only at h;by_cases hl:iQ S.sc x=true
  ·rw[if_pos hl,aa] at h;obtain⟨i,h1,rfl⟩:=h;have hN:=C.nd;rw[<-C.N] at hN;have hi:=bN h1;rw[<-C.N] at hi;exact pI hN hi (C.loc x hl).1 (C.loc x hl).2
  ·rw[if_neg hl] at h;cases h
 |Tuple es a b =>
  unfold qH at h;rw[aa] at h;obtain⟨is,h1,rfl⟩:=h;obtain⟨a,b,c⟩:=mE C h1;exact ur C.calm a b c
 |_=>cases h
theorem xF (C:Ctx X S T){f:Expr->Option Ex}(hf:∀ e c,f e=some c->SE X T e c){tg e:Expr}{it:rQ}(h:AA S f (isTup tg) e=some it):PI X tg e (tI X.K T it):=by
 unfold AA at h;split at h
 ·rename_i x p es pos;by_cases hx:x = "range"
  ·subst hx;rw[if_pos rfl] at h;by_cases hg:rg S "range" = true
   ·rw[if_pos hg] at h;have hg2:nL S.sc "range" = true/\S.eT.contains "range" = true:=by
     unfold rg at hg
     rwa [ak] at hg
    cases hc:cP f es with
    |none=>rw[hc] at h;cases h
    |some cs =>
     rw[hc] at h;cases es with
     |nil=>cases hc;cases h
     |cons e0 rest =>
      obtain⟨hs,c0,d0,_,hd,rfl⟩:=bH hc;refine yW rfl (C.gl _ hg2.1) (C.eT _ hg2.2) (dB hf hc) (bG hs) (cY hd) ?_;intro env p hev;cases d0 with
      |nil =>
       cases h;exact tN hev
      |cons c1 d1 =>
       cases d1 with
       |nil =>
        cases h;exact uZ hev
       |cons c2 d2 =>
        cases d2 with
        |nil =>
         cases h;exact so hev
        |cons c3 d3=>cases h
   ·rw[if_neg hg] at h;cases h
  rw[if_neg hx] at h;by_cases hx:x = "enumerate"
  ·subst hx;rw[if_pos rfl] at h;by_cases hg:(rg S "enumerate" && isTup tg)=true
   ·rw[if_pos hg] at h;rw[ak] at hg;have hg2:nL S.sc "enumerate" = true/\S.eT.contains "enumerate" = true:=by
     have:=hg.1;unfold rg at this
     rwa [ak] at this
    cases tg with
    |Tuple elts x1 tp =>
     split at h
     ·rename_i e0;by_cases hs:notStar e0=true
      ·rw[if_pos hs,aa] at h;obtain⟨c,h1,rfl⟩:=h;exact xp (C.gl _ hg2.1) (C.eT _ hg2.2) (qj (hf _ _ h1).1 tZ (bG hs)) (bG hs)
      ·rw[if_neg hs] at h;cases h
     ·cases h
    |_=>cases hg.2
   ·rw[if_neg hg] at h;cases h
  rw[if_neg hx] at h;by_cases hx:x = "reversed"
  ·subst hx;rw[if_pos rfl] at h;cases h
  rw[if_neg hx] at h;by_cases hx:x = "zip"
  ·subst hx;rw[if_pos rfl] at h;cases h
  ·rw[if_neg hx,aa] at h;obtain⟨c,h1,rfl⟩:=h;exact vb (hf _ _ h1).1
 ·by_cases hn:fC e=true
  ·rw[if_pos hn,aa] at h;obtain⟨c,h1,rfl⟩:=h;exact vb (hf _ _ h1).1
  ·rw[if_neg hn] at h;cases h
end
theorem eX {env:Env}:∀{names:List (Str×NameKind)}{x:Str}{k:NameKind},names.lookup x=some k->k≠.free ->
  (names.map fun (n,k)=>if (k==NameKind.free&&env.scope.kind == .function&&env.kindOf n==some .cell) then (n,NameKind.cell) else (n,k)).lookup x=some k
 |[],_,_,h,_=>by simp at h
 | (n,k0)::r,x,k,h,hk=>by
  rw[aq];by_cases hc:(k0==NameKind.free&&env.scope.kind == .function&&env.kindOf n==some .cell)=true
  ·simp only[hc,if_true,List.lookup_cons] at h ⊢;cases hx:x==n with
   |true =>
    rw[hx] at h;cases h;rw[ak,ak] at hc;exact absurd (by simpa using hc.1.1) hk
   |false=>rw[hx] at h;exact eX h hk
  ·have hc:(k0==NameKind.free&&env.scope.kind == .function&&env.kindOf n==some .cell)=false:=by simpa using hc
   simp only[hc,Bool.false_eq_true,if_false,List.lookup_cons] at h ⊢;cases hx:x==n with
   |true=>rw[hx] at h;exact h
   |false=>rw[hx] at h;exact eX h hk
theorem iX:∀{l:List (Option Nat)}{p:List Nat},hW l=some p->l=p.map some
 |[],p,h=>by cases h;rfl
 | some i::r,p,h=>by
  simp only[hW,Option.map_eq_some_iff] at h;obtain⟨q,h1,rfl⟩:=h;rw[iX h1];rfl
 |none::r,p,h=>by cases h
theorem jS {S:Sc}{sc:Scope}(h:iL S sc=true):sc.kind = .function/\(∀ y∈sc.names,y.2 = .cell->sc.names.lookup y.1=some .cell)/\(∀ y∈sc.names,y.2 = .local->sc.names.lookup y.1=some .local) /\
  (∀ y∈sc.names,y.2 = .free->sc.names.lookup y.1=some .free/\(cM S.sc y.1=some .cell\/cM S.sc y.1=some .free))/\(aY sc++be sc).Nodup:=by
 unfold iL at h;simp only[Bool.and_eq_true,List.all_eq_true,Bool.or_eq_true,beq_iff_eq,bne_iff_ne,decide_eq_true_eq,cM] at h;obtain⟨⟨⟨⟨h1,h2⟩,h3⟩,h4⟩,h5⟩:=h;refine⟨h1,fun y hy e=>?_,fun y hy e=>?_,fun y hy e=>?_,h5⟩
 ·rcases h2 y hy with h | h
  ·exact absurd e h
  ·exact h
 ·rcases h3 y hy with h | h
  ·exact absurd e h
  ·exact h
 ·rcases h4 y hy with h | h
  ·exact absurd e h
  ·exact h
section
variable {X:Cx}{S:Sc}{T:Tb}{sc:Scope}{pick:List Nat}
theorem oS (C:Ctx X S T)(h:iL S sc=true)(hp:hW ((be sc).map (idxOf S.N))=some pick):cW X sc (aY sc++be sc) (cZ (aY sc).length pick):=by
 obtain⟨h1,h2,h3,h4,h5⟩:=jS h;have hp:=iX hp;have hlen:(be sc).length=pick.length:=by simpa using congrArg List.length hp
 refine⟨h1,h2,h3,by simp[cZ,hlen],fun x hx=>C.cel x (h4 _ (PySem.mem_of_lookup hx) rfl).2,fun x hx=>(h4 _ hx rfl).1,fun i j x hi hx=>?_⟩;unfold cZ at hi;by_cases hlt:i<(aY sc).length
 ·rw[List.getElem?_append_left (by simpa using hlt),List.getElem?_replicate] at hi;split at hi<;>cases hi
 ·have hle:=gu hlt;rw[List.getElem?_append_right (by simpa using hle),List.length_replicate,<-hp,List.getElem?_map] at hi;rw[List.getElem?_append_right hle] at hx;rw[hx] at hi;simp only[Option.map_some,Option.some.injEq] at hi;have hm:=List.mem_of_getElem? hx;unfold be at hm;rw[List.mem_map] at hm;obtain⟨p,hp1,rfl⟩:=hm;rw[List.mem_filter] at hp1;have hf:p.2 = .free:=by simpa using hp1.2
  refine⟨(h4 p hp1.1 hf).1,?_⟩;rw[C.N];exact bN hi
theorem qq (C:Ctx X S T)(h:iL S sc=true)(Ca:Addr)(s0:Shared)(H0:Hp)(ex:List Addr):Ctx (inner X sc (aY sc++be sc) Ca s0 H0 ex) { S with N:=aY sc++be sc,sc:=sc } T:=by
 obtain⟨h1,h2,h3,h4,h5⟩:=jS h;have keep:∀ x k,sc.names.lookup x=some k->k≠.free->(relabel sc X.env).names.lookup x=some k:=fun x k e hk=>eX e hk
 refine⟨rfl,h5,fun x hx=>?_,fun x hx=>?_,fun x hx=>?_,fun x hx=>?_,C.units,C.calm,C.fns,C.pQ,C.eT⟩
 ·unfold mG cM at hx;dsimp only at hx;split at hx
  ·rename_i e;exact .inl (keep _ _ e (by simp))
  ·rename_i e;exact .inr (.inl (keep _ _ e (by simp)))
  ·rename_i e;exact .inr (dR e)
  ·cases hx
 ·unfold iQ cM at hx;dsimp only at hx;split at hx
  ·rename_i e;exact⟨.inl (keep _ _ e (by simp)),.inr (keep _ _ e (by simp))⟩
  ·rename_i e;exact⟨.inr (keep _ _ e (by simp)),.inl (by show (sc.names.lookup x==some NameKind.cell)=true;rw[e];rfl)⟩
  ·cases hx
 ·unfold nL cM at hx;dsimp only at hx;split at hx
  ·rename_i e;exact keep _ _ e (by simp)
  ·cases hx
 ·unfold cM at hx;rcases hx with hx | hx
  ·exact .inl (keep _ _ hx (by simp))
  ·exact dR hx
end
theorem iN (n d:Nat)(o:Option Int):bE n d o=HT.bE n d o:=by cases o<;>rfl
theorem wd (n d:Nat)(hd:d<=n)(o:Option Int):bE n d o<=n\/∃ i,o=some i/\i<0/\(n:Int)<i+n:=by
 cases o with
 |none=>exact .inl hd
 |some i =>
  left;simp only[bE];split<;>omega
theorem mi {n d:Nat}(hd:d<=n)(o:Option Int):bE n d o<=n:=by
 rcases wd n d hd o with h | ⟨i,_,h1,h2⟩
 ·exact h
 ·omega
theorem zA (lo hi:Option Int)(n:Nat):Builtin.Str.strSliceIndices lo hi 1 n=(List.range (bE n n hi - bE n 0 lo)).map (bE n 0 lo + ·):=by
 unfold Builtin.Str.strSliceIndices;have h1:∀(o:Option Int) (d:Nat),d<=n->(match o with | none=>(d:Int) | some i=>if (1:Int) > 0 then max 0 (min (if i<0 then i+(n:Int) else i) n) else max (-1) (min (if i<0 then i+(n:Int) else i) (n - 1)))=((bE n d o:Nat):Int):=by
  intro o d hd;cases o with
  |none=>rfl
  |some i =>
   simp only[bE];rw[if_pos (by decide)];by_cases hi:i<0
   ·rw[if_pos hi,if_pos hi];omega
   ·rw[if_neg hi,if_neg hi];omega
 have e1:=h1 lo 0 (cy _);have e2:=h1 hi n (av _);dsimp only;rw[if_pos (by decide),if_pos (by decide)];refine Eq.trans ?_ (sliceRange_one (bE n 0 lo) (bE n n hi));have gen:∀ a b a' b':Int,a=a'->b=b'->sliceRange a b 1=sliceRange a' b' 1:=fun a b a' b' h h'=>by rw[h,h']
 exact gen _ _ _ _ e1 e2
theorem zV {X:Cx}:xE X (fun x lo hi H Q=>∃ z,x = .str z/\z.length<=lim/\Q (.str ⟨(cut z.cps.toList lo hi).toArray⟩) H):=by
 intro pins s σ H x v vl vu lo hi sl Q I rx hs pl pu h;obtain⟨z,rfl,hzl,q⟩:=h;obtain⟨t,rfl⟩:=rx;have part:∀{v:Value}{o:Option Int},IsPart v o->∃ l:Option (Int×Tok),partValue l=v/\l.map (·.1)=o:=fun h=>by
  cases h with
  |none=>exact⟨none,rfl,rfl⟩
  |int i t=>exact⟨some (i,t),rfl,rfl⟩
 obtain⟨l,rfl,rfl⟩:=part pl;obtain⟨u,rfl,rfl⟩:=part pu;refine⟨"str",_,PySem.F.slot_str_getitem.lookup,typeIs_str s z t,wpAny_getItem_str_slice (l:=l) (u:=u) (st:=none) hs rfl ?_⟩;have hp:slicePicked z l u none=(List.range (bE z.length z.length (u.map (·.1)) - bE z.length 0 (l.map (·.1)))).map (bE z.length 0 (l.map (·.1)) + ·):=zA _ _ _;have hc:(slicePicked z l u none).filterMap (z.cps[·]?)=cut z.cps.toList (l.map (·.1)) (u.map (·.1)):=by
  rw[hp,pick_run];rfl
 unfold sliceMade;split
 ·rename_i hw;have hl:(slicePicked z l u none).length=z.length:=by
   have:=(ak _ _ ▸ hw).2;simpa using this
  rw[hp,ag,f6] at hl;have hz:(⟨(cut z.cps.toList (l.map (·.1)) (u.map (·.1))).toArray⟩:Str)=z:=by
   have a1:=mi (n:=z.length) (cy _) (l.map (·.1));have a2:=mi (n:=z.length) (av _) (u.map (·.1));have:cut z.cps.toList (l.map (·.1)) (u.map (·.1))=z.cps.toList:=by
    have hlen:z.cps.toList.length=z.length:=rfl;unfold cut;rw[hlen];dsimp only;by_cases h0:z.length=0
    ·have:z.cps.toList=[]:=List.eq_nil_of_length_eq_zero (hlen.trans h0);rw[this];simp
    ·rw[show bE z.length 0 (l.map (·.1))=0 by omega,show bE z.length z.length (u.map (·.1))=z.length by omega,List.drop_zero,Nat.sub_zero];exact e9 (Nat.le_of_eq hlen)
   rw[this]
  rw[hz] at q;exact⟨.str z,H,I,⟨t,rfl⟩,q⟩
 ·rw[hc];refine⟨?_,.str _,H,I.tok _,⟨_,rfl⟩,q⟩;show (cut z.cps.toList (l.map (·.1)) (u.map (·.1))).toArray.size<=sizeLine;rw[ae];refine bh ?_ (eJ hzl);unfold cut;rw[cm,bz];exact bh (Nat.min_le_right _ _) (Nat.sub_le _ _)
section
variable {X:Cx}{T:Tb}{a:Expr}{ca:Ex}{lo hi:Option Expr}{cl ch:j8}{pos p2:Pos}
noncomputable def tO (K:Frag)(T:Tb)(c:j8):TO:=fun σ H Q=>∃ P env F,RE K P env σ H F/\∃ o,jb T c env = .ok o/\∀ H',aH H H'->Q o H'
theorem va {X:Cx}{e:Option Expr}{t t':TO}(h:PO X e t)(k:∀ σ H Q,t' σ H Q->t σ H Q):PO X e t':=fun pins s σ H Q I q=>h pins s σ H Q I (k σ H Q q)
theorem vP:PO X none (tO X.K T .none):=va wY fun σ H Q ⟨P,env,F,re,o,h,k⟩=>by
 unfold jb at h;cases h;exact k H (aH.refl _)
theorem xa (h:PE X a (tE X.K T ca)):PO X (some a) (tO X.K T (.some ca)):=va (vv h) fun σ H Q ⟨P,env,F,re,o,h,k⟩=>by
 unfold jb at h;obtain⟨p,h1,h2⟩:=Rs.bind_ok h;refine⟨P,env,F,re,p,h1,fun v H' G s rp rt=>?_⟩;split at h2
 ·rename_i i hi;cases h2;rw[hi] at rp;obtain⟨rfl,rfl⟩:=rp.int_inv;exact⟨i,rfl,k H' s⟩
 ·cases h2
theorem Co (ha:PE X a (tE X.K T ca))(hl:PO X lo (tO X.K T cl))(hh:PO X hi (tO X.K T ch)):PE X (.Subscript a (.Slice lo hi none p2) pos) (tE X.K T (.sl ca cl ch)):=by
 refine bA (sd (vy.or (zV.or y0)) ha hl hh) fun σ H Q ⟨P,env,F,re,p,hev,k⟩=>?_
 unfold ev at hev;obtain⟨q,h1,hev⟩:=Rs.bind_ok hev;obtain⟨ol,h2,hev⟩:=Rs.bind_ok hev;obtain⟨oh,h3,hev⟩:=Rs.bind_ok hev;obtain⟨d,h4,hev⟩:=Rs.bind_ok hev;have h4:=bV h4;cases hev;refine⟨P,env,F,re,q,h1,fun v H1 G s rp rt=>⟨P,env,F,re.same s,ol,h2,fun H2 s2=>⟨P,env,F,re.same (s.trans s2),oh,h3,fun H3 s3=>?_⟩⟩⟩;have s23:=s2.trans s3;cases hq:q.1 with
 |lst xs =>
  rw[hq] at rp h4;cases h4;obtain⟨pa,vs,G',rfl,rfl,hr,rs⟩:=Rep.lst_inv (rp.same s23);refine .inl ⟨pa,vs,rfl,.inl hr,fun pn hn=>?_⟩;obtain⟨G1,r1,u1⟩:=rs.drop (bE xs.length 0 ol);obtain⟨G2,r2,u2⟩:=r1.take (bE xs.length xs.length oh - bE xs.length 0 ol);have hc:kf vs ol oh=(vs.drop (bE xs.length 0 ol)).take (bE xs.length xs.length oh - bE xs.length 0 ol):=by
   unfold kf;rw[rs.len,iN,iN]
  rw[hc];have sub:∀ a∈G2,a∈pa::G':=fun a ha=>ah _ (u1.mem (u2.mem ha))
  obtain⟨rp',nv⟩:=iU (G0:=pa::G') r2 sub hn;have ar:Args X.K env F H H3 [q] [.ref pa] ((pa::G') ++ []):=.cons s (by rw[hq];exact rp) rt (.nil s23);rw[ay] at ar;exact k _ _ _ ((s.trans s23).trans nv.same) rp' (bD.new ar nv (by simp[aQ]))
 |str z =>
  rw[hq] at rp h4;obtain⟨rfl,rfl⟩:=rp.str_inv;have h4:(if z.length<=lim then some (D.str ⟨(cut z.cps.toList ol oh).toArray⟩) else none)=some d:=h4;by_cases hz:z.length<=lim
  ·rw[if_pos hz] at h4;cases h4;exact .inr (.inl ⟨z,rfl,hz,k _ H3 [] (s.trans s23) (.str _) bD.nil⟩)
  ·rw[if_neg hz] at h4;cases h4
 |tup xs =>
  rw[hq] at rp h4;have h4:(if bE xs.length 0 ol=0/\bE xs.length xs.length oh=xs.length then none else some (D.tup (cut xs ol oh)))=some d:=h4;by_cases hw:bE xs.length 0 ol=0/\bE xs.length xs.length oh=xs.length
  ·rw[if_pos hw] at h4;cases h4
  ·rw[if_neg hw] at h4;cases h4;obtain⟨pa,vs,rfl,hr,rs⟩:=Rep.tup_inv (rp.same s23);refine .inr (.inr ⟨pa,vs,rfl,hr,by rw[<-rs.len,<-iN,<-iN];exact hw,fun pn hn=>?_⟩);obtain⟨G1,r1,u1⟩:=rs.drop (bE xs.length 0 ol);obtain⟨G2,r2,u2⟩:=r1.take (bE xs.length xs.length oh - bE xs.length 0 ol);have hc:kf vs ol oh=(vs.drop (bE xs.length 0 ol)).take (bE xs.length xs.length oh - bE xs.length 0 ol):=by
    unfold kf;rw[rs.len,iN,iN]
   rw[hc];obtain⟨rp',nv⟩:=sY (G0:=G) r2 (fun a ha=>u1.mem (u2.mem ha)) hn;have ar:Args X.K env F H H3 [q] [.ref pa] (G ++ []):=.cons s (by rw[hq];exact rp) rt (.nil s23);rw[ay] at ar;exact k _ _ _ ((s.trans s23).trans nv.same) rp' (bD.new ar nv (by simp[aQ]))
 |_=>rw[hq] at h4;cases h4
end
section
variable {X:Cx}{S:Sc}{T:Tb}
theorem sU {f:Expr->Option Ex}(hf:∀ e c,f e=some c->SE X T e c){o:Option Expr}{c:j8}(h:sj f o=some c):PO X o (tO X.K T c):=by
 cases o with
 |none=>cases h;exact vP
 |some e =>
  have h:(f e).map j8.some=some c:=h;rw[aa] at h;obtain⟨d,h1,rfl⟩:=h;exact xa (hf e d h1).1
theorem xl {x id:String}{b:zt}{f:Expr->Option Ex}(hf:∀ e c,f e=some c->SE X T e c){e:Expr}{r:List Expr}{cs:kq}{p pos:Pos}(hr:eC X (.builtin id) (m5 X.K b))(hv:bootBuiltins x=some (.builtin id))(hg:Gl X x)(hm:X.mg x=none)(hn:cI x=true)(ha:cP f (e::r)=some cs) :
  PE X (.Call (.Name x p) (e::r) [] pos) (tE X.K T (.blt b cs)):=by
 obtain⟨hs,_,_,_,h2,_⟩:=bH ha;obtain⟨n1,n2,n3⟩:=cH hn;exact bA (nH hr hg hm hv (dB hf ha) n3 n1 (bG hs) (cY h2)) fun σ H Q h=>mT h
theorem bltT {x id:String}{b:zt}{f:Expr->Option Ex}(hf:∀ e c,f e=some c->SE X T e c){e:Expr}{r:List Expr}{cs:kq}{p pos:Pos}(hr:eC X (.type id) (m5 X.K b))(hv:bootBuiltins x=some (.type id))(hg:Gl X x)(hm:X.mg x=none)(hn:cI x=true)(ha:cP f (e::r)=some cs) :
  PE X (.Call (.Name x p) (e::r) [] pos) (tE X.K T (.blt b cs)):=by
 obtain⟨hs,_,_,_,h2,_⟩:=bH ha;obtain⟨n1,n2,n3⟩:=cH hn;exact bA (qv hr hg hm hv (dB hf ha) n3 n1 (bG hs) (cY h2)) fun σ H Q h=>mT h
theorem t4 {t:Str}{u:String}(h:y9 t=some u):u∈gK/\bootBuiltins t=some (.type u):=by
 unfold y9 at h;split at h
 ·rename_i e;cases h;subst e;exact⟨by decide,boot_int⟩
 split at h
 ·rename_i e;cases h;subst e;exact⟨by decide,boot_bool⟩
 split at h
 ·rename_i e;cases h;subst e;exact⟨by decide,boot_str⟩
 split at h
 ·rename_i e;cases h;subst e;exact⟨by decide,boot_list⟩
 split at h
 ·rename_i e;cases h;subst e;exact⟨by decide,boot_tuple⟩
 cases h
theorem vB (C:Ctx X S T){f:Expr->Option Ex}(hf:∀ e c,f e=some c->SE X T e c){x:Str}{es:List Expr}{c:Ex}{p pos:Pos}(h:pz S f x es=some c):PE X (.Call (.Name x p) es [] pos) (tE X.K T c):=by
 unfold pz at h;by_cases hk:(cI x&&nL S.sc x)=true
 ·rw[if_pos hk] at h;rw[ak] at hk;obtain⟨hn,hg⟩:=hk;have hg:=C.gl x hg;obtain⟨n1,n2,n3⟩:=cH hn;cases hi:idxOf S.fns x with
  |some i =>
   rw[hi] at h;dsimp only at h;rw[aa] at h;obtain⟨cs,h1,rfl⟩:=h;obtain⟨fa,fd,ps,k,FO,hr,hm,hkp,hb,hl⟩:=C.fns i x hi;cases es with
   |nil =>
    cases h1;refine bA (sD FO hr hg hm hkp hb .nil xU n1) fun σ H Q h=>?_
    have:=la hl h;obtain⟨P,env,F,re,l,hev,k⟩:=this;unfold bB at hev;cases hev;exact k [] H [] (.nil (aH.refl _))
   |cons e r =>
    obtain⟨hs,_,_,_,h2,_⟩:=bH h1;exact bA (vR FO hr hg hm hkp hb .nil xU (dB hf h1) n1 (bG hs) (cY h2)) fun σ H Q h=>la hl h
  |none =>
   rw[hi] at h;dsimp only at h;by_cases hb:S.eT.contains x=true
   ·rw[if_pos hb] at h;have hm:=C.eT x hb;by_cases hx:x = "isinstance"
    ·rw[if_pos hx] at h;subst hx;unfold AS at h;split at h
     ·rename_i a t pt;by_cases hc:(nL S.sc t&&S.eT.contains t&&cI t&&notStar a)=true
      ·rw[if_pos hc] at h;simp only[Bool.and_eq_true] at hc;obtain⟨⟨⟨c1,c2⟩,c3⟩,c4⟩:=hc;rw[ab] at h;obtain⟨u,h1,h2⟩:=h;rw[aa] at h2;obtain⟨ca,h2,rfl⟩:=h2;obtain⟨hu,hbt⟩:=t4 h1;obtain⟨m1,m2,m3⟩:=cH c3;refine bA (nH rq hg hm boot_isinstance (lQ (hf a ca h2).1 (lQ (wH (v:=.ty u) (C.gl t c1) (C.eT t c2) hbt rfl m3 m1) uJ rfl) (bG c4)) n3 n1 (bG c4) rfl) fun σ H Q h=>u0 hu h
      ·rw[if_neg hc] at h;cases h
     ·cases h
    ·rw[if_neg hx] at h;by_cases hlr:x = "list"/\kU es=true
     ·rw[if_pos hlr] at h;obtain⟨rfl,_⟩:=hlr;cases h
     rw[if_neg hlr] at h;by_cases hlg:x = "list"/\kH es=true
     ·rw[if_pos hlg] at h;obtain⟨rfl,_⟩:=hlg;cases h
     rw[if_neg hlg] at h;cases es with
     |nil=>cases h
     |cons e r =>
      dsimp only at h;rw[ab] at h;obtain⟨b,h1,h2⟩:=h;rw[aa] at h2;obtain⟨cs,h2,rfl⟩:=h2;unfold Bv at h1;split at h1
      ·rename_i e;cases h1;subst e;exact xl hf qX boot_len hg hm hn h2
      split at h1
      ·rename_i e;cases h1;subst e;exact xl hf (qM C.calm) boot_all hg hm hn h2
      split at h1
      ·rename_i e;cases h1;subst e;exact bltT hf (og C.calm) boot_list hg hm hn h2
      split at h1
      ·rename_i e;cases h1;subst e;exact xl hf (nR C.calm C.units.1) boot_min hg hm hn h2
      split at h1
      ·rename_i e;cases h1;subst e;exact xl hf (qL C.calm) boot_sum hg hm hn h2
      cases h1
   ·rw[if_neg hb] at h;cases h
 ·rw[if_neg hk] at h;cases h
theorem yn {f:Expr->Option Ex}(hf:∀ e c,f e=some c->SE X T e c){o:Expr}{name:Str}{es:List Expr}{c:Ex}{apos cpos:Pos}(h:vQ f o name es apos cpos=some c):PE X (.Call (.Attribute o name apos) es [] cpos) (tE X.K T c):=by
 unfold vQ at h;split at h
 ·rename_i e;by_cases hk:(apos.endLine==cpos.line&&sO o)=true
  ·rw[if_pos hk] at h;rw[ak] at hk;have hb:attributeBase o name X.env (eval o X.env)=eval o X.env:=by
    obtain⟨_,hk⟩:=hk;cases o<;>first | rfl | (cases hk)
   by_cases hjn:name = "join"
   ·rw[if_pos hjn,ab] at h;subst hjn;obtain⟨co,ho,h⟩:=h;rw[ab] at h;obtain⟨cs,hc,h⟩:=h;obtain⟨ns,ce,d,he,hd,rfl⟩:=bH hc;cases hd;cases h;refine bA (sF PySem.F.plainAttrs_str PySem.F.slot_str_join PySem.F.type_str_join vZ (hf o co ho).1 (dB hf hc) hb ?_ hk.1 (bG ns) rfl) fun σ H Q h=>qP h
    rw[bG ns];rfl
   rw[if_neg hjn] at h;cases h
  ·rw[if_neg hk] at h;cases h
 ·cases h
theorem oW {own:Nat}{pick:List Nat}{t:ka}(h:rB own t=true)(i:Nat)(hi:t = .nm i\/∃ is,t = .tp is/\i∈is):(cZ own pick)[i]? = some none:=by
 have:i<own:=by
  rcases hi with rfl | ⟨is,rfl,hm⟩
  ·simpa[rB] using h
  ·simp only[rB,List.all_eq_true,decide_eq_true_eq] at h;exact h i hm
 unfold cZ;rw[List.getElem?_append_left (by simpa using this),List.getElem?_replicate,if_pos this]
structure lB (X:Cx)(S:Sc)(T:Tb)(elt tg iter:Expr)(ifs:List Expr)(sc:Scope)(c:Ex):Prop where
 ex:∃ pick t it ci ce,c = .comp (aY sc).length pick t it ci ce/\cW X sc (aY sc++be sc) (cZ (aY sc).length pick)/\PI X tg iter (tI X.K T it) /\
  (∀ C s0 H0 ex,PG (inner X sc (aY sc++be sc) C s0 H0 ex) tg (oO X.K t)/\Az (inner X sc (aY sc++be sc) C s0 H0 ex) ifs (Au X.K T ci)/\PE (inner X sc (aY sc++be sc) C s0 H0 ex) elt (tE X.K T ce)) /\
  rB (aY sc).length t=true/\fC iter=true
theorem jW (C:Ctx X S T){f:Sc->Expr->Option Ex}(hf:∀{X:Cx}{S:Sc},Ctx X S T->∀ e c,f S e=some c->SE X T e c){elt tg iter:Expr}{ifs:List Expr}{sc:Scope}{c:Ex}(h:nE S f elt tg iter ifs sc=some c):lB X S T elt tg iter ifs sc c:=by
 unfold nE at h;by_cases hk:(iL S sc&&fC iter)=true
 ·rw[if_pos hk] at h;rw[ak] at hk;rw[ab] at h;obtain⟨it,h1,h⟩:=h;rw[ab] at h;obtain⟨pick,h2,h⟩:=h;rw[ab] at h;obtain⟨t,h3,h⟩:=h;by_cases ho:rB (aY sc).length t=true
  ·rw[if_pos ho] at h;rw[ab] at h;obtain⟨ci,h4,h⟩:=h;rw[aa] at h;obtain⟨ce,h5,rfl⟩:=h;refine⟨pick,t,it,ci,ce,rfl,oS C hk.1 h2,xF C (hf C) h1,fun Ca s0 H0 ex=>?_,ho,hk.2⟩;have C':=qq C hk.1 Ca s0 H0 ex;refine⟨rY C' h3,?_,(hf C' elt ce h5).1⟩;unfold BO at h4;split at h4
   ·cases h4;exact xq
   ·rw[aa] at h4;obtain⟨cc,h4,rfl⟩:=h4;exact v8 (hf C' _ cc h4).2
   ·cases h4
  ·rw[if_neg ho] at h;cases h
 ·rw[if_neg hk] at h;cases h
theorem xr (C:Ctx X S T){elt tg iter:Expr}{ifs:List Expr}{sc:Scope}{c:Ex}{pos:Pos}(h:lB X S T elt tg iter ifs sc c):PE X (.ListComp elt [⟨tg,iter,ifs,0⟩] sc pos) (tE X.K T c):=by
 obtain⟨pick,t,it,ci,ce,rfl,h1,h2,h3,h4,h5⟩:=h;exact bA (vo h1 C.calm h2 h3 (kW (oW h4)) (n4 h5)) fun σ H Q h=>kY h
theorem xh (C:Ctx X S T){f:Expr->Option Ex}(hf:∀ e c,f e=some c->SE X T e c){x kn:Str}{a d:Expr}{c:Ex}{p kp pos:Pos}(h:ua S f x a d kn=some c):PE X (.Call (.Name x p) [a] [⟨some kn,d,kp⟩] pos) (tE X.K T c):=by
 cases h
theorem ra {k:Option Expr}{x:Str}(h:rR k=some x):∃ p,k=some (.Name x p):=by
 cases k with
 |none=>cases h
 |some e=>cases e<;>first | (cases h;exact⟨_,rfl⟩) | (cases h)
theorem uy {e:Expr}{v:Int}(h:yY e=some v):∃ a b,e = .Constant (.int v) a b:=by
 cases e with
 |Constant c a b=>cases c<;>first | (cases h;exact⟨_,_,rfl⟩) | (cases h)
 |_=>cases h
theorem pN (C:Ctx X S T){pos:Pos}:∀{ks:List (Option Expr)}{vs:List Expr}{l:List (Nat×Int)},uS S ks vs=some l->∃ us:List (V×Int),AN X pos ks vs (us.map fun q=>(tC q.1,tC (.int q.2)))/\Paired (fun (q:Nat×Int) (u:V×Int)=>q.2=u.2/\∀ H,Rep X.K H (T.gl q.1) u.1 []) l us/\ks.all (·.isSome)=true/\ks.length=vs.length/\ks.length=l.length
 |[],[],l,h=>by cases h;exact⟨[],vE,.nil,rfl,rfl,rfl⟩
 | k::ks,e::vs,l,h=>by
  have hA:((rR k).bind fun x=>(yY e).bind fun v=>if cI x&&nL S.sc x then (idxOf S.pQ x).bind fun i=>(uS S ks vs).map fun l=>(i,v)::l else none)=some l:=h;clear h;obtain⟨x,hx,hB⟩:=ab.mp hA;clear hA;obtain⟨v,hv,hD⟩:=ab.mp hB;clear hB;obtain⟨p,e1⟩:=ra hx;obtain⟨a,b,e2⟩:=uy hv;rw[e1,e2];by_cases hc:(cI x&&nL S.sc x)=true
  ·rw[if_pos hc] at hD;rw[ak] at hc;obtain⟨i,h1,hE⟩:=ab.mp hD;obtain⟨l',h2,rfl⟩:=aa.mp hE;obtain⟨us,g1,g2,g3,g4,g5⟩:=pN C (pos:=pos) h2;obtain⟨u,w,e1,e2,e3⟩:=C.pQ i x h1;obtain⟨n1,n2,n3⟩:=cH hc.1;exact⟨(u,v)::us,ug (pY (C.gl x hc.2) e1 e2 n1) oE g1,.cons ⟨rfl,e3⟩ g2,by rw[c9,g3];rfl,by rw[aj,aj,g4],by rw[aj,aj,g5]⟩
  ·rw[if_neg hc] at hD;cases hD
 |[],_::_,l,h=>by cases h
 |_::_,[],l,h=>by cases h
theorem m8 {Q:List (V×V)->Hp->Prop}{σ:L2.St}{H:Hp}:∀{us:List (V×Int)},Q (us.map fun q=>(q.1,.int q.2)) H->jK (us.map fun q=>(tC q.1,tC (.int q.2))) σ H Q
 |[],h=>h
 | (u,i)::us,h=>by
  show jK (us.map fun q=>(tC q.1,tC (.int q.2))) σ H (fun ps H3=>Q ((u,.int i)::ps) H3);exact m8 (us:=us) (Q:=fun ps H3=>Q ((u,.int i)::ps) H3) h
theorem xb {K:Frag}{gl:Nat->D}{l:List (Nat×Int)}{us:List (V×Int)}(r:Paired (fun (q:Nat×Int) (u:V×Int)=>q.2=u.2/\∀ H,Rep K H (gl q.1) u.1 []) l us) :
  ∀{ks ks':List (Int×MV)}{xs:List (Key×V)},lK gl l ks=some ks'->(∀ H,gN K H ks xs)->∃ kvs:List (Key×V),(us.map fun q=>(q.1,(.int q.2:V)))=kvs.map (fun kv=>(kV kv.1,kv.2))/\kvs.length=l.length/\∀ H,gN K H ks' (fE xs kvs):=by
 induction r with
 |nil=>intro ks ks' xs h k;cases h;exact⟨[],rfl,rfl,k⟩
 |@cons q u l us h0 t ih =>
  intro ks ks' xs h k;unfold lK at h;split at h
  ·rename_i i hi;have r1:=h0.2 fun _=>none
   rw[hi] at r1;obtain⟨e,_⟩:=r1.int_inv;obtain⟨kvs,e1,e2,e3⟩:=ih (xs:=putK xs (.inl i) (.int q.2)) h (fun H=>(k H).put i (m:=.int q.2) rfl);refine⟨(.inl i,.int q.2)::kvs,?_,by rw[aj,aj,e2],e3⟩;rw[aq,aq,e1,<-h0.1,e];rfl
  ·cases h
theorem yk (C:Ctx X S T){pos:Pos}{ks:List (Option Expr)}{vs:List Expr}{l:List (Nat×Int)}(h:uS S ks vs=some l)(h0:ks≠[])(h15:ks.length<=15):PE X (.Dict ks vs pos) (tE X.K T (.ddsp l)):=by
 obtain⟨us,g1,g2,g3,g4,g5⟩:=pN C (pos:=pos) h;refine bA (wm g1 g3 g4 h0 h15) fun σ H Q ⟨P,env,F,re,p,hev,k⟩=>?_
 unfold ev at hev;obtain⟨ks',h1,hev⟩:=Rs.bind_ok hev;cases hev;intro a ha;obtain⟨kvs,e1,e2,e3⟩:=xb g2 (bV h1) (xs:=[]) fun _=>trivial
 refine m8 ⟨aO,kvs,e1,by omega,?_⟩;have eu:upd (upd H a (.dK [])) a (.dK (fE [] kvs))=upd H a (.dK (fE [] kvs)):=by
  funext b;by_cases e:b=a
  ·rw[e,aO,aO]
  ·rw[aI e,aI e,aI e]
 rw[eu];refine k _ _ [a] (aH.new ha) (.mpi (xs:=fE [] kvs) aO (e3 _)) ⟨fun b hb=>?_,fun R hR=>⟨by simp,fun b hb=>?_,fun b hb=>?_⟩⟩
 ·obtain rfl:=gi.mp hb;exact .inl ha
 ·obtain rfl:=gi.mp hb;exact⟨.k _,aO⟩
 ·obtain rfl:=gi.mp hb;exact .inl ha
theorem dN:∀(n:Nat) {X:Cx}{S:Sc}{T:Tb}(C:Ctx X S T) (e:Expr) (c:Ex),cE n S e=some c->SE X T e c:=by
 intro n
 induction n with
 |zero=>intro X S T C e c h;cases h
 |succ n ih =>
  intro X S T C e c h;have ihX:=ih C;cases e with
  |Name x p =>
   have h:vg S x=some c:=h;unfold vg at h;by_cases hn:cI x=true
   ·rw[if_pos hn] at h;obtain⟨n1,n2,n3⟩:=cH hn;by_cases hv:mG S.sc x=true
    ·rw[if_pos hv,aa] at h;obtain⟨i,h1,rfl⟩:=h;have hi:=bN h1;rw[<-C.N] at hi;have:=yB (T:=T) (pos:=p) hi (C.vis x hv) n1 n2;exact⟨this,bW this fun _=>rfl⟩
    ·rw[if_neg hv] at h;by_cases hg:nL S.sc x=true
     ·rw[if_pos hg,aa] at h;obtain⟨i,h1,rfl⟩:=h;obtain⟨v,u,g1,g2,g3⟩:=C.pQ i x h1;have:=zM (pY (pos:=p) (C.gl x hg) g1 g2 n1) g3;exact⟨this,bW this fun _=>rfl⟩
     ·rw[if_neg hg] at h;cases h
   ·rw[if_neg hn] at h;cases h
  |Constant k x1 p =>
   have h:BC k=some c:=h;cases k with
   |int i=>cases h;exact⟨fS (T:=T) oE fun H=>Rep.int _,bW (fS (T:=T) oE fun H=>Rep.int _) fun _=>rfl⟩
   |bool b=>cases h;exact⟨fS (T:=T) x9 fun H=>Rep.bl _,bW (fS (T:=T) x9 fun H=>Rep.bl _) fun _=>rfl⟩
   |none=>cases h;exact⟨fS (T:=T) r8 fun H=>Rep.non,bW (fS (T:=T) r8 fun H=>Rep.non) fun _=>rfl⟩
   |str s=>cases h;exact⟨fS (T:=T) tD fun H=>Rep.str _,bW (fS (T:=T) tD fun H=>Rep.str _) fun _=>rfl⟩
   |_=>cases h
  |BinOp a op b p =>
   have h:((cE n S a).bind fun ca=>(cE n S b).map fun cb=>.bin op ca cb)=some c:=h;rw[ab] at h;obtain⟨ca,h1,h⟩:=h;rw[aa] at h;obtain⟨cb,h2,rfl⟩:=h;have:=zJ (pos:=p) (xt op) (ihX a ca h1).1 (ihX b cb h2).1;exact⟨this,bW this fun _=>rfl⟩
  |UnaryOp op a p =>
   have h:cUn op (cE n S a)=some c:=h;cases op with
   |USub =>
    have h:(cE n S a).map .neg=some c:=h;rw[aa] at h;obtain⟨ca,h1,rfl⟩:=h;have:=Ak (pos:=p) (ihX a ca h1).1;exact⟨this,bW this fun _=>rfl⟩
   |Not =>
    have h:(cE n S a).map .not=some c:=h;rw[aa] at h;obtain⟨ca,h1,rfl⟩:=h;exact⟨yL (ihX a ca h1).1,Ah (ihX a ca h1).2⟩
   |_=>cases h
  |BoolOp op es p =>
   have h:A5 (cE n S) op es=some c:=h;have ⟨h1,h2⟩:=xX (pos:=p) ihX h;exact⟨h1,h2.pt⟩
  |Compare a ops bs p =>
   have h:BU (cE n S) a ops bs=some c:=h;cases ops with
   |nil=>cases h
   |cons op r=>cases r with
    |nil=>cases bs with
     |nil=>cases h
     |cons b r2=>cases r2 with
      |cons _ _=>cases h
      |nil =>
       have h:rX (cE n S) a op b=some c:=h;unfold rX at h;by_cases hb:behindInMarks op b=true
       ·rw[if_pos hb] at h;cases h
       ·rw[if_neg hb] at h;have hb:behindInMarks op b=false:=by simpa using hb
        rw[ab] at h;obtain⟨ca,h1,h⟩:=h;rw[aa] at h;obtain⟨cb,h2,rfl⟩:=h;exact⟨yN (gJ op C.units) (ihX a ca h1).1 (ihX b cb h2).1 hb,yz C.units (ihX a ca h1).1 (ihX b cb h2).1 hb⟩
    |cons op' r2=>cases r2 with
     |cons _ _=>cases bs<;>cases h
     |nil=>cases bs with
      |nil=>cases h
      |cons b r3=>cases r3 with
       |nil=>cases h
       |cons d r4=>cases r4 with
        |cons _ _=>cases h
        |nil =>
         have h:uo (cE n S) a op op' b d=some c:=h;unfold uo at h;by_cases hb:lastMarks [op,op'] [b,d]=true
         ·rw[if_pos hb] at h;cases h
         ·rw[if_neg hb] at h;have hb:lastMarks [op,op'] [b,d]=false:=by simpa using hb
          rw[ab] at h;obtain⟨ca,h1,h⟩:=h;rw[ab] at h;obtain⟨cb,h2,h⟩:=h;rw[aa] at h;obtain⟨cc,h3,rfl⟩:=h;exact Ar C.units (ihX a ca h1).1 (ihX b cb h2).1 (ihX d cc h3).1 hb
  |IfExp t a b p =>
   have h:((cE n S t).bind fun cc=>(cE n S a).bind fun ca=>(cE n S b).map fun cb=>.ite cc ca cb)=some c:=h;rw[ab] at h;obtain⟨cc,h1,h⟩:=h;rw[ab] at h;obtain⟨ca,h2,h⟩:=h;rw[aa] at h;obtain⟨cb,h3,rfl⟩:=h;exact⟨zf (ihX t cc h1).2 (ihX a ca h2).1 (ihX b cb h3).1,zZ (ihX t cc h1).2 (ihX a ca h2).2 (ihX b cb h3).2⟩
  |List es p =>
   have h:(cP (cE n S) es).map .lst=some c:=h;rw[aa] at h;obtain⟨cs,h1,rfl⟩:=h;have:=As (pos:=p) (dB ihX h1);exact⟨this,bW this fun _=>rfl⟩
  |Dict ks vs p =>
   have h:Ag S ks vs=some c:=h;unfold Ag at h;split at h
   ·cases h
   ·split at h
    ·rename_i hl;obtain⟨l,h1,rfl⟩:=aa.mp h;have:=yk (pos:=p) C h1 (by simp) hl;exact⟨this,bW this fun _=>rfl⟩
    ·cases h
   ·cases h
  |Tuple es x1 p =>
   have h:(cP (cE n S) es).map .tup=some c:=h;rw[aa] at h;obtain⟨cs,h1,rfl⟩:=h;have:=zD (pos:=p) (x1:=x1) (dB ihX h1);exact⟨this,bW this fun _=>rfl⟩
  |Subscript a b p =>
   have h:xR (cE n S) a b=some c:=h;by_cases hb:fX b=true
   ·have h:(if fX b then (cE n S a).bind fun ca=>(cE n S b).map fun cb=>.ix ca cb else none)=some c:=by
     cases b<;>first | exact h | cases hb
    rw[if_pos hb] at h;rw[ab] at h;obtain⟨ca,h1,h⟩:=h;rw[aa] at h;obtain⟨cb,h2,rfl⟩:=h;have:=B3 (pos:=p) (wD C.units.2) (ihX a ca h1).1 (ihX b cb h2).1 (tF hb);exact⟨this,bW this fun _=>rfl⟩
   ·cases b with
    |Slice lo hi st p2 =>
     cases st with
     |none =>
      have h:((cE n S a).bind fun ca=>(sj (cE n S) lo).bind fun l=>(sj (cE n S) hi).map fun h=>.sl ca l h)=some c:=h;rw[ab] at h;obtain⟨ca,h1,h⟩:=h;rw[ab] at h;obtain⟨cl,h2,h⟩:=h;rw[aa] at h;obtain⟨ch,h3,rfl⟩:=h;have:=Co (pos:=p) (p2:=p2) (ihX a ca h1).1 (sU ihX h2) (sU ihX h3);exact⟨this,bW this fun _=>rfl⟩
     |some _=>cases h
    |_=>exact absurd rfl hb
  |Call g es ks pos =>
   have h:tK S (cE n S) g es ks pos=some c:=h;cases g with
   |Name x p =>
    have h:sA S (cE n S) x es ks=some c:=h;cases ks with
    |nil =>
     have h:pz S (cE n S) x es=some c:=h;have:=vB (p:=p) (pos:=pos) C ihX h;exact⟨this,bW this fun _=>rfl⟩
    |cons k r=>cases r with
     |cons _ _=>obtain⟨_,_,_⟩:=k;cases h
     |nil =>
      obtain⟨k,d,kp⟩:=k;cases k with
      |none=>cases h
      |some kn=>cases es with
       |nil=>cases h
       |cons a r2=>cases r2 with
        |cons _ _=>cases h
        |nil =>
         have h:ua S (cE n S) x a d kn=some c:=h;have:=xh (p:=p) (kp:=kp) (pos:=pos) C ihX h;exact⟨this,bW this fun _=>rfl⟩
   |Attribute o name apos =>
    cases ks with
    |nil =>
     have h:vQ (cE n S) o name es apos pos=some c:=h;have:=yn (apos:=apos) (cpos:=pos) ihX h;exact⟨this,bW this fun _=>rfl⟩
    |cons _ _=>cases h
   |_=>cases h
  |ListComp elt gens sc pos =>
   have h:cLC S (cE n) elt sc gens=some c:=h;cases gens with
   |nil=>cases h
   |cons g r=>cases r with
    |cons _ _=>obtain⟨_,_,_,_⟩:=g;cases h
    |nil =>
     obtain⟨tg,iter,ifs,as⟩:=g;have h:(if as=0 then nE S (cE n) elt tg iter ifs sc else none)=some c:=h;by_cases ha:as=0
     ·rw[if_pos ha] at h;subst ha;have:=xr (pos:=pos) C (jW C (fun C'=>ih C') h);exact⟨this,bW this fun _=>rfl⟩
     ·rw[if_neg ha] at h;cases h
  |_=>cases h
end
section
variable {X:Cx}{T:Tb}
end
structure qK (X:Cx)(S:Sc)(T:Tb):Prop where
 c:Ctx X S T
 sc:X.env.scope=S.sc
 fn:S.sc.kind = .function
 own:PassesOwn (model X.prog X.w) X.A X.env X.xe
noncomputable def xB (m:Str):Option m7:=if m = "append" then some .append else if m = "extend" then some .extend else none
noncomputable def uR (m:Str):Option m7:=none
noncomputable def i9 (n:Nat)(S:Sc):Expr->Option (Nat×j8)
 |.Name x _=>if cI x&&mG S.sc x then (idxOf S.N x).map fun i=>(i,.none) else none
 |_=>none
noncomputable def uK:Expr->Bool
 | .Constant (.bool true) _ _=>true
 |.Tuple _ _ _=>true
 |.IfExp _ _ _ _=>true
 |_=>false
noncomputable def wB (n:Nat)(S:Sc)(tg e:Expr):Option St:=match tg with
 |.Name x px=>match e with
  |.ListComp elt [⟨tg',iter,ifs,0⟩] sc p=>if iQ S.sc x then (idxOf S.N x).bind fun i=>(cE n S (.ListComp elt [⟨tg',iter,ifs,0⟩] sc p)).map fun c=>.asg (.nm i) c false else none
  |e=>if eK e then none else if iQ S.sc x then (idxOf S.N x).bind fun i=>(cE n S e).map fun c=>.asg (.nm i) c false else none
 |.Tuple es k p=>if eK e || isTup e then none else (jP S es).bind fun is=>(cE n S e).map fun c=>.asg (.tp is) c false
 |.Subscript o ix p=>if uK e then (if fX ix then (match i9 n S o with
   | some (i,.none)=>(cE n S ix).bind fun ci=>(cE n S e).map fun ce=>.putd i ci ce
   |_=>none) else none) else if eK e || !fX ix then none else (i9 n S o).bind fun q=>(cE n S ix).bind fun ci=>(cE n S e).map fun c=>.setix q.1 q.2 ci c
 |_=>none
noncomputable def vM (n:Nat)(S:Sc)(o:Expr)(name:Str)(es:List Expr)(apos cpos:Pos):Option St :=
 if apos.endLine==cpos.line then (if es.isEmpty then (uR name).bind fun m=>(i9 n S o).map fun q=>.mut q.1 q.2 m .nil else (xB name).bind fun m=>(i9 n S o).bind fun q=>match es with
  |[a]=>(cP (cE n S) [a]).map fun cs=>.mut q.1 q.2 m cs
  |[a,b]=>(cP (cE n S) [a,b]).map fun cs=>.mut q.1 q.2 m cs
  |_=>none)
 else none
noncomputable def pf (n:Nat)(S:Sc)(o:Expr)(name:Str)(es:List Expr)(apos cpos:Pos):Option St:=match es with
 |_=>none
noncomputable def cAug (n:Nat)(S:Sc)(tg:Expr)(op:Operator)(e:Expr):Option St:=none
noncomputable def xi (n:Nat)(S:Sc)(tg e:Expr):Option St:=none
noncomputable def AG (n:Nat)(S:Sc)(e:Expr):Option St:=if eK e then none else (cE n S e).map .expr
noncomputable def BG (n:Nat)(S:Sc):Expr->Option St
 |.Constant k x1 p=>(match k with
  |.str _=>some .pass
  |k=>AG n S (.Constant k x1 p))
 |.Call g es ks cpos=>(match g with
  |.Attribute o name apos=>(match ks with
   |[]=>(match pf n S o name es apos cpos with
    |some c=>some c
    |none=>vM n S o name es apos cpos)
   |k::ks=>AG n S (.Call (.Attribute o name apos) es (k::ks) cpos))
  |g=>AG n S (.Call g es ks cpos))
 |e=>AG n S e
noncomputable def cAs (n:Nat)(S:Sc)(e:Expr):List Expr->Option St
 |[]=>none
 |[tg]=>(match xi n S tg e with
  |some c=>some c
  |none=>wB n S tg e)
 |_::_::_=>none
noncomputable def cRet (n:Nat)(S:Sc):Option Expr->Option St
 |none=>some .retN
 |some e=>(cE n S e).map .ret
noncomputable def pW:ka->bZ->Option Nat
 |_,_=>none
theorem sg {t:ka}{cb:bZ}{x:Nat}(h:pW t cb=some x):t = .nm x:=by
 cases h
noncomputable def Bz (n:Nat)(S:Sc)(tg iter:Expr)(ob:Option bZ):List Stmt->Option St
 |[]=>if fC iter then (qH S tg).bind fun t=>ob.bind fun cb=>(match pW t cb with
  |some x=>(cE n S iter).map fun c=>.forw x c cb
  |none=>(AA S (cE n S) (isTup tg) iter).map fun it=>.forr t it cb) else none
 |_::_=>none
noncomputable def BA (S:Sc):Expr->Option St->Option St
 |_,o=>o
theorem ui {S:Sc}{e:Expr}{o:Option St}{c:St}(h:BA S e o=some c):o=some c:=h
noncomputable def cWhl (n:Nat)(S:Sc)(e:Expr)(ob:Option bZ):List Stmt->Option St
 |[]=>(cE n S e).bind fun c=>ob.map fun cb=>.whl c cb
 |_::_=>none
mutual
noncomputable def cS:Nat->Sc->Stmt->Option St
 |0,_,_=>none
 |n+1,S,st=>match st with
  |.Assign tgs e _=>cAs n S e tgs
  |.AugAssign tg op e _=>cAug n S tg op e
  |.Expr e _=>BG n S e
  |.Return o _=>cRet n S o
  |.If e a b _=>(cE n S e).bind fun c=>(pb n S a).bind fun ca=>(pb n S b).map fun cb=>.ite c ca cb
  |.For tg iter b oe _=>BA S iter (Bz n S tg iter (pb n S b) oe)
  |.While e b oe _=>cWhl n S e (pb n S b) oe
  |.Pass _=>some .pass
  |.Raise _ _ _=>some (.expr (.neg (.cst .non)))
  |_=>none
noncomputable def pb:Nat->Sc->List Stmt->Option bZ
 |0,_,_=>none
 |_+1,_,[]=>some .nil
 |n+1,S,s::r=>(cS n S s).bind fun c=>(pb n S r).map fun d=>.cons c d
end
theorem mw {e:Expr}{t:Option Expr}{l:Nat}{env:Env}(h:eK e=false):swapsWith e t l env=pure false:=by
 cases e<;>first | rfl | (cases h)
theorem k7 {e t:Expr}{l:Nat}{env:Env}(h:eK e=false):swapsWithSole [t] e l env=pure false:=mw h
section
variable {X:Cx}{S:Sc}{T:Tb}
theorem vH {st:Stmt}:PS X st (tS X.K T (.expr (.neg (.cst .non)))):=by
 intro pins s σ H D I h;obtain⟨P,Z,env,F,re,hz,zp,h⟩:=h;exact h.elim
theorem iy (C:Ctx X S T){n:Nat}{o:Expr}{q:Nat×j8}(h:i9 n S o=some q):PE X o (jU X.K T q.1 q.2):=by
 unfold i9 at h;split at h
 ·rename_i x p;by_cases hk:(cI x&&mG S.sc x)=true
  ·rw[if_pos hk,aa] at h;rw[ak] at hk;obtain⟨i,h1,rfl⟩:=h;obtain⟨n1,n2,n3⟩:=cH hk.1;have hi:=bN h1;rw[<-C.N] at hi;exact yj hi (C.vis x hk.2) n1 n2
  ·rw[if_neg hk] at h;cases h
 ·cases h
theorem iO {n:Nat}{o:Expr}{q:Nat×j8}{name:Str}{env:Env}(h:i9 n S o=some q):attributeBase o name env (eval o env)=eval o env:=by
 unfold i9 at h;split at h
 ·rfl
 ·cases h
theorem zI (C:qK X S T){n:Nat}{tg e:Expr}{c:St}{pos:Pos}(h:wB n S tg e=some c):PS X (.Assign [tg] e pos) (tS X.K T c):=by
 have hN:=C.c.nd;rw[<-C.c.N] at hN;unfold wB at h;split at h
 ·rename_i x px;split at h
  ·rename_i elt tg' iter ifs sc p;by_cases hl:iQ S.sc x=true
   ·rw[if_pos hl,ab] at h;obtain⟨i,h1,h⟩:=h;rw[aa] at h;obtain⟨ce,h2,rfl⟩:=h;have hi:=bN h1;rw[<-C.c.N] at hi;have hsw:swapsWith (.ListComp elt [⟨tg',iter,ifs,0⟩] sc p) (some (.Name x px)) pos.line X.env=pure (X.env.blockKind == .function&&X.env.kindOf x==some .local&&px.line==p.line && !(sc.names.any fun (n,k)=>n==x&&(k == .local || k == .cell))):=rfl;cases hb:(X.env.blockKind == .function&&X.env.kindOf x==some .local&&px.line==p.line && !(sc.names.any fun (n,k)=>n==x&&(k == .local || k == .cell))) with
    |false =>
     rw[hb] at hsw;exact uw hN hi (C.c.loc x hl).1 (dN n C.c _ _ h2).1 hsw (C.c.loc x hl).2
    |true =>
     rw[hb] at hsw;cases n with
     |zero=>cases h2
     |succ n =>
      have h2:nE S (cE n) elt tg' iter ifs sc=some ce:=h2;obtain⟨pick,t,it,ci,ce',rfl,g1,g2,g3,g4,g5⟩:=jW C.c (fun C'=>dN n C') h2;refine cB (nY g1 C.c.calm g2 g3 (kW (oW g4)) (n4 g5) hN hi (C.c.loc x hl).1 (C.c.loc x hl).2 hsw) fun D σ H h=>?_
      obtain⟨P,Z,env,F,re,hz,zp,h⟩:=h;unfold bI at h;obtain⟨p,hp,h⟩:=bP h;exact kY ⟨P,env,F,re,p,hp,fun v H' G s rp rt=>tH re hz zp s rp rt h⟩
   ·rw[if_neg hl] at h;cases h
  ·by_cases hc:eK e=true
   ·rw[if_pos hc] at h;cases h
   ·rw[if_neg hc] at h;by_cases hl:iQ S.sc x=true
    ·rw[if_pos hl,ab] at h;obtain⟨i,h1,h⟩:=h;rw[aa] at h;obtain⟨ce,h2,rfl⟩:=h;have hi:=bN h1;rw[<-C.c.N] at hi;exact uw hN hi (C.c.loc x hl).1 (dN n C.c _ _ h2).1 (mw (by simpa using hc)) (C.c.loc x hl).2
    ·rw[if_neg hl] at h;cases h
 ·rename_i es k p;by_cases hc:(eK e || isTup e)=true
  ·rw[if_pos hc] at h;cases h
  ·rw[if_neg hc,ab] at h;simp only[Bool.or_eq_true,not_or,Bool.not_eq_true] at hc;obtain⟨is,h1,h⟩:=h;rw[aa] at h;obtain⟨ce,h2,rfl⟩:=h;obtain⟨a1,a2,a3⟩:=mE C.c h1;refine wX (ur C.c.calm a1 a2 a3) (dN n C.c _ _ h2).1 (k7 hc.1) ?_ rfl;obtain⟨_,hc⟩:=hc;cases e<;>first | rfl | (cases hc)
 ·rename_i o ix p;by_cases ht:uK e=true
  ·rw[if_pos ht] at h;by_cases hp:fX ix=true
   ·rw[if_pos hp] at h;split at h
    ·rename_i i hq;rw[ab] at h;obtain⟨ci,h2,h⟩:=h;rw[aa] at h;obtain⟨ce,h3,rfl⟩:=h;have hpth:PE X o (jU X.K T i .none):=iy C.c hq;refine cB (sy ?_ hpth (dN n C.c _ _ h2).1 (dN n C.c _ _ h3).1 ?_) fun D σ H h=>rm h
     ·have:=C.c.units;omega
     ·cases e<;>first | rfl | (cases ht)
    ·cases h
   ·rw[if_neg hp] at h;cases h
  rw[if_neg ht] at h;by_cases hc:(eK e || !fX ix)=true
  ·rw[if_pos hc] at h;cases h
  ·rw[if_neg hc,ab] at h;simp only[Bool.or_eq_true,not_or,Bool.not_eq_true,Bool.not_eq_false'] at hc;obtain⟨q,h1,h⟩:=h;rw[ab] at h;obtain⟨ci,h2,h⟩:=h;rw[aa] at h;obtain⟨ce,h3,rfl⟩:=h;refine cB (sk (dN n C.c _ _ h3).1 (zg (iy C.c h1) (dN n C.c _ _ h2).1 set_list ?_) (k7 hc.1) ?_ rfl) fun D σ H h=>rV h
   ·intro v;obtain⟨_,hc⟩:=hc;cases ix<;>first | rfl | (cases hc)
   ·cases e<;>rfl
 ·cases h
theorem z3 (C:qK X S T){n:Nat}{o:Expr}{name:Str}{es:List Expr}{c:St}{apos cpos pos:Pos}(h:vM n S o name es apos cpos=some c):PS X (.Expr (.Call (.Attribute o name apos) es [] cpos) pos) (tS X.K T c):=by
 unfold vM at h;by_cases hl:(apos.endLine==cpos.line)=true
 ·rw[if_pos hl] at h;by_cases he:es.isEmpty=true
  ·rw[if_pos he,ab] at h;have he:es=[]:=by simpa using he
   subst he;obtain⟨m,hm,h⟩:=h;rw[aa] at h;obtain⟨q,hq,rfl⟩:=h;have slot:∃ id,PySem.Slot "list" name id/\typeOf (.builtin id)=pure (.type "method_descriptor")/\AH X id (qV X.K m):=by
    unfold uR at hm;cases hm
   obtain⟨id,s1,s2,s3⟩:=slot;exact cB (ji (zr gq s1 s2 s3 (iy C.c hq) (iO hq) hl) rfl) fun D σ H h=>rH h
  rw[if_neg he,ab] at h;obtain⟨m,hm,h⟩:=h;rw[ab] at h;obtain⟨q,hq,h⟩:=h;have slot:∃ id,PySem.Slot "list" name id/\typeOf (.builtin id)=pure (.type "method_descriptor")/\AH X id (qV X.K m):=by
   unfold xB at hm;split at hm
   ·rename_i e;cases hm;subst e;exact⟨_,PySem.F.slot_list_append,by rfl,nO⟩
   split at hm
   ·rename_i e;cases hm;subst e;exact⟨_,PySem.F.slot_list_extend,by rfl,oo⟩
   cases hm
  obtain⟨id,s1,s2,s3⟩:=slot;split at h
  ·rename_i a;rw[aa] at h;obtain⟨cs,ha,rfl⟩:=h;obtain⟨n1,c1,d1,_,hd,_⟩:=bH ha;refine cB (ji (sF gq s1 s2 s3 (iy C.c hq) (dB (dN n C.c) ha) (iO hq) ?_ hl (bG n1) (cY hd)) rfl) fun D σ H h=>jV h
   rw[bG n1];rfl
  ·rename_i a b;rw[aa] at h;obtain⟨cs,ha,rfl⟩:=h;obtain⟨n1,c1,d1,_,hd,_⟩:=bH ha;obtain⟨n2,_,_,_,_,_⟩:=bH hd;refine cB (ji (sF gq s1 s2 s3 (iy C.c hq) (dB (dN n C.c) ha) (iO hq) ?_ hl (bG n1) (cY hd)) rfl) fun D σ H h=>jV h
   rw[bG n1,bG n2];rfl
  ·cases h
 ·rw[if_neg hl] at h;cases h
theorem wa (C:qK X S T){n:Nat}{o:Expr}{name:Str}{es:List Expr}{c:St}{apos cpos pos:Pos}(h:pf n S o name es apos cpos=some c):PS X (.Expr (.Call (.Attribute o name apos) es [] cpos) pos) (tS X.K T c):=by
 cases h
theorem yX (C:qK X S T){n:Nat}{tg e:Expr}{c:St}{pos:Pos}(h:xi n S tg e=some c):PS X (.Assign [tg] e pos) (tS X.K T c):=by
 cases h
theorem B8 (C:qK X S T):∀(n:Nat),(∀(st:Stmt) (c:St),cS n S st=some c->PS X st (tS X.K T c))/\∀(l:List Stmt) (c:bZ),pb n S l=some c->j9 X l (xO X.K T c):=by
 intro n
 induction n with
 |zero=>exact⟨fun st c h=>(by cases h),fun l c h=>(by cases h)⟩
 |succ n ih =>
  obtain⟨i1,i2⟩:=ih;refine⟨fun st c h=>?_,fun l c h=>?_⟩
  ·cases st with
   |Assign tgs e p =>
    have h:cAs n S e tgs=some c:=h;cases tgs with
    |nil=>cases h
    |cons tg r=>cases r with
     |cons _ _=>cases h
     |nil =>
      have h:(match xi n S tg e with
       |some c=>some c
       |none=>wB n S tg e)=some c:=h
      cases hp:xi n S tg e with
      |some c'=>rw[hp] at h;cases h;exact yX C hp
      |none=>rw[hp] at h;exact zI C h
   |AugAssign tg op e p=>cases h
   |Expr e p =>
    have h:BG n S e=some c:=h;have plain:AG n S e=some c->PS X (.Expr e p) (tS X.K T c):=fun h=>by
     unfold AG at h;by_cases hc:eK e=true
     ·rw[if_pos hc] at h;cases h
     ·rw[if_neg hc,aa] at h;obtain⟨ce,h1,rfl⟩:=h;exact wq (dN n C.c _ _ h1).1 (mw (by simpa using hc))
    cases e with
    |Constant k x1 q=>cases k with
     |str s=>cases h;exact zE
     |_=>exact plain h
    |Call g es ks q=>cases g with
     |Attribute o name apos=>cases ks with
      |nil =>
       have h:(match pf n S o name es apos q with
        |some c=>some c
        |none=>vM n S o name es apos q)=some c:=h
       cases ha:pf n S o name es apos q with
       |some c'=>rw[ha] at h;cases h;exact wa C ha
       |none=>rw[ha] at h;exact z3 C h
      |cons k ks=>exact plain h
     |_=>exact plain h
    |_=>exact plain h
   |Return o p=>cases o with
    |none=>cases h;exact wt
    |some e =>
     have h:(cE n S e).map .ret=some c:=h;rw[aa] at h;obtain⟨ce,h1,rfl⟩:=h;exact zL (dN n C.c _ _ h1).1
   |If e a b p =>
    have h:((cE n S e).bind fun c=>(pb n S a).bind fun ca=>(pb n S b).map fun cb=>St.ite c ca cb)=some c:=h;rw[ab] at h;obtain⟨cc,h1,h⟩:=h;rw[ab] at h;obtain⟨ca,h2,h⟩:=h;rw[aa] at h;obtain⟨cb,h3,rfl⟩:=h;exact ze (dN n C.c _ _ h1).2 (i2 _ _ h2) (i2 _ _ h3)
   |For tg iter b oe p =>
    have key:∀ c,Bz n S tg iter (pb n S b) oe=some c->PS X (.For tg iter b oe p) (tS X.K T c):=by
     intro c h;cases oe with
      |cons _ _=>cases h
      |nil =>
       have h:(if fC iter then (qH S tg).bind fun t=>(pb n S b).bind fun cb=>(match pW t cb with
        |some x=>(cE n S iter).map fun c=>St.forw x c cb
        |none=>(AA S (cE n S) (isTup tg) iter).map fun it=>St.forr t it cb) else none)=some c:=h
       by_cases hs:fC iter=true
       ·rw[if_pos hs,ab] at h;obtain⟨t,h1,h⟩:=h;rw[ab] at h;obtain⟨cb,h3,h⟩:=h;cases hx:pW t cb with
        |some x =>
         rw[hx] at h;have h:(cE n S iter).map (fun c=>St.forw x c cb)=some c:=h;rw[aa] at h;obtain⟨ci,h2,rfl⟩:=h;have ht:=sg hx;subst ht;cases hx
        |none =>
         rw[hx] at h;have h:(AA S (cE n S) (isTup tg) iter).map (fun it=>St.forr t it cb)=some c:=h;rw[aa] at h;obtain⟨it,h2,rfl⟩:=h;exact zw C.own C.c.calm (xF C.c (dN n C.c) h2) (rY C.c h1) (i2 _ _ h3) (n4 hs)
       ·rw[if_neg hs] at h;cases h
    exact key c (ui (S:=S) (e:=iter) h)
   |While e b oe p=>cases oe with
    |cons _ _=>cases h
    |nil =>
     have h:((cE n S e).bind fun c=>(pb n S b).map fun cb=>St.whl c cb)=some c:=h;rw[ab] at h;obtain⟨cc,h1,h⟩:=h;rw[aa] at h;obtain⟨cb,h3,rfl⟩:=h;exact Ax C.own (dN n C.c _ _ h1).2 (i2 _ _ h3)
   |Pass p=>cases h;exact vU
   |Raise a b p=>cases h;exact vH
   |_=>cases h
  ·cases l with
   |nil=>cases h;exact vm
   |cons st r =>
    unfold pb at h;rw[ab] at h;obtain⟨cc,h1,h⟩:=h;rw[aa] at h;obtain⟨cb,h3,rfl⟩:=h;exact vf (i1 _ _ h1) (i2 _ _ h3)
end
structure Df where
 nm:Str
 st:Stmt
 ps:List Str
 N:List Str
 body:bZ
structure Pg where
 dfs:List Df
 pQ:List Str
 eT:List Str
 gl:Nat->D
 fuel:Nat
noncomputable def Pg.fns (p:Pg):List Fn:=p.dfs.map fun d=>⟨d.ps.length,d.N.length,d.body⟩
noncomputable def Pg.run (p:Pg):Nat->Nat->List D->Rs (D×Bool):=Pc.run p.fns p.gl p.fuel
noncomputable def Pg.sc (p:Pg)(d:Df):Sc:=⟨d.N,aR d.st,p.dfs.map (·.nm),p.pQ,p.eT⟩
noncomputable def Df.okB (p:Pg)(n:Nat)(d:Df):Bool :=
 decide ((aR d.st).kind = .function) && !(aR d.st).isCoroutine && !(aR d.st).isGenerator&&decide d.N.Nodup&&decide (d.N.take d.ps.length=d.ps)&&d.ps.all (fun x=>iQ (aR d.st) x)&&(aR d.st).names.all (fun y=>decide (y.2≠.free))
structure Df.Ok (p:Pg)(d:Df):Prop where
 b:∃ n,pb n (p.sc d) (cF d.st)=some d.body
 S:jn d.N d.ps (aR d.st)
 bd:∀(kV doc pm:Value) (an:Option Addr) (cdv ct:Value) (us:List Value),us.length=d.ps.length->bindArgs (PySem.W.fnOf d.nm d.nm (dF d.st) (cF d.st) (aR d.st) .none kV doc pm an cdv ct) ⟨us,[]⟩=pure (d.ps.zip us)
theorem ni {sc:Scope}{x:Str}(h:iQ sc x=true):Loc sc x:=by
 unfold iQ cM at h;split at h
 ·rename_i e;exact .inl e
 ·rename_i e;exact .inr e
 ·cases h
theorem uD {sc:Scope}{x:Str}(h:mG sc x=true):Af sc x:=by
 unfold mG cM at h;split at h
 ·rename_i e;exact .inl e
 ·rename_i e;exact .inr (.inl e)
 ·rename_i e;exact .inr (.inr e)
 ·cases h
theorem xg {sc:Scope}{x:Str}(h:nL sc x=true):sc.names.lookup x=some .globalImplicit:=by
 unfold nL cM at h;split at h
 ·rename_i e;exact e
 ·cases h
theorem len0 {P:List Value->Prop}{us:List Value}(h:us.length=0)(f:P []):P us:=by
 cases us with
 |nil=>exact f
 |cons a r=>cases h
theorem Cv {P:List Value->Prop}{us:List Value}(h:us.length=1)(f:∀ a,P [a]):P us:=by
 cases us with
 |nil=>cases h
 |cons a r=>exact len0 (P:=fun r=>P (a::r)) (gw h) (f a)
theorem AK {P:List Value->Prop}{us:List Value}(h:us.length=2)(f:∀ a b,P [a,b]):P us:=by
 cases us with
 |nil=>cases h
 |cons a r=>exact Cv (P:=fun r=>P (a::r)) (gw h) (f a)
theorem B5 {P:List Value->Prop}{us:List Value}(h:us.length=3)(f:∀ a b c,P [a,b,c]):P us:=by
 cases us with
 |nil=>cases h
 |cons a r=>exact AK (P:=fun r=>P (a::r)) (gw h) (f a)
theorem len4 {P:List Value->Prop}{us:List Value}(h:us.length=4)(f:∀ a b c d,P [a,b,c,d]):P us:=by
 cases us with
 |nil=>cases h
 |cons a r=>exact B5 (P:=fun r=>P (a::r)) (gw h) (f a)
theorem Df.ok_of {p:Pg}{d:Df}{n:Nat}(h:d.okB p n=true)(hb:pb n (p.sc d) (cF d.st)=some d.body)
  (bd:∀(kV doc pm:Value) (an:Option Addr) (cdv ct:Value) (us:List Value),us.length=d.ps.length->bindArgs (PySem.W.fnOf d.nm d.nm (dF d.st) (cF d.st) (aR d.st) .none kV doc pm an cdv ct) ⟨us,[]⟩=pure (d.ps.zip us)):d.Ok p:=by
 unfold Df.okB at h;simp only[Bool.and_eq_true,decide_eq_true_eq,Bool.not_eq_true',List.all_eq_true] at h;obtain⟨⟨⟨⟨⟨⟨h1,h2⟩,h3⟩,h4⟩,h5⟩,h6⟩,h7⟩:=h;exact⟨⟨n,hb⟩,⟨h1,h2,h3,h4,h5,fun x hx=>ni (h6 x hx),h7⟩,bd⟩
structure Pg.In (p:Pg)(K:Frag)(mg:Str->Option Value):Prop where
 fn:∀(i:Nat) (d:Df),p.dfs[i]? = some d->∃ f fd,L2.yi K d.nm d.nm d.st f fd/\mg d.nm=some (.ref f)
 gl:∀ i x,idxOf p.pQ x=some i->∃ v u,mg x=some u/\RelV v u/\∀ H,Rep K H (p.gl i) v []
 blt:∀ x,p.eT.contains x=true->mg x=none
theorem ja {ds:List D}{n i:Nat}{d:D}{t:Tg}(h:(aK ds n)[i]? = some (some (d,t))):ds[i]? = some d/\t=cC d []:=by
 unfold aK at h;by_cases hi:i<ds.length
 ·rw[List.getElem?_append_left (by simpa using hi),List.getElem?_map] at h;rw[List.getElem?_eq_getElem hi] at h ⊢;simp only[Option.map_some,Option.some.injEq,Prod.mk.injEq] at h;obtain⟨h1,h2⟩:=h;subst h1;exact⟨rfl,h2.symm⟩
 ·rw[List.getElem?_append_right (by simpa using Nat.le_of_not_lt hi),List.getElem?_replicate] at h;split at h<;>cases h
theorem aG.parts {K:Frag}{H:Hp}:∀{ds:List D}{vs:List V}{G:List Addr},aG K H ds vs G->∃ F:Nat->List Addr,(∀ i d,ds[i]? = some d->∃ v,vs[i]? = some v/\Rep K H d v (F i))/\(∀ i,ds[i]? = none->F i=[])/\∀ i,∀ a∈F i,a∈G
 |_,_,_,.nil=>⟨fun _=>[],fun i d h=>(by simp at h),fun _ _=>rfl,fun _ _ h=>(nomatch h)⟩
 | _,_,_,.cons (d:=d) (v:=v) (ds:=ds) (vs:=vs) (G:=G1) (G':=G2) r s=>by
  obtain⟨F,h1,h2,h3⟩:=aG.parts s;refine⟨fun i=>match i with | 0=>G1 | j+1=>F j,fun i e h=>?_,fun i h=>?_,fun i a h=>?_⟩
  ·cases i with
   |zero=>cases h;exact⟨v,rfl,r⟩
   |succ j=>exact h1 j e (by simpa using h)
  ·cases i with
   |zero=>cases h
   |succ j=>exact h2 j (by simpa using h)
  ·cases i with
   |zero=>exact az _ h
   |succ j=>exact au _ (h3 j a h)
theorem entry {K:Frag}{H:Hp}{ds:List D}{vs:List V}{G:List Addr}{N:List Str}(hr:aG K H ds vs G)(hl:ds.length<=N.length):∃ F,RE K (fun a=>H a≠none) (aK ds N.length) (L2.start N vs) H F/\∀ i,∀ a∈F i,a∈G:=by
 obtain⟨F,h1,h2,h3⟩:=hr.parts;have flat:∀ i d t,(aK ds N.length)[i]? = some (some (d,t))->aX t=true->F i=[]:=fun i d t h o=>by
  obtain⟨e1,e2⟩:=ja h;obtain⟨v,_,rp⟩:=h1 i d e1;unfold cC at e2;by_cases hf:d.flat=true
  ·exact rp.flat hf
  ·rw[if_neg hf] at e2;subst e2;cases o
 refine⟨F,⟨?_,fun i d t h=>?_,fun i h=>?_,fun i d t h o=>?_,fun i d h a ha=>?_,fun a h=>h⟩,h3⟩
 ·simp only[aK,L2.start,List.length_append,List.length_map,List.length_replicate,hr.len]
 ·obtain⟨e1,e2⟩:=ja h;obtain⟨v,e3,rp⟩:=h1 i d e1;refine⟨v,?_,rp⟩;unfold L2.start;have hi:i<vs.length:=(List.getElem?_eq_some_iff.mp e3).1;rw[List.getElem?_append_left (by simpa using hi),List.getElem?_map,e3];rfl
 ·cases e:ds[i]? with
  |none=>exact h2 i e
  |some d =>
   refine absurd ?_ (h d (cC d []));unfold aK;have hi:i<ds.length:=(List.getElem?_eq_some_iff.mp e).1;rw[List.getElem?_append_left (by simpa using hi),List.getElem?_map,e];rfl
 ·rw[flat i d t h o];exact⟨bu,fun _ h=>(nomatch h),fun _ h=>(nomatch h)⟩
 ·rw[flat i d _ h rfl] at ha;cases ha
theorem qT {α:Type}{g:α->Str}:∀{l:List α}{x:Str}{i:Nat},idxOf (l.map g) x=some i->∃ a,l[i]? = some a/\g a=x:=by
 intro l x i h;have:=bN h;rw[List.getElem?_map,aa] at this;exact this
theorem nK {H H':Hp}(e:iI (fun a=>H a≠none) H H'):aH H H':=fun b u h=>(e.keep b (by rw[h];exact fun z=>(by cases z))).trans h
section
variable {p:Pg}{P:Program}{w:World}{K:Frag}{mg:Str->Option Value}{base:Heap}
theorem zz (hp:∀ d∈p.dfs,d.Ok p)(hi:p.In K mg)(hh:uV w K):∀(n i:Nat) (d:Df),p.dfs[i]? = some d->∀ f fd,L2.yi K d.nm d.nm d.st f fd->mz P w K mg base yC n f fd d.ps (yD K d.ps.length (p.run n i)):=by
 intro n
 induction n with
 |zero =>
  intro i d hd f fd F;refine⟨fun vs H Q E h=>pA h,fun A outer s H args us vs Q E hr he hb hv hs=>?_⟩;obtain⟨ds,G,_,_,r,h,_⟩:=hs;cases h
 |succ n ih =>
  intro i d hd f fd F;obtain⟨⟨m,hb⟩,S,_⟩:=hp d (List.mem_of_getElem? hd);refine F.ok S (fun vs H Q E h=>pA h) fun cdv A outer s H vs Q E hr hs=>?_
  have C:qK (oH yC P w K mg base d.N d.nm (aR d.st) f cdv A outer s H E).nox (p.sc d) ⟨p.run n,p.gl,p.fuel⟩:=by
   refine⟨⟨rfl,S.nd,fun x h=>uD h,fun x h=>⟨ni h,.inl rfl⟩,fun x h=>xg h,fun x h=>h,?_,rfl,fun j x hj=>?_,fun j x hj=>hi.gl j x hj,fun x h=>hi.blt x h⟩,rfl,S.kind,PassesOwn.never⟩
   ·exact⟨Nat.lt_of_le_of_lt (Nat.add_le_add_left (by decide:40<=64) _) hr.units,hh⟩
   ·obtain⟨e,he,hx⟩:=qT hj;obtain⟨f',fd',F',M'⟩:=hi.fn j e he;have B':=F'.binds (hp e (List.mem_of_getElem? he)).bd;subst hx;refine⟨f',fd',e.ps,n,ih j e he f' fd' F',hr,M',F'.kp,B',fun ds r h=>?_⟩;have h:p.run n j ds = .ok r:=h;cases n with
    |zero=>cases h
    |succ n =>
     unfold Pg.run Pc.run at h;have:p.fns[j]? = some ⟨e.ps.length,e.N.length,e.body⟩:=by unfold Pg.fns;rw[List.getElem?_map,he];rfl
     rw[this] at h;dsimp only at h;by_cases hl:ds.length=e.ps.length
     ·exact hl
     ·rw[if_neg hl] at h;cases h
  refine⟨_,(B8 C m).2 _ _ hb,?_⟩;obtain⟨ds,G,hl,rs,r,hrun,k⟩:=hs;unfold Pg.run Pc.run at hrun;have:p.fns[i]? = some ⟨d.ps.length,d.N.length,d.body⟩:=by unfold Pg.fns;rw[List.getElem?_map,hd];rfl
  rw[this] at hrun;dsimp only at hrun;rw[if_pos hl] at hrun;have hN:ds.length<=d.N.length:=by
   rw[hl,<-S.pre,cm];exact Nat.min_le_right _ _
  obtain⟨F0,re,hF⟩:=entry rs hN;refine⟨fun a=>H a≠none,fun a=>H a=none\/a∈G,aK ds d.N.length,F0,re,fun j a ha=>.inr (hF j a ha),fun a h=>.inl (Classical.not_not.mp h),?_⟩;show post K _ _ _ _ H _ (aF ⟨p.run n,p.gl,p.fuel⟩ d.body (aK ds d.N.length));have hrun:(match aF ⟨p.run n,p.gl,p.fuel⟩ d.body (aK ds d.N.length) with
   |.rt d fr=>Rs.ok (d,fr)
   |.nx _=>.ok (.non,true)
   |.xc e _=>.exc e
   |_=>.bad) = .ok r:=hrun
  cases hq:aF ⟨p.run n,p.gl,p.fuel⟩ d.body (aK ds d.N.length) with
  |rt dd fr =>
   rw[hq] at hrun;cases hrun;intro v H' G' rp ev z fz;exact k v H' G' (nK ev) rp z fun hf=>let ⟨a,b⟩:=fz hf;⟨a,fun x hx=>⟨Classical.not_not.mp (b x hx).1,(b x hx).2⟩⟩
  |nx e =>
   rw[hq] at hrun;cases hrun;intro σ' H' F' af;exact k .non H' [] (nK af.ev) .non (fun _ h=>(nomatch h)) fun _=>⟨bu,fun _ h=>(nomatch h)⟩
  |bk e=>rw[hq] at hrun;cases hrun
  |ct e=>rw[hq] at hrun;cases hrun
  |xc e e'=>rw[hq] at hrun;cases hrun
  |bad=>rw[hq] at hrun;cases hrun
end
noncomputable def noL (K:Frag):Bool:=K.all fun p=>match p.2.cls with
 |.type n=>!(n == "list")
 |_=>true
theorem lookup_mem:∀{K:Frag}{a:Addr}{o:Obj},K.lookup a=some o->(a,o)∈K
 |[],_,_,h=>by cases h
 | (b,x)::r,a,o,h=>by
  rw[cj] at h;cases e:a==b with
  |true =>
   rw[e] at h;cases h;rw[beq_iff_eq] at e;rw[e];exact ai
  |false=>rw[e] at h;exact ah _ (lookup_mem h)
theorem yu {K:Frag}{a:Addr}{o:Obj}(h:noL K=true)(l:K.lookup a=some o)(c:o.cls = .type "list"):False:=by
 unfold noL at h;rw[cf] at h;have:=h _ (lookup_mem l);rw[c] at this;simp at this
theorem lr {K:Frag}{H:Hp}:∀ ns:List Int,aG K H (ns.map D.int) (ns.map V.int) []
 |[]=>.nil
 |n::r=>.cons (.int n) (lr r)
theorem zq {K:Frag}{H:Hp}{a:Addr}{ns:List Int}{f:List D->Rs (D×Bool)}{E:XK}{fr:Bool}(hL:noL K=true)(hS:ke K H a (ns.map V.int))(hf:f [.lst (ns.map D.int)] = .ok (.bl true,fr)):yD K 1 f [.ref a] H (fun v _=>v = .bl true) E:=by
 rcases hS with h | ⟨o,its,n,h1,h2,_⟩
 ·refine⟨[.lst (ns.map D.int)],[a] ++ [],rfl,.cons (.lst h (lr ns)) .nil,(.bl true,fr),hf,fun v H' G' _ rp _ _=>?_⟩;exact rp.bl_inv.1
 ·exact (yu hL h1 h2).elim
noncomputable def p7 (es:List DictEntry):Bool:=es.all (fun e=>match e.val with
  |.int _ _=>true
  |.none=>true
  |_=>false)&&es.any (fun e=>match e.key with
  |.str _ _=>true
  |_=>false)
noncomputable def noS (as:List Addr)(K:Frag):Bool:=K.all fun p=>as.contains p.1 || match p.2.data with
 |.dict es _=>!p7 es.toList
 |_=>true
theorem fM.vals {es:List DictEntry}{kvs:List (Key×Option Int)}(h:fM es kvs):es.all (fun e=>match e.val with
  |.int _ _=>true
  |.none=>true
  |_=>false)=true:=by
 induction h with
 |nil=>rfl
 |cons hh hk hv r ih=>rw[c9,hv,ih];rfl
 |si hk hv r ih=>rw[c9,hv,ih];rfl
 |sn hk hv r ih=>rw[c9,hv,ih];rfl
theorem BE {w:World}{K:Frag}(as:List Addr)(h:noS as K=true)(h0:∀ a∈as,∀ o es ep,K.lookup a=some o->o.data = .dict es ep->∀ e∈es.toList,∀ s t,e.key = .str s t->(a==sysModules)=false/\e.hash=hashStr w s):uV w K:=by
 intro a o es ep hl hd kvs he e hm s t hk;by_cases ha:a∈as
 ·exact h0 a ha o es ep hl hd e hm s t hk
 ·unfold noS at h;rw[cf] at h;have:=h _ (lookup_mem hl);dsimp only at this;rw[hd,show as.contains a=false by rw[Bool.eq_false_iff];intro z;exact ha (List.contains_iff_mem.mp z),Bool.false_or] at this;dsimp only at this;unfold p7 at this;rw[he.vals,gn,Bool.not_eq_true'] at this;have h2:es.toList.any (fun e=>match e.key with
   |.str _ _=>true
   |_=>false)=true:=by
   rw[List.any_eq_true];exact⟨e,hm,by rw[hk]⟩
  rw[h2] at this;cases this
noncomputable def hashes (w:World):List DictEntry->Prop
 |[]=>True
 |e::r=>(match e.key with
  |.str s _=>e.hash=hashStr w s
  |_=>True)/\hashes w r
theorem Be {w:World}{K:Frag}(h:noS [] K=true):uV w K:=BE [] h fun a ha=>(nomatch ha)
def Has (K:Frag)(d:Df):Prop:=∃(f:Addr) (oc:Value) (od:Option Addr) (kV dc pm:Value) (an:Option Addr) (cd ct:Value) (sl:Array (Option Value)),
 PySem.W.nsIn K mainGlobals d.nm=some (some (.ref f))/\K.lookup f=some ⟨oc,od,.func (PySem.W.fnOf d.nm d.nm (dF d.st) (cF d.st) (aR d.st) .none kV dc pm an cd ct),sl⟩/\PySem.W.codeIn K cd d.nm=true/\PySem.W.keepIn K (.ref f)=true
def lA (K:Frag)(x:Str)(d:D):Prop:=∃ v u,PySem.W.nsIn K mainGlobals x=some (some u)/\RelV v u/\∀ H,Rep K H d v []
noncomputable def rb {α:Type}(P:α->Prop):List α->Prop
 |[]=>True
 |a::r=>P a/\rb P r
theorem fU {α:Type}{P:α->Prop}:∀{l:List α},rb P l->∀ a∈l,P a
 |[],_,a,h=>by cases h
 | b::r,⟨h1,h2⟩,a,h=>by
  rcases dz.mp h with rfl | h
  ·exact h1
  ·exact fU h2 a h
structure oU (p:Pg)(K:Frag):Prop where
 fn:rb (Has K) p.dfs
 gl:∀ i x,idxOf p.pQ x=some i->lA K x (p.gl i)
 blt:rb (fun x=>PySem.W.nsIn K mainGlobals x=some none) p.eT
theorem oU.isin {p:Pg}{K:Frag}{h:Heap}{mg:Str->Option Value}(s:oU p K)(X:K.In h)(G:h.Ns mainGlobals mg):p.In K mg where
 fn:=fun i d hd=>by
  obtain⟨f,oc,od,kV,dc,pm,an,cd,ct,sl,a,l,c,k⟩:=fU s.fn d (List.mem_of_getElem? hd);exact⟨f,_,zW (st:=d.st) l c k,PySem.W.mg_of X G a⟩
 gl:=fun i x hx=>by
  obtain⟨v,u,a,b,c⟩:=s.gl i x hx;exact⟨v,u,PySem.W.mg_of X G a,b,c⟩
 blt:=fun x hx=>PySem.W.mg_none_of X G (fU s.blt x (by simpa using hx))
theorem walk {l:PySem.W.OpenLaw}{q:Program}{loose:List Str}{XP:(Str->Option Value)->Heap->Prop}{YP:World->Heap->Prop}{d:DefRec}{K:Params->PySem.W.Frag}(p:Pg)(n i:Nat)(x:Str)(e:Df)(hn:l.most=some 63)(hdf:d.params.defaults=[])
  (hY:∀(w:World) (h:Heap),YP w h->(K w.params).In h) (hd:p.dfs[i]? = some e) (hps:e.ps=[x]) (hnm:d.name=e.nm) (hr:gB n callerA) (ok:rb (Df.Ok p) p.dfs) (st:∀ w:World,oU p (K w.params)) (hL:∀ w:World,noL (K w.params)=true) (hH:∀ w:World,uV w (K w.params))
  (law:∀ ns:List Int,ns.length<=63->∃ fr,p.run n i [.lst (ns.map D.int)] = .ok (.bl true,fr)) :
  PySem.W.WalkO q loose XP YP l.row.toRowW d [] (fun f vs=>PySem.call f vs):=by
 refine L2.wC (n:=63) (k:=n) (x:=x) (CX:=fun _=>yC) (sp:=fun w=>yD (K w.params) 1 (p.run n i)) hn (by decide) hdf hr hY (fun w mg fa h KX G hm=>?_) (fun w H a ns hl _ hS=>?_) fun _ _ _ _ _ z=>z
 ·have I:=(st w).isin KX G;obtain⟨f,fd,F,m⟩:=I.fn i e hd;rw[hnm,m] at hm;obtain rfl:f=fa:=by cases hm;rfl
  refine⟨fd,fun s u=>?_,fun base kb nb=>?_⟩
  ·obtain⟨oc,od,kV,doc,pm,an,cdv,ct,osl,rfl,lk,hcd⟩:=F.ex;have:=(fU ok e (List.mem_of_getElem? hd)).bd kV doc pm an cdv ct [u] (by rw[hps];rfl);rw[hps] at this;exact .of_eq this
  ·have:=zz (P:=l.prog) (w:=w) (base:=base) (fU ok) I (hH w) n i e hd f fd F;rw[hps] at this;exact this
 ·obtain⟨fr,h⟩:=law ns hl;exact zq (hL w) hS h
end Pc
end
section
namespace Pc
open PySem
theorem aA {α β:Type}(a:α)(f:α->Rs β):(Rs.ok a).bind f=f a:=rfl
theorem bX {α:Type}(env:En)(a:α)(k:α->Fl):fD env (.ok a) k=k a:=rfl
theorem aD (e:En)(k:En->Fl):(Fl.nx e).andThen k=k e:=rfl
theorem then_rt (d:D)(b:Bool)(k:En->Fl):(Fl.rt d b).andThen k = .rt d b:=rfl
theorem aU {α:Type}(a:α):dX (some a) = .ok a:=rfl
theorem ir (op:Operator)(i j:Int):eI op (.int i) (.int j)=(Pc.binI op i j).map .int:=by cases op<;>rfl
theorem iV (i:Int)(R:List Nat):eR (.int i) R = .mv []:=rfl
theorem jJ:∀ l:List Int,D.flats (l.map D.int)=true
 |[]=>rfl
 |_::r=>jJ r
theorem oM (l:List Int)(R:List Nat):eR (.lst (l.map D.int)) R = .mv []:=by
 unfold eR;rw[if_pos];exact jJ l
end Pc
end
section
namespace Pc
open PySem PySem.Spec PyProof.Rows L2
theorem yf {K:Frag}{d:Df}{f:Addr}{oc:Value}{od:Option Addr}{kV dc pm:Value}{an:Option Addr}{cd ct:Value}{sl:Array (Option Value)}
 (a:PySem.W.nsIn K mainGlobals d.nm=some (some (.ref f))) (l:K.lookup f=some ⟨oc,od,.func (PySem.W.fnOf d.nm d.nm (dF d.st) (cF d.st) (aR d.st) .none kV dc pm an cd ct),sl⟩) (c:PySem.W.codeIn K cd d.nm=true) (k:PySem.W.keepIn K (.ref f)=true):Has K d :=
 ⟨f,oc,od,kV,dc,pm,an,cd,ct,sl,a,l,c,k⟩
theorem gl_int {K:Frag}{x:Str}{i:Int}{t:Tok}(h:PySem.W.nsIn K mainGlobals x=some (some (.int i t))):lA K x (.int i):=⟨.int i,_,h,⟨t,rfl⟩,fun _=>.int i⟩
theorem oN {K:Frag}{x:Str}{a:Addr}{oc:Value}{od:Option Addr}{its:Array Value}{n:Nat}{sl:Array (Option Value)}{ds:List D}{vs:List V}(h:PySem.W.nsIn K mainGlobals x=some (some (.ref a)))
  (l:K.lookup a=some ⟨oc,od,.seq its n,sl⟩) (c:oc = .type "tuple") (hz:its.size<=sizeLine) (hv:aJ vs its.toList) (hr:∀ H,aG K H ds vs []) (hp:tL vs=false:=by rfl):lA K x (.tup ds) :=
 ⟨.ref a,_,h,rfl,fun H=>.tup (.inr ⟨hp,_,its,n,l,c,rfl,hz,hv⟩) (hr H)⟩
noncomputable def lX (K:Frag)(g:Nat->D):Nat->List Str->Prop
 |_,[]=>True
 |i,x::r=>lA K x (g i)/\lX K g (i+1) r
theorem mU {K:Frag}{g:Nat->D}:∀{l:List Str}{k i:Nat}{x:Str},lX K g k l->idxOf l x=some i->lA K x (g (k+i))
 | y::r,k,i,x,⟨h1,h2⟩,e=>by
  unfold idxOf at e;by_cases hx:y=x
  ·rw[if_pos hx] at e;cases e;subst hx;exact h1
  ·rw[if_neg hx,aa] at e;obtain⟨j,hj,rfl⟩:=e;have:=mU h2 hj;rw[show k+1+j=k+(j+1) by omega] at this;exact this
theorem wF {K:Frag}{g:Nat->D}{l:List Str}(h:lX K g 0 l):∀ i x,idxOf l x=some i->lA K x (g i):=fun i x e=>by
 have:=mU h e
 rwa [Nat.zero_add] at this
end Pc
end
section
namespace Pc.Hd
open PySem PySem.W L2
noncomputable def sv (x:String)(t:Tok):Value:=.str (Str.ofString x) t
noncomputable def kv (P:Params)(x:String)(t:Tok)(v:Value):DictEntry:=⟨PyData.keyHash P (Str.ofString x),sv x t,v⟩
noncomputable def uN:Stmt->Str
 |.FunctionDef n ..=>n
 |_=>Str.ofString ""
noncomputable def fo (a:Addr)(s:Stmt)(m c:Value):Addr×Obj:=(a,⟨.type "function",none,.func { name:=uN s,qualname:=uN s,params:=dF s,body:=.stmts (cF s),scope:=aR s,globals:=mainGlobals,closure:=[],defaults:=.none,kwdefaults:=.none,pyModule:=m,code:=c },#[]⟩)
noncomputable def co (a:Addr)(vs:Array Value):Addr×Obj:=(a,⟨.type "code",none,.fields vs,#[]⟩)
noncomputable def tu (a:Addr)(vs:Array Value):Addr×Obj:=(a,⟨.type "tuple",none,.seq vs 0,#[]⟩)
noncomputable def di (a:Addr)(es:Array DictEntry)(n:Nat):Addr×Obj:=(a,⟨.type "dict",none,.dict es n,#[]⟩)
end Pc.Hd
end
section
namespace Fl64
noncomputable def dbl (a:Nat):Nat:=if 64<=2*a then (2*a)^^^67 else 2*a
noncomputable def A1:Nat->Nat->Nat->Nat->Nat
 |0,p,_,_=>p
 |n+1,p,d,l=>if l=0 then p else A1 n (if l%2=1 then p^^^d else p) (dbl d) (l / 2)
noncomputable def tm (a b:Nat):Nat:=A1 6 0 a b
noncomputable def allB (n:Nat)(f:Nat->Bool):Bool:=match n with
 |0=>true
 |k+1=>f k&&allB k f
end Fl64
end
section
namespace Pc
open PySem
noncomputable abbrev sI (i:Int):Slot:=some (.int i,.own)
noncomputable abbrev sN (i:Nat):Slot:=some (.int (i:Int),.own)
noncomputable def ret (f:Fl):Rs (D×Bool):=match f with
 |.rt d fr=>.ok (d,fr)
 |.nx _=>.ok (.non,true)
 |.xc e _=>.exc e
 |_=>.bad
theorem cA {fns:List Fn}{gl:Nat->D}{fuel n i:Nat}{F:Fn}{ds:List D}(h:fns[i]? = some F)(hl:ds.length=F.ps):Pc.run fns gl fuel (n+1) i ds=ret (aF ⟨Pc.run fns gl fuel n,gl,fuel⟩ F.body (aK ds F.slots)):=by
 unfold Pc.run;rw[h];dsimp only;rw[if_pos hl];rfl
theorem h9 {a m:Int}(h0:0<=a)(h1:a<m):∃ n:Nat,a=(n:Int)/\(n:Int)<m:=⟨a.toNat,by omega,by omega⟩
theorem uu {x:Int}(h0:0<=x)(h1:x<2147483648):small x=true:=bf ⟨by omega,by omega⟩
theorem lV {n k:Nat}(h:k<n):g9 n (k:Int)=some k:=by
 unfold g9;rw[if_pos (by omega),if_pos (by omega),dw]
theorem uk (env:En):lock [] env=env:=by
 unfold lock;have:∀(l:En) (k:Nat),(l.mapIdx fun i (s:Slot)=>match s with
  | some (d,.own)=>if ([]:List Nat).contains i then some (d,.lk) else some (d,.own)
  |s=>s)=l:=fun l k=>by
  rw[List.mapIdx_eq_iff];intro i;cases h:l[i]? with
  |none=>rfl
  |some s =>
   cases s with
   |none=>rfl
   |some p=>obtain⟨d,t⟩:=p;cases t<;>rfl
 exact this env 0
theorem oR (e0 env:En):unlock [] e0 env=env:=by
 unfold unlock;rw[List.mapIdx_eq_iff];intro i;cases h:env[i]? with
 |none=>rfl
 |some s =>
  cases s with
  |none=>rfl
  |some p =>
   obtain⟨d,t⟩:=p;cases t with
   |lk =>
    simp only[Option.map_some];split<;>rfl
   |own=>rfl
   |sh R=>rfl
theorem cD {T:Tb}{t:ka}{it:rQ}{b:bZ}{env e:En}{l:List D}(hit:dI T it env = .ok (l,[]))(h:bT t [] (aF T b) l env = .nx e):bI T (.forr t it b) env = .nx e:=by
 rw[bI,hit,bX];dsimp only;rw[uk,h];dsimp only;rw[oR]
noncomputable abbrev sq (M:List (List D)):D:=.lst (M.map D.lst)
noncomputable def okC:D->Bool
 |.int _=>true
 |.non=>true
 |_=>false
structure Sqr (n:Nat)(M:List (List D)):Prop where
 len:M.length=n
 row:∀ r∈M,r.length=n
 cell:∀ r∈M,∀ d∈r,okC d=true
theorem fR {l:List D}(h:D.flats l=true)(R:List Nat):eR (.lst l) R = .mv []:=by
 unfold eR;rw[if_pos];exact h
theorem fN {T:Tb}{e:Ex}{env:En}{d:D}(h:ev T e env = .ok (d,.mv [])):ret (aF T (.cons (.ret e) .nil) env) = .ok (d,true):=by
 rw[aF,bI,h,bX];rfl
theorem fP {n:Nat}(h:n<=1000):n<=lim:=bh h (by decide)
theorem wA (T:Tb)(env:En)(e:Ex)(j:Int)(r:Rt)(he:ev T e env = .ok (.int j,r))(h1:eL j=true):dI T (.rng1 e) env = .ok (aS 0 1 j.toNat,[]):=by
 rw[dI,he,aA];show (if eL j=true then Rs.ok (aS 0 1 j.toNat,[]) else .bad)=_;rw[if_pos h1]
theorem Bx {n:Nat}(h:n<=1000):eL (n:Int)=true:=by
 unfold eL;exact bf ⟨Int.le_trans (by decide) (Int.natCast_nonneg n),Int.lt_of_le_of_lt (Int.ofNat_le.mpr h) (by decide)⟩
def aN (s:Slot):Prop:=s=none\/(∃ d,s=some (d,.own))\/(∃ d,s=some (d,.sh []))\/∃ d,s=some (d,.lk)
def Tame (env:En):Prop:=∀ s∈env,aN s
theorem aP:aN none:=.inl rfl
theorem aB (d:D):aN (some (d,.own)):=.inr (.inl ⟨d,rfl⟩)
theorem dA (d:D):aN (some (d,.sh [])):=.inr (.inr (.inl ⟨d,rfl⟩))
theorem Tame.nil:Tame []:=fun _ h=>(nomatch h)
theorem Tame.cons {s:Slot}{e:En}(h:aN s)(t:Tame e):Tame (s::e):=fun x hx=>by
 rcases dz.mp hx with rfl | hx
 ·exact h
 ·exact t x hx
theorem Tame.set {e:En}{s:Slot}(t:Tame e)(h:aN s)(i:Nat):Tame (e.set i s):=fun x hx=>by
 rcases List.mem_or_eq_of_mem_set hx with q | q
 ·exact t x q
 ·rw[q];exact h
theorem gy {env:En}(h:Tame env)(i:Nat)(d:D)(t:Tg):put env i d t=env.set i (some (d,t)):=by
 unfold put;have:env.map (fun (s:Slot)=>s.map fun (p:D×Tg)=>(p.1,p.2.drop i))=env:=by
  conv=>rhs;rw[<-List.map_id env]
  refine dk fun s hs=>?_
  rcases h s hs with rfl | ⟨d,rfl⟩ | ⟨d,rfl⟩ | ⟨d,rfl⟩<;>rfl
 rw[this]
theorem qO {env:En}(h:Tame env)(R:List Nat):kill R env=env.mapIdx fun i s=>if R.contains i then none else s:=by
 unfold kill;apply List.ext_getElem?;intro i;rw[List.getElem?_mapIdx,List.getElem?_mapIdx];cases q:env[i]? with
 |none=>rfl
 |some s =>
  rcases h s (List.mem_of_getElem? q) with rfl | ⟨d,rfl⟩ | ⟨d,rfl⟩ | ⟨d,rfl⟩
  ·simp
  ·simp[gG]
  ·simp[gG]
  ·simp[gG]
theorem hV {env:En}(h:Tame env)(x:Nat)(s:Slot):(kill [x] env).set x s=env.set x s:=by
 rw[qO h];apply List.ext_getElem?;intro i;by_cases hi:i=x
 ·subst hi;by_cases hl:i<env.length
  ·rw[List.getElem?_set_self (by simpa using hl),List.getElem?_set_self hl]
  ·rw[List.getElem?_eq_none (by simp;omega),List.getElem?_eq_none (by simp;omega)]
 ·rw[List.getElem?_set_ne (da hi),List.getElem?_set_ne (da hi),List.getElem?_mapIdx];cases q:env[i]? with
  |none=>rfl
  |some s=>simp[hi]
section
variable {T:Tb}{env:En}
theorem aM {i:Nat}{e:Ex}{d:D}(ht:Tame env)(hi:i<env.length)(h:ev T e env = .ok (d,.mv [])):bI T (.asg (.nm i) e false) env = .nx (env.set i (some (d,.own))):=by
 rw[bI,h,bX];show (if i<env.length then Fl.nx (put env i d .own) else .bad)=_;rw[if_pos hi,gy ht]
theorem cO {i:Nat}{d:D}(ht:Tame env)(hi:i<env.length):aZ [] (.nm i) d env=some (env.set i (some (d,cC d []))):=by
 show (if i<env.length then some (put env i d (cC d [])) else none)=_;rw[if_pos hi,gy ht]
theorem cG {i:Nat}{d:D}(h:env[i]? = some (some (d,.own)))(hf:d.flat=false):ev T (.var i) env = .ok (d,.mv [i]):=by
 rw[ev,h];dsimp only;rw[hf];rfl
theorem aC {i:Nat}{d:D}{t:Tg}(h:env[i]? = some (some (d,t)))(hf:d.flat=true):ev T (.var i) env = .ok (d,.mv []):=by
 rw[ev,h];dsimp only;rw[if_pos hf]
theorem eZ {i:Nat}{d:D}{t:Tg}(h:env[i]? = some (some (d,t))):∃ R,ev T (.var i) env = .ok (d,R):=by
 rw[ev,h];exact⟨_,rfl⟩
theorem pj {x:Nat}{e:Ex}{xs:List D}{d:D}(ht:Tame env)(hx:env[x]? = some (some (.lst xs,.own)))(h:ev T e env = .ok (d,.mv []))(hl:xs.length+1<=lim):bI T (.mut x .none .append (.cons e .nil)) env = .nx (env.set x (some (.lst (xs ++ [d]),.own))):=by
 have ho:ownAt env x=some (.lst xs):=by unfold ownAt;rw[hx]
 have hs:bB T (.cons e .nil) env = .ok [(d,.mv [])]:=by
  rw[bB,h,aA];rfl
 rw[bI,ho];simp only[jb,bX,D.at1,hs,List.map_cons,List.map_nil,qt,aQ,Rt.roots,List.flatten_cons,List.flatten_nil,List.append_nil,List.contains_nil,Bool.false_eq_true,if_false,m7.copies,fO,cR,Option.map_some];have:(xs ++ [d]).length<=lim:=by rw[ao];exact hl
 simp only[List.nodup_nil,decide_true,fI,List.all_nil,Bool.not_false,Bool.and_self,this,if_true,D.set1,Bool.true_and];rw[hV ht]
theorem vw {x:Nat}{k e:Ex}{xs:List D}{d:D}{l:Int}{m:Nat}{R':Rt}(ht:Tame env)(hx:env[x]? = some (some (.lst xs,.own)))(hk:ev T k env = .ok (.int l,R'))(hm:Pc.g9 xs.length l=some m)(h:ev T e env = .ok (d,.mv []))(hl:xs.length<=lim) :
  bI T (.setix x .none k e) env = .nx (env.set x (some (.lst (xs.set m d),.own))):=by
 have ho:ownAt env x=some (.lst xs):=by unfold ownAt;rw[hx]
 have hll:(xs.set m d).length<=lim:=by rw[gc];exact hl
 rw[bI,ho];simp only[h,bX,jb,D.at1,hk,hm,fO,cR,Option.map_some,List.append_nil,List.nodup_nil,decide_true,fI,List.all_nil,List.contains_nil,Bool.not_false,Bool.and_self,hll,if_true,D.set1,Bool.true_and];rw[hV ht]
theorem ite_ff {c:Ex}{a:bZ}{R:Rt}(h:ev T c env = .ok (.bl false,R)):bI T (.ite c a .nil) env = .nx env:=by
 rw[bI,h,bX];rfl
theorem qy {i j:Nat}{x y:D}{R:List Nat}(ht:Tame env)(hi:i<env.length)(hj:j<env.length)(fx:x.flat=true)(fy:y.flat=true):aZ R (.tp [i,j]) (.tup [x,y]) env=some ((env.set i (some (x,.own))).set j (some (y,.own))):=by
 show bindM (fun d=>cC d R) [i,j] [x,y] env=_;have tx:cC x R = .own:=by unfold cC;rw[if_pos fx]
 have ty:cC y R = .own:=by unfold cC;rw[if_pos fy]
 simp only[bindM,hi,if_true,tx,ty];rw[gy ht,if_pos (by rw[gc];exact hj),gy (ht.set (aB x) i)]
end
end Pc
end
section
namespace Pc
end Pc
namespace Pc.Sm
open PySem Pc
noncomputable def b6:bZ:=(.cons (.ret (.bin .Mod (.bin .Mult (.bin .Add (.bin .Add (.var 0) (.bin .Mult (.var 1) (.var 1))) (.cst (.int (1)))) (.var 2)) (.cst (.int (2305843009213693951)))))
  .nil)
noncomputable def e7:Ex:=.comp 1 [] (.nm 0) (.seq (.sl (.var 0) .none (.some (.cst (.int (63)))))) .none (.bin .Mod (.var 0) (.cst (.int (1000003))))
noncomputable def b7:bZ:=(.cons (.ret (.call 6 (.cons (.blt .sum (.cons e7 .nil)) (.cons (.bin .Mod (.blt .len (.cons (.var 0) .nil)) (.cst (.int (64)))) (.cons (.var 1) .nil)))))
  .nil)
noncomputable def b8:bZ:=(.cons (.ret (.ix (.lst (.cons (.cst (.int (15))) (.cons (.cst (.int (15))) (.cons (.cst (.int (15))) (.cons (.cst (.int (19))) (.cons (.cst (.int (15))) (.cons (.cst (.int (15))) (.cons (.cst (.int (23))) (.cons (.cst (.int (15))) (.cons (.cst (.int (19))) (.cons (.cst (.int (15))) (.cons (.cst (.int (27))) (.cons (.cst (.int (15))) (.cons (.cst (.int (15))) (.cons (.cst (.int (19))) (.cons (.cst (.int (15))) (.cons (.cst (.int (31))) .nil))))))))))))))))) (.bin .Mod (.var 0) (.cst (.int (16))))))
  .nil)
noncomputable def b9c:bZ:=(.cons (.asg (.nm 1) (.bin .Mod (.bin .Mult (.bin .Add (.var 1) (.var 5)) (.cst (.int (40692)))) (.cst (.int (2147483399)))) false)
  (.cons (.mut 4 .none .append (.cons (.ix (.lst (.cons (.cst (.int (0))) (.cons (.cst (.int (1))) (.cons (.cst (.int (0))) (.cons (.cst (.int (1))) (.cons (.cst .non) .nil)))))) (.bin .Mod (.bin .FloorDiv (.var 1) (.cst (.int (7)))) (.cst (.int (5))))) .nil))
  .nil))
noncomputable def s9:St:=.mut 2 .none .append (.cons (.var 4) .nil)
noncomputable def b9r:bZ:=(.cons (.asg (.nm 4) (.lst .nil) false)
  (.cons (.forr (.nm 5) (.rng1 (.var 0)) b9c)
  (.cons s9
  .nil)))
noncomputable def b9:bZ:=(.cons (.asg (.nm 2) (.lst .nil) false)
  (.cons (.forr (.nm 3) (.rng1 (.var 0)) b9r)
  (.cons (.ret (.var 2))
  .nil)))
theorem mV (p:D×Rt):List.map (fun x:D×Rt=>x.1) [p]=[p.1]:=rfl
theorem map2 (p q:D×Rt):List.map (fun x:D×Rt=>x.1) [p,q]=[p.1,q.1]:=rfl
theorem iH {T:Tb}{f:Nat}{e1:Ex}{env:En}{d1 r:D}{R1:Rt}(h1:ev T e1 env = .ok (d1,R1))(h:T.cl f [d1] = .ok (r,true)):ev T (.call f (.cons e1 .nil)) env = .ok (r,.mv []):=by
 have:bB T (.cons e1 .nil) env = .ok [(d1,R1)]:=by
  rw[bB,h1,aA];rfl
 rw[ev,this,aA,mV,h,aA];rfl
theorem o8 {T:Tb}{f:Nat}{e1 e2:Ex}{env:En}{d1 d2 r:D}{R1 R2:Rt}(h1:ev T e1 env = .ok (d1,R1))(h2:ev T e2 env = .ok (d2,R2))(h:T.cl f [d1,d2] = .ok (r,true)):ev T (.call f (.cons e1 (.cons e2 .nil))) env = .ok (r,.mv []):=by
 have:bB T (.cons e1 (.cons e2 .nil)) env = .ok [(d1,R1),(d2,R2)]:=by
  rw[bB,h1,aA,bB,h2,aA];rfl
 rw[ev,this,aA,map2,h,aA];rfl
end Pc.Sm
end
section
namespace Fl64
def Gr (l:List Nat):Prop:=∀ g∈l,g<64
noncomputable def hor (x w:Nat)(l:List Nat):Nat:=l.foldl (fun w g=>tm w x^^^g) w
noncomputable abbrev wth (x:Nat)(l:List Nat):Nat:=hor x 0 l
noncomputable def pw (x:Nat):Nat->Nat
 |0=>1
 |n+1=>tm (pw x n) x
noncomputable def mulR (f:Nat)(l:List Nat):List Nat:=l.map fun g=>tm f g
noncomputable def vn (c:Nat):List Nat:=(List.range' 1 c).map (pw 2)
noncomputable def xS (l:List Nat)(p:Nat):List Nat->List Nat
 |[]=>l
 |g::r=>xS (l.set p (l.getD p 0^^^g)) (p+1) r
noncomputable def uj (l:List Nat)(k:Nat):List Nat->List Nat->List Nat
 |[],_=>l
 |g::a,b=>uj (xS l k (mulR g b)) (k+1) a b
noncomputable def Bg (a b:List Nat):List Nat:=uj (List.replicate (a.length+b.length - 1) 0) 0 a b
noncomputable def Cp (r:List Nat):List Nat->List Nat
 |[]=>r
 |n::ns=>Cp (Bg r [1,n]) ns
def isC (l:List Nat)(c:Nat):Prop:=∀ x∈vn c,wth x l=0
noncomputable instance (l:List Nat) (c:Nat):Decidable (isC l c):=by unfold isC;infer_instance
end Fl64
end
section
namespace Pc.Gr
open PySem Pc Pc.Sm
noncomputable abbrev gD (gs:List Nat):List D:=gs.map fun (g:Nat)=>D.int (g:Int)
noncomputable abbrev sG (gs:List Nat):Slot:=some (.lst (gD gs),.sh [])
noncomputable abbrev oG (gs:List Nat):Slot:=some (.lst (gD gs),.own)
noncomputable def qC (rp:Nat):bZ:=(.cons (.asg (.nm 1) (.call rp (.cons (.var 1) (.cons (.lst (.cons (.cst (.int (1))) (.cons (.var 2) .nil))) .nil))) false)
  .nil)
noncomputable def bRN (rp:Nat):bZ:=(.cons (.asg (.nm 1) (.lst (.cons (.cst (.int (1))) .nil)) false)
  (.cons (.forr (.nm 2) (.seq (.var 0)) (qC rp))
  (.cons (.ret (.var 1))
  .nil)))
def ud (T:Tb)(rn:Nat):Prop:=∀ ns:List Nat,Fl64.Gr ns->ns.length<=900->T.cl rn [.lst (gD ns)] = .ok (.lst (gD (Fl64.Cp [1] ns)),true)
structure CE (d:List Nat)(c:Nat)(D l:List Nat)(e:En):Prop where
 te:Tame e
 len:e.length=8
 h0:e[0]? = some (sG d)
 h2:e[2]? = some (oG D)
 h3:e[3]? = some (oG l)
end Pc.Gr
end
section
namespace Fl64
end Fl64
namespace Pc.Lw
open PySem Pc Pc.Sm Pc.Gr
def vd (T:Tb)(mx:Nat):Prop:=∀ c k:Int,∃ v:Int,0<=v/\T.cl mx [.int c,.int k] = .ok (.int v,true)
def isF (gs:List Nat)(k m:Nat):Prop:=∀ x∈(List.range' (k+1) m).map (Fl64.pw 2),Fl64.wth x gs=0
noncomputable instance (gs:List Nat) (k m:Nat):Decidable (isF gs k m):=by unfold isF;infer_instance
end Pc.Lw
end
section
namespace Fl64
noncomputable def sm:List (Nat×Nat)->Nat->Nat
 |[],_=>0
 |p::r,j=>tm p.1 (pw p.2 j)^^^sm r j
end Fl64
end
section
namespace Pc.Lw
open PySem Pc Pc.Sm Pc.Gr
noncomputable abbrev cp (i:Nat):Ex:=.blt .list (.cons (.var i) .nil)
theorem xm {T:Tb}{env:En}{a b:Ex}{d:D}{R R':Rt}(h:ev T a env = .ok (d,R))(h':ev T b env = .ok (d,R'))(he:D.eqf 40 d d=some true):ev T (.cmp .Eq a b) env = .ok (.bl true,.mv []):=by
 rw[ev,h,aA,h',aA];show (dX (D.eqf 40 d d)).bind _=_;rw[he];rfl
theorem aE {T:Tb}{env:En}(d:D):ev T (.cst d) env = .ok (d,.mv []):=by rw[ev]
theorem bO {T:Tb}{env:En}{a b:Ex}{x y:Int}{R R':Rt}(h:ev T a env = .ok (.int x,R))(h':ev T b env = .ok (.int y,R')):ev T (.bin .Add a b) env = .ok (.int (x+y),.mv []):=by
 rw[ev,h,aA,h',aA];rfl
theorem dW {T:Tb}{env:En}{a b:Ex}{x y:Int}{R R':Rt}(hy:0<y)(h:ev T a env = .ok (.int x,R))(h':ev T b env = .ok (.int y,R')):ev T (.bin .Mod a b) env = .ok (.int (x%y),.mv []):=by
 rw[ev,h,aA,h',aA,ir];have:Pc.binI .Mod x y=some (x%y):=by
  show (if 0<y then some (x%y) else none)=_;rw[if_pos hy]
 rw[this];rfl
theorem fL {T:Tb}{env:En}{a b:Ex}{x y:Int}{R R':Rt}(hy:0<y)(hy':y<1073741824)(h:ev T a env = .ok (.int x,R))(h':ev T b env = .ok (.int y,R')):ev T (.bin .FloorDiv a b) env = .ok (.int (x / y),.mv []):=by
 rw[ev,h,aA,h',aA,ir];have:Pc.binI .FloorDiv x y=some (x / y):=by
  show (if 0<y/\y<1073741824 then some (x / y) else none)=_;rw[if_pos ⟨hy,hy'⟩]
 rw[this];rfl
end Pc.Lw
end
section
namespace Pc.Nw
open PySem Pc Pc.Sm Pc.Lw Pc.Gr
theorem bK {t:ka}{R:List Nat}{b:En->Fl}{x:D}{l:List D}{e e1 e2:En}(h1:aZ R t x e=some e1)(h2:b e1 = .nx e2):bT t R b (x::l) e=bT t R b l e2:=by
 conv=>lhs;unfold bT
 rw[h1];dsimp only;rw[h2]
theorem AW {T:Tb}{env:En}{e:Ex}{m:Nat}{R:Rt}(h:ev T e env = .ok (.int (m:Int),R))(hm:m<=1000):dI T (.rng1 e) env = .ok (aS ((0:Nat):Int) 1 m,[]):=by
 rw[wA _ _ _ _ _ h (Bx hm),dw];rfl
theorem fF (k m:Nat):aS (k:Int) 1 (m+1) = .int (k:Int)::aS ((k+1:Nat):Int) 1 m:=by
 rw[aS,show (k:Int)+1=((k+1:Nat):Int) by omega]
theorem lN (n:Nat):∀ a:Nat,aS (a:Int) 1 n=(List.range n).map fun (k:Nat)=>D.int ((a+k:Nat):Int):=by
 induction n with
 |zero=>intro a;rfl
 |succ n ih =>
  intro a;rw[fF,ih,fw,aq,cv];congr 1;refine dk fun k _=>?_
  show D.int ((a+1+k:Nat):Int)=D.int ((a+(k+1):Nat):Int);rw[show a+1+k=a+(k+1) by omega]
theorem jh {T:Tb}{env:En}{e:Ex}{xs:List D}{R:Rt}(h:ev T e env = .ok (.lst xs,R)):ev T (.blt .len (.cons e .nil)) env = .ok (.int (xs.length:Int),.mv []):=by
 rw[ev,bB,bB,h,aA,aA,aA,mV];show (dX (some (D.int (xs.length:Int)))).bind _=_;rw[aU,aA,iV]
theorem tB {T:Tb}{f:Nat}{e1 e2 e3:Ex}{env:En}{d1 d2 d3 r:D}{R1 R2 R3:Rt}(h1:ev T e1 env = .ok (d1,R1))(h2:ev T e2 env = .ok (d2,R2))(h3:ev T e3 env = .ok (d3,R3))(h:T.cl f [d1,d2,d3] = .ok (r,true)):ev T (.call f (.cons e1 (.cons e2 (.cons e3 .nil)))) env = .ok (r,.mv []):=by
 rw[ev,bB,bB,bB,bB,h1,aA,h2,aA,h3,aA,aA,aA,aA,aA];show (T.cl f [d1,d2,d3]).bind _=_;rw[h];rfl
theorem gF {α:Type}{f:D->Rs (Option (D×Rt))}{g r:α->D}{c:α->Bool}:∀{l:List α},(∀ a∈l,f (g a) = .ok (if c a then some (r a,.mv []) else none))->fV f (l.map g) = .ok ((l.filter c).map fun a=>(r a,Rt.mv []))
 |[],_=>rfl
 | a::l,h=>by
  simp only[List.map_cons,fV];rw[h a ai,gF fun b hb=>h b (ah _ hb)];cases q:c a<;>simp[aA,List.filter_cons,q]
section
variable {T:Tb}{env:En}
theorem su {a b:Ex}{x y:Nat}{R R':Rt}(h:ev T a env = .ok (.int (x:Int),R))(h':ev T b env = .ok (.int (y:Int),R')):ev T (.cmp .Eq a b) env = .ok (.bl (decide (x=y)),.mv []):=by
 rw[ev,h,aA,h',aA];have:gO .Eq (.int (x:Int)) (.int (y:Int))=some (decide (x=y)):=by
  show some ((x:Int)==(y:Int))=_;congr 1;rw[Bool.eq_iff_iff,beq_iff_eq,cz];omega
 rw[this];rfl
theorem ox {a b:Ex}{x y:Nat}{R R':Rt}(h:ev T a env = .ok (.int (x:Int),R))(h':ev T b env = .ok (.int (y:Int),R')):ev T (.cmp .Lt a b) env = .ok (.bl (decide (x<y)),.mv []):=by
 rw[ev,h,aA,h',aA];have:gO .Lt (.int (x:Int)) (.int (y:Int))=some (decide (x<y)):=by
  show some (decide ((x:Int)<(y:Int)))=_;congr 1;exact decide_eq_decide.mpr (by omega)
 rw[this];rfl
theorem zk {a b:Ex}{x y:Nat}{R R':Rt}(h:ev T a env = .ok (.int (x:Int),R))(h':ev T b env = .ok (.int (y:Int),R')):ev T (.cmp .Gt a b) env = .ok (.bl (decide (y<x)),.mv []):=by
 rw[ev,h,aA,h',aA];have:gO .Gt (.int (x:Int)) (.int (y:Int))=some (decide (y<x)):=by
  show some (decide ((y:Int)<(x:Int)))=_;congr 1;exact decide_eq_decide.mpr (by omega)
 rw[this];rfl
theorem bJ {a b:Ex}{x y:Nat}{R R':Rt}(h:ev T a env = .ok (.int (x:Int),R))(h':ev T b env = .ok (.int (y:Int),R')):ev T (.bin .Add a b) env = .ok (.int ((x+y:Nat):Int),.mv []):=by
 rw[bO h h'];rfl
theorem mQ {a b:Ex}{x y:Int}{R R':Rt}(h:ev T a env = .ok (.int x,R))(h':ev T b env = .ok (.int y,R')):ev T (.bin .Sub a b) env = .ok (.int (x - y),.mv []):=by
 rw[ev,h,aA,h',aA,ir];rfl
theorem kJ {a b:Ex}{x y:Nat}{R R':Rt}(hy:y<=x)(h:ev T a env = .ok (.int (x:Int),R))(h':ev T b env = .ok (.int (y:Int),R')):ev T (.bin .Sub a b) env = .ok (.int ((x - y:Nat):Int),.mv []):=by
 rw[mQ h h',show (x:Int) - (y:Int)=((x - y:Nat):Int) by omega]
theorem hX {c:Ex}{a b:bZ}{p:Prop}[Decidable p]{R:Rt}(h:ev T c env = .ok (.bl (decide p),R)):bI T (.ite c a b) env=if p then aF T a env else aF T b env:=by
 rw[bI,h,bX];by_cases hp:p
 ·rw[bf hp,if_pos hp];rfl
 ·rw[aw hp,if_neg hp];rfl
theorem dJ:aF T .nil env = .nx env:=by rw[aF]
theorem bQ {s:St}{e:En}(h:bI T s env = .nx e):aF T (.cons s .nil) env = .nx e:=by
 rw[aF,h,aD,aF]
theorem xV {c:En->Rs Bool}{b:En->Fl}{n:Nat}{e1:En}(h:c env = .ok true)(h2:b env = .nx e1):eO c b (n+1) env=eO c b n e1:=by
 rw[eO,h,bX,if_pos rfl,h2]
theorem xM {c:En->Rs Bool}{b:En->Fl}{n:Nat}(h:c env = .ok false):eO c b (n+1) env = .nx env:=by
 rw[eO,h,bX];rfl
end
section
variable {T:Tb}{env:En}
end
theorem sC {T:Tb}{env:En}{x:Nat}{e v:Ex}{ks:List (Int×MV)}{n:Int}{dv:D}{m:MV}{R R':Rt}(ht:Tame env)(hx:env[x]? = some (some (.mpi ks,.own)))(hl:ks.length<lim)(h:ev T e env = .ok (.int n,R))(hv:ev T v env = .ok (dv,R'))(hm:Ap dv=some m):bI T (.putd x e v) env = .nx (env.set x (some (.mpi (qZ ks n m),.own))):=by
 rw[bI];have:ownAt env x=some (.mpi ks):=by unfold ownAt;rw[hx]
 rw[this];dsimp only;rw[hv,bX,h,bX];dsimp only[tw];rw[if_pos hl,hm];dsimp only[Option.map];rw[hV ht]
theorem wG {T:Tb}{env:En}{x:Nat}{ks:List (Int×MV)}(hx:env[x]? = some (some (.mpi ks,.own)))(hl:ks.length<=lim):dI T (.seq (.blt .list (.cons (.var x) .nil))) env = .ok ((ks.map (·.1)).map D.int,[]):=by
 have e1:ev T (.var x) env = .ok (.mpi ks,.mv [x]):=by
  rw[ev,hx];rfl
 have e2:kC .list [.mpi ks]=some (.lst ((ks.map (·.1)).map D.int)):=by
  show (if ks.length<=lim then some (D.lst (ks.map fun q=>D.int q.1)) else none)=_;rw[if_pos hl,cv];rfl
 rw[dI,ev,bB,e1,aA,bB,aA,aA,mV,e2,aU,aA,oM,aA];rfl
end Pc.Nw
end
section
namespace Pc.Fr
open PySem Pc Pc.Sm Pc.Lw Pc.Gr Pc.Nw
noncomputable abbrev pD (p:Int×Int):D:=.tup [.int p.1,.int p.2]
noncomputable def cnt (s t:Int):Nat:=((if s<t+3 then s else t+3) - t).toNat
noncomputable abbrev Tr:=Int×Int×Int
noncomputable abbrev iD (l:List Int):List D:=l.map D.int
noncomputable def wr (M:List (List Int))(t:Tr):List (List Int):=M.set t.1.toNat ((M.getD t.1.toNat []).set t.2.1.toNat t.2.2)
structure Rect (n:Nat)(M:List (List Int)):Prop where
 len:M.length=n
 row:∀ r∈M,r.length=n
noncomputable def zero (n:Nat):List (List Int):=List.replicate n (List.replicate n 0)
theorem qc {T:Tb}{env:En}{a b c:Ex}{x y z:D}(ha:ev T a env = .ok (x,.mv []))(hb:ev T b env = .ok (y,.mv []))(hc:ev T c env = .ok (z,.mv [])):ev T (.tup (.cons a (.cons b (.cons c .nil)))) env = .ok (.tup [x,y,z],.mv []):=by
 rw[ev,bB,bB,bB,bB,ha,aA,hb,aA,hc,aA,aA,aA,aA,aA];rfl
section
variable {T:Tb}{env:En}
theorem fG {a b:Ex}{i j:Int}{R R':Rt}(hs:(small i || small j)=true)(ha:ev T a env = .ok (.int i,R))(hb:ev T b env = .ok (.int j,R')):ev T (.bin .Mult a b) env = .ok (.int (i*j),.mv []):=by
 rw[ev,ha,aA,hb,aA,ir];simp only[Pc.binI,hs,if_true,Option.map_some,aU,aA,iV]
end
end Pc.Fr
end
section
namespace Pc.Ct
open PySem Pc Pc.Sm Pc.Lw Pc.Gr Pc.Nw
noncomputable def tx (l:List Nat):Str:=⟨l.toArray⟩
theorem jR (l:List Nat):(tx l).length=l.length:=by simp[tx,Str.length]
theorem ot (a b:List Nat):tx a++tx b=tx (a++b):=by
 show (⟨a.toArray++b.toArray⟩:Str)=⟨(a++b).toArray⟩;rw[List.append_toArray]
theorem vx {cs:List Nat}(h:cs.length<=1000):(tx cs).length<=lim:=by rw[jR];exact fP h
noncomputable abbrev sT (cs:List Nat):Slot:=some (.str (tx cs),.own)
theorem Ci {cs:List Nat}(hl:cs.length<=1000){i c:Nat}(h:cs[i]? = some c):pq (.str (tx cs)) (.int (i:Int))=some (.str (tx [c])):=by
 have hj:i<cs.length:=(List.getElem?_eq_some_iff.mp h).1;show (if (tx cs).length<=lim then ((Pc.g9 (tx cs).cps.toList.length (i:Int)).bind fun j=>(tx cs).cps.toList[j]?).map fun c=>D.str ⟨#[c]⟩ else none)=_;rw[if_pos (vx hl)];show ((Pc.g9 cs.length (i:Int)).bind fun j=>cs[j]?).map _=_;rw[lV hj];show (cs[i]?).map _=_;rw[h];rfl
theorem Ab {a b:List Nat}(h:a.length+b.length<=1000):eI .Add (.str (tx a)) (.str (tx b))=some (.str (tx (a++b))):=by
 show ck ((tx a).length+(tx b).length) (.str (tx a++tx b))=_;unfold ck;rw[if_pos (by rw[jR,jR];exact fP h),ot]
theorem mj {T:Tb}{env:En}{a b:Ex}{x y:List Nat}{R R':Rt}(ha:ev T a env = .ok (.str (tx x),R))(hb:ev T b env = .ok (.str (tx y),R'))(h:x.length+y.length<=1000):ev T (.bin .Add a b) env = .ok (.str (tx (x++y)),.mv []):=by
 rw[ev,ha,aA,hb,aA,Ab h];rfl
theorem tM {T:Tb}{env:En}{a b:Ex}{cs:List Nat}{i c:Nat}{R R':Rt}(hl:cs.length<=1000)(ha:ev T a env = .ok (.str (tx cs),R))(hb:ev T b env = .ok (.int (i:Int),R'))(h:cs[i]? = some c):ev T (.ix a b) env = .ok (.str (tx [c]),.mv []):=by
 rw[ev,ha,aA,hb,aA,Ci hl h];rfl
theorem dS {T:Tb}{env:En}{e:Ex}{cs:List Nat}{R:Rt}(hl:cs.length<=1000)(h:ev T e env = .ok (.str (tx cs),R)):ev T (.blt .len (.cons e .nil)) env = .ok (.int (cs.length:Int),.mv []):=by
 rw[ev,bB,bB,h,aA,aA,aA,mV];have:kC .len [.str (tx cs)]=some (.int (cs.length:Int)):=by
  show (if (tx cs).length<=lim then some (D.int ((tx cs).length:Int)) else none)=_;rw[if_pos (vx hl),jR]
 dsimp only;rw[this,aU,aA,iV]
theorem nP (cs:List Nat)(n:Nat):cut cs none (some (n:Int))=cs.take n:=by
 unfold cut bE;simp only[List.drop_zero,Nat.sub_zero];rw[if_neg (by omega),dw];by_cases h:n<=cs.length
 ·rw[de h]
 ·rw[Nat.min_eq_right (by omega),e9 (av _),e9 (by omega)]
theorem jf (n d v:Nat):bE n d (some (v:Int))=min v n:=by
 unfold bE;dsimp only;rw[if_neg (by omega),dw]
theorem nF (cs:List Nat)(n:Nat):cut cs (some (n:Int)) none=cs.drop n:=by
 unfold cut;rw[jf];show (cs.drop (min n cs.length)).take (cs.length - min n cs.length)=_;by_cases h:n<=cs.length
 ·rw[de h];exact List.take_of_length_le (by simp)
 ·rw[Nat.min_eq_right (by omega),Nat.sub_self,List.take_zero,List.drop_of_length_le (l:=cs) (i:=n) (by omega)]
theorem wU (cs:List Nat)(s n:Nat)(h:s+n<=cs.length):cut cs (some (s:Int)) (some ((s+n:Nat):Int))=(cs.drop s).take n:=by
 unfold cut;rw[jf,jf];show (cs.drop (min s cs.length)).take (min (s+n) cs.length - min s cs.length)=_;rw[de (show s<=cs.length by omega),de h,Nat.add_sub_cancel_left]
theorem iM {T:Tb}{env:En}{a:Ex}{lo hi:j8}{cs r:List Nat}{l h:Option Int}{R:Rt}(hl:cs.length<=1000)(ha:ev T a env = .ok (.str (tx cs),R))(e1:jb T lo env = .ok l)(e2:jb T hi env = .ok h)(hr:cut cs l h=r):ev T (.sl a lo hi) env = .ok (.str (tx r),.mv []):=by
 have:slD (.str (tx cs)) l h=some (.str (tx r)):=by
  show (if (tx cs).length<=lim then some (D.str ⟨(cut cs l h).toArray⟩) else none)=_;rw[if_pos (vx hl),hr];rfl
 rw[ev,ha,aA,e1,aA,e2,aA,this];rfl
theorem dC {T:Tb}{env:En}{e:Ex}{i:Int}{R:Rt}(h:ev T e env = .ok (.int i,R)):jb T (.some e) env = .ok (some i):=by
 rw[jb,h];rfl
theorem eS {T:Tb}{env:En}:jb T .none env = .ok none:=by rw[jb]
theorem vz {T:Tb}{env:En}{x:Nat}{e:Ex}{xs ys:List D}(ht:Tame env)(hx:env[x]? = some (some (.lst xs,.own)))(h:ev T e env = .ok (.lst ys,.mv []))(hf:D.flats ys=true)(hl:xs.length+ys.length<=lim):bI T (.mut x .none .extend (.cons e .nil)) env = .nx (env.set x (some (.lst (xs++ys),.own))):=by
 have ho:ownAt env x=some (.lst xs):=by unfold ownAt;rw[hx]
 have hs:bB T (.cons e .nil) env = .ok [(.lst ys,.mv [])]:=by
  rw[bB,h,aA];rfl
 rw[bI,ho];simp only[jb,bX,D.at1,hs,List.map_cons,List.map_nil,qt,hf,aQ,Rt.roots,List.flatten_cons,List.flatten_nil,List.append_nil,List.contains_nil,Bool.false_eq_true,if_false,if_true,m7.copies,fO,cR,Option.map_some];have:(xs++ys).length<=lim:=by rw[ao];exact hl
 simp only[List.nodup_nil,decide_true,fI,List.all_nil,Bool.not_false,Bool.and_self,this,if_true,D.set1,Bool.true_and];rw[hV ht]
theorem cU {T:Tb}{env:En}{a b:Ex}{ds:List D}{i:Nat}{d:D}{R R':Rt}(ha:ev T a env = .ok (.tup ds,R))(hb:ev T b env = .ok (.int (i:Int),R'))(h:ds[i]? = some d)(hf:d.flat=true):ev T (.ix a b) env = .ok (d,.mv []):=by
 have:pq (.tup ds) (.int (i:Int))=some d:=by
  show (Pc.g9 ds.length (i:Int)).bind (fun j=>ds[j]?)=_;rw[lV (List.getElem?_eq_some_iff.mp h).1];exact h
 rw[ev,ha,aA,hb,aA,this,aU,aA];unfold mo;rw[if_pos hf]
theorem iT {T:Tb}{env:En}{a b:Ex}{ds:List D}{i:Nat}{d:D}{R R':Rt}(ha:ev T a env = .ok (.lst ds,R))(hb:ev T b env = .ok (.int (i:Int),R'))(h:ds[i]? = some d)(hf:d.flat=true):ev T (.ix a b) env = .ok (d,.mv []):=by
 have:pq (.lst ds) (.int (i:Int))=some d:=by
  show (Pc.g9 ds.length (i:Int)).bind (fun j=>ds[j]?)=_;rw[lV (List.getElem?_eq_some_iff.mp h).1];exact h
 rw[ev,ha,aA,hb,aA,this,aU,aA];unfold mo;rw[if_pos hf]
theorem ph {T:Tb}{env:En}{a b c d:Ex}{x y z u:D}(ha:ev T a env = .ok (x,.mv []))(hb:ev T b env = .ok (y,.mv []))(hc:ev T c env = .ok (z,.mv []))(hd:ev T d env = .ok (u,.mv [])):ev T (.tup (.cons a (.cons b (.cons c (.cons d .nil))))) env = .ok (.tup [x,y,z,u],.mv []):=by
 rw[ev,bB,ha,aA,bB,hb,aA,bB,hc,aA,bB,hd,aA,bB,aA,aA,aA,aA,aA];rfl
theorem hJ {T:Tb}{env:En}{a b:Ex}{x y:D}(ha:ev T a env = .ok (x,.mv []))(hb:ev T b env = .ok (y,.mv [])):ev T (.tup (.cons a (.cons b .nil))) env = .ok (.tup [x,y],.mv []):=by
 rw[ev,bB,ha,aA,bB,hb,aA,bB,aA,aA,aA];rfl
theorem cX {T:Tb}{env:En}{k:Nat}{d:D}(h:T.gl k=d):ev T (.glb k) env = .ok (d,.mv []):=by rw[ev,h]
noncomputable def s1:Str:="0123456789"
noncomputable def s2:Str:=" ABCDEFGHIJKLMNOPQRSTUVWXYZ.,-:/"
noncomputable def s3:Str:=" !\"#$&'()*+,-./0123456789:;<=>?@ABCDEFGHIJKLMNOPQRSTUVWXYZ[\\]^_`abcdefghijklmnopqrstuvwxyz{|}~"
noncomputable def KS:Nat->Str
 |1=>s1
 |2=>s2
 |3=>s3
 |_=>⟨#[]⟩
noncomputable def kn (k:Nat):List Nat:=(KS k).cps.toList
noncomputable def eD (k c:Nat):Bool:=(kn k).contains c
theorem Bk (k:Nat):KS k=tx (kn k):=rfl
theorem lT:∀ c,c<128->∀ k,k<4->Bw (tx [c]) (KS k)=eD k c:=by decide +kernel
theorem yb:(kn 1).length=10/\(kn 2).length=32/\(kn 3).length=94:=by decide +kernel
theorem zY:∀ k,k<4->∀ c∈kn k,c<127:=by decide +kernel
theorem yr:∀ k,k<4->∀ c∈kn k,eD 3 c=true:=by decide +kernel
noncomputable def G:Nat->D
 |0=>.int 1
 |1=>.int 2
 |2=>.int 3
 |3=>.tup [.str ⟨#[]⟩,.str s1,.str s2,.str s3]
 |4=>.tup [.int 0,.int 0,.int 5,.int 7]
 |5=>.int 2
 |6=>.int 6
 |7=>.int 64
 |8=>.tup [.int 0,.int 4,.int 7,.int 10]
 |9=>.int 3
 |_=>.non
def GL (T:Tb):Prop:=∀ i,i<10->T.gl i=G i
noncomputable def bPL:bZ:=(.cons (.asg (.nm 2) (.bin .Add (.glb 5) (.glb 6)) false)
  (.cons (.ite (.cmp .Eq (.var 0) (.glb 0)) (.cons (.ret (.bin .Add (.bin .Add (.var 2) (.bin .Mult (.ix (.glb 8) (.glb 9)) (.bin .FloorDiv (.var 1) (.glb 9)))) (.ix (.glb 8) (.bin .Mod (.var 1) (.glb 9)))))
  .nil) .nil)
  (.cons (.ret (.bin .Add (.var 2) (.bin .Mult (.ix (.glb 4) (.var 0)) (.var 1))))
  .nil)))
noncomputable def fb (m:Nat):Nat:=if m=0 then 0 else 3*m+1
noncomputable def dG (k c:Nat):Nat:=if k=1 then 8+10*(c / 3)+fb (c%3) else 8+(if k=2 then 5 else 7)*c
theorem Bt {T:Tb}(hg:GL T){k c:Nat}(h1:1<=k)(h3:k<=3)(hc:c<=1000):ret (aF T bPL (aK [.int (k:Int),.int (c:Int)] 3)) = .ok (.int ((dG k c:Nat):Int),true):=by
 have te:∀ o,aN o->Tame [sN k,sN c,o]:=fun o h=>.cons (aB _) (.cons (aB _) (.cons h .nil))
 have g1:bI T (.asg (.nm 2) (.bin .Add (.glb 5) (.glb 6)) false) [sN k,sN c,none] = .nx [sN k,sN c,sI 8] :=
  aM (te _ aP) (show (2:Nat)<3 by decide) (bO (cX (hg 5 (by decide))) (cX (hg 6 (by decide))))
 have hst:aK [.int (k:Int),.int (c:Int)] 3=[sN k,sN c,none]:=rfl;rw[hst];unfold bPL;rw[aF,g1,aD,aF];have ec:ev T (.cmp .Eq (.var 0) (.glb 0)) [sN k,sN c,sI 8] = .ok (.bl (decide (k=1)),.mv []):=su (x:=k) (y:=1) (aC rfl rfl) (cX (hg 0 (by decide)));rw[hX ec];by_cases hk:k=1
 ·rw[if_pos hk];have e1:ev T (.ix (.glb 8) (.glb 9)) [sN k,sN c,sI 8] = .ok (.int 10,.mv []):=cU (i:=3) (cX (hg 8 (by decide))) (cX (hg 9 (by decide))) rfl rfl;have e2:ev T (.bin .FloorDiv (.var 1) (.glb 9)) [sN k,sN c,sI 8] = .ok (.int ((c:Int) / 3),.mv []):=fL (by decide) (by decide) (aC rfl rfl) (cX (hg 9 (by decide)));have e3:ev T (.bin .Mod (.var 1) (.glb 9)) [sN k,sN c,sI 8] = .ok (.int (((c%3:Nat):Int)),.mv []):=by
   rw[Int.natCast_emod];exact dW (by decide) (aC rfl rfl) (cX (hg 9 (by decide)))
  have e4:ev T (.ix (.glb 8) (.bin .Mod (.var 1) (.glb 9))) [sN k,sN c,sI 8] = .ok (.int ((fb (c%3):Nat):Int),.mv []):=by
   refine cU (i:=c%3) (cX (hg 8 (by decide))) e3 ?_ rfl;have:c%3<3:=Nat.mod_lt _ (by decide)
   match c%3,this with
   |0,_=>rfl
   |1,_=>rfl
   |2,_=>rfl
  have e5:=Fr.fG (T:=T) (show (small 10 || small ((c:Int) / 3))=true by rw[show small 10=true by decide];rfl) e1 e2;have e6:=bO (bO (aC (T:=T) (env:=[sN k,sN c,sI 8]) (i:=2) (d:=.int 8) (t:=.own) rfl rfl) e5) e4;rw[aF,bI,e6];have:(8:Int)+10*((c:Int) / 3)+((fb (c%3):Nat):Int)=((dG k c:Nat):Int):=by
   unfold dG;rw[if_pos hk];omega
  rw[this];rfl
 ·rw[if_neg hk,dJ,aD];have e1:ev T (.ix (.glb 4) (.var 0)) [sN k,sN c,sI 8] = .ok (.int (((if k=2 then 5 else 7:Nat):Int)),.mv []):=by
   refine cU (i:=k) (cX (hg 4 (by decide))) (aC rfl rfl) ?_ rfl;have:k=2\/k=3:=by omega
   rcases this with rfl | rfl<;>rfl
  have e5:=Fr.fG (T:=T) (show (small (((if k=2 then 5 else 7:Nat):Int)) || small (c:Int))=true by rw[show small (((if k=2 then 5 else 7:Nat):Int))=true by split<;>decide];rfl) e1 (aC (i:=1) rfl rfl);have e6:=bO (aC (T:=T) (env:=[sN k,sN c,sI 8]) (i:=2) (d:=.int 8) (t:=.own) rfl rfl) e5;have:(8:Int)+((if k=2 then 5 else 7:Nat):Int)*(c:Int)=((dG k c:Nat):Int):=by
   unfold dG;rw[if_neg hk]
   push_cast
   rfl
  rw[this] at e6;exact fN e6
def xw (T:Tb):Prop:=∀ k c:Nat,1<=k->k<=3->c<=1000->T.cl 0 [.int (k:Int),.int (c:Int)] = .ok (.int ((dG k c:Nat):Int),true)
noncomputable abbrev Q4:=Nat×Nat×Nat×Nat
noncomputable def q4 (q:Q4):D:=.tup [.int (q.1:Int),.int (q.2.1:Int),.int (q.2.2.1:Int),.int (q.2.2.2:Int)]
theorem qh (q:Q4):(q4 q).flat=true:=rfl
theorem jC:∀ l:List Q4,D.flats (l.map q4)=true
 |[]=>rfl
 | q::l=>by
  show ((q4 q).flat&&D.flats (l.map q4))=true;rw[jC l];rfl
noncomputable def qs (l:List Q4):D:=.lst (l.map q4)
noncomputable def vA:bZ:=(.cons (.asg (.nm 6) (.ix (.var 0) (.bin .Add (.var 1) (.var 5))) false)
  (.cons (.mut 4 .none .append (.cons (.tup (.cons (.bin .Add (.call 0 (.cons (.var 2) (.cons (.var 5) .nil))) (.ix (.var 6) (.cst (.int (0))))) (.cons (.bin .Add (.cst (.int (1))) (.ix (.var 6) (.cst (.int (1))))) (.cons (.var 2) (.cons (.var 5) .nil))))) .nil))
  .nil))
noncomputable def bCK:bZ:=(.cons (.asg (.nm 4) (.lst .nil) false)
  (.cons (.forr (.nm 5) (.rng2 (.cst (.int (1))) (.bin .Add (.blt .min2 (.cons (.var 3) (.cons (.glb 7) .nil))) (.cst (.int (1))))) vA)
  (.cons (.ret (.var 4))
  .nil)))
noncomputable abbrev EK (B:List Q4)(s k r:Nat)(ch:List Q4)(a5 a6:Slot):En:=[some (qs B,.sh []),sN s,sN k,sN r,some (qs ch,.own),a5,a6]
theorem ma {B:List Q4}{s k r:Nat}{ch:List Q4}{a5 a6:Slot}(h5:aN a5)(h6:aN a6):Tame (EK B s k r ch a5 a6):=.cons (dA _) (.cons (aB _) (.cons (aB _) (.cons (aB _) (.cons (aB _) (.cons h5 (.cons h6 .nil))))))
noncomputable def one (k c:Nat)(q:Q4):Q4:=(dG k c+q.1,1+q.2.1,k,c)
theorem B1 {T:Tb}(hp:xw T){B:List Q4}{s k r c:Nat}{ch:List Q4}{q:Q4}{a6:Slot}(h6:aN a6)(h1:1<=k)(h3:k<=3)(hc:c<=64)(hch:ch.length<=900)(hq:B[s+c]? = some q) :
  aF T vA (EK B s k r ch (sN c) a6) = .nx (EK B s k r (ch ++ [one k c q]) (sN c) (some (q4 q,.own))):=by
 have v0:∃ R,ev T (.var 0) (EK B s k r ch (sN c) a6) = .ok (qs B,R):=eZ rfl;obtain⟨R,v0⟩:=v0;have e1:ev T (.bin .Add (.var 1) (.var 5)) (EK B s k r ch (sN c) a6) = .ok (.int ((s+c:Nat):Int),.mv []):=bJ (aC rfl rfl) (aC rfl rfl);have e2:=iT v0 e1 (by rw[List.getElem?_map,hq];rfl) (qh q);have g1:bI T (.asg (.nm 6) (.ix (.var 0) (.bin .Add (.var 1) (.var 5))) false) (EK B s k r ch (sN c) a6) = .nx (EK B s k r ch (sN c) (some (q4 q,.own))):=aM (ma (aB _) h6) (show (6:Nat)<7 by decide) e2;have v6:ev T (.var 6) (EK B s k r ch (sN c) (some (q4 q,.own))) = .ok (q4 q,.mv []):=aC rfl rfl;have f0:ev T (.ix (.var 6) (.cst (.int (0)))) (EK B s k r ch (sN c) (some (q4 q,.own))) = .ok (.int (q.1:Int),.mv []):=cU (i:=0) v6 (aE _) rfl rfl;have f1:ev T (.ix (.var 6) (.cst (.int (1)))) (EK B s k r ch (sN c) (some (q4 q,.own))) = .ok (.int (q.2.1:Int),.mv []):=cU (i:=1) v6 (aE _) rfl rfl;have f2:ev T (.call 0 (.cons (.var 2) (.cons (.var 5) .nil))) (EK B s k r ch (sN c) (some (q4 q,.own))) = .ok (.int ((dG k c:Nat):Int),.mv []):=o8 (aC rfl rfl) (aC rfl rfl) (hp k c h1 h3 (by omega));have f3:ev T (.bin .Add (.call 0 (.cons (.var 2) (.cons (.var 5) .nil))) (.ix (.var 6) (.cst (.int (0))))) (EK B s k r ch (sN c) (some (q4 q,.own))) = .ok (.int ((dG k c+q.1:Nat):Int),.mv []):=bJ f2 f0;have f4:ev T (.bin .Add (.cst (.int (1))) (.ix (.var 6) (.cst (.int (1))))) (EK B s k r ch (sN c) (some (q4 q,.own))) = .ok (.int ((1+q.2.1:Nat):Int),.mv []):=bJ (x:=1) (aE _) f1;have f5:=ph f3 f4 (aC (T:=T) (env:=EK B s k r ch (sN c) (some (q4 q,.own))) (i:=2) (d:=.int (k:Int)) (t:=.own) rfl rfl) (aC (i:=5) (d:=.int (c:Int)) (t:=.own) rfl rfl);have g2:=pj (x:=4) (xs:=ch.map q4) (ma (B:=B) (s:=s) (k:=k) (r:=r) (ch:=ch) (aB (.int (c:Int))) (aB (q4 q))) rfl f5 (by rw[ag];exact fP (by omega));have g2:bI T (.mut 4 .none .append (.cons (.tup (.cons (.bin .Add (.call 0 (.cons (.var 2) (.cons (.var 5) .nil))) (.ix (.var 6) (.cst (.int (0))))) (.cons (.bin .Add (.cst (.int (1))) (.ix (.var 6) (.cst (.int (1))))) (.cons (.var 2) (.cons (.var 5) .nil))))) .nil)) (EK B s k r ch (sN c) (some (q4 q,.own))) = .nx (EK B s k r (ch ++ [one k c q]) (sN c) (some (q4 q,.own))):=by
  rw[g2];show Fl.nx (EK B s k r ch (sN c) (some (q4 q,.own)) |>.set 4 (some (.lst (ch.map q4 ++ [q4 (one k c q)]),.own)))=_;rw[show ch.map q4 ++ [q4 (one k c q)]=(ch ++ [one k c q]).map q4 by rw[df];rfl];rfl
 unfold vA;rw[aF,g1,aD,aF,g2,aD,aF]
noncomputable def oC (k:Nat)(B:List Q4)(s m:Nat):List Q4:=(List.range m).map fun j=>one k (j+1) (B.getD (s+(j+1)) (0,0,0,0))
theorem jg (k:Nat)(B:List Q4)(s m:Nat):(oC k B s m).length=m:=by unfold oC;rw[ag,f6]
theorem pT {T:Tb}(hp:xw T){B:List Q4}{s k r:Nat}(h1:1<=k)(h3:k<=3):∀(m c0:Nat) (ch:List Q4) (a5 a6:Slot),aN a5->aN a6->c0+m<=64->ch.length+m<=900->s+(c0+m)<B.length ->
  ∃ b5 b6,aN b5/\aN b6/\bT (.nm 5) [] (aF T vA) (aS ((c0+1:Nat):Int) 1 m) (EK B s k r ch a5 a6) = .nx (EK B s k r (ch++(List.range m).map fun j=>one k (c0+j+1) (B.getD (s+(c0+j+1)) (0,0,0,0))) b5 b6)
 |0,c0,ch,a5,a6,t5,t6,_,_,_=>⟨a5,a6,t5,t6,by rw[List.range_zero,fe,ay];rfl⟩
 | m+1,c0,ch,a5,a6,t5,t6,hc,hl,hB=>by
  have hq:B[s+(c0+1)]? = some (B.getD (s+(c0+1)) (0,0,0,0)):=by
   have hi:s+(c0+1)<B.length:=by omega
   rw[List.getD_eq_getElem?_getD,List.getElem?_eq_getElem hi];rfl
  have st:=B1 hp (a6:=a6) (r:=r) t6 h1 h3 (show c0+1<=64 by omega) (show ch.length<=900 by omega) hq;have hb:aZ [] (.nm 5) (.int ((c0+1:Nat):Int)) (EK B s k r ch a5 a6)=some (EK B s k r ch (sN (c0+1)) a6):=cO (ma t5 t6) (show (5:Nat)<7 by decide);obtain⟨b5,b6,u5,u6,q⟩:=pT hp (B:=B) (s:=s) (k:=k) (r:=r) h1 h3 m (c0+1) (ch ++ [one k (c0+1) (B.getD (s+(c0+1)) (0,0,0,0))]) (sN (c0+1)) (some (q4 (B.getD (s+(c0+1)) (0,0,0,0)),.own)) (aB _) (aB _) (by omega) (by rw[ao,c7];omega) (by omega);refine⟨b5,b6,u5,u6,?_⟩;have el:((List.range m).map fun j=>one k (c0+1+j+1) (B.getD (s+(c0+1+j+1)) (0,0,0,0)))=(List.range m).map ((fun j=>one k (c0+j+1) (B.getD (s+(c0+j+1)) (0,0,0,0)))∘Nat.succ):=dk fun j _=>by
   show one k (c0+1+j+1) _=one k (c0+(j+1)+1) _;rw[show c0+1+j+1=c0+(j+1)+1 by omega]
  rw[fF,bK hb st,q,fw,aq,cv,du,el];rfl
theorem pS {T:Tb}{env:En}{e1 e2:Ex}{m:Nat}{R R':Rt}(hm:m<=1000)(h1:ev T e1 env = .ok (.int 1,R))(h2:ev T e2 env = .ok (.int ((m+1:Nat):Int),R')):dI T (.rng2 e1 e2) env = .ok (aS ((0+1:Nat):Int) 1 m,[]):=by
 rw[dI,h1,aA,h2,aA];dsimp only;rw[show eL 1=true by decide,show eL ((m+1:Nat):Int)=true by unfold eL;exact bf ⟨by omega,by omega⟩,show (((m+1:Nat):Int) - 1).toNat=m by omega];rfl
theorem BZ {T:Tb}(hg:GL T)(hp:xw T){B:List Q4}{s k r:Nat}(h1:1<=k)(h3:k<=3)(hB:s+min r 64<B.length):ret (aF T bCK (aK [qs B,.int (s:Int),.int (k:Int),.int (r:Int)] 7)) = .ok (qs (oC k B s (min r 64)),true):=by
 have hst:aK [qs B,.int (s:Int),.int (k:Int),.int (r:Int)] 7=[some (qs B,.sh []),sN s,sN k,sN r,none,none,none]:=rfl;have t0:Tame [some (qs B,.sh []),sN s,sN k,sN r,none,none,none]:=.cons (dA _) (.cons (aB _) (.cons (aB _) (.cons (aB _) (.cons aP (.cons aP (.cons aP .nil))))));have g1:bI T (.asg (.nm 4) (.lst .nil) false) [some (qs B,.sh []),sN s,sN k,sN r,none,none,none] = .nx (EK B s k r [] none none):=aM t0 (show (4:Nat)<7 by decide) (by rw[ev,bB];rfl);obtain⟨b5,b6,u5,u6,q⟩:=pT hp (B:=B) (s:=s) (k:=k) (r:=r) h1 h3 (min r 64) 0 [] none none aP aP (by omega) (by rw[bj];omega) (by omega);have em:ev T (.blt .min2 (.cons (.var 3) (.cons (.glb 7) .nil))) (EK B s k r [] none none) = .ok (.int ((min r 64:Nat):Int),.mv []):=by
  rw[ev,bB,aC (d:=.int (r:Int)) (t:=.own) rfl rfl,aA,bB,cX (hg 7 (by decide)),aA,bB,aA,aA,aA];show (dX (some (D.int (if (64:Int)<(r:Int) then 64 else (r:Int))))).bind _=_;have:(if (64:Int)<(r:Int) then 64 else (r:Int))=((min r 64:Nat):Int):=by split<;>omega
  rw[this,aU,aA];rfl
 have hit:dI T (.rng2 (.cst (.int (1))) (.bin .Add (.blt .min2 (.cons (.var 3) (.cons (.glb 7) .nil))) (.cst (.int (1))))) (EK B s k r [] none none) = .ok (aS ((0+1:Nat):Int) 1 (min r 64),[]) :=
  pS (by omega) (aE _) (bJ (y:=1) em (aE _))
 have g2:=cD hit q;rw[hst];unfold bCK;rw[aF,g1,aD,aF,g2,aD,aF,bI,cG (d:=.lst ((oC k B s (min r 64)).map q4)) ?_ rfl]
 ·rfl
 ·show some (some (D.lst _,Tg.own))=_;rw[fm];congr 4;unfold oC;congr 1;refine dk fun j _=>?_
  rw[Nat.zero_add]
def u9 (T:Tb):Prop:=∀(B:List Q4) (s k r:Nat),1<=k->k<=3->s+min r 64<B.length->T.cl 4 [qs B,.int (s:Int),.int (k:Int),.int (r:Int)] = .ok (qs (oC k B s (min r 64)),true)
noncomputable abbrev z4:Q4:=(0,0,0,0)
noncomputable def k4 (q:Q4):List Int:=[(q.1:Int),(q.2.1:Int),(q.2.2.1:Int),(q.2.2.2:Int)]
noncomputable def vj (l:List Q4):Q4:=l.getD (bY (fun i j=>gP ((l.map k4).getD i []) ((l.map k4).getD j [])) (l.length - 1) 1 0) z4
theorem eM (lt:Nat->Nat->Bool):∀(k j m N:Nat),m<N->j+k<=N->bY lt k j m<N
 |0,j,m,N,h,_=>h
 | k+1,j,m,N,h,h2=>by
  unfold bY;refine eM lt k (j+1) _ N ?_ (by omega);split<;>omega
theorem pE {l:List Q4}(h:l≠[]):vj l∈l:=by
 have h0:0<l.length:=List.length_pos_iff.mpr h;have hi:=eM (fun i j=>gP ((l.map k4).getD i []) ((l.map k4).getD j [])) (l.length - 1) 1 0 l.length h0 (by omega);unfold vj;rw[List.getD_eq_getElem?_getD,List.getElem?_eq_getElem hi];exact e8 hi
theorem uO:∀ l:List Q4,iY (l.map q4)=some (l.map k4)
 |[]=>rfl
 | q::l=>by
  show (fB [.int (q.1:Int),.int (q.2.1:Int),.int (q.2.2.1:Int),.int (q.2.2.2:Int)]).bind (fun k=>if k.isEmpty then none else (iY (l.map q4)).map (k :: ·))=_;rw[uO l];rfl
theorem Cm {l:List Q4}(h:l≠[]):minD (l.map q4)=some (q4 (vj l)):=by
 have h0:0<l.length:=List.length_pos_iff.mpr h;unfold minD;rw[if_neg (by rw[List.isEmpty_iff];simpa using h)];have hk:fB (l.map q4)=none:=by
  cases l with
  |nil=>exact absurd rfl h
  |cons q l=>rfl
 rw[hk];show (iY (l.map q4)).bind _=_;rw[uO];show (l.map q4)[_]? = _;rw[ag,List.getElem?_map];have hi:=eM (fun i j=>gP ((l.map k4).getD i []) ((l.map k4).getD j [])) (l.length - 1) 1 0 l.length h0 (by omega);unfold vj;rw[List.getD_eq_getElem?_getD,List.getElem?_eq_getElem hi];rfl
noncomputable def rn (k:Nat):List Nat->Nat
 |[]=>0
 |c::r=>if eD k c then rn k r+1 else 0
theorem i8 (k:Nat):∀ t:List Nat,rn k t<=t.length
 |[]=>av _
 | c::r=>by
  have:=i8 k r;unfold rn;rw[aj];split<;>omega
noncomputable def nN (k:Nat)(C:List Q4)(m:Nat):List Q4:=(List.range m).map fun j=>one k (j+1) (C.getD j z4)
theorem gH (k:Nat)(C:List Q4)(m:Nat):(nN k C m).length=m:=by unfold nN;rw[ag,f6]
noncomputable def kE (t:List Nat)(C:List Q4):List Q4:=nN 1 C (min (rn 1 t) 64)++nN 2 C (min (rn 2 t) 64)++nN 3 C (min (rn 3 t) 64)
noncomputable def bc:List Nat->List Q4
 |[]=>[z4]
 |c::r=>vj (kE (c::r) (bc r))::bc r
theorem j6:∀ t:List Nat,(bc t).length=t.length+1
 |[]=>rfl
 |c::r=>by unfold bc;rw[aj,aj,j6 r]
theorem lY (k s m:Nat)(C:List Q4):oC k (List.replicate (s+1) z4++C) s m=nN k C m:=by
 unfold oC nN;refine dk fun j _=>?_
 rw[List.getD_eq_getElem?_getD,List.getD_eq_getElem?_getD,List.getElem?_append_right (by rw[bw];omega),bw,show s+(j+1) - (s+1)=j by omega]
noncomputable def vT:bZ:=(.cons (.putd 2 (.var 5) (.ite (.cmp .In (.ix (.var 0) (.var 3)) (.ix (.glb 3) (.var 5))) (.bin .Add (.ix (.var 2) (.var 5)) (.cst (.int (1)))) (.cst (.int (0)))))
  (.cons (.mut 4 .none .extend (.cons (.call 4 (.cons (.var 1) (.cons (.var 3) (.cons (.var 5) (.cons (.ix (.var 2) (.var 5)) .nil))))) .nil))
  .nil))
noncomputable def w9:bZ:=(.cons (.asg (.nm 4) (.lst .nil) false)
  (.cons (.forr (.nm 5) (.seq (.blt .list (.cons (.var 2) .nil))) vT)
  (.cons (.setix 1 .none (.var 3) (.blt .min2 (.cons (.var 4) .nil)))
  .nil)))
noncomputable def bBC:bZ:=(.cons (.asg (.nm 1) (.bin .Mult (.lst (.cons (.tup (.cons (.cst (.int (0))) (.cons (.cst (.int (0))) (.cons (.cst (.int (0))) (.cons (.cst (.int (0))) .nil))))) .nil)) (.bin .Add (.blt .len (.cons (.var 0) .nil)) (.cst (.int (1))))) false)
  (.cons (.asg (.nm 2) (.ddsp [(0,0),(1,0),(2,0)]) false)
  (.cons (.forr (.nm 3) (.rng3 (.bin .Sub (.blt .len (.cons (.var 0) .nil)) (.cst (.int (1)))) (.neg (.cst (.int (1)))) (.neg (.cst (.int (1))))) w9)
  (.cons (.ret (.var 1))
  .nil))))
noncomputable abbrev mp (rs:List (Int×MV)):Slot:=some (.mpi rs,.own)
noncomputable abbrev oQ (l:List Q4):Slot:=some (qs l,.own)
noncomputable abbrev EB (t:List Nat)(B:List Q4)(rs:List (Int×MV))(s:Nat)(ch:List Q4)(a5:Slot):En:=[sT t,oQ B,mp rs,sN s,oQ ch,a5]
theorem jj {t:List Nat}{B:List Q4}{rs:List (Int×MV)}{s:Nat}{ch:List Q4}{a5:Slot}(h5:aN a5):Tame (EB t B rs s ch a5):=.cons (aB _) (.cons (aB _) (.cons (aB _) (.cons (aB _) (.cons (aB _) (.cons h5 .nil)))))
theorem Bf {T:Tb}{f:Nat}{e1 e2 e3 e4:Ex}{env:En}{d1 d2 d3 d4 r:D}{R1 R2 R3 R4:Rt}(h1:ev T e1 env = .ok (d1,R1))(h2:ev T e2 env = .ok (d2,R2))(h3:ev T e3 env = .ok (d3,R3))(h4:ev T e4 env = .ok (d4,R4))(h:T.cl f [d1,d2,d3,d4] = .ok (r,true)):ev T (.call f (.cons e1 (.cons e2 (.cons e3 (.cons e4 .nil))))) env = .ok (r,.mv []):=by
 rw[ev,bB,h1,aA,bB,h2,aA,bB,h3,aA,bB,h4,aA,bB,aA,aA,aA,aA,aA];show (T.cl f [d1,d2,d3,d4]).bind _=_;rw[h];rfl
theorem AV {T:Tb}(hg:GL T){env:En}{a b:Ex}{c k:Nat}{R R':Rt}(hc:c<128)(hk:k<4)(ha:ev T a env = .ok (.str (tx [c]),R))(hb:ev T b env = .ok (.int (k:Int),R')):ev T (.cmp .In a (.ix (.glb 3) b)) env = .ok (.bl (eD k c),.mv []):=by
 have e1:ev T (.ix (.glb 3) b) env = .ok (.str (KS k),.mv []):=by
  refine cU (i:=k) (cX (hg 3 (by decide))) hb ?_ rfl
  match k,hk with
  |0,_=>rfl
  |1,_=>rfl
  |2,_=>rfl
  |3,_=>rfl
 rw[ev,ha,aA,e1,aA];show (dX (some (Bw (tx [c]) (KS k)))).bind _=_;rw[lT c hc k hk];rfl
theorem uI {T:Tb}(hg:GL T)(hck:u9 T){t:List Nat}{B:List Q4}{rs rs':List (Int×MV)}{s k c r r':Nat}{ch:List Q4}(ht:t.length<=900)(hc:c<128)(hts:t[s]? = some c)(h1:1<=k)(h3:k<=3)
  (hr:r'=if eD k c then r+1 else 0) (hf:pq (.mpi rs) (.int (k:Int))=some (.int (r:Int))) (hp:qZ rs (k:Int) (.int (r':Int))=rs') (hf':pq (.mpi rs') (.int (k:Int))=some (.int (r':Int))) (hl:rs.length<=3) (hB:s+min r' 64<B.length) (hch:ch.length<=500) :
  aF T vT (EB t B rs s ch (sN k)) = .nx (EB t B rs' s (ch++oC k B s (min r' 64)) (sN k)):=by
 have vt:ev T (.ix (.var 0) (.var 3)) (EB t B rs s ch (sN k)) = .ok (.str (tx [c]),.mv []):=tM (i:=s) (by omega) (aC (d:=.str (tx t)) (t:=.own) rfl rfl) (aC rfl rfl) hts;have ei:=AV hg hc (show k<4 by omega) vt (aC (T:=T) (env:=EB t B rs s ch (sN k)) (i:=5) (d:=.int (k:Int)) (t:=.own) rfl rfl);have vr:∀(rs0:List (Int×MV)) (r0:Nat) (ch0:List Q4),pq (.mpi rs0) (.int (k:Int))=some (.int (r0:Int))->ev T (.ix (.var 2) (.var 5)) (EB t B rs0 s ch0 (sN k)) = .ok (.int (r0:Int),.mv []):=fun rs0 r0 ch0 h=>by
  rw[ev,cG (i:=2) (d:=.mpi rs0) rfl rfl,aA,aC (i:=5) (d:=.int (k:Int)) (t:=.own) rfl rfl,aA,h];rfl
 have ev1:ev T (.ite (.cmp .In (.ix (.var 0) (.var 3)) (.ix (.glb 3) (.var 5))) (.bin .Add (.ix (.var 2) (.var 5)) (.cst (.int (1)))) (.cst (.int (0)))) (EB t B rs s ch (sN k)) = .ok (.int (r':Int),.mv []):=by
  rw[ev,ei,aA];show (dX (some (eD k c))).bind _=_;rw[aU,aA,hr];by_cases hi:eD k c=true
  ·rw[if_pos hi,if_pos hi];exact bJ (y:=1) (vr rs r ch hf) (aE _)
  ·rw[if_neg hi,if_neg hi];exact aE _
 have g1:=sC (T:=T) (x:=2) (m:=.int (r':Int)) (jj (t:=t) (B:=B) (rs:=rs) (s:=s) (ch:=ch) (aB (.int (k:Int)))) rfl (Nat.lt_of_le_of_lt hl (by decide)) (aC (i:=5) (d:=.int (k:Int)) (t:=.own) rfl rfl) ev1 rfl;rw[hp] at g1;have g1:bI T (.putd 2 (.var 5) (.ite (.cmp .In (.ix (.var 0) (.var 3)) (.ix (.glb 3) (.var 5))) (.bin .Add (.ix (.var 2) (.var 5)) (.cst (.int (1)))) (.cst (.int (0))))) (EB t B rs s ch (sN k)) = .nx (EB t B rs' s ch (sN k)):=g1;have e2:ev T (.call 4 (.cons (.var 1) (.cons (.var 3) (.cons (.var 5) (.cons (.ix (.var 2) (.var 5)) .nil))))) (EB t B rs' s ch (sN k)) = .ok (qs (oC k B s (min r' 64)),.mv []) :=
  Bf (cG (d:=qs B) rfl rfl) (aC rfl rfl) (aC rfl rfl) (vr rs' r' ch hf') (hck B s k r' h1 h3 hB)
 have g2:=vz (x:=4) (xs:=ch.map q4) (ys:=(oC k B s (min r' 64)).map q4) (jj (t:=t) (B:=B) (rs:=rs') (s:=s) (ch:=ch) (aB (.int (k:Int)))) rfl e2 (jC _) (by rw[ag,ag,jg];exact fP (by omega));have g2:bI T (.mut 4 .none .extend (.cons (.call 4 (.cons (.var 1) (.cons (.var 3) (.cons (.var 5) (.cons (.ix (.var 2) (.var 5)) .nil))))) .nil)) (EB t B rs' s ch (sN k)) = .nx (EB t B rs' s (ch++oC k B s (min r' 64)) (sN k)):=by
  rw[g2,<-df];rfl
 unfold vT;rw[aF,g1,aD,aF,g2,aD,aF]
noncomputable def r3 (a b c:Nat):List (Int×MV):=[(1,.int (a:Int)),(2,.int (b:Int)),(3,.int (c:Int))]
theorem gI (k c:Nat)(r:List Nat):rn k (c::r)=if eD k c then rn k r+1 else 0:=by rw[rn]
theorem wO (s:Nat)(x z:Q4)(C:List Q4):((List.replicate (s+1) z++C).map q4).set s (q4 x)=(List.replicate s z++x::C).map q4:=by
 induction s with
 |zero=>rfl
 |succ s ih =>
  show q4 z::((List.replicate (s+1) z++C).map q4).set s (q4 x)=_;rw[ih];rfl
theorem z5 {T:Tb}(hg:GL T)(hck:u9 T){t r:List Nat}{s c:Nat}{a4 a5:Slot}(h4:aN a4)(h5:aN a5)(ht:t.length<=900)(hd:t.drop s=c::r)(hc:c<128)(hany:eD 3 c=true) :
  ∃ ch,aF T w9 [sT t,oQ (List.replicate (s+1) z4++bc r),mp (r3 (rn 1 r) (rn 2 r) (rn 3 r)),sN s,a4,a5] = .nx [sT t,oQ (List.replicate s z4++bc (c::r)),mp (r3 (rn 1 (c::r)) (rn 2 (c::r)) (rn 3 (c::r))),sN s,oQ ch,sN 3]:=by
 have hts:t[s]? = some c:=by
  have:=fk (fun l:List Nat=>l[0]?) hd;simpa using this
 have hlen:t.length=s+(r.length+1):=by
  have h1:=fk List.length hd;rw[bz,aj] at h1;omega
 have hB:∀ k,s+min (rn k (c::r)) 64<(List.replicate (s+1) z4++bc r).length:=fun k=>by
  rw[ao,bw,j6];have:=i8 k (c::r);rw[aj] at this;omega
 have t0:Tame [sT t,oQ (List.replicate (s+1) z4++bc r),mp (r3 (rn 1 r) (rn 2 r) (rn 3 r)),sN s,a4,a5]:=.cons (aB _) (.cons (aB _) (.cons (aB _) (.cons (aB _) (.cons h4 (.cons h5 .nil)))));have g1:bI T (.asg (.nm 4) (.lst .nil) false) [sT t,oQ (List.replicate (s+1) z4++bc r),mp (r3 (rn 1 r) (rn 2 r) (rn 3 r)),sN s,a4,a5] = .nx (EB t (List.replicate (s+1) z4++bc r) (r3 (rn 1 r) (rn 2 r) (rn 3 r)) s [] a5):=aM t0 (show (4:Nat)<6 by decide) (by rw[ev,bB];rfl);have hit:dI T (.seq (.blt .list (.cons (.var 2) .nil))) (EB t (List.replicate (s+1) z4++bc r) (r3 (rn 1 r) (rn 2 r) (rn 3 r)) s [] a5) = .ok ([.int ((1:Nat):Int),.int ((2:Nat):Int),.int ((3:Nat):Int)],[]):=wG (ks:=r3 (rn 1 r) (rn 2 r) (rn 3 r)) rfl (by show (3:Nat)<=lim;decide);have i1:=uI hg hck (k:=1) (r:=rn 1 r) (r':=rn 1 (c::r)) (rs:=r3 (rn 1 r) (rn 2 r) (rn 3 r)) (rs':=r3 (rn 1 (c::r)) (rn 2 r) (rn 3 r)) (ch:=[]) ht hc hts (by decide) (by decide) (gI 1 c r) rfl rfl rfl (by show (3:Nat)<=3;decide) (hB 1) (by show (0:Nat)<=500;decide);have i2:=uI hg hck (k:=2) (r:=rn 2 r) (r':=rn 2 (c::r)) (rs:=r3 (rn 1 (c::r)) (rn 2 r) (rn 3 r)) (rs':=r3 (rn 1 (c::r)) (rn 2 (c::r)) (rn 3 r)) (ch:=[]++oC 1 (List.replicate (s+1) z4++bc r) s (min (rn 1 (c::r)) 64)) ht hc hts (by decide) (by decide) (gI 2 c r) rfl rfl rfl (by show (3:Nat)<=3;decide) (hB 2) (by rw[fm,jg];omega);have i3:=uI hg hck (k:=3) (r:=rn 3 r) (r':=rn 3 (c::r)) (rs:=r3 (rn 1 (c::r)) (rn 2 (c::r)) (rn 3 r)) (rs':=r3 (rn 1 (c::r)) (rn 2 (c::r)) (rn 3 (c::r))) (ch:=[]++oC 1 (List.replicate (s+1) z4++bc r) s (min (rn 1 (c::r)) 64)++oC 2 (List.replicate (s+1) z4++bc r) s (min (rn 2 (c::r)) 64)) ht hc hts (by decide) (by decide) (gI 3 c r) rfl rfl rfl (by show (3:Nat)<=3;decide) (hB 3) (by rw[fm,ao,jg,jg];omega);have bk:∀(rs:List (Int×MV)) (ch:List Q4) (a5:Slot) (k:Nat),aN a5->aZ [] (.nm 5) (.int (k:Int)) (EB t (List.replicate (s+1) z4++bc r) rs s ch a5)=some (EB t (List.replicate (s+1) z4++bc r) rs s ch (sN k)):=fun rs ch a5 k h=>cO (jj h) (show (5:Nat)<6 by decide)
 have g2:=cD hit (show bT (.nm 5) [] (aF T vT) [.int ((1:Nat):Int),.int ((2:Nat):Int),.int ((3:Nat):Int)] (EB t (List.replicate (s+1) z4++bc r) (r3 (rn 1 r) (rn 2 r) (rn 3 r)) s [] a5) = .nx _ by
  rw[bK (bk _ _ _ 1 h5) i1,bK (bk _ _ _ 2 (aB _)) i2,bK (bk _ _ _ 3 (aB _)) i3];rfl)
 rw[lY,lY,lY,fm] at g2;have hca:nN 1 (bc r) (min (rn 1 (c::r)) 64)++nN 2 (bc r) (min (rn 2 (c::r)) 64)++nN 3 (bc r) (min (rn 3 (c::r)) 64)=kE (c::r) (bc r):=rfl;rw[hca] at g2;have hne:kE (c::r) (bc r)≠[]:=by
  intro z;have:=fk List.length z;unfold kE at this;rw[ao,ao,gH,gH,gH,gI 3,if_pos hany] at this;have h0:([]:List Q4).length=0:=rfl;omega
 have em:ev T (.blt .min2 (.cons (.var 4) .nil)) (EB t (List.replicate (s+1) z4++bc r) (r3 (rn 1 (c::r)) (rn 2 (c::r)) (rn 3 (c::r))) s (kE (c::r) (bc r)) (sN 3)) = .ok (q4 (vj (kE (c::r) (bc r))),.mv []):=by
  rw[ev,bB,cG (i:=4) (d:=qs (kE (c::r) (bc r))) rfl rfl,aA,bB,aA,aA,mV];show (dX (minD ((kE (c::r) (bc r)).map q4))).bind _=_;rw[Cm hne];rfl
 have g3:=vw (x:=1) (k:=.var 3) (xs:=(List.replicate (s+1) z4++bc r).map q4) (l:=(s:Int)) (m:=s) (jj (t:=t) (B:=List.replicate (s+1) z4++bc r) (rs:=r3 (rn 1 (c::r)) (rn 2 (c::r)) (rn 3 (c::r))) (s:=s) (ch:=kE (c::r) (bc r)) (aB (.int ((3:Nat):Int)))) rfl (aC (T:=T) rfl rfl) (by
  rw[ag,ao,bw];exact lV (by omega)) em (by rw[ag,ao,bw,j6];exact fP (by omega))
 have hset:((List.replicate (s+1) z4++bc r).map q4).set s (q4 (vj (kE (c::r) (bc r))))=(List.replicate s z4++bc (c::r)).map q4:=by
  rw[show bc (c::r)=vj (kE (c::r) (bc r))::bc r by rw[bc]];exact wO s _ _ _
 rw[hset] at g3;refine⟨kE (c::r) (bc r),?_⟩;unfold w9;rw[aF,g1,aD,aF,g2,aD,aF,g3,aD,aF];rfl
theorem we (m:Nat):aS (((m+1:Nat):Int) - 1) (-1) (m+1) = .int (m:Int)::aS ((m:Int) - 1) (-1) m:=by
 rw[aS,show (((m+1:Nat):Int) - 1)=(m:Int) by omega,show (m:Int) + -1=(m:Int) - 1 by omega]
theorem Am {T:Tb}{env:En}{e1 e2 e3:Ex}{n:Nat}{R R' R2:Rt}(hn:n<=1000)(h1:ev T e1 env = .ok (.int ((n:Int) - 1),R))(h2:ev T e2 env = .ok (.int (-1),R'))(h3:ev T e3 env = .ok (.int (-1),R2)):dI T (.rng3 e1 e2 e3) env = .ok (aS ((n:Int) - 1) (-1) n,[]):=by
 have hz:(Builtin.Range.rangeSize ((n:Int) - 1) (-1) (-1)).toNat=n:=by
  unfold Builtin.Range.rangeSize;rw[if_neg (by decide),show -(-1:Int)=1 from rfl,Int.ediv_one];by_cases h:(-1:Int)<(n:Int) - 1
  ·rw[if_pos h];omega
  ·rw[if_neg h];omega
 rw[dI,h1,aA,h2,aA,h3,aA];dsimp only;rw[hz,show eL ((n:Int) - 1)=true by unfold eL;exact bf ⟨by omega,by omega⟩];rfl
def Good (t:List Nat):Prop:=∀ c∈t,c<128/\eD 3 c=true
theorem pX {T:Tb}(hg:GL T)(hck:u9 T){t:List Nat}(ht:t.length<=900)(hG:Good t):∀(m:Nat) (a3 a4 a5:Slot),aN a3->aN a4->aN a5->m<=t.length->∃ b3 b4 b5,aN b3/\aN b4/\aN b5 /\
  bT (.nm 3) [] (aF T w9) (aS ((m:Int) - 1) (-1) m) [sT t,oQ (List.replicate m z4++bc (t.drop m)),mp (r3 (rn 1 (t.drop m)) (rn 2 (t.drop m)) (rn 3 (t.drop m))),a3,a4,a5] = .nx [sT t,oQ (bc t),mp (r3 (rn 1 t) (rn 2 t) (rn 3 t)),b3,b4,b5]
 |0,a3,a4,a5,h3,h4,h5,_=>⟨a3,a4,a5,h3,h4,h5,rfl⟩
 | m+1,a3,a4,a5,h3,h4,h5,hm=>by
  have hlt:m<t.length:=by omega
  have hd:t.drop m=t[m]::t.drop (m+1):=cw hlt;obtain⟨g1,g2⟩:=hG t[m] (e8 hlt);obtain⟨ch,st⟩:=z5 hg hck h4 h5 ht hd g1 g2;rw[<-hd] at st;obtain⟨b3,b4,b5,u3,u4,u5,q⟩:=pX hg hck ht hG m (sN m) (oQ ch) (sN 3) (aB _) (aB _) (aB _) (by omega);refine⟨b3,b4,b5,u3,u4,u5,?_⟩;have hb:aZ [] (.nm 3) (.int (m:Int)) [sT t,oQ (List.replicate (m+1) z4++bc (t.drop (m+1))),mp (r3 (rn 1 (t.drop (m+1))) (rn 2 (t.drop (m+1))) (rn 3 (t.drop (m+1)))),a3,a4,a5]=some [sT t,oQ (List.replicate (m+1) z4++bc (t.drop (m+1))),mp (r3 (rn 1 (t.drop (m+1))) (rn 2 (t.drop (m+1))) (rn 3 (t.drop (m+1)))),sN m,a4,a5] :=
   cO (.cons (aB _) (.cons (aB _) (.cons (aB _) (.cons h3 (.cons h4 (.cons h5 .nil)))))) (show (3:Nat)<6 by decide)
  rw[we,bK hb st,q]
theorem Bn {j:Int}(h0:0<=j)(h1:j<=1000):eI .Mult (.lst [q4 z4]) (.int j)=some (qs (List.replicate j.toNat z4)):=by
 show (if -(2 ^ 63)<=j/\j<2 ^ 63 then (if D.flats [q4 z4] then ck (1*j.toNat) (.lst (List.replicate j.toNat [q4 z4]).flatten) else none) else none)=_;rw[if_pos ⟨by omega,by omega⟩,if_pos (show D.flats [q4 z4]=true from rfl)];unfold ck;rw[if_pos (fP (by omega)),List.flatten_replicate_singleton];unfold qs;rw[List.map_replicate]
theorem Aw {T:Tb}(hg:GL T)(hck:u9 T){t:List Nat}(ht:t.length<=900)(hG:Good t):ret (aF T bBC (aK [.str (tx t)] 6)) = .ok (qs (bc t),true):=by
 have hst:aK [.str (tx t)] 6=[sT t,none,none,none,none,none]:=rfl;have tn:=aP;have el:ev T (.lst (.cons (.tup (.cons (.cst (.int (0))) (.cons (.cst (.int (0))) (.cons (.cst (.int (0))) (.cons (.cst (.int (0))) .nil))))) .nil)) [sT t,none,none,none,none,none] = .ok (.lst [q4 z4],.mv []):=by
  rw[ev,bB,ph (aE _) (aE _) (aE _) (aE _),aA,bB,aA,aA];rfl
 have en:ev T (.bin .Add (.blt .len (.cons (.var 0) .nil)) (.cst (.int (1)))) [sT t,none,none,none,none,none] = .ok (.int ((t.length+1:Nat):Int),.mv []):=bJ (y:=1) (dS (by omega) (aC rfl rfl)) (aE _);have em:ev T (.bin .Mult (.lst (.cons (.tup (.cons (.cst (.int (0))) (.cons (.cst (.int (0))) (.cons (.cst (.int (0))) (.cons (.cst (.int (0))) .nil))))) .nil)) (.bin .Add (.blt .len (.cons (.var 0) .nil)) (.cst (.int (1))))) [sT t,none,none,none,none,none] = .ok (qs (List.replicate (t.length+1) z4),.mv []):=by
  have hm:eI .Mult (.lst [q4 z4]) (.int ((t.length+1:Nat):Int))=some (qs (List.replicate (t.length+1) z4)):=by
   rw[Bn (by omega) (by omega),dw]
  rw[ev,el,aA,en,aA,hm,aU,aA];unfold qs;rw[fR (jC _)]
 have g1:bI T (.asg (.nm 1) (.bin .Mult (.lst (.cons (.tup (.cons (.cst (.int (0))) (.cons (.cst (.int (0))) (.cons (.cst (.int (0))) (.cons (.cst (.int (0))) .nil))))) .nil)) (.bin .Add (.blt .len (.cons (.var 0) .nil)) (.cst (.int (1))))) false) [sT t,none,none,none,none,none] = .nx [sT t,oQ (List.replicate (t.length+1) z4),none,none,none,none] :=
  aM (.cons (aB _) (.cons tn (.cons tn (.cons tn (.cons tn (.cons tn .nil)))))) (show (1:Nat)<6 by decide) em
 have ed:ev T (.ddsp [(0,0),(1,0),(2,0)]) [sT t,oQ (List.replicate (t.length+1) z4),none,none,none,none] = .ok (.mpi (r3 0 0 0),.mv []):=by
  rw[ev];have:lK T.gl [(0,0),(1,0),(2,0)] []=some (r3 0 0 0):=by
   unfold lK lK lK lK;rw[hg 0 (by decide),hg 1 (by decide),hg 2 (by decide)];rfl
  rw[this];rfl
 have g2:bI T (.asg (.nm 2) (.ddsp [(0,0),(1,0),(2,0)]) false) [sT t,oQ (List.replicate (t.length+1) z4),none,none,none,none] = .nx [sT t,oQ (List.replicate (t.length+1) z4),mp (r3 0 0 0),none,none,none] :=
  aM (.cons (aB _) (.cons (aB _) (.cons tn (.cons tn (.cons tn (.cons tn .nil)))))) (show (2:Nat)<6 by decide) ed
 have hit:dI T (.rng3 (.bin .Sub (.blt .len (.cons (.var 0) .nil)) (.cst (.int (1)))) (.neg (.cst (.int (1)))) (.neg (.cst (.int (1))))) [sT t,oQ (List.replicate (t.length+1) z4),mp (r3 0 0 0),none,none,none] = .ok (aS ((t.length:Int) - 1) (-1) t.length,[]) :=
  Am (by omega) (mQ (dS (by omega) (aC rfl rfl)) (aE _)) (by rw[ev,aE];rfl) (by rw[ev,aE];rfl)
 obtain⟨b3,b4,b5,u3,u4,u5,q⟩:=pX hg hck ht hG t.length none none none tn tn tn (av _);rw[gv,show bc []=[z4] by rw[bc],<-List.replicate_succ'] at q;have g3:=cD hit q;rw[hst];unfold bBC;rw[aF,g1,aD,aF,g2,aD,aF,g3,aD,aF,bI,cG (i:=1) (d:=qs (bc t)) rfl rfl];rfl
def AJ (T:Tb):Prop:=∀ t:List Nat,t.length<=900->Good t->T.cl 3 [.str (tx t)] = .ok (qs (bc t),true)
noncomputable abbrev Pe:=Nat×List Nat
noncomputable def pD (p:Pe):D:=.tup [.int (p.1:Int),.str (tx p.2)]
theorem p9 (p:Pe):(pD p).flat=true:=rfl
theorem jF:∀ l:List Pe,D.flats (l.map pD)=true
 |[]=>rfl
 | q::l=>by
  show ((pD q).flat&&D.flats (l.map pD))=true;rw[jF l];rfl
noncomputable def hd (t:List Nat):Q4:=(bc t).getD 0 z4
theorem qg:∀(s:Nat) (t:List Nat),s<=t.length->(bc t).drop s=bc (t.drop s)
 |0,t,_=>rfl
 |s+1,[],h=>absurd h (by simp)
 | s+1,c::r,h=>by
  rw[bc,fi,fi];exact qg s r (by rw[aj] at h;omega)
theorem x5 (t:List Nat)(s:Nat)(h:s<=t.length):(bc t)[s]? = some (hd (t.drop s)):=by
 have hl:s<(bc t).length:=by rw[j6];omega
 have h0:0<(bc (t.drop s)).length:=by rw[j6];omega
 unfold hd;rw[List.getD_eq_getElem?_getD,<-qg s t h,List.getElem?_drop,Nat.add_zero,List.getElem?_eq_getElem hl];rfl
theorem uL (k:Nat):∀(t:List Nat) (m:Nat),m<=rn k t->∀ c∈t.take m,eD k c=true
 |[],m,_,c,hc=>by rw[List.take_nil] at hc;cases hc
 |a::r,0,_,c,hc=>by cases hc
 | a::r,m+1,h,c,hc=>by
  unfold rn at h;split at h
  ·rename_i ha;rw[List.take_succ_cons] at hc;rcases dz.mp hc with rfl | hc
   ·exact ha
   ·exact uL k r m (by omega) c hc
  ·omega
theorem qp {k:Nat}{C:List Q4}{m:Nat}{q:Q4}(h:q∈nN k C m):∃ j,j<m/\q=one k (j+1) (C.getD j z4):=by
 unfold nN at h;obtain⟨j,hj,rfl⟩:=List.mem_map.mp h;exact⟨j,List.mem_range.mp hj,rfl⟩
structure pZ (t:List Nat)(q:Q4):Prop where
 k1:1<=q.2.2.1
 k3:q.2.2.1<=3
 c1:1<=q.2.2.2
 c64:q.2.2.2<=64
 run:q.2.2.2<=rn q.2.2.1 t
theorem qB {t:List Nat}{C:List Q4}{q:Q4}(h:q∈kE t C):pZ t q:=by
 have key:∀ k,1<=k->k<=3->q∈nN k C (min (rn k t) 64)->pZ t q:=fun k h1 h3 hm=>by
  obtain⟨j,hj,rfl⟩:=qp hm;exact⟨h1,h3,Nat.succ_le_succ (cy j),show j+1<=64 by omega,show j+1<=rn k t by omega⟩
 unfold kE at h;rcases List.mem_append.mp h with h | h
 ·rcases List.mem_append.mp h with h | h
  ·exact key 1 (by decide) (by decide) h
  ·exact key 2 (by decide) (by decide) h
 ·exact key 3 (by decide) (by decide) h
theorem sM {c:Nat}{r:List Nat}{C:List Q4}(h:eD 3 c=true):kE (c::r) C≠[]:=by
 intro z;have:=fk List.length z;unfold kE at this;rw[ao,ao,gH,gH,gH,gI 3,if_pos h] at this;have h0:([]:List Q4).length=0:=rfl;omega
theorem my (c:Nat)(r:List Nat):hd (c::r)=vj (kE (c::r) (bc r)):=by
 unfold hd;rw[bc];rfl
theorem gC {c:Nat}{r:List Nat}(h:eD 3 c=true):pZ (c::r) (hd (c::r)):=by
 rw[my];exact qB (pE (sM h))
noncomputable def pc:Nat->List Nat->List Pe
 |0,_=>[]
 |n+1,t=>if t.isEmpty then [] else ((hd t).2.2.1,t.take (hd t).2.2.2)::pc n (t.drop (hd t).2.2.2)
theorem fK (n c:Nat)(r:List Nat):pc (n+1) (c::r)=((hd (c::r)).2.2.1,(c::r).take (hd (c::r)).2.2.2)::pc n ((c::r).drop (hd (c::r)).2.2.2):=by
 rw[pc];rfl
theorem gY:∀ n,pc n []=[]
 |0=>rfl
 |n+1=>rfl
noncomputable def vL:bZ:=(.cons (.asg (.nm 4) (.ix (.ix (.var 1) (.var 3)) (.cst (.int (2)))) false)
  (.cons (.asg (.nm 5) (.bin .Add (.var 3) (.ix (.ix (.var 1) (.var 3)) (.cst (.int (3))))) false)
  (.cons (.mut 2 .none .append (.cons (.tup (.cons (.var 4) (.cons (.sl (.var 0) (.some (.var 3)) (.some (.var 5))) .nil))) .nil))
  (.cons (.asg (.nm 3) (.var 5) false)
  .nil))))
noncomputable def bCT:bZ:=(.cons (.expr (.call 2 (.cons (.var 0) .nil)))
  (.cons (.asg (.nm 1) (.call 3 (.cons (.var 0) .nil)) false)
  (.cons (.asg (.nm 2) (.lst .nil) false)
  (.cons (.asg (.nm 3) (.cst (.int (0))) false)
  (.cons (.whl (.cmp .Lt (.var 3) (.blt .len (.cons (.var 0) .nil))) vL)
  (.cons (.ret (.var 2))
  .nil))))))
noncomputable abbrev oP (l:List Pe):Slot:=some (.lst (l.map pD),.own)
noncomputable abbrev EC (t:List Nat)(B:List Q4)(P:List Pe)(s:Nat)(a4 a5:Slot):En:=[sT t,oQ B,oP P,sN s,a4,a5]
theorem jo {t:List Nat}{B:List Q4}{P:List Pe}{s:Nat}{a4 a5:Slot}(h4:aN a4)(h5:aN a5):Tame (EC t B P s a4 a5):=.cons (aB _) (.cons (aB _) (.cons (aB _) (.cons (aB _) (.cons h4 (.cons h5 .nil)))))
theorem Bl {T:Tb}{t:List Nat}{B:List Q4}{P:List Pe}{s:Nat}{q:Q4}{a4 a5:Slot}(h4:aN a4)(h5:aN a5)(ht:t.length<=900)(hq:B[s]? = some q)(hs:s+q.2.2.2<=t.length)(hP:P.length<=900) :
  aF T vL (EC t B P s a4 a5) = .nx (EC t B (P ++ [(q.2.2.1,(t.drop s).take q.2.2.2)]) (s+q.2.2.2) (sN q.2.2.1) (sN (s+q.2.2.2))):=by
 have vq:∀ a4 a5,ev T (.ix (.var 1) (.var 3)) (EC t B P s a4 a5) = .ok (q4 q,.mv []):=fun a4 a5=>iT (ds:=B.map q4) (i:=s) (cG (d:=qs B) rfl rfl) (aC rfl rfl) (by rw[List.getElem?_map,hq];rfl) (qh q)
 have e1:ev T (.ix (.ix (.var 1) (.var 3)) (.cst (.int (2)))) (EC t B P s a4 a5) = .ok (.int (q.2.2.1:Int),.mv []):=cU (i:=2) (vq _ _) (aE _) rfl rfl;have g1:bI T (.asg (.nm 4) (.ix (.ix (.var 1) (.var 3)) (.cst (.int (2)))) false) (EC t B P s a4 a5) = .nx (EC t B P s (sN q.2.2.1) a5):=aM (jo h4 h5) (show (4:Nat)<6 by decide) e1;have e2:ev T (.ix (.ix (.var 1) (.var 3)) (.cst (.int (3)))) (EC t B P s (sN q.2.2.1) a5) = .ok (.int (q.2.2.2:Int),.mv []):=cU (i:=3) (vq _ _) (aE _) rfl rfl;have e3:ev T (.bin .Add (.var 3) (.ix (.ix (.var 1) (.var 3)) (.cst (.int (3))))) (EC t B P s (sN q.2.2.1) a5) = .ok (.int ((s+q.2.2.2:Nat):Int),.mv []):=bJ (aC rfl rfl) e2;have g2:bI T (.asg (.nm 5) (.bin .Add (.var 3) (.ix (.ix (.var 1) (.var 3)) (.cst (.int (3))))) false) (EC t B P s (sN q.2.2.1) a5) = .nx (EC t B P s (sN q.2.2.1) (sN (s+q.2.2.2))):=aM (jo (aB _) h5) (show (5:Nat)<6 by decide) e3;have e4:ev T (.sl (.var 0) (.some (.var 3)) (.some (.var 5))) (EC t B P s (sN q.2.2.1) (sN (s+q.2.2.2))) = .ok (.str (tx ((t.drop s).take q.2.2.2)),.mv []):=iM (by omega) (aC rfl rfl) (dC (aC (d:=.int (s:Int)) (t:=.own) rfl rfl)) (dC (aC (d:=.int ((s+q.2.2.2:Nat):Int)) (t:=.own) rfl rfl)) (wU t s q.2.2.2 hs);have e5:=hJ (aC (T:=T) (env:=EC t B P s (sN q.2.2.1) (sN (s+q.2.2.2))) (i:=4) (d:=.int (q.2.2.1:Int)) (t:=.own) rfl rfl) e4;have g3:=pj (x:=2) (xs:=P.map pD) (jo (t:=t) (B:=B) (P:=P) (s:=s) (aB (.int (q.2.2.1:Int))) (aB (.int ((s+q.2.2.2:Nat):Int)))) rfl e5 (by rw[ag];exact fP (by omega));have g3:bI T (.mut 2 .none .append (.cons (.tup (.cons (.var 4) (.cons (.sl (.var 0) (.some (.var 3)) (.some (.var 5))) .nil))) .nil)) (EC t B P s (sN q.2.2.1) (sN (s+q.2.2.2))) = .nx (EC t B (P ++ [(q.2.2.1,(t.drop s).take q.2.2.2)]) s (sN q.2.2.1) (sN (s+q.2.2.2))):=by
  rw[g3,show (P.map pD ++ [D.tup [.int (q.2.2.1:Int),.str (tx ((t.drop s).take q.2.2.2))]])=(P ++ [(q.2.2.1,(t.drop s).take q.2.2.2)]).map pD by rw[df];rfl];rfl
 have g4:bI T (.asg (.nm 3) (.var 5) false) (EC t B (P ++ [(q.2.2.1,(t.drop s).take q.2.2.2)]) s (sN q.2.2.1) (sN (s+q.2.2.2))) = .nx (EC t B (P ++ [(q.2.2.1,(t.drop s).take q.2.2.2)]) (s+q.2.2.2) (sN q.2.2.1) (sN (s+q.2.2.2))):=aM (jo (aB _) (aB _)) (show (3:Nat)<6 by decide) (aC rfl rfl);unfold vL;rw[aF,g1,aD,aF,g2,aD,aF,g3,aD,aF,g4,aD,aF]
theorem pF {T:Tb}{t:List Nat}{B:List Q4}{P:List Pe}{s:Nat}{a4 a5:Slot}(ht:t.length<=900):((ev T (.cmp .Lt (.var 3) (.blt .len (.cons (.var 0) .nil))) (EC t B P s a4 a5)).bind fun p=>dX (truth p.1)) = .ok (decide (s<t.length)):=by
 rw[ox (x:=s) (y:=t.length) (aC rfl rfl) (dS (by omega) (aC rfl rfl)),aA];rfl
theorem Good.drop {t:List Nat}(h:Good t)(n:Nat):Good (t.drop n):=fun c hc=>h c (gb hc)
theorem sL {T:Tb}{t:List Nat}(ht:t.length<=900)(hG:Good t):∀(n f s:Nat) (P:List Pe) (a4 a5:Slot),aN a4->aN a5->s<=t.length->t.length - s<=n->n<f->P.length+n<=900->∃ b4 b5,
  eO (fun env=>(ev T (.cmp .Lt (.var 3) (.blt .len (.cons (.var 0) .nil))) env).bind fun p=>dX (truth p.1)) (aF T vL) f (EC t (bc t) P s a4 a5) = .nx (EC t (bc t) (P++pc n (t.drop s)) t.length b4 b5)
 |n,0,s,P,a4,a5,_,_,_,_,h,_=>absurd h (Nat.not_lt_zero _)
 | n,f+1,s,P,a4,a5,h4,h5,hs,hn,hf,hP=>by
  by_cases hlt:s<t.length
  ·have hd':t.drop s=t[s]::t.drop (s+1):=cw hlt;obtain⟨g1,g2⟩:=hG t[s] (e8 hlt);have F:pZ (t.drop s) (hd (t.drop s)):=by rw[hd'];exact gC g2
   have hr:=i8 (hd (t.drop s)).2.2.1 (t.drop s);have hrun:=F.run;have hc1:=F.c1;rw[bz] at hr;cases n with
   |zero=>omega
   |succ n =>
    obtain⟨b4,b5,q⟩:=sL ht hG n f (s+(hd (t.drop s)).2.2.2) (P ++ [((hd (t.drop s)).2.2.1,(t.drop s).take (hd (t.drop s)).2.2.2)]) (sN (hd (t.drop s)).2.2.1) (sN (s+(hd (t.drop s)).2.2.2)) (aB _) (aB _) (by omega) (by omega) (by omega) (by rw[ao,c7];omega);refine⟨b4,b5,?_⟩;have hp:pc (n+1) (t.drop s)=((hd (t.drop s)).2.2.1,(t.drop s).take (hd (t.drop s)).2.2.2)::pc n ((t.drop s).drop (hd (t.drop s)).2.2.2):=by
     rw[hd',fK,<-hd']
    rw[xV (by rw[pF ht,bf hlt]) (Bl h4 h5 ht (x5 t s hs) (by omega) (by omega)),q,hp,List.drop_drop,du];rfl
  ·have e:s=t.length:=by omega
   refine⟨a4,a5,?_⟩;rw[xM (by rw[pF ht,aw hlt]),e,gv,gY,ay]
noncomputable def wy:bZ:=(.cons (.ite (.cmp .NotIn (.var 2) (.ix (.glb 3) (.glb 2))) (.cons (.expr (.neg (.cst .non)))
  .nil) .nil)
  .nil)
noncomputable def bRS:bZ:=(.cons (.forr (.tp [1,2]) (.enum (.var 0)) wy)
  .nil)
noncomputable def enT (i:Nat)(t:List Nat):List D:=((t.map fun c=>D.str (tx [c])).zipIdx i).map fun q=>.tup [.int (q.2:Int),q.1]
theorem tP (i c:Nat)(t:List Nat):enT i (c::t) = .tup [.int (i:Int),.str (tx [c])]::enT (i+1) t:=rfl
theorem Bq {T:Tb}{env:En}{e:Ex}{t:List Nat}(h:ev T e env = .ok (.str (tx t),.mv [])):dI T (.enum e) env = .ok (enT 0 t,[]):=by
 rw[dI,h,aA];rfl
theorem Br {T:Tb}(hg:GL T){env:En}{a:Ex}{c:Nat}{R:Rt}(hc:c<128)(ha:ev T a env = .ok (.str (tx [c]),R)):ev T (.cmp .NotIn a (.ix (.glb 3) (.glb 2))) env = .ok (.bl (!eD 3 c),.mv []):=by
 have e1:ev T (.ix (.glb 3) (.glb 2)) env = .ok (.str (KS 3),.mv []):=cU (i:=3) (cX (hg 3 (by decide))) (cX (hg 2 (by decide))) rfl rfl;rw[ev,ha,aA,e1,aA];show (dX ((some (Bw (tx [c]) (KS 3))).map (!·))).bind _=_;rw[lT c hc 3 (by decide)];rfl
theorem wR {t:List Nat}{a1 a2:Slot}(h1:aN a1)(h2:aN a2)(i c:Nat):aZ [] (.tp [1,2]) (.tup [.int (i:Int),.str (tx [c])]) [sT t,a1,a2]=some [sT t,sN i,sT [c]]:=qy (.cons (aB _) (.cons h1 (.cons h2 .nil))) (show (1:Nat)<3 by decide) (show (2:Nat)<3 by decide) rfl rfl
theorem pB {T:Tb}(hg:GL T){t:List Nat}:∀(l:List Nat) (i:Nat) (a1 a2:Slot),aN a1->aN a2->Good l->∃ b1 b2,aN b1/\aN b2/\bT (.tp [1,2]) [] (aF T wy) (enT i l) [sT t,a1,a2] = .nx [sT t,b1,b2]
 |[],i,a1,a2,h1,h2,_=>⟨a1,a2,h1,h2,rfl⟩
 | c::l,i,a1,a2,h1,h2,hG=>by
  obtain⟨g1,g2⟩:=hG c ai;obtain⟨b1,b2,u1,u2,q⟩:=pB hg (t:=t) l (i+1) (sN i) (sT [c]) (aB _) (aB _) fun d hd=>hG d (ah _ hd)
  refine⟨b1,b2,u1,u2,?_⟩;have e1:=Br hg g1 (aC (T:=T) (env:=[sT t,sN i,sT [c]]) (i:=2) (d:=.str (tx [c])) (t:=.own) rfl rfl);rw[g2] at e1;rw[tP,bK (wR h1 h2 i c) (show aF T wy [sT t,sN i,sT [c]] = .nx [sT t,sN i,sT [c]] by unfold wy;rw[aF,ite_ff e1,aD,aF]),q]
theorem BK {T:Tb}(hg:GL T){t:List Nat}(hG:Good t):ret (aF T bRS (aK [.str (tx t)] 3)) = .ok (.non,true):=by
 have hst:aK [.str (tx t)] 3=[sT t,none,none]:=rfl;obtain⟨b1,b2,u1,u2,q⟩:=pB hg (t:=t) t 0 none none aP aP hG;rw[hst];unfold bRS;rw[aF,cD (Bq (aC rfl rfl)) q,aD,aF];rfl
def BF (T:Tb):Prop:=∀ t:List Nat,Good t->T.cl 2 [.str (tx t)] = .ok (.non,true)
theorem BQ {T:Tb}(hf:1000<=T.fuel)(hrs:BF T)(hbc:AJ T){t:List Nat}(ht:t.length<=400)(hG:Good t):ret (aF T bCT (aK [.str (tx t)] 6)) = .ok (.lst ((pc t.length t).map pD),true):=by
 have hst:aK [.str (tx t)] 6=[sT t,none,none,none,none,none]:=rfl;have tn:=aP;have g0:bI T (.expr (.call 2 (.cons (.var 0) .nil))) [sT t,none,none,none,none,none] = .nx [sT t,none,none,none,none,none]:=by
  rw[bI,iH (aC rfl rfl) (hrs t hG)];rfl
 have g1:bI T (.asg (.nm 1) (.call 3 (.cons (.var 0) .nil)) false) [sT t,none,none,none,none,none] = .nx [sT t,oQ (bc t),none,none,none,none] :=
  aM (.cons (aB _) (.cons tn (.cons tn (.cons tn (.cons tn (.cons tn .nil)))))) (show (1:Nat)<6 by decide) (iH (aC rfl rfl) (hbc t (by omega) hG))
 have g2:bI T (.asg (.nm 2) (.lst .nil) false) [sT t,oQ (bc t),none,none,none,none] = .nx [sT t,oQ (bc t),oP [],none,none,none] :=
  aM (.cons (aB _) (.cons (aB _) (.cons tn (.cons tn (.cons tn (.cons tn .nil)))))) (show (2:Nat)<6 by decide) (by rw[ev,bB];rfl)
 have g3:bI T (.asg (.nm 3) (.cst (.int (0))) false) [sT t,oQ (bc t),oP [],none,none,none] = .nx (EC t (bc t) [] 0 none none) :=
  aM (.cons (aB _) (.cons (aB _) (.cons (aB _) (.cons tn (.cons tn (.cons tn .nil)))))) (show (3:Nat)<6 by decide) (aE _)
 obtain⟨b4,b5,q⟩:=sL (T:=T) (show t.length<=900 by omega) hG t.length T.fuel 0 [] none none tn tn (cy _) (by omega) (by omega) (by rw[bj];omega);rw[hst];unfold bCT;rw[aF,g0,aD,aF,g1,aD,aF,g2,aD,aF,g3,aD,aF,bI,q,aD,aF,bI,cG (i:=2) (d:=.lst ((pc t.length t).map pD)) rfl rfl];rfl
def CTok (T:Tb):Prop:=∀ t:List Nat,t.length<=400->Good t->T.cl 1 [.str (tx t)] = .ok (.lst ((pc t.length t).map pD),true)
structure Piece (p:Pe):Prop where
 k1:1<=p.1
 k3:p.1<=3
 c1:1<=p.2.length
 c64:p.2.length<=64
 all:∀ c∈p.2,eD p.1 c=true
theorem iq:∀(n:Nat) (t:List Nat),Good t->∀ p∈pc n t,Piece p
 |0,t,_,p,hp=>by cases hp
 |n+1,[],_,p,hp=>by rw[gY] at hp;cases hp
 | n+1,c::r,hG,p,hp=>by
  rw[fK] at hp;have F:=gC (r:=r) (hG c ai).2;have hl:(hd (c::r)).2.2.2<=(c::r).length:=bh F.run (i8 _ _);rcases dz.mp hp with rfl | hp
  ·refine⟨F.k1,F.k3,?_,?_,uL _ _ _ F.run⟩
   ·show 1<=((c::r).take _).length;rw[cm,de hl];exact F.c1
   ·show ((c::r).take _).length<=64;rw[cm,de hl];exact F.c64
  ·exact iq n _ (hG.drop _) p hp
theorem ig:∀(n:Nat) (t:List Nat),Good t->t.length<=n->((pc n t).map (·.2)).flatten=t
 | 0,t,_,h=>by
  have:t=[]:=List.length_eq_zero_iff.mp (by omega);subst this;rfl
 |n+1,[],_,_=>by rw[gY];rfl
 | n+1,c::r,hG,h=>by
  have F:=gC (r:=r) (hG c ai).2;have hc1:=F.c1;rw[fK,aq,bg,ig n _ (hG.drop _) (by rw[bz];omega)];exact gx _ _
theorem nW:∀(n:Nat) (t:List Nat),(pc n t).length<=n
 |0,t=>av _
 |n+1,[]=>by rw[gY];exact cy _
 | n+1,c::r=>by
  rw[fK,aj];exact Nat.succ_le_succ (nW n _)
open Pc.Fr (iD)
noncomputable def bMX:bZ:=(.cons (.asg (.nm 3) (.var 1) false)
  (.cons (.ite (.cmp .Gt (.blt .len (.cons (.var 0) .nil)) (.cst (.int (0)))) (.cons (.asg (.nm 3) (.ix (.var 0) (.bin .Mod (.var 1) (.blt .len (.cons (.var 0) .nil)))) false)
  .nil) .nil)
  (.cons (.ret (.bin .Mod (.bin .Add (.bin .Add (.bin .Add (.bin .Mult (.bin .Mod (.var 3) (.cst (.int (1000000007)))) (.cst (.int (69621)))) (.bin .Mult (.bin .Mult (.var 1) (.var 1)) (.cst (.int (7919))))) (.bin .Mult (.cst (.int (5))) (.var 1))) (.cst (.int (1234567)))) (.var 2)))
  .nil)))
noncomputable abbrev EM (cs:List Int)(k p:Int)(a:Slot):En:=[some (.lst (iD cs),.sh []),sI k,sI p,a]
theorem pG {cs:List Int}{k p:Int}{a:Slot}(h:aN a):Tame (EM cs k p a):=.cons (dA _) (.cons (aB _) (.cons (aB _) (.cons h .nil)))
theorem t7 {T:Tb}{cs:List Int}{k p v:Int}(hk:small k=true)(hp:0<p):∃ r,0<=r/\r<p/\ret (aF T (.cons (.ret (.bin .Mod (.bin .Add (.bin .Add (.bin .Add (.bin .Mult (.bin .Mod (.var 3) (.cst (.int (1000000007)))) (.cst (.int (69621)))) (.bin .Mult (.bin .Mult (.var 1) (.var 1)) (.cst (.int (7919))))) (.bin .Mult (.cst (.int (5))) (.var 1))) (.cst (.int (1234567)))) (.var 2))) .nil) (EM cs k p (sI v))) = .ok (.int r,true):=by
 have v1:ev T (.var 1) (EM cs k p (sI v)) = .ok (.int k,.mv []):=aC rfl rfl;have v2:ev T (.var 2) (EM cs k p (sI v)) = .ok (.int p,.mv []):=aC rfl rfl;have v3:ev T (.var 3) (EM cs k p (sI v)) = .ok (.int v,.mv []):=aC rfl rfl;have e1:=Fr.fG (by rw[show small 69621=true by decide,gg]) (dW (by decide) v3 (aE (.int 1000000007))) (aE (.int 69621));have e2:=Fr.fG (by rw[show small 7919=true by decide,gg]) (Fr.fG (by rw[hk];rfl) v1 v1) (aE (.int 7919));have e3:=Fr.fG (by rw[show small 5=true by decide];rfl) (aE (.int 5)) v1;have e4:=dW hp (bO (bO (bO e1 e2) e3) (aE (.int 1234567))) v2;exact⟨_,fh _ (by omega),dq _ hp,fN e4⟩
theorem AM {T:Tb}{cs:List Int}{k p:Int}(hk:small k=true)(hp:0<p):∃ r,0<=r/\r<p/\ret (aF T bMX (aK [.lst (iD cs),.int k,.int p] 4)) = .ok (.int r,true):=by
 have hst:aK [.lst (iD cs),.int k,.int p] 4=EM cs k p none:=rfl;have g1:bI T (.asg (.nm 3) (.var 1) false) (EM cs k p none) = .nx (EM cs k p (sI k)):=aM (pG aP) (show (3:Nat)<4 by decide) (aC rfl rfl);obtain⟨R,v0⟩:∃ R,ev T (.var 0) (EM cs k p (sI k)) = .ok (.lst (iD cs),R):=eZ rfl;have el:ev T (.blt .len (.cons (.var 0) .nil)) (EM cs k p (sI k)) = .ok (.int (cs.length:Int),.mv []):=by
  rw[jh v0,show (iD cs).length=cs.length from ag ..]
 have ec:=zk (x:=cs.length) (y:=0) el (aE (.int 0));rw[hst];unfold bMX;rw[aF,g1,aD,aF,hX ec];by_cases h0:0<cs.length
 ·rw[if_pos h0];obtain⟨j,hj,hj2⟩:=h9 (fh k (show (cs.length:Int)≠0 by omega)) (dq k (show (0:Int)<(cs.length:Int) by omega));have hj3:j<cs.length:=by omega
  have em:=dW (show (0:Int)<(cs.length:Int) by omega) (aC (T:=T) (env:=EM cs k p (sI k)) (i:=1) (d:=.int k) (t:=.own) rfl rfl) el;rw[hj] at em;have ex:=iT (i:=j) v0 em (by rw[List.getElem?_map,List.getElem?_eq_getElem hj3];rfl) rfl;have g2:bI T (.asg (.nm 3) (.ix (.var 0) (.bin .Mod (.var 1) (.blt .len (.cons (.var 0) .nil)))) false) (EM cs k p (sI k)) = .nx (EM cs k p (sI cs[j])):=aM (pG (aB _)) (show (3:Nat)<4 by decide) ex;rw[bQ g2,aD];exact t7 hk hp
 ·rw[if_neg h0,dJ,aD];exact t7 hk hp
def vd (T:Tb):Prop:=∀(cs:List Int) (k p:Int),small k=true->0<p->∃ r,0<=r/\r<p/\T.cl 5 [.lst (iD cs),.int k,.int p] = .ok (.int r,true)
noncomputable def bSG:bZ:=(.cons (.ite (.cmp .Eq (.var 0) (.cst (.int (1)))) (.cons (.ret (.cst (.str ("0123456789" : PySem.Str))))
  .nil) .nil)
  (.cons (.ite (.cmp .Eq (.var 0) (.cst (.int (2)))) (.cons (.ret (.cst (.str (" ABCDEFGHIJKLMNOPQRSTUVWXYZ.,-:/" : PySem.Str))))
  .nil) .nil)
  (.cons (.asg (.nm 1) (.cst (.str (" !\"#$&'()*+,-./0123456789:;<=>?@ABCDEFGHIJKLMNOPQRSTUVWXYZ[\\]^_`" : PySem.Str))) false)
  (.cons (.ret (.bin .Add (.var 1) (.cst (.str ("abcdefghijklmnopqrstuvwxyz{|}~" : PySem.Str)))))
  .nil))))
theorem B0 {T:Tb}{k:Nat}(h1:1<=k)(h3:k<=3):ret (aF T bSG (aK [.int (k:Int)] 2)) = .ok (.str (KS k),true):=by
 have:k=1\/k=2\/k=3:=by omega
 rcases this with rfl | rfl | rfl
 ·rfl
 ·rfl
 ·rfl
def Bo (T:Tb):Prop:=∀ k:Nat,1<=k->k<=3->T.cl 6 [.int (k:Int)] = .ok (.str (KS k),true)
noncomputable def qC:bZ:=(.cons (.asg (.nm 0) (.bin .Add (.bin .Mod (.bin .Mult (.var 0) (.cst (.int (48271)))) (.cst (.int (2147483647)))) (.var 4)) false)
  (.cons (.asg (.nm 3) (.bin .Add (.var 3) (.ix (.var 2) (.bin .Mod (.bin .FloorDiv (.var 0) (.cst (.int (64)))) (.blt .len (.cons (.var 2) .nil))))) false)
  .nil))
noncomputable def bRN:bZ:=(.cons (.asg (.nm 2) (.call 6 (.cons (.bin .Add (.cst (.int (1))) (.bin .Mod (.var 0) (.cst (.int (3))))) .nil)) false)
  (.cons (.asg (.nm 3) (.cst (.str ("" : PySem.Str))) false)
  (.cons (.forr (.nm 4) (.rng1 (.var 1)) qC)
  (.cons (.ret (.var 3))
  .nil))))
noncomputable abbrev ER (d n:Int)(S cs:List Nat)(a:Slot):En:=[sI d,sI n,sT S,sT cs,a]
theorem md {d n:Int}{S cs:List Nat}{a:Slot}(h:aN a):Tame (ER d n S cs a):=.cons (aB _) (.cons (aB _) (.cons (aB _) (.cons (aB _) (.cons h .nil))))
theorem zl {cs:List Nat}(hl:cs.length<=1000){i:Int}(h0:0<=i)(h1:i<cs.length){T:Tb}{env:En}{a b:Ex}{R R':Rt}(ha:ev T a env = .ok (.str (tx cs),R))(hb:ev T b env = .ok (.int i,R')):∃ c∈cs,ev T (.ix a b) env = .ok (.str (tx [c]),.mv []):=by
 obtain⟨j,rfl,_⟩:=h9 h0 h1;have hj:j<cs.length:=by omega
 exact⟨cs[j],e8 hj,tM hl ha hb (List.getElem?_eq_getElem hj)⟩
theorem Cn {T:Tb}{d n k:Int}{S cs:List Nat}(hS:S.length<=100)(hS0:0<S.length)(hcs:cs.length<=200):∃ d',∃ c∈S,aF T qC (ER d n S cs (sI k)) = .nx (ER d' n S (cs ++ [c]) (sI k)):=by
 have e1:=bO (dW (by decide) (Fr.fG (by rw[show small 48271=true by decide,gg]) (aC (T:=T) (env:=ER d n S cs (sI k)) (i:=0) (d:=.int d) (t:=.own) rfl rfl) (aE (.int 48271))) (aE (.int 2147483647))) (aC (i:=4) (d:=.int k) (t:=.own) rfl rfl);have g1:=aM (i:=0) (md (d:=d) (n:=n) (S:=S) (cs:=cs) (aB (.int k))) (show (0:Nat)<5 by decide) e1;have g1:bI T (.asg (.nm 0) (.bin .Add (.bin .Mod (.bin .Mult (.var 0) (.cst (.int (48271)))) (.cst (.int (2147483647)))) (.var 4)) false) (ER d n S cs (sI k)) = .nx (ER (d*48271%2147483647+k) n S cs (sI k)):=g1;generalize d*48271%2147483647+k=d' at g1;have v2:ev T (.var 2) (ER d' n S cs (sI k)) = .ok (.str (tx S),.mv []):=aC rfl rfl;have e2:=dW (show (0:Int)<(S.length:Int) by omega) (fL (by decide) (by decide) (aC (T:=T) (env:=ER d' n S cs (sI k)) (i:=0) (d:=.int d') (t:=.own) rfl rfl) (aE (.int 64))) (dS (by omega) v2);obtain⟨c,hc,e3⟩:=zl (by omega) (fh _ (by omega)) (dq _ (show (0:Int)<(S.length:Int) by omega)) v2 e2;have e4:=mj (aC (T:=T) (env:=ER d' n S cs (sI k)) (i:=3) (d:=.str (tx cs)) (t:=.own) rfl rfl) e3 (by rw[c7];omega);have g2:=aM (i:=3) (md (d:=d') (n:=n) (S:=S) (cs:=cs) (aB (.int k))) (show (3:Nat)<5 by decide) e4;refine⟨d',c,hc,?_⟩;unfold qC;rw[aF,g1,aD,aF,g2,aD,aF];rfl
theorem o9 {T:Tb}{n:Int}{S:List Nat}(hS:S.length<=100)(hS0:0<S.length):∀(l:List Int) (d:Int) (cs:List Nat) (a:Slot),aN a->cs.length+l.length<=100->(∀ c∈cs,c∈S)->∃ d' cs' a',aN a'/\cs'.length=cs.length+l.length/\(∀ c∈cs',c∈S)/\bT (.nm 4) [] (aF T qC) (l.map D.int) (ER d n S cs a) = .nx (ER d' n S cs' a')
 |[],d,cs,a,h,_,hc=>⟨d,cs,a,h,rfl,hc,rfl⟩
 | k::l,d,cs,a,h,hl,hc=>by
  rw[aj] at hl;obtain⟨d1,c,hcS,st⟩:=Cn (T:=T) (d:=d) (n:=n) (k:=k) (cs:=cs) hS hS0 (by omega);obtain⟨d',cs',a',t',q1,q2,q⟩:=o9 (T:=T) (n:=n) hS hS0 l d1 (cs ++ [c]) (sI k) (aB _) (by rw[ao,c7];omega) (fun x hx=>by
   rcases List.mem_append.mp hx with hx | hx
   ·exact hc x hx
   ·rw[gi.mp hx];exact hcS)
  refine⟨d',cs',a',t',by rw[q1,ao,c7,aj];omega,q2,?_⟩;have hb:aZ [] (.nm 4) (.int k) (ER d n S cs a)=some (ER d n S cs (sI k)):=cO (md h) (show (4:Nat)<5 by decide);rw[aq,bK hb st];exact q
theorem kn_b {k:Nat}(h1:1<=k)(h3:k<=3):(kn k).length<=100/\0<(kn k).length:=by
 obtain⟨a,b,c⟩:=yb;have:k=1\/k=2\/k=3:=by omega
 rcases this with rfl | rfl | rfl<;>omega
theorem wx {k:Nat}(h3:k<=3){cs:List Nat}(h:∀ c∈cs,c∈kn k):Good cs:=fun c hc=>⟨by have:=zY k (by omega) c (h c hc);omega,yr k (by omega) c (h c hc)⟩
theorem yI {T:Tb}(hsg:Bo T){d:Int}(n:Nat)(hn:n<=100):∃ cs,cs.length=n/\Good cs/\ret (aF T bRN (aK [.int d,.int (n:Int)] 5)) = .ok (.str (tx cs),true):=by
 have hst:aK [.int d,.int (n:Int)] 5=[sI d,sI (n:Int),none,none,none]:=rfl;have tn:=aP;obtain⟨j,hj,hj2⟩:=h9 (fh d (show (3:Int)≠0 by decide)) (dq d (show (0:Int)<3 by decide));have em:=dW (show (0:Int)<3 by decide) (aC (T:=T) (env:=[sI d,sI (n:Int),none,none,none]) (i:=0) (d:=.int d) (t:=.own) rfl rfl) (aE (.int 3));rw[hj] at em;have ep:=bJ (x:=1) (aE (.int 1)) em;have hk1:1<=1+j:=by omega
 have hk3:1+j<=3:=by omega
 obtain⟨hb1,hb2⟩:=kn_b hk1 hk3;have ec:=iH ep (hsg (1+j) hk1 hk3);rw[Bk] at ec;have hgd:∀ cs:List Nat,(∀ c∈cs,c∈kn (1+j))->Good cs:=fun cs h=>wx hk3 h
 generalize kn (1+j)=S at *;have g1:bI T (.asg (.nm 2) (.call 6 (.cons (.bin .Add (.cst (.int (1))) (.bin .Mod (.var 0) (.cst (.int (3))))) .nil)) false) [sI d,sI (n:Int),none,none,none] = .nx [sI d,sI (n:Int),sT S,none,none]:=aM (.cons (aB _) (.cons (aB _) (.cons tn (.cons tn (.cons tn .nil))))) (show (2:Nat)<5 by decide) ec;have g2:bI T (.asg (.nm 3) (.cst (.str ("" : PySem.Str))) false) [sI d,sI (n:Int),sT S,none,none] = .nx (ER d (n:Int) S [] none):=rfl;obtain⟨d',cs,a',t',q1,q2,q⟩:=o9 (T:=T) (n:=(n:Int)) hb1 hb2 ((List.range n).map fun k=>((0+k:Nat):Int)) d [] none tn (by rw[List.length_map,List.length_range];simpa using hn) (fun _ h=>(nomatch h));have hit:dI T (.rng1 (.var 1)) (ER d (n:Int) S [] none) = .ok (((List.range n).map fun k=>((0+k:Nat):Int)).map D.int,[]):=by
  rw[AW (m:=n) (aC rfl rfl) (by omega),lN,cv];rfl
 have g3:=cD hit q;refine⟨cs,by rw[q1,bj,ag,f6];omega,hgd cs q2,?_⟩;rw[hst];unfold bRN;rw[aF,g1,aD,aF,g2,aD,aF,g3,aD];exact fN (aC rfl rfl)
def ud (T:Tb):Prop:=∀(d:Int) (n:Nat),n<=100->∃ cs,cs.length=n/\Good cs/\T.cl 7 [.int d,.int (n:Int)] = .ok (.str (tx cs),true)
noncomputable def vD:bZ:=(.cons (.asg (.nm 5) (.call 5 (.cons (.var 0) (.cons (.var 4) (.cons (.cst (.int (2147483587))) .nil)))) false)
  (.cons (.asg (.nm 6) (.bin .Add (.cst (.int (1))) (.bin .Mod (.bin .FloorDiv (.var 5) (.cst (.int (9)))) (.cst (.int (5))))) false)
  (.cons (.ite (.cmp .Eq (.bin .Mod (.bin .FloorDiv (.var 5) (.cst (.int (45)))) (.cst (.int (5)))) (.cst (.int (1)))) (.cons (.asg (.nm 6) (.bin .Add (.cst (.int (1))) (.bin .Mod (.bin .FloorDiv (.var 5) (.cst (.int (225)))) (.cst (.int (90))))) false)
  .nil) .nil)
  (.cons (.asg (.nm 3) (.bin .Add (.var 3) (.call 7 (.cons (.bin .Add (.cst (.int (1))) (.bin .FloorDiv (.var 5) (.cst (.int (7))))) (.cons (.var 6) .nil)))) false)
  (.cons (.asg (.nm 4) (.bin .Add (.var 4) (.cst (.int (1)))) false)
  .nil)))))
noncomputable def bTX:bZ:=(.cons (.asg (.nm 2) (.bin .Mod (.bin .FloorDiv (.call 5 (.cons (.var 0) (.cons (.cst (.int (0))) (.cons (.cst (.int (2147483629))) .nil)))) (.cst (.int (5)))) (.bin .Add (.var 1) (.cst (.int (1))))) false)
  (.cons (.asg (.nm 3) (.cst (.str ("" : PySem.Str))) false)
  (.cons (.asg (.nm 4) (.cst (.int (1))) false)
  (.cons (.whl (.cmp .Lt (.blt .len (.cons (.var 3) .nil)) (.var 2)) vD)
  (.cons (.ret (.sl (.var 3) .none (.some (.var 2))))
  .nil)))))
noncomputable abbrev ET (cs:List Int)(m:Int)(n:Nat)(t:List Nat)(k:Nat)(a5 a6:Slot):En:=[some (.lst (iD cs),.sh []),sI m,sN n,sT t,sN k,a5,a6]
theorem ij {cs:List Int}{m:Int}{n:Nat}{t:List Nat}{k:Nat}{a5 a6:Slot}(h5:aN a5)(h6:aN a6):Tame (ET cs m n t k a5 a6):=.cons (dA _) (.cons (aB _) (.cons (aB _) (.cons (aB _) (.cons (aB _) (.cons h5 (.cons h6 .nil))))))
theorem tV {T:Tb}{env:En}{a b:Ex}{i j:Int}{R R':Rt}(ha:ev T a env = .ok (.int i,R))(hb:ev T b env = .ok (.int j,R')):ev T (.cmp .Eq a b) env = .ok (.bl (decide (i=j)),.mv []):=by
 rw[ev,ha,aA,hb,aA];show (dX (D.eqf 40 (.int i) (.int j))).bind _=_;have:D.eqf 40 (.int i) (.int j)=some (decide (i=j)):=by
  show some (i==j)=_;congr 1
 rw[this];rfl
theorem Ba {T:Tb}(hmx:vd T)(hrn:ud T){cs:List Int}{m:Int}{n:Nat}{t:List Nat}{k:Nat}{a5 a6:Slot}(h5:aN a5)(h6:aN a6)(hk:k<=1000)(ht:t.length<=400)(hG:Good t) :
  ∃ t' b5 b6,aN b5/\aN b6/\Good t'/\t.length<t'.length/\t'.length<=t.length+90/\aF T vD (ET cs m n t k a5 a6) = .nx (ET cs m n t' (k+1) b5 b6):=by
 obtain⟨d,d0,d1,ed⟩:=hmx cs (k:Int) 2147483587 (uu (by omega) (by omega)) (by decide);obtain⟨R,v0⟩:∃ R,ev T (.var 0) (ET cs m n t k a5 a6) = .ok (.lst (iD cs),R):=eZ rfl;have g1:bI T (.asg (.nm 5) (.call 5 (.cons (.var 0) (.cons (.var 4) (.cons (.cst (.int (2147483587))) .nil)))) false) (ET cs m n t k a5 a6) = .nx (ET cs m n t k (sI d) a6):=aM (ij h5 h6) (show (5:Nat)<7 by decide) (tB v0 (aC rfl rfl) (aE _) ed);have lg:∀(a6:Slot) (x y:Int),0<x->x<1073741824->0<y->ev T (.bin .Add (.cst (.int (1))) (.bin .Mod (.bin .FloorDiv (.var 5) (.cst (.int x))) (.cst (.int y)))) (ET cs m n t k (sI d) a6) = .ok (.int (1+d / x%y),.mv []):=fun a6 x y h1 h2 h3 =>
  bO (aE _) (dW h3 (fL h1 h2 (aC rfl rfl) (aE _)) (aE _))
 have g2:bI T (.asg (.nm 6) (.bin .Add (.cst (.int (1))) (.bin .Mod (.bin .FloorDiv (.var 5) (.cst (.int (9)))) (.cst (.int (5))))) false) (ET cs m n t k (sI d) a6) = .nx (ET cs m n t k (sI d) (sI (1+d / 9%5))):=aM (ij (aB _) h6) (show (6:Nat)<7 by decide) (lg a6 9 5 (by decide) (by decide) (by decide));have g3:∃ l:Nat,1<=l/\l<=90/\bI T (.ite (.cmp .Eq (.bin .Mod (.bin .FloorDiv (.var 5) (.cst (.int (45)))) (.cst (.int (5)))) (.cst (.int (1)))) (.cons (.asg (.nm 6) (.bin .Add (.cst (.int (1))) (.bin .Mod (.bin .FloorDiv (.var 5) (.cst (.int (225)))) (.cst (.int (90))))) false) .nil) .nil) (ET cs m n t k (sI d) (sI (1+d / 9%5))) = .nx (ET cs m n t k (sI d) (sI (l:Int))):=by
  have ec:=tV (dW (show (0:Int)<5 by decide) (fL (show (0:Int)<45 by decide) (by decide) (aC (T:=T) (env:=ET cs m n t k (sI d) (sI (1+d / 9%5))) (i:=5) (d:=.int d) (t:=.own) rfl rfl) (aE (.int 45))) (aE (.int 5))) (aE (.int 1));rw[hX ec];split
  ·have p0:=fh (d / 225) (show (90:Int)≠0 by decide);have p1:=dq (d / 225) (show (0:Int)<90 by decide);refine⟨(1+d / 225%90).toNat,by omega,by omega,?_⟩;rw[show (((1+d / 225%90).toNat:Nat):Int)=1+d / 225%90 by omega];exact bQ (aM (ij (aB _) (aB _)) (show (6:Nat)<7 by decide) (lg _ 225 90 (by decide) (by decide) (by decide)))
  ·have p0:=fh (d / 9) (show (5:Int)≠0 by decide);have p1:=dq (d / 9) (show (0:Int)<5 by decide);refine⟨(1+d / 9%5).toNat,by omega,by omega,?_⟩;rw[show (((1+d / 9%5).toNat:Nat):Int)=1+d / 9%5 by omega];exact dJ
 obtain⟨l,l1,l90,g3⟩:=g3;obtain⟨r,r1,r2,er⟩:=hrn (1+d / 7) l (by omega);have e4:=o8 (bO (aE (T:=T) (env:=ET cs m n t k (sI d) (sI (l:Int))) (.int 1)) (fL (show (0:Int)<7 by decide) (by decide) (aC (i:=5) (d:=.int d) (t:=.own) rfl rfl) (aE (.int 7)))) (aC (i:=6) (d:=.int (l:Int)) (t:=.own) rfl rfl) er;have e5:=mj (aC (T:=T) (env:=ET cs m n t k (sI d) (sI (l:Int))) (i:=3) (d:=.str (tx t)) (t:=.own) rfl rfl) e4 (by omega);have g4:=aM (i:=3) (ij (cs:=cs) (m:=m) (n:=n) (t:=t) (k:=k) (aB (.int d)) (aB (.int (l:Int)))) (show (3:Nat)<7 by decide) e5;have g4:bI T (.asg (.nm 3) (.bin .Add (.var 3) (.call 7 (.cons (.bin .Add (.cst (.int (1))) (.bin .FloorDiv (.var 5) (.cst (.int (7))))) (.cons (.var 6) .nil)))) false) (ET cs m n t k (sI d) (sI (l:Int))) = .nx (ET cs m n (t++r) k (sI d) (sI (l:Int))):=g4;have g5:bI T (.asg (.nm 4) (.bin .Add (.var 4) (.cst (.int (1)))) false) (ET cs m n (t++r) k (sI d) (sI (l:Int))) = .nx (ET cs m n (t++r) (k+1) (sI d) (sI (l:Int))):=aM (ij (aB _) (aB _)) (show (4:Nat)<7 by decide) (bJ (y:=1) (aC rfl rfl) (aE _));refine⟨t++r,sI d,sI (l:Int),aB _,aB _,fun c hc=>?_,by rw[ao];omega,by rw[ao];omega,?_⟩
 ·rcases List.mem_append.mp hc with h | h
  ·exact hG c h
  ·exact r2 c h
 ·unfold vD;rw[aF,g1,aD,aF,g2,aD,aF,g3,aD,aF,g4,aD,aF,g5,aD,aF]
theorem pd {T:Tb}{cs:List Int}{m:Int}{n:Nat}{t:List Nat}{k:Nat}{a5 a6:Slot}(ht:t.length<=900):((ev T (.cmp .Lt (.blt .len (.cons (.var 3) .nil)) (.var 2)) (ET cs m n t k a5 a6)).bind fun p=>dX (truth p.1)) = .ok (decide (t.length<n)):=by
 rw[ox (x:=t.length) (y:=n) (dS (by omega) (aC rfl rfl)) (aC rfl rfl),aA];rfl
theorem uH {T:Tb}(hmx:vd T)(hrn:ud T){cs:List Int}{m:Int}{n:Nat}(hn:n<=300):∀(f k:Nat) (t:List Nat) (a5 a6:Slot),aN a5->aN a6->n - t.length<f->t.length<=n+90->k+(n - t.length)<=900->Good t->∃ t' k' b5 b6,aN b5/\aN b6/\Good t'/\n<=t'.length/\t'.length<=n+90 /\
  eO (fun env=>(ev T (.cmp .Lt (.blt .len (.cons (.var 3) .nil)) (.var 2)) env).bind fun p=>dX (truth p.1)) (aF T vD) f (ET cs m n t k a5 a6) = .nx (ET cs m n t' k' b5 b6)
 |0,k,t,a5,a6,_,_,h,_,_,_=>absurd h (Nat.not_lt_zero _)
 | f+1,k,t,a5,a6,h5,h6,hf,ht,hk,hG=>by
  by_cases hlt:t.length<n
  ·obtain⟨t1,b5,b6,u5,u6,G1,l1,l2,st⟩:=Ba hmx hrn (cs:=cs) (m:=m) (n:=n) (k:=k) h5 h6 (by omega) (show t.length<=400 by omega) hG;obtain⟨t',k',c5,c6,w5,w6,G2,q1,q2,q⟩:=uH hmx hrn hn f (k+1) t1 b5 b6 u5 u6 (by omega) (by omega) (by omega) G1;refine⟨t',k',c5,c6,w5,w6,G2,q1,q2,?_⟩;rw[xV (by rw[pd (by omega),bf hlt]) st,q]
  ·refine⟨t,k,a5,a6,h5,h6,hG,by omega,ht,?_⟩;rw[xM (by rw[pd (by omega),aw hlt])]
theorem yh {T:Tb}(hf:1000<=T.fuel)(hmx:vd T)(hrn:ud T){cs:List Int}(m:Nat)(hm:m<=300):∃ t,Good t/\t.length<=m/\ret (aF T bTX (aK [.lst (iD cs),.int (m:Int)] 7)) = .ok (.str (tx t),true):=by
 have hst:aK [.lst (iD cs),.int (m:Int)] 7=[some (.lst (iD cs),.sh []),sI (m:Int),none,none,none,none,none]:=rfl;have tn:=aP;obtain⟨d,d0,d1,ed⟩:=hmx cs 0 2147483629 (by decide) (by decide);obtain⟨R,v0⟩:∃ R,ev T (.var 0) [some (.lst (iD cs),.sh []),sI (m:Int),none,none,none,none,none] = .ok (.lst (iD cs),R):=eZ rfl;have e1:=dW (show (0:Int)<(m:Int)+1 by omega) (fL (show (0:Int)<5 by decide) (by decide) (tB v0 (aE (.int 0)) (aE (.int 2147483629)) ed) (aE (.int 5))) (bO (aC (T:=T) (env:=[some (.lst (iD cs),.sh []),sI (m:Int),none,none,none,none,none]) (i:=1) (d:=.int (m:Int)) (t:=.own) rfl rfl) (aE (.int 1)));obtain⟨n,hn,hn2⟩:=h9 (fh (d / 5) (show (m:Int)+1≠0 by omega)) (dq (d / 5) (show (0:Int)<(m:Int)+1 by omega));rw[hn] at e1;have hnm:n<=m:=by omega
 have g1:bI T (.asg (.nm 2) (.bin .Mod (.bin .FloorDiv (.call 5 (.cons (.var 0) (.cons (.cst (.int (0))) (.cons (.cst (.int (2147483629))) .nil)))) (.cst (.int (5)))) (.bin .Add (.var 1) (.cst (.int (1))))) false) [some (.lst (iD cs),.sh []),sI (m:Int),none,none,none,none,none] = .nx [some (.lst (iD cs),.sh []),sI (m:Int),sN n,none,none,none,none] :=
  aM (.cons (dA _) (.cons (aB _) (.cons tn (.cons tn (.cons tn (.cons tn (.cons tn .nil))))))) (show (2:Nat)<7 by decide) e1
 have g2:bI T (.asg (.nm 3) (.cst (.str ("" : PySem.Str))) false) [some (.lst (iD cs),.sh []),sI (m:Int),sN n,none,none,none,none] = .nx [some (.lst (iD cs),.sh []),sI (m:Int),sN n,sT [],none,none,none]:=rfl;have g3:bI T (.asg (.nm 4) (.cst (.int (1))) false) [some (.lst (iD cs),.sh []),sI (m:Int),sN n,sT [],none,none,none] = .nx (ET cs (m:Int) n [] 1 none none):=rfl;obtain⟨t,k',b5,b6,u5,u6,hG,q1,q2,q⟩:=uH hmx hrn (cs:=cs) (m:=(m:Int)) (n:=n) (by omega) T.fuel 1 [] none none tn tn (by rw[bj];omega) (by rw[bj];omega) (by rw[bj];omega) (fun _ h=>(nomatch h));refine⟨t.take n,fun c hc=>hG c (List.mem_of_mem_take hc),by rw[cm];omega,?_⟩;rw[hst];unfold bTX;rw[aF,g1,aD,aF,g2,aD,aF,g3,aD,aF,bI,q,aD];exact fN (iM (by omega) (aC rfl rfl) eS (dC (aC (d:=.int (n:Int)) (t:=.own) rfl rfl)) (nP t n))
def TXok (T:Tb):Prop:=∀(cs:List Int) (m:Nat),m<=300->∃ t,Good t/\t.length<=m/\T.cl 8 [.lst (iD cs),.int (m:Int)] = .ok (.str (tx t),true)
open Pc.Fr (iD)
theorem eQ {α:Type}{T:Tb}{own:Nat}{pick:List Nat}{t:ka}{it:rQ}{e:Ex}{env:En}{l:List α}{R:List Nat}{g r:α->D}(hit:dI T it env = .ok (l.map g,R))(hl:l.length<=1000)
  (hg:∀ a∈l,bS (aZ [] t (g a) (bF env own pick)) (pC T .none) (ev T e) = .ok (some (r a,.mv []))):ev T (.comp own pick t it .none e) env = .ok (.lst (l.map r),.mv []):=by
 rw[ev,hit,aA,gF (f:=fun d=>bS (aZ [] t d (bF env own pick)) (pC T .none) (ev T e)) (c:=fun _=>true) (r:=r) (fun a ha=>by rw[hg a ha];rfl),aA];dsimp only;rw[List.filter_eq_self.mpr fun _ _=>rfl,if_pos (by rw[ag];exact fP hl),if_pos,cv]
 ·rfl
 ·rw[cf];intro q hq;obtain⟨a,_,rfl⟩:=List.mem_map.mp hq;show ((r a).flat || true)=true;rw[gg]
theorem kL {T:Tb}{e:Ex}{env:En}{d:D}(h:ev T e env = .ok (d,.mv [])):bS (some env) (pC T .none) (ev T e) = .ok (some (d,.mv [])):=by
 unfold bS;dsimp only;rw[pC,aA,if_pos rfl,h,aA]
theorem sV {T:Tb}{env:En}{e:Ex}{cs:List Nat}(hl:cs.length<=1000)(h:ev T e env = .ok (.str (tx cs),.mv [])):dI T (.seq e) env = .ok (cs.map fun c=>D.str (tx [c]),[]):=by
 rw[dI,h,aA];show (dX (if (tx cs).length<=lim then some (cs.map fun c=>D.str ⟨#[c]⟩) else none)).bind _=_;rw[if_pos (vx hl)];rfl
noncomputable def rF:bZ:=.cons (.ret (.cst (.bl false))) .nil
noncomputable def e0:Ex:=.ix (.var 0) (.cst (.int (0)))
noncomputable def e1:Ex:=.ix (.var 0) (.cst (.int (1)))
theorem mN:∀ l:List Str,nj (l.map D.str)=some l
 |[]=>rfl
 | a::l=>by
  show (nj (l.map D.str)).map (a :: ·)=_;rw[mN l];rfl
theorem pV:∀ l:List (List Nat),Str.join ⟨#[]⟩ (l.map tx)=tx l.flatten
 |[]=>rfl
 | [a]=>by
  rw[bg,f9,ay];rfl
 | a::b::r=>by
  have ih:=pV (b::r);show tx a ++ ⟨#[]⟩++Str.join ⟨#[]⟩ ((b::r).map tx)=_;rw[ih,show (⟨#[]⟩:Str)=tx [] from rfl,ot,ot,ay];rfl
theorem qb:∀ l:List (List Nat),((l.map tx).map (·.length)).sum=l.flatten.length
 |[]=>rfl
 | a::l=>by
  rw[aq,aq,gm,qb l,jR,bg,ao]
theorem uY {T:Tb}{env:En}{e:Ex}{ls:List (List Nat)}{R:Rt}(h:ev T e env = .ok (.lst (ls.map fun l=>D.str (tx l)),R))(hl:ls.flatten.length<=1000):ev T (.mth .sjoin (.cst (.str ("" : PySem.Str))) (.cons e .nil)) env = .ok (.str (tx ls.flatten),.mv []):=by
 rw[show (("" : PySem.Str))=⟨#[]⟩ by decide +kernel,ev,aE,aA,bB,h,aA,bB,aA,aA];have hm:(ls.map fun l=>D.str (tx l))=(ls.map tx).map D.str:=by rw[cv];rfl
 show (dX ((nj (ls.map fun l=>D.str (tx l))).bind fun ys=>if (ys.map (·.length)).sum+ys.length*(⟨#[]⟩:Str).length<=lim then some (D.str (Str.join ⟨#[]⟩ ys)) else none)).bind _=_;rw[hm,mN,dm,if_pos (by rw[qb,show (⟨#[]⟩:Str).length=0 from rfl,Nat.mul_zero,Nat.add_zero];exact fP hl),pV];rfl
theorem B6 (n:Nat)(s:List Nat):D.eqf (n+1) (.str (tx s)) (.str (tx s))=some true:=by
 show some (tx s==tx s)=_;rw[eh]
theorem fZ:∀ a:List Int,gP a a=false
 |[]=>rfl
 | x::a=>by
  unfold gP;rw[if_pos (eh x)];exact fZ a
def uq (a b:List Int):Prop:=gP b a=false
theorem rM (x y:Int)(a b:List Int):gP (x::a) (y::b)=if x=y then gP a b else decide (x<y):=by
 show (if (x==y)=true then gP a b else decide (x<y))=_;by_cases h:x=y
 ·rw[if_pos (by simpa using h),if_pos h]
 ·rw[if_neg (by simpa using h),if_neg h]
theorem dU {x y:Int}{a b:List Int}:uq (x::a) (y::b)↔x<y\/(x=y/\uq a b):=by
 unfold uq;rw[rM];by_cases h:y=x
 ·rw[if_pos h];constructor
  ·intro q;exact .inr ⟨h.symm,q⟩
  ·rintro (q | q)
   ·omega
   ·exact q.2
 ·rw[if_neg h,fu];constructor
  ·intro q;left;omega
  ·rintro (q | q)
   ·omega
   ·exact absurd q.1.symm h
theorem kR:∀{a b c:List Int},a.length=b.length->b.length=c.length->uq a b->uq b c->uq a c
 | [],b,c,h1,h2,_,_=>by
  have:b=[]:=List.length_eq_zero_iff.mp h1.symm;subst this;have:c=[]:=List.length_eq_zero_iff.mp h2.symm;subst this;rfl
 |x::a,[],_,h1,_,_,_=>by cases h1
 |x::a,y::b,[],_,h2,_,_=>by cases h2
 | x::a,y::b,z::c,h1,h2,p,q=>by
  rw[dU] at p q ⊢;simp only[List.length_cons,Nat.add_right_cancel_iff] at h1 h2;rcases p with p | ⟨p1,p2⟩
  ·rcases q with q | ⟨q1,_⟩
   ·left;omega
   ·left;omega
  ·rcases q with q | ⟨q1,q2⟩
   ·left;omega
   ·exact .inr ⟨by omega,kR h1 h2 p2 q2⟩
theorem kD:∀{a b:List Int},a.length=b.length->uq a b\/uq b a
 |[],[],_=>.inl rfl
 |[],_::_,h=>by cases h
 |_::_,[],h=>by cases h
 | x::a,y::b,h=>by
  rw[dU,dU];simp only[List.length_cons,Nat.add_right_cancel_iff] at h;rcases kD h with q | q
  ·by_cases hx:x<y
   ·exact .inl (.inl hx)
   ·by_cases hy:y<x
    ·exact .inr (.inl hy)
    ·exact .inl (.inr ⟨by omega,q⟩)
  ·by_cases hx:x<y
   ·exact .inl (.inl hx)
   ·by_cases hy:y<x
    ·exact .inr (.inl hy)
    ·exact .inr (.inr ⟨by omega,q⟩)
def leQ (a b:Q4):Prop:=uq (k4 a) (k4 b)
theorem vK {a b:Q4}:leQ a b↔a.1<b.1\/(a.1=b.1/\(a.2.1<b.2.1\/(a.2.1=b.2.1/\(a.2.2.1<b.2.2.1\/(a.2.2.1=b.2.2.1/\a.2.2.2<=b.2.2.2))))):=by
 unfold leQ k4;rw[dU,dU,dU,dU];have:uq [] []:=rfl;constructor
 ·rintro (h | ⟨h,h | ⟨h',h | ⟨h2,h | ⟨h3,_⟩⟩⟩⟩)<;>omega
 ·intro h;by_cases c1:a.1<b.1
  ·left;omega
  ·right;refine⟨by omega,?_⟩;by_cases c2:a.2.1<b.2.1
   ·left;omega
   ·right;refine⟨by omega,?_⟩;by_cases c3:a.2.2.1<b.2.2.1
    ·left;omega
    ·right;refine⟨by omega,?_⟩;by_cases c4:a.2.2.2<b.2.2.2
     ·left;omega
     ·exact .inr ⟨by omega,this⟩
theorem kI (l:List Q4):∀(k j m:Nat),m<l.length->j+k<=l.length->(∀ i,i<j->i<l.length->leQ (l.getD m z4) (l.getD i z4)) ->
  ∀ i,i<j+k->leQ (l.getD (bY (fun i j=>gP ((l.map k4).getD i []) ((l.map k4).getD j [])) k j m) z4) (l.getD i z4)
 |0,j,m,hm,hj,h,i,hi=>h i hi (by omega)
 | k+1,j,m,hm,hj,h,i,hi=>by
  unfold bY;have kd:∀ i,i<l.length->(l.map k4).getD i []=k4 (l.getD i z4):=fun i hi=>by
   rw[List.getD_eq_getElem?_getD,List.getD_eq_getElem?_getD,List.getElem?_map,List.getElem?_eq_getElem hi];rfl
  refine kI l k (j+1) _ ?_ (by omega) (fun i hi hl=>?_) i (by omega)
  ·split<;>omega
  ·simp only[kd j (by omega),kd m hm];by_cases hc:gP (k4 (l.getD j z4)) (k4 (l.getD m z4))=true
   ·rw[if_pos hc];show leQ (l.getD j z4) (l.getD i z4);have hle:leQ (l.getD j z4) (l.getD m z4):=by
     rcases kD (a:=k4 (l.getD j z4)) (b:=k4 (l.getD m z4)) rfl with q | q
     ·exact q
     ·unfold uq at q;rw[hc] at q;cases q
    by_cases hij:i<j
    ·exact kR (b:=k4 (l.getD m z4)) rfl rfl hle (h i hij hl)
    ·have:i=j:=by omega
     subst this;exact fZ _
   ·rw[if_neg hc];by_cases hij:i<j
    ·exact h i hij hl
    ·have:i=j:=by omega
     subst this;exact Bool.eq_false_iff.mpr hc
theorem yG {l:List Q4}{q:Q4}(h:q∈l):leQ (vj l) q:=by
 obtain⟨i,hi,rfl⟩:=List.mem_iff_getElem.mp h;have h0:0<l.length:=by omega
 have:=kI l (l.length - 1) 1 0 h0 (by omega) (fun j hj hl=>by
  have:j=0:=by omega
  subst this;exact fZ _) i (by omega)
 rw[List.getD_eq_getElem?_getD (l:=l) (i:=i),List.getElem?_eq_getElem hi] at this;exact this
noncomputable def i6 (P:List Pe):Nat:=(P.map fun p=>dG p.1 p.2.length).sum
noncomputable def mB (P:List Pe):List (Nat×Nat):=P.map fun p=>(p.1,p.2.length)
noncomputable def mL:List (Nat×Nat)->List (Nat×Nat)->Bool
 |[],[]=>false
 |[],_::_=>true
 |_::_,[]=>false
 |p::a,q::b=>if p=q then mL a b else decide (p.1<q.1\/(p.1=q.1/\p.2<q.2))
noncomputable def zb (P Q:List Pe):Bool:=if i6 P=i6 Q then (if P.length=Q.length then mL (mB P) (mB Q) else decide (P.length<Q.length)) else decide (i6 P<i6 Q)
structure Cut (t:List Nat)(Q:List Pe):Prop where
 ok:∀ p∈Q,Piece p
 eq:(Q.map (·.2)).flatten=t
theorem xK (k:Nat):∀{s t:List Nat},(∀ c∈s,eD k c=true)->s.length<=rn k (s++t)
 |[],t,_=>cy _
 | c::s,t,h=>by
  rw[List.cons_append,gI,if_pos (h c ai),aj];exact Nat.succ_le_succ (xK k fun d hd=>h d (ah _ hd))
theorem oY {r:List Nat}{j:Nat}(h:j<=r.length):(bc r).getD j z4=hd (r.drop j):=by
 rw[List.getD_eq_getElem?_getD,x5 r j h];rfl
theorem cand {c:Nat}{r:List Nat}{k j:Nat}(h1:1<=k)(h3:k<=3)(hj:j+1<=rn k (c::r))(h64:j+1<=64):one k (j+1) (hd ((c::r).drop (j+1)))∈kE (c::r) (bc r):=by
 have hl:=i8 k (c::r);rw[aj] at hl;have hm:one k (j+1) (hd ((c::r).drop (j+1)))∈nN k (bc r) (min (rn k (c::r)) 64):=by
  unfold nN;refine List.mem_map.mpr ⟨j,List.mem_range.mpr (by omega),?_⟩;rw[oY (by omega),fi]
 unfold kE;have:k=1\/k=2\/k=3:=by omega
 rcases this with rfl | rfl | rfl
 ·exact az _ (az _ hm)
 ·exact az _ (au _ hm)
 ·exact au _ hm
theorem yQ {c:Nat}{r:List Nat}(h:eD 3 c=true):∃ k j,1<=k/\k<=3/\j+1<=rn k (c::r)/\j+1<=64/\hd (c::r)=one k (j+1) (hd ((c::r).drop (j+1))):=by
 have hm:=pE (sM (r:=r) (C:=bc r) h);rw[<-my] at hm;have key:∀ k,1<=k->k<=3->hd (c::r)∈nN k (bc r) (min (rn k (c::r)) 64)->∃ k j,1<=k/\k<=3/\j+1<=rn k (c::r)/\j+1<=64/\hd (c::r)=one k (j+1) (hd ((c::r).drop (j+1))):=fun k h1 h3 hm=>by
  obtain⟨j,hj,e⟩:=qp hm;have hl:=i8 k (c::r);rw[aj] at hl;refine⟨k,j,h1,h3,by omega,by omega,?_⟩;rw[e,oY (by omega),fi]
 unfold kE at hm;rcases List.mem_append.mp hm with hm | hm
 ·rcases List.mem_append.mp hm with hm | hm
  ·exact key 1 (by decide) (by decide) hm
  ·exact key 2 (by decide) (by decide) hm
 ·exact key 3 (by decide) (by decide) hm
theorem lO:∀(n:Nat) (t:List Nat),Good t->t.length<=n->i6 (pc n t)=(hd t).1/\(pc n t).length=(hd t).2.1
 | 0,t,_,h=>by
  have:t=[]:=List.length_eq_zero_iff.mp (by omega);subst this;exact⟨rfl,rfl⟩
 |n+1,[],_,_=>by rw[gY];exact⟨rfl,rfl⟩
 | n+1,c::r,hG,h=>by
  obtain⟨k,j,h1,h3,hj,h64,e⟩:=yQ (r:=r) (hG c ai).2;have hl:=i8 k (c::r);have ih:=lO n ((c::r).drop (j+1)) (hG.drop _) (by rw[bz];rw[aj] at h ⊢;omega);rw[fK];generalize hd (c::r)=q at e ⊢;subst e;show i6 ((k,(c::r).take (j+1))::pc n ((c::r).drop (j+1)))=dG k (j+1)+_/\(((k,(c::r).take (j+1))::pc n ((c::r).drop (j+1))):List Pe).length=1+_;rw[<-ih.1,<-ih.2];constructor
  ·unfold i6;rw[aq,gm];show dG k ((c::r).take (j+1)).length+_=_;rw[cm,de (by omega)]
  ·rw[aj];omega
theorem iW:∀ a,mL a a=false
 |[]=>rfl
 | p::a=>by
  unfold mL;rw[if_pos rfl];exact iW a
theorem m4:∀(n:Nat) (t:List Nat) (Q:List Pe),Good t->t.length<=n->Cut t Q->i6 (pc n t)<i6 Q\/(i6 (pc n t)=i6 Q/\((pc n t).length<Q.length\/((pc n t).length=Q.length/\mL (mB Q) (mB (pc n t))=false)))
 | n,t,[],hG,h,hc=>by
  have:t=[]:=hc.eq.symm;subst this;rw[gY];exact .inr ⟨rfl,.inr ⟨rfl,rfl⟩⟩
 | 0,t,p::Q,hG,h,hc=>by
  have:t=[]:=List.length_eq_zero_iff.mp (by omega);subst this;have h1:=(hc.ok p ai).c1;have:=fk List.length hc.eq;rw[aq,bg,ao,bj] at this;omega
 | n+1,[],p::Q,hG,h,hc=>by
  have h1:=(hc.ok p ai).c1;have:=fk List.length hc.eq;rw[aq,bg,ao,bj] at this;omega
 | n+1,c::r,(k',s)::Q,hG,h,hc=>by
  have hp:=hc.ok (k',s) ai;have he:s++(Q.map (·.2)).flatten=c::r:=hc.eq;have hs1:1<=s.length:=hp.c1;have hs64:s.length<=64:=hp.c64;have hk1:1<=k':=hp.k1;have hk3:k'<=3:=hp.k3;have hrun:s.length<=rn k' (c::r):=by rw[<-he];exact xK k' hp.all
  have hdr:(c::r).drop s.length=(Q.map (·.2)).flatten:=by rw[<-he,List.drop_left]
  have hQ:Cut ((c::r).drop s.length) Q:=⟨fun p hp=>hc.ok p (ah _ hp),hdr.symm⟩;have hlen:((c::r).drop s.length).length<=n:=by rw[bz];rw[aj] at h ⊢;omega
  have ih:=m4 n _ Q (hG.drop s.length) hlen hQ;obtain⟨i1,i2⟩:=lO n _ (hG.drop s.length) hlen;have hsj:s.length - 1+1=s.length:=by omega
  have hcand:=cand (c:=c) (r:=r) (j:=s.length - 1) hk1 hk3 (by omega) (by omega);rw[hsj] at hcand;have hle:=yG hcand;rw[<-my,vK] at hle;obtain⟨p1,p2⟩:=lO (n+1) (c::r) hG h;have b1:i6 ((k',s)::Q)=dG k' s.length+i6 Q:=by unfold i6;rw[aq,gm]
  have b2:((k',s)::Q:List Pe).length=1+Q.length:=by rw[aj];omega
  have o1:(one k' s.length (hd ((c::r).drop s.length))).1=dG k' s.length+(hd ((c::r).drop s.length)).1:=rfl;have o2:(one k' s.length (hd ((c::r).drop s.length))).2.1=1+(hd ((c::r).drop s.length)).2.1:=rfl;have o3:(one k' s.length (hd ((c::r).drop s.length))).2.2.1=k':=rfl;have o4:(one k' s.length (hd ((c::r).drop s.length))).2.2.2=s.length:=rfl;rw[o1,o2,o3,o4] at hle;rw[b1,b2,p1,p2];by_cases e1:(hd (c::r)).1<dG k' s.length+i6 Q
  ·exact .inl e1
  ·refine .inr ⟨by omega,?_⟩;by_cases e2:(hd (c::r)).2.1<1+Q.length
   ·exact .inl e2
   ·refine .inr ⟨by omega,?_⟩;have hF:=gC (r:=r) (hG c ai).2;have hcl:(hd (c::r)).2.2.2<=(c::r).length:=bh hF.run (i8 _ _);have hpr:mB (pc (n+1) (c::r))=((hd (c::r)).2.2.1,(hd (c::r)).2.2.2)::mB (pc n ((c::r).drop (hd (c::r)).2.2.2)):=by
     rw[fK];unfold mB;rw[aq];show (_,((c::r).take (hd (c::r)).2.2.2).length)::_=_;rw[cm,de hcl]
    have hpq:mB ((k',s)::Q)=(k',s.length)::mB Q:=rfl;rw[hpr,hpq];unfold mL;by_cases e3:(k',s.length)=((hd (c::r)).2.2.1,(hd (c::r)).2.2.2)
    ·rw[if_pos e3];injection e3 with e4 e5
     rw[<-e5];rcases ih with ih | ⟨ih1,ih | ⟨ih2,ih3⟩⟩
     ·omega
     ·omega
     ·exact ih3
    ·rw[if_neg e3,fu];have e4:¬ (k'=(hd (c::r)).2.2.1/\s.length=(hd (c::r)).2.2.2):=fun z=>e3 (by rw[z.1,z.2])
     omega
theorem mD {n:Nat}{t:List Nat}{Q:List Pe}(hG:Good t)(h:t.length<=n)(hc:Cut t Q):zb Q (pc n t)=false:=by
 have:=m4 n t Q hG h hc;unfold zb;rcases this with h1 | ⟨h1,h2 | ⟨h2,h3⟩⟩
 ·rw[if_neg (by omega),fu];omega
 ·rw[if_pos h1.symm,if_neg (by omega),fu];omega
 ·rw[if_pos h1.symm,if_pos h2.symm];exact h3
end Pc.Ct
end
section
namespace K07
open PySem Pc
noncomputable def b0:bZ:=(.cons (.asg (.nm 2) (.bin .Add (.glb 5) (.glb 6)) false)
  (.cons (.ite (.cmp .Eq (.var 0) (.glb 0)) (.cons (.ret (.bin .Add (.bin .Add (.var 2) (.bin .Mult (.ix (.glb 8) (.glb 9)) (.bin .FloorDiv (.var 1) (.glb 9)))) (.ix (.glb 8) (.bin .Mod (.var 1) (.glb 9)))))
  .nil) .nil)
  (.cons (.ret (.bin .Add (.var 2) (.bin .Mult (.ix (.glb 4) (.var 0)) (.var 1))))
  .nil)))
noncomputable def b1:bZ:=(.cons (.expr (.call 2 (.cons (.var 0) .nil)))
  (.cons (.asg (.nm 1) (.call 3 (.cons (.var 0) .nil)) false)
  (.cons (.asg (.nm 2) (.lst .nil) false)
  (.cons (.asg (.nm 3) (.cst (.int (0))) false)
  (.cons (.whl (.cmp .Lt (.var 3) (.blt .len (.cons (.var 0) .nil))) (.cons (.asg (.nm 4) (.ix (.ix (.var 1) (.var 3)) (.cst (.int (2)))) false)
  (.cons (.asg (.nm 5) (.bin .Add (.var 3) (.ix (.ix (.var 1) (.var 3)) (.cst (.int (3))))) false)
  (.cons (.mut 2 .none .append (.cons (.tup (.cons (.var 4) (.cons (.sl (.var 0) (.some (.var 3)) (.some (.var 5))) .nil))) .nil))
  (.cons (.asg (.nm 3) (.var 5) false)
  .nil)))))
  (.cons (.ret (.var 2))
  .nil))))))
noncomputable def b2:bZ:=(.cons (.forr (.tp [1,2]) (.enum (.var 0)) (.cons (.ite (.cmp .NotIn (.var 2) (.ix (.glb 3) (.glb 2))) (.cons (.expr (.neg (.cst .non)))
  .nil) .nil)
  .nil))
  .nil)
noncomputable def b3:bZ:=(.cons (.asg (.nm 1) (.bin .Mult (.lst (.cons (.tup (.cons (.cst (.int (0))) (.cons (.cst (.int (0))) (.cons (.cst (.int (0))) (.cons (.cst (.int (0))) .nil))))) .nil)) (.bin .Add (.blt .len (.cons (.var 0) .nil)) (.cst (.int (1))))) false)
  (.cons (.asg (.nm 2) (.ddsp [(0,0),(1,0),(2,0)]) false)
  (.cons (.forr (.nm 3) (.rng3 (.bin .Sub (.blt .len (.cons (.var 0) .nil)) (.cst (.int (1)))) (.neg (.cst (.int (1)))) (.neg (.cst (.int (1))))) (.cons (.asg (.nm 4) (.lst .nil) false)
  (.cons (.forr (.nm 5) (.seq (.blt .list (.cons (.var 2) .nil))) (.cons (.putd 2 (.var 5) (.ite (.cmp .In (.ix (.var 0) (.var 3)) (.ix (.glb 3) (.var 5))) (.bin .Add (.ix (.var 2) (.var 5)) (.cst (.int (1)))) (.cst (.int (0)))))
  (.cons (.mut 4 .none .extend (.cons (.call 4 (.cons (.var 1) (.cons (.var 3) (.cons (.var 5) (.cons (.ix (.var 2) (.var 5)) .nil))))) .nil))
  .nil)))
  (.cons (.setix 1 .none (.var 3) (.blt .min2 (.cons (.var 4) .nil)))
  .nil))))
  (.cons (.ret (.var 1))
  .nil))))
noncomputable def b4:bZ:=(.cons (.asg (.nm 4) (.lst .nil) false)
  (.cons (.forr (.nm 5) (.rng2 (.cst (.int (1))) (.bin .Add (.blt .min2 (.cons (.var 3) (.cons (.glb 7) .nil))) (.cst (.int (1))))) (.cons (.asg (.nm 6) (.ix (.var 0) (.bin .Add (.var 1) (.var 5))) false)
  (.cons (.mut 4 .none .append (.cons (.tup (.cons (.bin .Add (.call 0 (.cons (.var 2) (.cons (.var 5) .nil))) (.ix (.var 6) (.cst (.int (0))))) (.cons (.bin .Add (.cst (.int (1))) (.ix (.var 6) (.cst (.int (1))))) (.cons (.var 2) (.cons (.var 5) .nil))))) .nil))
  .nil)))
  (.cons (.ret (.var 4))
  .nil)))
noncomputable def b5:bZ:=(.cons (.asg (.nm 3) (.var 1) false)
  (.cons (.ite (.cmp .Gt (.blt .len (.cons (.var 0) .nil)) (.cst (.int (0)))) (.cons (.asg (.nm 3) (.ix (.var 0) (.bin .Mod (.var 1) (.blt .len (.cons (.var 0) .nil)))) false)
  .nil) .nil)
  (.cons (.ret (.bin .Mod (.bin .Add (.bin .Add (.bin .Add (.bin .Mult (.bin .Mod (.var 3) (.cst (.int (1000000007)))) (.cst (.int (69621)))) (.bin .Mult (.bin .Mult (.var 1) (.var 1)) (.cst (.int (7919))))) (.bin .Mult (.cst (.int (5))) (.var 1))) (.cst (.int (1234567)))) (.var 2)))
  .nil)))
noncomputable def b6:bZ:=(.cons (.ite (.cmp .Eq (.var 0) (.cst (.int (1)))) (.cons (.ret (.cst (.str ("0123456789" : PySem.Str))))
  .nil) .nil)
  (.cons (.ite (.cmp .Eq (.var 0) (.cst (.int (2)))) (.cons (.ret (.cst (.str (" ABCDEFGHIJKLMNOPQRSTUVWXYZ.,-:/" : PySem.Str))))
  .nil) .nil)
  (.cons (.asg (.nm 1) (.cst (.str (" !\"#$&'()*+,-./0123456789:;<=>?@ABCDEFGHIJKLMNOPQRSTUVWXYZ[\\]^_`" : PySem.Str))) false)
  (.cons (.ret (.bin .Add (.var 1) (.cst (.str ("abcdefghijklmnopqrstuvwxyz{|}~" : PySem.Str)))))
  .nil))))
noncomputable def b7:bZ:=(.cons (.asg (.nm 2) (.call 6 (.cons (.bin .Add (.cst (.int (1))) (.bin .Mod (.var 0) (.cst (.int (3))))) .nil)) false)
  (.cons (.asg (.nm 3) (.cst (.str ("" : PySem.Str))) false)
  (.cons (.forr (.nm 4) (.rng1 (.var 1)) (.cons (.asg (.nm 0) (.bin .Add (.bin .Mod (.bin .Mult (.var 0) (.cst (.int (48271)))) (.cst (.int (2147483647)))) (.var 4)) false)
  (.cons (.asg (.nm 3) (.bin .Add (.var 3) (.ix (.var 2) (.bin .Mod (.bin .FloorDiv (.var 0) (.cst (.int (64)))) (.blt .len (.cons (.var 2) .nil))))) false)
  .nil)))
  (.cons (.ret (.var 3))
  .nil))))
noncomputable def b8:bZ:=(.cons (.asg (.nm 2) (.bin .Mod (.bin .FloorDiv (.call 5 (.cons (.var 0) (.cons (.cst (.int (0))) (.cons (.cst (.int (2147483629))) .nil)))) (.cst (.int (5)))) (.bin .Add (.var 1) (.cst (.int (1))))) false)
  (.cons (.asg (.nm 3) (.cst (.str ("" : PySem.Str))) false)
  (.cons (.asg (.nm 4) (.cst (.int (1))) false)
  (.cons (.whl (.cmp .Lt (.blt .len (.cons (.var 3) .nil)) (.var 2)) (.cons (.asg (.nm 5) (.call 5 (.cons (.var 0) (.cons (.var 4) (.cons (.cst (.int (2147483587))) .nil)))) false)
  (.cons (.asg (.nm 6) (.bin .Add (.cst (.int (1))) (.bin .Mod (.bin .FloorDiv (.var 5) (.cst (.int (9)))) (.cst (.int (5))))) false)
  (.cons (.ite (.cmp .Eq (.bin .Mod (.bin .FloorDiv (.var 5) (.cst (.int (45)))) (.cst (.int (5)))) (.cst (.int (1)))) (.cons (.asg (.nm 6) (.bin .Add (.cst (.int (1))) (.bin .Mod (.bin .FloorDiv (.var 5) (.cst (.int (225)))) (.cst (.int (90))))) false)
  .nil) .nil)
  (.cons (.asg (.nm 3) (.bin .Add (.var 3) (.call 7 (.cons (.bin .Add (.cst (.int (1))) (.bin .FloorDiv (.var 5) (.cst (.int (7))))) (.cons (.var 6) .nil)))) false)
  (.cons (.asg (.nm 4) (.bin .Add (.var 4) (.cst (.int (1)))) false)
  .nil))))))
  (.cons (.ret (.sl (.var 3) .none (.some (.var 2))))
  .nil)))))
noncomputable def b9:bZ:=(.cons (.ite (.cmp .Eq (.var 0) (.cst (.int (1)))) (.cons (.ret (.bin .Add (.cst (.int (8))) (.bin .FloorDiv (.bin .Add (.bin .Mult (.cst (.int (10))) (.var 1)) (.cst (.int (2)))) (.cst (.int (3))))))
  .nil) .nil)
  (.cons (.ret (.bin .Add (.cst (.int (8))) (.bin .Mult (.var 1) (.ix (.lst (.cons (.cst (.int (5))) (.cons (.cst (.int (7))) .nil))) (.bin .Sub (.var 0) (.cst (.int (2))))))))
  .nil))
noncomputable def b10:bZ:=(.cons (.ite (.not (.chn .LtE .LtE (.cst (.int (1))) (.blt .len (.cons (.ix (.var 0) (.cst (.int (1)))) .nil)) (.cst (.int (64))))) (.cons (.ret (.cst (.bl false)))
  .nil) .nil)
  (.cons (.asg (.nm 1) (.call 6 (.cons (.ix (.var 0) (.cst (.int (0)))) .nil)) false)
  (.cons (.ret (.blt .all (.cons (.comp 1 [1] (.nm 0) (.seq (.ix (.var 0) (.cst (.int (1))))) .none (.cmp .In (.var 0) (.var 1))) .nil)))
  .nil)))
noncomputable def b11:bZ:=(.cons (.asg (.nm 1) (.blt .sum (.cons (.comp 2 [] (.tp [0,1]) (.seq (.var 0)) .none (.call 9 (.cons (.var 0) (.cons (.blt .len (.cons (.var 1) .nil)) .nil)))) .nil)) false)
  (.cons (.ret (.tup (.cons (.var 1) (.cons (.blt .len (.cons (.var 0) .nil)) (.cons (.comp 2 [] (.tp [0,1]) (.seq (.var 0)) .none (.tup (.cons (.var 0) (.cons (.blt .len (.cons (.var 1) .nil)) .nil)))) .nil)))))
  .nil))
noncomputable def b12:bZ:=(.cons (.ret (.comp 1 [0] (.nm 0) (.seq (.tup (.cons (.cst (.int (1))) (.cons (.cst (.int (2))) (.cons (.cst (.int (3))) .nil))))) (.some (.call 10 (.cons (.tup (.cons (.var 0) (.cons (.var 1) .nil))) .nil))) (.tup (.cons (.var 0) (.cons (.var 1) .nil)))))
  .nil)
noncomputable def b13:bZ:=(.cons (.asg (.nm 1) (.comp 1 [] (.nm 0) (.seq (.call 12 (.cons (.ix (.var 0) (.cst (.int (1)))) .nil))) .none (.lst (.cons (.var 0) .nil))) false)
  (.cons (.forr (.nm 2) (.rng2 (.cst (.int (1))) (.blt .len (.cons (.ix (.var 0) (.cst (.int (1)))) .nil))) (.cons (.forr (.nm 3) (.seq (.call 12 (.cons (.sl (.ix (.var 0) (.cst (.int (1)))) .none (.some (.var 2))) .nil))) (.cons (.asg (.nm 1) (.bin .Add (.var 1) (.comp 1 [3] (.nm 0) (.seq (.call 12 (.cons (.sl (.ix (.var 0) (.cst (.int (1)))) (.some (.var 2)) .none) .nil))) .none (.lst (.cons (.var 1) (.cons (.var 0) .nil))))) false)
  .nil))
  .nil))
  (.cons (.ret (.var 1))
  .nil)))
noncomputable def b14:bZ:=(.cons (.asg (.nm 2) (.comp 1 [] (.nm 0) (.seq (.call 12 (.cons (.bin .Add (.ix (.var 0) (.cst (.int (1)))) (.ix (.var 1) (.cst (.int (1))))) .nil))) .none (.lst (.cons (.var 0) .nil))) false)
  (.cons (.asg (.nm 3) (.bin .Add (.ix (.var 0) (.cst (.int (1)))) (.ix (.var 1) (.cst (.int (1))))) false)
  (.cons (.forr (.nm 4) (.seq (.tup (.cons (.bin .Sub (.blt .len (.cons (.ix (.var 0) (.cst (.int (1)))) .nil)) (.cst (.int (1)))) (.cons (.bin .Add (.blt .len (.cons (.ix (.var 0) (.cst (.int (1)))) .nil)) (.cst (.int (1)))) .nil)))) (.cons (.ite (.chn .Lt .Lt (.cst (.int (0))) (.var 4) (.blt .len (.cons (.var 3) .nil))) (.cons (.forr (.nm 5) (.seq (.call 12 (.cons (.sl (.var 3) .none (.some (.var 4))) .nil))) (.cons (.asg (.nm 2) (.bin .Add (.var 2) (.comp 1 [5] (.nm 0) (.seq (.call 12 (.cons (.sl (.var 3) (.some (.var 4)) .none) .nil))) .none (.lst (.cons (.var 1) (.cons (.var 0) .nil))))) false)
  .nil))
  .nil) .nil)
  .nil))
  (.cons (.ret (.var 2))
  .nil))))
noncomputable def b15:bZ:=(.cons (.asg (.nm 1) (.cst (.int (90))) false)
  (.cons (.ite (.cmp .Eq (.bin .Mod (.call 5 (.cons (.var 0) (.cons (.cst (.int (80))) (.cons (.cst (.int (2147483647))) .nil)))) (.cst (.int (8)))) (.cst (.int (1)))) (.cons (.asg (.nm 1) (.cst (.int (160))) false)
  .nil) .nil)
  (.cons (.asg (.nm 2) (.call 8 (.cons (.var 0) (.cons (.var 1) .nil))) false)
  (.cons (.asg (.nm 3) (.call 1 (.cons (.var 2) .nil)) false)
  (.cons (.forr (.nm 4) (.rng1 (.blt .len (.cons (.var 3) .nil))) (.cons (.asg (.nm 5) (.call 11 (.cons (.sl (.var 3) (.some (.var 4)) .none) .nil)) false)
  (.cons (.forr (.nm 6) (.seq (.call 13 (.cons (.ix (.var 3) (.var 4)) .nil))) (.cons (.ite (.cmp .Lt (.call 11 (.cons (.bin .Add (.var 6) (.sl (.var 3) (.some (.bin .Add (.var 4) (.cst (.int (1))))) .none)) .nil)) (.var 5)) (.cons (.ret (.cst (.bl false)))
  .nil) .nil)
  .nil))
  (.cons (.ite (.cmp .Lt (.bin .Add (.var 4) (.cst (.int (1)))) (.blt .len (.cons (.var 3) .nil))) (.cons (.forr (.nm 6) (.seq (.call 14 (.cons (.ix (.var 3) (.var 4)) (.cons (.ix (.var 3) (.bin .Add (.var 4) (.cst (.int (1))))) .nil)))) (.cons (.ite (.cmp .Lt (.call 11 (.cons (.bin .Add (.var 6) (.sl (.var 3) (.some (.bin .Add (.var 4) (.cst (.int (2))))) .none)) .nil)) (.var 5)) (.cons (.ret (.cst (.bl false)))
  .nil) .nil)
  .nil))
  .nil) .nil)
  .nil))))
  (.cons (.ret (.cmp .Eq (.mth .sjoin (.cst (.str ("" : PySem.Str))) (.cons (.comp 2 [] (.tp [0,1]) (.seq (.var 3)) .none (.var 1)) .nil)) (.var 2)))
  .nil))))))
noncomputable def fns:List Fn:=[⟨2,3,b0⟩,⟨1,6,b1⟩,⟨1,3,b2⟩,⟨1,6,b3⟩,⟨4,7,b4⟩,⟨3,4,b5⟩,⟨1,2,b6⟩,⟨2,5,b7⟩,⟨2,7,b8⟩,⟨2,2,b9⟩,⟨1,2,b10⟩,⟨1,2,b11⟩,⟨1,1,b12⟩,⟨1,4,b13⟩,⟨2,6,b14⟩,⟨1,7,b15⟩]
noncomputable def gl:Nat->D
 |0=>.int 1
 |1=>.int 2
 |2=>.int 3
 |3=>.tup [.str ("" : PySem.Str),.str ("0123456789" : PySem.Str),.str (" ABCDEFGHIJKLMNOPQRSTUVWXYZ.,-:/" : PySem.Str),.str (" !\"#$&'()*+,-./0123456789:;<=>?@ABCDEFGHIJKLMNOPQRSTUVWXYZ[\\]^_`abcdefghijklmnopqrstuvwxyz{|}~" : PySem.Str)]
 |4=>.tup [.int 0,.int 0,.int 5,.int 7]
 |5=>.int 2
 |6=>.int 6
 |7=>.int 64
 |8=>.tup [.int 0,.int 4,.int 7,.int 10]
 |9=>.int 3
 |_=>.non
noncomputable abbrev T (n:Nat):Tb:=⟨Pc.run fns gl 1000 n,gl,1000⟩
theorem oq (n:Nat):(T n).cl=Pc.run fns gl 1000 n:=rfl
end K07
end
section
namespace K07
open PySem Pc Pc.Sm Pc.Lw Pc.Gr Pc.Nw Pc.Ct
open Pc.Fr (iD)
theorem gL (n:Nat):GL (T n):=fun i hi=>by
 match i,hi with
 |0,_=>rfl
 |1,_=>rfl
 |2,_=>rfl
 |3,_=>rfl
 |4,_=>rfl
 |5,_=>rfl
 |6,_=>rfl
 |7,_=>rfl
 |8,_=>rfl
 |9,_=>rfl
theorem pL (n:Nat):xw (T (n+1)):=fun k c h1 h3 hc=>by
 rw[oq,cA (F:=⟨2,3,b0⟩) rfl rfl];exact Bt (gL n) h1 h3 hc
theorem cK (n:Nat):u9 (T (n+2)):=fun B s k r h1 h3 hB=>by
 rw[oq,cA (F:=⟨4,7,b4⟩) rfl rfl];exact BZ (gL (n+1)) (pL n) h1 h3 hB
theorem bC (n:Nat):AJ (T (n+3)):=fun t ht hG=>by
 rw[oq,cA (F:=⟨1,6,b3⟩) rfl rfl];exact Aw (gL (n+2)) (cK n) ht hG
theorem rS (n:Nat):BF (T (n+1)):=fun t hG=>by
 rw[oq,cA (F:=⟨1,3,b2⟩) rfl rfl];exact BK (gL n) hG
theorem cT (n:Nat):CTok (T (n+4)):=fun t ht hG=>by
 rw[oq,cA (F:=⟨1,6,b1⟩) rfl rfl];exact BQ (av _) (rS (n+2)) (bC n) ht hG
theorem mX (n:Nat):vd (T (n+1)):=fun cs k p hk hp=>by
 obtain⟨r,h0,h1,h2⟩:=AM (T:=T n) (cs:=cs) hk hp;refine⟨r,h0,h1,?_⟩;rw[oq,cA (F:=⟨3,4,b5⟩) rfl rfl];exact h2
theorem sG (n:Nat):Bo (T (n+1)):=fun k h1 h3=>by
 rw[oq,cA (F:=⟨1,2,b6⟩) rfl rfl];exact B0 h1 h3
theorem rN (n:Nat):ud (T (n+2)):=fun d m hm=>by
 obtain⟨cs,h1,h2,h3⟩:=yI (sG n) (d:=d) m hm;refine⟨cs,h1,h2,?_⟩;rw[oq,cA (F:=⟨2,5,b7⟩) rfl rfl];exact h3
theorem tX (n:Nat):TXok (T (n+3)):=fun cs m hm=>by
 obtain⟨t,h1,h2,h3⟩:=yh (T:=T (n+2)) (av _) (mX (n+1)) (rN n) (cs:=cs) m hm;refine⟨t,h1,h2,?_⟩;rw[oq,cA (F:=⟨2,7,b8⟩) rfl rfl];exact h3
theorem cost {n:Nat}{k m:Nat}(h1:1<=k)(h3:k<=3)(hm:m<=1000):(T (n+1)).cl 9 [.int (k:Int),.int (m:Int)] = .ok (.int ((dG k m:Nat):Int),true):=by
 rw[oq,cA (F:=⟨2,2,b9⟩) rfl rfl];have hst:aK [.int (k:Int),.int (m:Int)] 2=[sN k,sN m]:=rfl;dsimp only;rw[hst];have v0:ev (T n) (.var 0) [sN k,sN m] = .ok (.int (k:Int),.mv []):=aC rfl rfl;have v1:ev (T n) (.var 1) [sN k,sN m] = .ok (.int (m:Int),.mv []):=aC rfl rfl;have ec:=su (y:=1) v0 (aE (.int 1));have hs:∀ j:Int,(small 10 || small j)=true:=fun j=>by rw[show small 10=true by decide];rfl
 unfold b9;rw[aF,hX ec];by_cases hk:k=1
 ·rw[if_pos hk];have e1:=bO (aE (.int 8)) (fL (show (0:Int)<3 by decide) (by decide) (bO (Fr.fG (hs _) (aE (.int 10)) v1) (aE (.int 2))) (aE (.int 3)));rw[aF,bI,e1];have:(8:Int)+(10*(m:Int)+2) / 3=((dG k m:Nat):Int):=by
   unfold dG fb;rw[if_pos hk];split<;>omega
  rw[this];rfl
 ·rw[if_neg hk,dJ,aD];have e0:ev (T n) (.bin .Sub (.var 0) (.cst (.int (2)))) [sN k,sN m] = .ok (.int ((k - 2:Nat):Int),.mv []):=kJ (y:=2) (by omega) v0 (aE _);have e1:ev (T n) (.ix (.lst (.cons (.cst (.int (5))) (.cons (.cst (.int (7))) .nil))) (.bin .Sub (.var 0) (.cst (.int (2))))) [sN k,sN m] = .ok (.int (((if k=2 then 5 else 7:Nat):Int)),.mv []):=by
   refine iT (ds:=[.int 5,.int 7]) (i:=k - 2) (R:=.mv []) (by rw[ev,bB,aE,aA,bB,aE,aA,bB];rfl) e0 ?_ rfl;have:k=2\/k=3:=by omega
   rcases this with rfl | rfl<;>rfl
  have e2:=bO (aE (.int 8)) (Fr.fG (show (small (m:Int) || small (((if k=2 then 5 else 7:Nat):Int)))=true by rw[show small (((if k=2 then 5 else 7:Nat):Int))=true by split<;>decide,gg]) v1 e1);have:(8:Int)+(m:Int)*((if k=2 then 5 else 7:Nat):Int)=((dG k m:Nat):Int):=by
   unfold dG;rw[if_neg hk]
   push_cast
   rw[Int.mul_comm]
  rw[this] at e2;exact fN e2
noncomputable def zj (p:Pe):Bool:=decide (1<=p.2.length/\p.2.length<=64)&&p.2.all fun c=>eD p.1 c
theorem qz {p:Pe}(h1:1<=p.1)(h3:p.1<=3)(h:zj p=true):Piece p:=by
 unfold zj at h;rw[ak,decide_eq_true_iff,cf] at h;exact⟨h1,h3,h.1.1,h.1.2,h.2⟩
theorem wW {T:Tb}{env:En}{a b c:Ex}{x y z:Nat}{R R' R2:Rt}(ha:ev T a env = .ok (.int (x:Int),R))(hb:ev T b env = .ok (.int (y:Int),R'))(hc:ev T c env = .ok (.int (z:Int),R2)):ev T (.chn .LtE .LtE a b c) env = .ok (.bl (decide (x<=y/\y<=z)),.mv []):=by
 rw[ev,ha,aA,hb,aA];show (dX (some (decide ((x:Int)<=(y:Int))))).bind _=_;rw[aU,aA];by_cases h1:x<=y
 ·rw[bf (show (x:Int)<=(y:Int) by omega),if_pos rfl,hc,aA];show (dX (some (decide ((y:Int)<=(z:Int))))).bind _=_;rw[aU,aA];by_cases h2:y<=z
  ·rw[bf (show (y:Int)<=(z:Int) by omega),bf ⟨h1,h2⟩]
  ·rw[aw (show ¬ (y:Int)<=(z:Int) by omega),aw fun q=>h2 q.2]
 ·rw[aw (show ¬ (x:Int)<=(y:Int) by omega),if_neg (by decide),aw fun q=>h1 q.1]
theorem nI (f:Nat->Bool):∀ l:List Nat,allB (l.map fun c=>D.bl (f c))=some (l.all f)
 |[]=>rfl
 | a::l=>by
  rw[aq,c9];show (if f a then allB (l.map fun c=>D.bl (f c)) else some false)=_;rw[nI f l];cases f a<;>rfl
theorem Bs {T:Tb}{env:En}{a:Ex}{b:Bool}{R:Rt}(h:ev T a env = .ok (.bl b,R)):ev T (.not a) env = .ok (.bl (!b),.mv []):=by rw[ev,h];rfl
theorem isp {n:Nat}{p:Pe}(h1:1<=p.1)(h3:p.1<=3)(hl:p.2.length<=900)(hc:∀ c∈p.2,c<128):(T (n+2)).cl 10 [pD p] = .ok (.bl (zj p),true):=by
 rw[oq,cA (F:=⟨1,2,b10⟩) rfl rfl];have hst:aK [pD p] 2=[some (pD p,.own),none]:=rfl;dsimp only;rw[hst];have v0:∀ a,ev (T (n+1)) (.var 0) [some (pD p,.own),a] = .ok (pD p,.mv []):=fun a=>aC rfl rfl
 have x0:∀ a,ev (T (n+1)) (.ix (.var 0) (.cst (.int (0)))) [some (pD p,.own),a] = .ok (.int (p.1:Int),.mv []):=fun a=>cU (i:=0) (v0 a) (aE _) rfl rfl
 have x1:∀ a,ev (T (n+1)) (.ix (.var 0) (.cst (.int (1)))) [some (pD p,.own),a] = .ok (.str (tx p.2),.mv []):=fun a=>cU (i:=1) (v0 a) (aE _) rfl rfl
 have ec:=Bs (wW (x:=1) (z:=64) (aE (.int 1)) (dS (by omega) (x1 none)) (aE (.int 64)));unfold b10 zj;rw[aF];by_cases hh:1<=p.2.length/\p.2.length<=64
 ·rw[bf hh] at ec ⊢;rw[ite_ff ec,aD,aF,aM (i:=1) (.cons (aB _) (.cons aP .nil)) (show (1:Nat)<2 by decide) (iH (x0 none) (sG n p.1 h1 h3)),aD,gn];have k1:=eQ (T:=T (n+1)) (own:=1) (pick:=[1]) (t:=.nm 0) (e:=.cmp .In (.var 0) (.var 1)) (r:=fun c=>D.bl (eD p.1 c)) (sV (by omega) (x1 (some (.str (KS p.1),.own)))) (by omega) (fun c hcc=>by
   have hb:aZ [] (.nm 0) (.str (tx [c])) (bF [some (pD p,.own),some (.str (KS p.1),.own)] 1 [1])=some [sT [c],some (.str (KS p.1),.sh [])]:=rfl;rw[hb];refine kL ?_;rw[ev,aC (i:=0) (d:=.str (tx [c])) (t:=.own) rfl rfl,aA,aC (i:=1) (d:=.str (KS p.1)) (t:=.sh []) rfl rfl,aA];show (dX (some (Bw (tx [c]) (KS p.1)))).bind _=_;rw[lT c (hc c hcc) p.1 (by omega)];rfl)
  refine fN ?_;show ev (T (n+1)) (.blt .all (.cons (.comp 1 [1] (.nm 0) (.seq (.ix (.var 0) (.cst (.int (1))))) .none (.cmp .In (.var 0) (.var 1))) .nil)) [some (pD p,.own),some (.str (KS p.1),.own)]=_;rw[ev,bB,k1,aA,bB,aA,aA,mV];show (dX (if (p.2.map fun c=>D.bl (eD p.1 c)).all D.isBl then (allB (p.2.map fun c=>D.bl (eD p.1 c))).map D.bl else none)).bind _=_;rw[if_pos (by rw[cf];intro d hd;obtain⟨_,_,rfl⟩:=List.mem_map.mp hd;rfl),nI];rfl
 ·rw[aw hh] at ec ⊢;rw[bI,ec];rfl
noncomputable def gS (p:Nat×Nat):D:=.tup [.int (p.1:Int),.int (p.2:Int)]
noncomputable def ki (P:List Pe):D:=.tup [.int ((i6 P:Nat):Int),.int (P.length:Int),.lst ((mB P).map gS)]
theorem Bb:∀(l:List Nat) (a:Nat),qW (a:Int) (l.map fun (n:Nat)=>D.int (n:Int))=some ((a+l.sum:Nat):Int)
 |[],a=>rfl
 | x::l,a=>by
  rw[aq,gm];show qW ((a:Int)+(x:Int)) _=_;rw[show (a:Int)+(x:Int)=((a+x:Nat):Int) by omega,Bb l (a+x),Nat.add_assoc]
theorem rank {n:Nat}{P:List Pe}(h:∀ p∈P,Piece p)(hl:P.length<=900):(T (n+2)).cl 11 [.lst (P.map pD)] = .ok (ki P,true):=by
 rw[oq,cA (F:=⟨1,2,b11⟩) rfl rfl];have hst:aK [.lst (P.map pD)] 2=[some (.lst (P.map pD),.sh []),none]:=rfl;dsimp only;rw[hst];obtain⟨R,v0⟩:∃ R,∀ a,ev (T (n+1)) (.var 0) [some (.lst (P.map pD),.sh []),a] = .ok (.lst (P.map pD),R):=⟨.sh [],fun a=>rfl⟩;have hit:∀ a,dI (T (n+1)) (.seq (.var 0)) [some (.lst (P.map pD),.sh []),a] = .ok (P.map pD,R.roots):=fun a=>by
  rw[dI,v0 a,aA];rfl
 have hb:∀(a:Slot) (p:Pe),aZ [] (.tp [0,1]) (pD p) (bF [some (.lst (P.map pD),.sh []),a] 2 [])=some [sN p.1,sT p.2]:=fun a p=>rfl
 have k1:=eQ (T:=T (n+1)) (own:=2) (pick:=[]) (t:=.tp [0,1]) (e:=.call 9 (.cons (.var 0) (.cons (.blt .len (.cons (.var 1) .nil)) .nil))) (r:=fun p:Pe=>D.int ((dG p.1 p.2.length:Nat):Int)) (hit none) (by omega) (fun p hp=>by
  rw[hb];have hq:=h p hp;have:=hq.c64;exact kL (o8 (aC (i:=0) (d:=.int (p.1:Int)) (t:=.own) rfl rfl) (dS (by omega) (aC (i:=1) (d:=.str (tx p.2)) (t:=.own) rfl rfl)) (cost hq.k1 hq.k3 (by omega))))
 have e1:ev (T (n+1)) (.blt .sum (.cons (.comp 2 [] (.tp [0,1]) (.seq (.var 0)) .none (.call 9 (.cons (.var 0) (.cons (.blt .len (.cons (.var 1) .nil)) .nil)))) .nil)) [some (.lst (P.map pD),.sh []),none] = .ok (.int ((i6 P:Nat):Int),.mv []):=by
  rw[ev,bB,k1,aA,bB,aA,aA,mV];have hm:(P.map fun p:Pe=>D.int ((dG p.1 p.2.length:Nat):Int))=(P.map fun p:Pe=>dG p.1 p.2.length).map fun (n:Nat)=>D.int (n:Int):=by rw[cv];rfl
  show (dX ((qW ((0:Nat):Int) (P.map fun p:Pe=>D.int ((dG p.1 p.2.length:Nat):Int))).map D.int)).bind _=_;rw[hm,Bb,Nat.zero_add];rfl
 have k2:=eQ (T:=T (n+1)) (own:=2) (pick:=[]) (t:=.tp [0,1]) (e:=.tup (.cons (.var 0) (.cons (.blt .len (.cons (.var 1) .nil)) .nil))) (r:=fun p:Pe=>gS (p.1,p.2.length)) (hit (some (.int ((i6 P:Nat):Int),.own))) (by omega) (fun p hp=>by
  rw[hb];have:=(h p hp).c64;exact kL (hJ (aC (i:=0) (d:=.int (p.1:Int)) (t:=.own) rfl rfl) (dS (by omega) (aC (i:=1) (d:=.str (tx p.2)) (t:=.own) rfl rfl))))
 rw[show (P.map fun p:Pe=>gS (p.1,p.2.length))=(mB P).map gS by unfold mB;rw[cv];rfl] at k2;have el:ev (T (n+1)) (.blt .len (.cons (.var 0) .nil)) [some (.lst (P.map pD),.sh []),some (.int ((i6 P:Nat):Int),.own)] = .ok (.int (P.length:Int),.mv []):=by
  rw[jh (v0 _),ag]
 unfold b11;rw[aF,aM (i:=1) (.cons (dA _) (.cons aP .nil)) (show (1:Nat)<2 by decide) e1,aD];exact fN (Fr.qc (aC (i:=1) (d:=.int ((i6 P:Nat):Int)) (t:=.own) rfl rfl) el k2)
theorem AB (n:Nat)(a b:Nat):D.eqf (n+1) (.int (a:Int)) (.int (b:Int))=some (decide (a=b)):=by
 show some ((a:Int)==(b:Int))=_;congr 1;by_cases h:a=b
 ·rw[h,eh,bf rfl]
 ·rw[aw h];exact beq_false_of_ne (by omega)
theorem xQ (n:Nat)(p q:Nat×Nat):D.eqf (n+2) (gS p) (gS q)=some (decide (p=q)):=by
 show (if (2:Nat)=2 then t9 (D.eqf (n+1)) [.int (p.1:Int),.int (p.2:Int)] [.int (q.1:Int),.int (q.2:Int)] else none)=_;rw[if_pos rfl];show ((D.eqf (n+1) (.int (p.1:Int)) (.int (q.1:Int))).bind fun a=>((D.eqf (n+1) (.int (p.2:Int)) (.int (q.2:Int))).bind fun b=>(some true).map fun c=>b&&c).map fun b=>a&&b)=_;rw[AB,AB];show some (decide (p.1=q.1)&&(decide (p.2=q.2)&&true))=_;congr 1;by_cases h:p=q
 ·rw[h];simp
 ·rw[aw h];have:¬ (p.1=q.1/\p.2=q.2):=fun z=>h (Prod.ext z.1 z.2)
  simpa using this
theorem sS (n:Nat):∀{a b:List (Nat×Nat)},a.length=b.length->t9 (D.eqf (n+2)) (a.map gS) (b.map gS)=some (decide (a=b))
 |[],[],_=>rfl
 |[],_::_,h=>by cases h
 |_::_,[],h=>by cases h
 | p::a,q::b,h=>by
  show ((D.eqf (n+2) (gS p) (gS q)).bind fun x=>(t9 (D.eqf (n+2)) (a.map gS) (b.map gS)).map fun y=>x&&y)=_;rw[xQ,sS n (by simpa using h)];show some (decide (p=q)&&decide (a=b))=_;congr 1;by_cases h1:p=q<;>by_cases h2:a=b<;>simp[h1,h2]
theorem Aq (n:Nat)(a b:List (Nat×Nat)):D.eqf (n+3) (.lst (a.map gS)) (.lst (b.map gS))=some (decide (a=b)):=by
 show (if (a.map gS).length=(b.map gS).length then t9 (D.eqf (n+2)) (a.map gS) (b.map gS) else some false)=_;rw[ag,ag];by_cases h:a.length=b.length
 ·rw[if_pos h,sS n h]
 ·rw[if_neg h,aw fun z=>h (by rw[z])]
theorem A2 (n:Nat)(p q:Nat×Nat)(h:p≠q):D.ltf (n+2) (gS p) (gS q)=some (decide (p.1<q.1\/(p.1=q.1/\p.2<q.2))):=by
 show ((D.eqf (n+1) (.int (p.1:Int)) (.int (q.1:Int))).bind fun e=>if e then ((D.eqf (n+1) (.int (p.2:Int)) (.int (q.2:Int))).bind fun e=>if e then some false else some (decide ((p.2:Int)<(q.2:Int)))) else some (decide ((p.1:Int)<(q.1:Int))))=_;rw[AB,AB,dm];by_cases h1:p.1=q.1
 ·rw[bf h1,if_pos rfl,dm];have h2:¬ p.2=q.2:=fun z=>h (Prod.ext h1 z)
  rw[aw h2,if_neg (by decide)];congr 1;exact decide_eq_decide.mpr (by omega)
 ·rw[aw h1,if_neg (by decide)];congr 1;exact decide_eq_decide.mpr (by omega)
theorem pO (n:Nat):∀ a b:List (Nat×Nat),xG (D.eqf (n+2)) (D.ltf (n+2)) (a.map gS) (b.map gS)=some (mL a b)
 |[],[]=>rfl
 |[],_::_=>rfl
 |_::_,[]=>rfl
 | p::a,q::b=>by
  show ((D.eqf (n+2) (gS p) (gS q)).bind fun e=>if e then xG (D.eqf (n+2)) (D.ltf (n+2)) (a.map gS) (b.map gS) else D.ltf (n+2) (gS p) (gS q))=_;unfold mL;rw[xQ,dm];by_cases h:p=q
  ·rw[bf h,if_pos rfl,if_pos h,pO n a b]
  ·rw[aw h,if_neg (by decide),if_neg h,A2 n p q h]
theorem B9 (P Q:List Pe):gO .Lt (ki P) (ki Q)=some (zb P Q):=by
 show ((D.eqf 38 (.int ((i6 P:Nat):Int)) (.int ((i6 Q:Nat):Int))).bind fun e=>if e then ((D.eqf 38 (.int (P.length:Int)) (.int (Q.length:Int))).bind fun e=>if e then ((D.eqf 38 (.lst ((mB P).map gS)) (.lst ((mB Q).map gS))).bind fun e=>if e then some false else xG (D.eqf 37) (D.ltf 37) ((mB P).map gS) ((mB Q).map gS)) else some (decide ((P.length:Int)<(Q.length:Int)))) else some (decide (((i6 P:Nat):Int)<((i6 Q:Nat):Int))))=_;rw[AB,AB,Aq 35,pO 35,dm];unfold zb;by_cases h1:i6 P=i6 Q
 ·rw[bf h1,if_pos rfl,if_pos h1,dm];by_cases h2:P.length=Q.length
  ·rw[bf h2,if_pos rfl,if_pos h2,dm];by_cases h3:mB P=mB Q
   ·rw[bf h3,if_pos rfl,h3,iW]
   ·rw[aw h3,if_neg (by decide)]
  ·rw[aw h2,if_neg (by decide),if_neg h2];congr 1;exact decide_eq_decide.mpr (by omega)
 ·rw[aw h1,if_neg (by decide),if_neg h1];congr 1;exact decide_eq_decide.mpr (by omega)
open Pc.Fr (iD)
theorem ue {α:Type}{T:Tb}{own:Nat}{pick:List Nat}{t:ka}{it:rQ}{ce e:Ex}{env:En}{l:List α}{R:List Nat}{g r:α->D}{c:α->Bool}(hit:dI T it env = .ok (l.map g,R))(hl:l.length<=1000)
  (hg:∀ a∈l,bS (aZ [] t (g a) (bF env own pick)) (pC T (.some ce)) (ev T e) = .ok (if c a then some (r a,.mv []) else none)):ev T (.comp own pick t it (.some ce) e) env = .ok (.lst ((l.filter c).map r),.mv []):=by
 rw[ev,hit,aA,gF (f:=fun d=>bS (aZ [] t d (bF env own pick)) (pC T (.some ce)) (ev T e)) (c:=c) (r:=r) hg,aA];dsimp only;rw[if_pos (by rw[ag];exact fP hl),if_pos,cv]
 ·rfl
 ·rw[cf];intro q hq;obtain⟨a,_,rfl⟩:=List.mem_map.mp hq;show ((r a).flat || true)=true;rw[gg]
theorem BM {T:Tb}{ce e:Ex}{env:En}{d:D}{b:Bool}{R:Rt}(hc:ev T ce env = .ok (.bl b,R))(h:ev T e env = .ok (d,.mv [])):bS (some env) (pC T (.some ce)) (ev T e) = .ok (if b then some (d,.mv []) else none):=by
 unfold bS;dsimp only;rw[pC,hc,aA];show (dX (some b)).bind _=_;rw[aU,aA];cases b with
 |true=>rw[if_pos rfl,h];rfl
 |false=>rfl
noncomputable def kk (s:List Nat):List Pe:=([1,2,3].filter fun k=>zj (k,s)).map fun k=>(k,s)
theorem oB {s:List Nat}{p:Pe}(h:p∈kk s):Piece p/\p.2=s:=by
 unfold kk at h;obtain⟨k,hk,rfl⟩:=List.mem_map.mp h;obtain⟨h1,h2⟩:=List.mem_filter.mp hk;simp only[List.mem_cons,List.not_mem_nil,or_false] at h1;exact⟨qz (show 1<=k by omega) (show k<=3 by omega) h2,rfl⟩
theorem gX (s:List Nat):(kk s).length<=3:=by
 unfold kk;rw[ag];exact List.length_filter_le _ _
theorem kinds {n:Nat}{s:List Nat}(hl:s.length<=900)(hc:∀ c∈s,c<128):(T (n+3)).cl 12 [.str (tx s)] = .ok (.lst ((kk s).map pD),true):=by
 rw[oq,cA (F:=⟨1,1,b12⟩) rfl rfl];have hst:aK [.str (tx s)] 1=[sT s]:=rfl;dsimp only;rw[hst];have hit:dI (T (n+2)) (.seq (.tup (.cons (.cst (.int (1))) (.cons (.cst (.int (2))) (.cons (.cst (.int (3))) .nil))))) [sT s] = .ok (([1,2,3]:List Nat).map (fun (k:Nat)=>D.int (k:Int)),[]):=by
  rw[dI,Fr.qc (aE _) (aE _) (aE _),aA];rfl
 have k1:=ue (T:=T (n+2)) (own:=1) (pick:=[0]) (t:=.nm 0) (ce:=.call 10 (.cons (.tup (.cons (.var 0) (.cons (.var 1) .nil))) .nil)) (e:=.tup (.cons (.var 0) (.cons (.var 1) .nil))) (r:=fun (k:Nat)=>pD (k,s)) (c:=fun k=>zj (k,s)) hit (by decide) (fun k hk=>by
  have hb:aZ [] (.nm 0) (.int (k:Int)) (bF [sT s] 1 [0])=some [sN k,some (.str (tx s),.sh [])]:=rfl;rw[hb];simp only[List.mem_cons,List.not_mem_nil,or_false] at hk;have et:ev (T (n+2)) (.tup (.cons (.var 0) (.cons (.var 1) .nil))) [sN k,some (.str (tx s),.sh [])] = .ok (pD (k,s),.mv []):=hJ (aC rfl rfl) (aC rfl rfl);exact BM (iH et (isp (p:=(k,s)) (show 1<=k by omega) (show k<=3 by omega) hl hc)) et)
 unfold b12;rw[show (([1,2,3]:List Nat).filter (fun k=>zj (k,s))).map (fun (k:Nat)=>pD (k,s))=(kk s).map pD by unfold kk;rw[cv];rfl] at k1;exact fN k1
noncomputable def aT (rows:List (List Pe)):D:=.lst (rows.map fun r=>.lst (r.map pD))
def uP (t:Tg):Prop:=t = .own\/t = .sh []
theorem il {d:D}{t:Tg}(h:uP t):aN (some (d,t)):=by
 rcases h with rfl | rfl
 ·exact aB _
 ·exact dA _
theorem r6 {T:Tb}{env:En}{x:Nat}{e:Ex}{rows more:List (List Pe)}{t:Tg}(ht:Tame env)(hx:env[x]? = some (some (aT rows,t)))(hok:uP t)(h:ev T e env = .ok (aT more,.mv []))(hl:rows.length+more.length<=1000) :
  ∃ t',uP t'/\bI T (.asg (.nm x) (.bin .Add (.var x) e) false) env = .nx (env.set x (some (aT (rows++more),t'))):=by
 have hxl:x<env.length:=(List.getElem?_eq_some_iff.mp hx).1;have hb:eI .Add (aT rows) (aT more)=some (aT (rows++more)):=by
  unfold aT;show ck _ _=_;unfold ck;rw[if_pos (by rw[ag,ag];exact fP hl),df]
 have v:∃ R,ev T (.var x) env = .ok (aT rows,R)/\(R.roots=[x]\/R.roots=[]):=by
  rcases hok with rfl | rfl
  ·exact⟨.mv [x],cG hx rfl,.inl rfl⟩
  ·exact⟨.sh [],by rw[ev,hx];rfl,.inr rfl⟩
 obtain⟨R,v,hR⟩:=v;have eb:ev T (.bin .Add (.var x) e) env = .ok (aT (rows++more),eR (aT (rows++more)) (R.roots ++ [])):=by
  rw[ev,v,aA,h,aA,hb];rfl
 unfold eR at eb;by_cases hi:(aT (rows++more)).inner=true
 ·rw[if_pos hi] at eb;exact⟨.own,.inl rfl,aM ht hxl eb⟩
 ·rw[if_neg hi,ay] at eb;refine⟨.sh [],.inr rfl,?_⟩;rw[bI,eb,bX];show (if x<env.length then (Fl.nx (put env x (aT (rows++more)) (.sh (R.roots.filter (· != x))))) else .bad)=_;rw[if_pos hxl,gy ht,show R.roots.filter (· != x)=[] by rcases hR with q | q<;>(rw[q];simp)]
theorem lst1 {T:Tb}{env:En}{a:Ex}{p:Pe}(h:ev T a env = .ok (pD p,.mv [])):ev T (.lst (.cons a .nil)) env = .ok (.lst [pD p],.mv []):=by
 rw[ev,bB,h,aA,bB,aA,aA];rfl
theorem lst2 {T:Tb}{env:En}{a b:Ex}{p q:Pe}(h:ev T a env = .ok (pD p,.mv []))(h':ev T b env = .ok (pD q,.mv [])):ev T (.lst (.cons a (.cons b .nil))) env = .ok (.lst [pD p,pD q],.mv []):=by
 rw[ev,bB,h,aA,bB,h',aA,bB,aA,aA,aA];rfl
theorem h8 {n:Nat}{env:En}{e:Ex}{s:List Nat}(hl:s.length<=900)(hc:∀ c∈s,c<128)(h:ev (T (n+3)) e env = .ok (.str (tx s),.mv [])):dI (T (n+3)) (.seq (.call 12 (.cons e .nil))) env = .ok ((kk s).map pD,[]):=by
 rw[dI,iH h (kinds hl hc),aA];rfl
theorem jZ {n:Nat}{env:En}{e:Ex}{s:List Nat}(hl:s.length<=900)(hc:∀ c∈s,c<128)(h:ev (T (n+3)) e env = .ok (.str (tx s),.mv [])):ev (T (n+3)) (.comp 1 [] (.nm 0) (.seq (.call 12 (.cons e .nil))) .none (.lst (.cons (.var 0) .nil))) env = .ok (aT ((kk s).map fun p=>[p]),.mv []):=by
 have k1:=eQ (T:=T (n+3)) (own:=1) (pick:=[]) (t:=.nm 0) (e:=.lst (.cons (.var 0) .nil)) (r:=fun p=>.lst [pD p]) (h8 hl hc h) (by have:=gX s;omega) (fun p _=>by
  have hb:aZ [] (.nm 0) (pD p) (bF env 1 [])=some [some (pD p,.own)]:=rfl;rw[hb];exact kL (lst1 (aC rfl rfl)))
 rw[k1];unfold aT;rw[cv];rfl
theorem nh {n:Nat}{env:En}{e:Ex}{s:List Nat}{j:Nat}{l:Pe}{tl:Tg}(hl:s.length<=900)(hc:∀ c∈s,c<128)(h:ev (T (n+3)) e env = .ok (.str (tx s),.mv []))(hj:env[j]? = some (some (pD l,tl))) :
  ev (T (n+3)) (.comp 1 [j] (.nm 0) (.seq (.call 12 (.cons e .nil))) .none (.lst (.cons (.var 1) (.cons (.var 0) .nil)))) env = .ok (aT ((kk s).map fun p=>[l,p]),.mv []):=by
 have k1:=eQ (T:=T (n+3)) (own:=1) (pick:=[j]) (t:=.nm 0) (e:=.lst (.cons (.var 1) (.cons (.var 0) .nil))) (r:=fun p=>.lst [pD l,pD p]) (h8 hl hc h) (by have:=gX s;omega) (fun p _=>by
  have hp:bF env 1 [j]=[none,some (pD l,.sh [])]:=by
   unfold bF;rw[aq,fe,hj];rfl
  have hb:aZ [] (.nm 0) (pD p) (bF env 1 [j])=some [some (pD p,.own),some (pD l,.sh [])]:=by rw[hp];rfl
  rw[hb];exact kL (lst2 (aC (d:=pD l) (t:=.sh []) rfl rfl) (aC (d:=pD p) (t:=.own) rfl rfl)))
 rw[k1];unfold aT;rw[cv];rfl
theorem BR {s:List Nat}{r:List Pe}(h:r∈(kk s).map fun p=>[p]):Cut s r:=by
 obtain⟨p,hp,rfl⟩:=List.mem_map.mp h;obtain⟨h1,h2⟩:=oB hp;exact⟨fun q hq=>by rw[gi.mp hq];exact h1,by rw[aq,fe,bg,f9,ay];exact h2⟩
theorem cut2 {s u:List Nat}{l:Pe}{r:List Pe}(hl:l∈kk s)(h:r∈(kk u).map fun p=>[l,p]):Cut (s++u) r:=by
 obtain⟨p,hp,rfl⟩:=List.mem_map.mp h;obtain⟨h1,h2⟩:=oB hp;obtain⟨h3,h4⟩:=oB hl;refine⟨fun q hq=>?_,?_⟩
 ·simp only[List.mem_cons,List.not_mem_nil,or_false] at hq;rcases hq with rfl | rfl
  ·exact h3
  ·exact h1
 ·rw[aq,aq,fe,bg,bg,f9,ay,h2,h4]
theorem iJ {n:Nat}{x y:Nat}{e:Ex}{s u:List Nat}{env0:En}(hyx:y≠x)(hul:u.length<=900)(huc:∀ c∈u,c<128)(hx:x<env0.length)(hy:y<env0.length)(ht:∀ a b,aN a->aN b->Tame ((env0.set x a).set y b))
  (he:∀ a b,ev (T (n+3)) e ((env0.set x a).set y b) = .ok (.str (tx u),.mv [])):∀(L:List Pe) (rows:List (List Pe)) (t:Tg) (b:Slot),uP t->aN b->(∀ l∈L,l∈kk s)->rows.length+3*L.length<=1000->(∀ r∈rows,Cut (s++u) r) ->
  ∃ rows' t' b',uP t'/\aN b'/\rows'.length<=rows.length+3*L.length/\(∀ r∈rows',Cut (s++u) r) /\
   bT (.nm y) [] (aF (T (n+3)) (.cons (.asg (.nm x) (.bin .Add (.var x) (.comp 1 [y] (.nm 0) (.seq (.call 12 (.cons e .nil))) .none (.lst (.cons (.var 1) (.cons (.var 0) .nil))))) false) .nil)) (L.map pD) ((env0.set x (some (aT rows,t))).set y b) = .nx ((env0.set x (some (aT rows',t'))).set y b')
 |[],rows,t,b,hok,hb,_,_,hr=>⟨rows,t,b,hok,hb,by omega,hr,rfl⟩
 | l::L,rows,t,b,hok,hb,hL,hlen,hr=>by
  rw[aj] at hlen;have hkl:=gX u;have lx:∀ a b,((env0.set x a).set y b)[x]? = some a:=fun a b=>by rw[List.getElem?_set_ne hyx,List.getElem?_set_self (by simpa using hx)]
  have ly:∀ a b,((env0.set x a).set y b)[y]? = some b:=fun a b=>by rw[List.getElem?_set_self (by simpa using hy)]
  obtain⟨t1,ok1,st⟩:=r6 (T:=T (n+3)) (x:=x) (rows:=rows) (t:=t) (ht (some (aT rows,t)) (some (pD l,.own)) (il hok) (aB _)) (lx _ _) hok (nh (j:=y) (l:=l) (tl:=.own) hul huc (he _ _) (ly _ _)) (by rw[ag];omega);have hset:((env0.set x (some (aT rows,t))).set y (some (pD l,.own))).set x (some (aT (rows++(kk u).map fun p=>[l,p]),t1))=(env0.set x (some (aT (rows++(kk u).map fun p=>[l,p]),t1))).set y (some (pD l,.own)):=by
   rw[List.set_comm _ _ (da hyx),List.set_set,List.set_comm _ _ hyx]
  rw[hset] at st;obtain⟨rows',t',b',ok',tb',hl',hr',q⟩:=iJ hyx hul huc hx hy ht he L (rows++(kk u).map fun p=>[l,p]) t1 (some (pD l,.own)) ok1 (aB _) (fun z hz=>hL z (ah _ hz)) (by rw[ao,ag];omega) (fun r hm=>by
   rcases List.mem_append.mp hm with hm | hm
   ·exact hr r hm
   ·exact cut2 (hL l ai) hm)
  refine⟨rows',t',b',ok',tb',by rw[ao,ag] at hl';rw[aj];omega,hr',?_⟩;have hbd:aZ [] (.nm y) (pD l) ((env0.set x (some (aT rows,t))).set y b)=some ((env0.set x (some (aT rows,t))).set y (some (pD l,.own))):=by
   rw[cO (ht _ _ (il hok) hb) (by simpa using hy),List.set_set];rfl
  rw[aq,bK hbd (bQ st),q]
open Pc.Fr (iD)
noncomputable def mS:Ex:=.ix (.var 0) (.cst (.int (1)))
noncomputable def e11:Ex:=.ix (.var 1) (.cst (.int (1)))
noncomputable def inn (x y:Nat)(e:Ex):bZ:=.cons (.asg (.nm x) (.bin .Add (.var x) (.comp 1 [y] (.nm 0) (.seq (.call 12 (.cons e .nil))) .none (.lst (.cons (.var 1) (.cons (.var 0) .nil))))) false) .nil
noncomputable def bOl:bZ:=.cons (.forr (.nm 3) (.seq (.call 12 (.cons (.sl mS .none (.some (.var 2))) .nil))) (inn 1 3 (.sl mS (.some (.var 2)) .none))) .nil
theorem zu:b13=(.cons (.asg (.nm 1) (.comp 1 [] (.nm 0) (.seq (.call 12 (.cons mS .nil))) .none (.lst (.cons (.var 0) .nil))) false)
  (.cons (.forr (.nm 2) (.rng2 (.cst (.int (1))) (.blt .len (.cons mS .nil))) bOl)
  (.cons (.ret (.var 1)) .nil))):=rfl
theorem AF {T:Tb}{p:Pe}{r:En}:ev T mS (some (pD p,.own)::r) = .ok (.str (tx p.2),.mv []):=cU (i:=1) (aC (i:=0) (d:=pD p) (t:=.own) rfl rfl) (aE _) rfl rfl
theorem x11 {T:Tb}{p:Pe}{a:Slot}{r:En}:ev T e11 (a::some (pD p,.own)::r) = .ok (.str (tx p.2),.mv []):=cU (i:=1) (aC (i:=1) (d:=pD p) (t:=.own) rfl rfl) (aE _) rfl rfl
theorem mJ {n:Nat}{p:Pe}(hl:p.2.length<=64)(hc:∀ c∈p.2,c<128):∀(m c0:Nat) (rows:List (List Pe)) (t:Tg) (a2 a3:Slot),uP t->aN a2->aN a3->c0+m<p.2.length->rows.length+9*m<=1000->(∀ r∈rows,Cut p.2 r) ->
  ∃ rows' t' b2 b3,uP t'/\aN b2/\aN b3/\(∀ r∈rows',Cut p.2 r)/\rows'.length<=rows.length+9*m/\bT (.nm 2) [] (aF (T (n+3)) bOl) (aS ((c0+1:Nat):Int) 1 m) [some (pD p,.own),some (aT rows,t),a2,a3] = .nx [some (pD p,.own),some (aT rows',t'),b2,b3]
 |0,c0,rows,t,a2,a3,hok,h2,h3,_,_,hr=>⟨rows,t,a2,a3,hok,h2,h3,hr,by omega,rfl⟩
 | m+1,c0,rows,t,a2,a3,hok,h2,h3,hcm,hlen,hr=>by
  have hbd:aZ [] (.nm 2) (.int ((c0+1:Nat):Int)) [some (pD p,.own),some (aT rows,t),a2,a3]=some [some (pD p,.own),some (aT rows,t),sN (c0+1),a3]:=cO (.cons (aB _) (.cons (il hok) (.cons h2 (.cons h3 .nil)))) (show (2:Nat)<4 by decide);have htk:∀ c∈p.2.take (c0+1),c<128:=fun c h=>hc c (List.mem_of_mem_take h)
  have hdr:∀ c∈p.2.drop (c0+1),c<128:=fun c h=>hc c (gb h)
  have v2:∀ a1 a3,ev (T (n+3)) (.var 2) [some (pD p,.own),a1,sN (c0+1),a3] = .ok (.int ((c0+1:Nat):Int),.mv []):=fun a1 a3=>aC rfl rfl
  have e1:ev (T (n+3)) (.sl mS .none (.some (.var 2))) [some (pD p,.own),some (aT rows,t),sN (c0+1),a3] = .ok (.str (tx (p.2.take (c0+1))),.mv []):=iM (by omega) AF eS (dC (v2 _ _)) (nP p.2 (c0+1));have hk3:=gX (p.2.take (c0+1));have hpd:p.2.take (c0+1)++p.2.drop (c0+1)=p.2:=gx _ _;obtain⟨jZ,t1,b3,ok1,tb3,l1,r1,q1⟩:=iJ (n:=n) (x:=1) (y:=3) (e:=.sl mS (.some (.var 2)) .none) (s:=p.2.take (c0+1)) (u:=p.2.drop (c0+1)) (env0:=[some (pD p,.own),none,sN (c0+1),none]) (by decide) (by rw[bz];omega) hdr (show (1:Nat)<4 by decide) (show (3:Nat)<4 by decide) (fun a b ha hb=>.cons (aB _) (.cons ha (.cons (aB _) (.cons hb .nil))))
   (fun a b=>iM (by omega) AF (dC (v2 _ _)) eS (nF p.2 (c0+1))) (kk (p.2.take (c0+1))) rows t a3 hok h3 (fun l h=>h) (by omega) (fun r h=>by rw[hpd];exact hr r h)
  rw[hpd] at r1;have st:aF (T (n+3)) bOl [some (pD p,.own),some (aT rows,t),sN (c0+1),a3] = .nx [some (pD p,.own),some (aT jZ,t1),sN (c0+1),b3]:=bQ (cD (h8 (by rw[cm];omega) htk e1) q1);obtain⟨rows',t',b2,b3',ok',u2,u3,hr',hl',q⟩:=mJ hl hc m (c0+1) jZ t1 (sN (c0+1)) b3 ok1 (aB _) tb3 (by omega) (by omega) r1;refine⟨rows',t',b2,b3',ok',u2,u3,hr',by omega,?_⟩;rw[fF,bK hbd st,q]
theorem others {n:Nat}{p:Pe}(h:Piece p)(hc:∀ c∈p.2,c<128):∃ rows fr,(∀ r∈rows,Cut p.2 r)/\(T (n+4)).cl 13 [pD p] = .ok (aT rows,fr):=by
 have hl:=h.c64;have h1:=h.c1;have hst:aK [pD p] 4=[some (pD p,.own),none,none,none]:=rfl;have hk3:=gX p.2;have tn:=aP;have g1:bI (T (n+3)) (.asg (.nm 1) (.comp 1 [] (.nm 0) (.seq (.call 12 (.cons mS .nil))) .none (.lst (.cons (.var 0) .nil))) false) [some (pD p,.own),none,none,none] = .nx [some (pD p,.own),some (aT ((kk p.2).map fun q=>[q]),.own),none,none]:=aM (.cons (aB _) (.cons tn (.cons tn (.cons tn .nil)))) (show (1:Nat)<4 by decide) (jZ (by omega) hc AF);obtain⟨rows,t,b2,b3,ok,_,_,hr,_,q⟩:=mJ (n:=n) hl hc (p.2.length - 1) 0 ((kk p.2).map fun q=>[q]) .own none none (.inl rfl) tn tn (by omega) (by rw[ag];omega) (fun r h=>BR h);have hit:dI (T (n+3)) (.rng2 (.cst (.int (1))) (.blt .len (.cons mS .nil))) [some (pD p,.own),some (aT ((kk p.2).map fun q=>[q]),.own),none,none] = .ok (aS ((0+1:Nat):Int) 1 (p.2.length - 1),[]):=by
  refine pS (by omega) (aE _) ?_ (R':=.mv []);rw[dS (by omega) AF,show p.2.length - 1+1=p.2.length by omega]
 have g2:=cD hit q;have hret:∃ fr,ret (aF (T (n+3)) (.cons (.ret (.var 1)) .nil) [some (pD p,.own),some (aT rows,t),b2,b3]) = .ok (aT rows,fr):=by
  rcases ok with rfl | rfl
  ·exact⟨true,rfl⟩
  ·exact⟨false,rfl⟩
 obtain⟨fr,hret⟩:=hret;refine⟨rows,fr,hr,?_⟩;rw[oq,cA (F:=⟨1,4,b13⟩) rfl rfl];dsimp only;rw[hst,zu,aF,g1,aD,aF,g2,aD];exact hret
noncomputable def cPr:Ex:=.chn .Lt .Lt (.cst (.int (0))) (.var 4) (.blt .len (.cons (.var 3) .nil))
noncomputable def bPl:bZ:=.cons (.ite cPr (.cons (.forr (.nm 5) (.seq (.call 12 (.cons (.sl (.var 3) .none (.some (.var 4))) .nil))) (inn 2 5 (.sl (.var 3) (.some (.var 4)) .none))) .nil) .nil) .nil
noncomputable def A0:Ex:=.bin .Add mS e11
theorem yV:b14=(.cons (.asg (.nm 2) (.comp 1 [] (.nm 0) (.seq (.call 12 (.cons A0 .nil))) .none (.lst (.cons (.var 0) .nil))) false)
  (.cons (.asg (.nm 3) A0 false)
  (.cons (.forr (.nm 4) (.seq (.tup (.cons (.bin .Sub (.blt .len (.cons mS .nil)) (.cst (.int (1)))) (.cons (.bin .Add (.blt .len (.cons mS .nil)) (.cst (.int (1)))) .nil)))) bPl)
  (.cons (.ret (.var 2)) .nil)))):=rfl
theorem wK {T:Tb}{env:En}{a b c:Ex}{x y z:Nat}{R R' R2:Rt}(ha:ev T a env = .ok (.int (x:Int),R))(hb:ev T b env = .ok (.int (y:Int),R'))(hc:ev T c env = .ok (.int (z:Int),R2)):ev T (.chn .Lt .Lt a b c) env = .ok (.bl (decide (x<y/\y<z)),.mv []):=by
 rw[ev,ha,aA,hb,aA];show (dX (some (decide ((x:Int)<(y:Int))))).bind _=_;rw[aU,aA];by_cases h1:x<y
 ·rw[bf (show (x:Int)<(y:Int) by omega),if_pos rfl,hc,aA];show (dX (some (decide ((y:Int)<(z:Int))))).bind _=_;rw[aU,aA];by_cases h2:y<z
  ·rw[bf (show (y:Int)<(z:Int) by omega),bf ⟨h1,h2⟩]
  ·rw[aw (show ¬ (y:Int)<(z:Int) by omega),aw fun q=>h2 q.2]
 ·rw[aw (show ¬ (x:Int)<(y:Int) by omega),if_neg (by decide),aw fun q=>h1 q.1]
noncomputable abbrev EP (p q:Pe)(rows:List (List Pe))(t:Tg)(s:List Nat)(a4 a5:Slot):En:=[some (pD p,.own),some (pD q,.own),some (aT rows,t),sT s,a4,a5]
theorem wZ {p q:Pe}{rows:List (List Pe)}{t:Tg}{s:List Nat}{a4 a5:Slot}(ht:uP t)(h4:aN a4)(h5:aN a5):Tame (EP p q rows t s a4 a5):=.cons (aB _) (.cons (aB _) (.cons (il ht) (.cons (aB _) (.cons h4 (.cons h5 .nil)))))
theorem x8 {n:Nat}{p q:Pe}{s:List Nat}(hl:s.length<=200)(hc:∀ c∈s,c<128){rows:List (List Pe)}{t:Tg}{cc:Nat}{a5:Slot}(hok:uP t)(h5:aN a5)(hlen:rows.length<=500)(hr:∀ r∈rows,Cut s r) :
  ∃ rows' t' b5,uP t'/\aN b5/\(∀ r∈rows',Cut s r)/\rows'.length<=rows.length+9/\aF (T (n+3)) bPl (EP p q rows t s (sN cc) a5) = .nx (EP p q rows' t' s (sN cc) b5):=by
 have v3:∀ a2 a5,ev (T (n+3)) (.var 3) [some (pD p,.own),some (pD q,.own),a2,sT s,sN cc,a5] = .ok (.str (tx s),.mv []):=fun a2 a5=>aC rfl rfl
 have v4:∀ a2 a5,ev (T (n+3)) (.var 4) [some (pD p,.own),some (pD q,.own),a2,sT s,sN cc,a5] = .ok (.int (cc:Int),.mv []):=fun a2 a5=>aC rfl rfl
 have ec:ev (T (n+3)) cPr (EP p q rows t s (sN cc) a5) = .ok (.bl (decide (0<cc/\cc<s.length)),.mv []):=wK (x:=0) (aE _) (v4 _ _) (dS (by omega) (v3 _ _));unfold bPl;by_cases h:0<cc/\cc<s.length
 ·have htk:∀ c∈s.take cc,c<128:=fun c h=>hc c (List.mem_of_mem_take h)
  have hdr:∀ c∈s.drop cc,c<128:=fun c h=>hc c (gb h)
  have hpd:s.take cc++s.drop cc=s:=gx _ _;have hk3:=gX (s.take cc);obtain⟨jZ,t1,b5,ok1,tb5,l1,r1,q1⟩:=iJ (n:=n) (x:=2) (y:=5) (e:=.sl (.var 3) (.some (.var 4)) .none) (s:=s.take cc) (u:=s.drop cc) (env0:=[some (pD p,.own),some (pD q,.own),none,sT s,sN cc,none]) (by decide) (by rw[bz];omega) hdr (show (2:Nat)<6 by decide) (show (5:Nat)<6 by decide) (fun a b ha hb=>.cons (aB _) (.cons (aB _) (.cons ha (.cons (aB _) (.cons (aB _) (.cons hb .nil))))))
   (fun a b=>iM (by omega) (v3 _ _) (dC (v4 _ _)) eS (nF s cc)) (kk (s.take cc)) rows t a5 hok h5 (fun l h=>h) (by omega) (fun r h=>by rw[hpd];exact hr r h)
  rw[hpd] at r1;refine⟨jZ,t1,b5,ok1,tb5,r1,by omega,?_⟩;have e1:ev (T (n+3)) (.sl (.var 3) .none (.some (.var 4))) (EP p q rows t s (sN cc) a5) = .ok (.str (tx (s.take cc)),.mv []):=iM (by omega) (v3 _ _) eS (dC (v4 _ _)) (nP s cc);refine bQ ?_;rw[hX ec,if_pos h];exact bQ (cD (h8 (by rw[cm];omega) htk e1) q1)
 ·refine⟨rows,t,a5,hok,h5,hr,by omega,bQ ?_⟩;rw[hX ec,if_neg h,dJ]
theorem pairs {n:Nat}{p q:Pe}(hp:Piece p)(hq:Piece q)(hc:∀ c∈p.2++q.2,c<128):∃ rows fr,(∀ r∈rows,Cut (p.2++q.2) r)/\(T (n+4)).cl 14 [pD p,pD q] = .ok (aT rows,fr):=by
 have l1:=hp.c64;have l2:=hq.c64;have l3:=hp.c1;have hlen:(p.2++q.2).length<=200:=by rw[ao];omega
 have hst:aK [pD p,pD q] 6=[some (pD p,.own),some (pD q,.own),none,none,none,none]:=rfl;have tn:=aP;have eB:∀ r,ev (T (n+3)) A0 (some (pD p,.own)::some (pD q,.own)::r) = .ok (.str (tx (p.2++q.2)),.mv []):=fun r=>mj AF x11 (by omega)
 generalize hs:p.2++q.2=s at *;have hk3:=gX s;have g1:bI (T (n+3)) (.asg (.nm 2) (.comp 1 [] (.nm 0) (.seq (.call 12 (.cons A0 .nil))) .none (.lst (.cons (.var 0) .nil))) false) [some (pD p,.own),some (pD q,.own),none,none,none,none] = .nx [some (pD p,.own),some (pD q,.own),some (aT ((kk s).map fun q=>[q]),.own),none,none,none]:=aM (.cons (aB _) (.cons (aB _) (.cons tn (.cons tn (.cons tn (.cons tn .nil)))))) (show (2:Nat)<6 by decide) (jZ (by omega) hc (eB _));have g2:bI (T (n+3)) (.asg (.nm 3) A0 false) [some (pD p,.own),some (pD q,.own),some (aT ((kk s).map fun q=>[q]),.own),none,none,none] = .nx (EP p q ((kk s).map fun q=>[q]) .own s none none):=aM (.cons (aB _) (.cons (aB _) (.cons (aB _) (.cons tn (.cons tn (.cons tn .nil)))))) (show (3:Nat)<6 by decide) (eB _);have el:∀ r,ev (T (n+3)) (.blt .len (.cons mS .nil)) (some (pD p,.own)::r) = .ok (.int (p.2.length:Int),.mv []):=fun r=>dS (by omega) AF
 have hit:dI (T (n+3)) (.seq (.tup (.cons (.bin .Sub (.blt .len (.cons mS .nil)) (.cst (.int (1)))) (.cons (.bin .Add (.blt .len (.cons mS .nil)) (.cst (.int (1)))) .nil)))) (EP p q ((kk s).map fun q=>[q]) .own s none none) = .ok ([.int ((p.2.length - 1:Nat):Int),.int ((p.2.length+1:Nat):Int)],[]):=by
  have et:ev (T (n+3)) (.tup (.cons (.bin .Sub (.blt .len (.cons mS .nil)) (.cst (.int (1)))) (.cons (.bin .Add (.blt .len (.cons mS .nil)) (.cst (.int (1)))) .nil))) (EP p q ((kk s).map fun q=>[q]) .own s none none) = .ok (.tup [.int ((p.2.length - 1:Nat):Int),.int ((p.2.length+1:Nat):Int)],.mv []):=hJ (kJ (y:=1) l3 (el _) (aE _)) (bJ (y:=1) (el _) (aE _));rw[dI,et,aA];rfl
 obtain⟨r1,t1,b1,o1,u1,c1,n1,s1⟩:=x8 (n:=n) (p:=p) (q:=q) (s:=s) (cc:=p.2.length - 1) hlen hc (rows:=(kk s).map fun q=>[q]) (t:=.own) (a5:=none) (.inl rfl) tn (by rw[ag];omega) (fun r h=>BR h);rw[ag] at n1;obtain⟨r2,t2,b2,o2,u2,c2,n2,s2⟩:=x8 (n:=n) (p:=p) (q:=q) (s:=s) (cc:=p.2.length+1) hlen hc (rows:=r1) (t:=t1) (a5:=b1) o1 u1 (by omega) c1;have bd:∀ rows t a4 a5 (cc:Nat),uP t->aN a4->aN a5->aZ [] (.nm 4) (.int (cc:Int)) (EP p q rows t s a4 a5)=some (EP p q rows t s (sN cc) a5):=fun rows t a4 a5 cc h h4 h5=>cO (wZ h h4 h5) (show (4:Nat)<6 by decide)
 have g3:=cD hit (show bT (.nm 4) [] (aF (T (n+3)) bPl) [.int ((p.2.length - 1:Nat):Int),.int ((p.2.length+1:Nat):Int)] (EP p q ((kk s).map fun q=>[q]) .own s none none) = .nx (EP p q r2 t2 s (sN (p.2.length+1)) b2) by
  rw[bK (bd _ _ _ _ _ (.inl rfl) tn tn) s1,bK (bd _ _ _ _ _ o1 (aB _) u1) s2];rfl)
 have hret:∃ fr,ret (aF (T (n+3)) (.cons (.ret (.var 2)) .nil) (EP p q r2 t2 s (sN (p.2.length+1)) b2)) = .ok (aT r2,fr):=by
  rcases o2 with rfl | rfl
  ·exact⟨true,rfl⟩
  ·exact⟨false,rfl⟩
 obtain⟨fr,hret⟩:=hret;refine⟨r2,fr,c2,?_⟩;rw[oq,cA (F:=⟨2,6,b14⟩) rfl rfl];dsimp only;rw[hst,yV,aF,g1,aD,aF,g2,aD,aF,g3,aD];exact hret
open Pc.Fr (iD)
theorem tn:aN none:=aP
theorem pU:∀(k n:Nat) (t:List Nat),Good t->t.length<=n->∃ n' t',Good t'/\t'.length<=n'/\(pc n t).drop k=pc n' t'/\∀ c∈t',c<128
 |0,n,t,hG,h=>⟨n,t,hG,h,rfl,fun c hc=>(hG c hc).1⟩
 |k+1,0,t,hG,h=>⟨0,[],fun _ h=>(nomatch h),av _,rfl,fun _ h=>(nomatch h)⟩
 |k+1,n+1,[],hG,h=>⟨0,[],fun _ h=>(nomatch h),av _,by rw[gY];rfl,fun _ h=>(nomatch h)⟩
 | k+1,n+1,c::r,hG,h=>by
  have F:=gC (r:=r) (hG c ai).2;have hc1:=F.c1;rw[fK,fi];exact pU k n _ (hG.drop _) (by rw[bz];omega)
theorem Bu {n:Nat}{t:List Nat}{p:Pe}{rest row:List Pe}(hG:Good t)(h:t.length<=n)(he:pc n t=p::rest)(hr:Cut p.2 row):zb (row++rest) (p::rest)=false/\∀ q∈row++rest,Piece q:=by
 have hj:=ig n t hG h;have hP:=iq n t hG;rw[he] at hj hP;rw[aq,bg] at hj;have hok:∀ q∈row++rest,Piece q:=fun q hq=>by
  rcases List.mem_append.mp hq with hq | hq
  ·exact hr.ok q hq
  ·exact hP q (ah _ hq)
 refine⟨?_,hok⟩;rw[<-he];exact mD hG h ⟨hok,by rw[df,List.flatten_append,hr.eq,hj]⟩
theorem A8 {n:Nat}{t:List Nat}{p q:Pe}{rest row:List Pe}(hG:Good t)(h:t.length<=n)(he:pc n t=p::q::rest)(hr:Cut (p.2++q.2) row):zb (row++rest) (p::q::rest)=false/\∀ q∈row++rest,Piece q:=by
 have hj:=ig n t hG h;have hP:=iq n t hG;rw[he] at hj hP;rw[aq,aq,bg,bg,<-du] at hj;have hok:∀ z∈row++rest,Piece z:=fun z hz=>by
  rcases List.mem_append.mp hz with hz | hz
  ·exact hr.ok z hz
  ·exact hP z (ah _ (ah _ hz))
 refine⟨?_,hok⟩;rw[<-he];exact mD hG h ⟨hok,by rw[df,List.flatten_append,hr.eq,hj]⟩
noncomputable abbrev EL (cs:List Int)(m:Int)(t:List Nat)(P:List Pe)(a4 a5 a6:Slot):En:=[some (.lst (iD cs),.sh []),sI m,sT t,oP P,a4,a5,a6]
theorem mq {cs:List Int}{m:Int}{t:List Nat}{P:List Pe}{a4 a5 a6:Slot}(h4:aN a4)(h5:aN a5)(h6:aN a6):Tame (EL cs m t P a4 a5 a6) :=
 .cons (dA _) (.cons (aB _) (.cons (aB _) (.cons (aB _) (.cons h4 (.cons h5 (.cons h6 .nil))))))
theorem qI {α:Type}(cs:List α)(n:Nat):cut cs (some (n:Int)) none=cs.drop n:=by
 unfold cut;rw[jf];show (cs.drop (min n cs.length)).take (cs.length - min n cs.length)=_;by_cases h:n<=cs.length
 ·rw[de h];exact List.take_of_length_le (by simp)
 ·rw[Nat.min_eq_right (by omega),Nat.sub_self,List.take_zero,List.drop_of_length_le (l:=cs) (i:=n) (by omega)]
theorem B4 {T:Tb}{env:En}{e a:Ex}{P:List Pe}{i:Nat}{R R':Rt}(ha:ev T a env = .ok (.lst (P.map pD),R))(h:ev T e env = .ok (.int (i:Int),R')):ev T (.sl a (.some e) .none) env = .ok (.lst ((P.drop i).map pD),.mv []):=by
 rw[ev,ha,aA,dC h,aA,eS,aA];show (dX (some (D.lst (cut (P.map pD) (some (i:Int)) none)))).bind _=_;rw[qI,<-List.map_drop,aU,aA,fR (jF _)]
theorem Bi {T:Tb}{env:En}{a b:Ex}{x y:List Pe}{R R':Rt}(ha:ev T a env = .ok (.lst (x.map pD),R))(hb:ev T b env = .ok (.lst (y.map pD),R'))(h:x.length+y.length<=1000):ev T (.bin .Add a b) env = .ok (.lst ((x++y).map pD),.mv []):=by
 have:eI .Add (.lst (x.map pD)) (.lst (y.map pD))=some (.lst ((x++y).map pD)):=by
  show ck _ _=_;unfold ck;rw[if_pos (by rw[ag,ag];exact fP h),df]
 rw[ev,ha,aA,hb,aA,this,aU,aA,fR (jF _)]
theorem zh {T:Tb}{f:Nat}{e:Ex}{env:En}{d r:D}{fr:Bool}(h:ev T e env = .ok (d,.mv []))(hc:T.cl f [d] = .ok (r,fr)):∃ R:Rt,R.roots=[]/\ev T (.call f (.cons e .nil)) env = .ok (r,R):=by
 have:ev T (.call f (.cons e .nil)) env = .ok (r,if fr then .mv [] else .sh []):=by
  rw[ev,bB,h,aA,bB,aA,aA,mV,hc,aA];rfl
 refine⟨_,?_,this⟩;cases fr<;>rfl
theorem yF {T:Tb}{f:Nat}{e g:Ex}{env:En}{d d' r:D}{fr:Bool}(h:ev T e env = .ok (d,.mv []))(h':ev T g env = .ok (d',.mv []))(hc:T.cl f [d,d'] = .ok (r,fr)):∃ R:Rt,R.roots=[]/\ev T (.call f (.cons e (.cons g .nil))) env = .ok (r,R):=by
 have:ev T (.call f (.cons e (.cons g .nil))) env = .ok (r,if fr then .mv [] else .sh []):=by
  rw[ev,bB,h,aA,bB,h',aA,bB,aA,aA,aA];show (T.cl f [d,d']).bind _=_;rw[hc];rfl
 refine⟨_,?_,this⟩;cases fr<;>rfl
noncomputable def cLs (j:Nat):Ex:=.cmp .Lt (.call 11 (.cons (.bin .Add (.var 6) (.sl (.var 3) (.some (.bin .Add (.var 4) (.cst (.int (j:Nat))))) .none)) .nil)) (.var 5)
noncomputable def bLw (j:Nat):bZ:=.cons (.ite (cLs j) rF .nil) .nil
theorem jH {n k j:Nat}{cs:List Int}{m:Int}{t:List Nat}{P S:List Pe}(hP:P.length<=400):∀(rows:List (List Pe)) (a6:Slot),aN a6->(∀ r∈rows,zb (r++P.drop (k+j)) S=false/\(∀ q∈r++P.drop (k+j),Piece q)/\r.length<=200) ->
  ∃ b6,aN b6/\bT (.nm 6) [] (aF (T (n+2)) (bLw j)) (rows.map fun r=>.lst (r.map pD)) (EL cs m t P (sN k) (some (ki S,.own)) a6) = .nx (EL cs m t P (sN k) (some (ki S,.own)) b6)
 |[],a6,h6,_=>⟨a6,h6,rfl⟩
 | r::rows,a6,h6,hr=>by
  obtain⟨h1,h2,h3⟩:=hr r ai;obtain⟨b6,u6,q⟩:=jH (n:=n) (k:=k) (j:=j) (cs:=cs) (m:=m) (t:=t) (S:=S) hP rows (some (.lst (r.map pD),.sh [])) (dA _) fun z hz=>hr z (ah _ hz)
  refine⟨b6,u6,?_⟩;have hb:aZ [] (.nm 6) (.lst (r.map pD)) (EL cs m t P (sN k) (some (ki S,.own)) a6)=some (EL cs m t P (sN k) (some (ki S,.own)) (some (.lst (r.map pD),.sh []))):=cO (mq (aB _) (aB _) h6) (show (6:Nat)<7 by decide);obtain⟨R6,v6⟩:∃ R,ev (T (n+2)) (.var 6) (EL cs m t P (sN k) (some (ki S,.own)) (some (.lst (r.map pD),.sh []))) = .ok (.lst (r.map pD),R):=eZ rfl;have v3:ev (T (n+2)) (.var 3) (EL cs m t P (sN k) (some (ki S,.own)) (some (.lst (r.map pD),.sh []))) = .ok (.lst (P.map pD),.mv [3]):=cG rfl rfl;have e1:=B4 v3 (bJ (y:=j) (aC (T:=T (n+2)) (i:=4) (d:=.int (k:Int)) (t:=.own) rfl rfl) (aE (.int (j:Int))));have hdl:(P.drop (k+j)).length<=400:=by rw[bz];omega
  have e2:=iH (Bi v6 e1 (by omega)) (rank (n:=n) h2 (by rw[ao];omega));have v5:ev (T (n+2)) (.var 5) (EL cs m t P (sN k) (some (ki S,.own)) (some (.lst (r.map pD),.sh []))) = .ok (ki S,.mv [5]):=cG rfl rfl;have ec:ev (T (n+2)) (cLs j) (EL cs m t P (sN k) (some (ki S,.own)) (some (.lst (r.map pD),.sh []))) = .ok (.bl false,.mv []):=by
   unfold cLs;rw[ev,e2,aA,v5,aA,B9,h1];rfl
  rw[aq,bK hb (show aF (T (n+2)) (bLw j) _ = .nx _ from bQ (ite_ff ec)),q]
noncomputable def cNx:Ex:=.cmp .Lt (.bin .Add (.var 4) (.cst (.int (1)))) (.blt .len (.cons (.var 3) .nil))
noncomputable def bL:bZ:=(.cons (.asg (.nm 5) (.call 11 (.cons (.sl (.var 3) (.some (.var 4)) .none) .nil)) false)
  (.cons (.forr (.nm 6) (.seq (.call 13 (.cons (.ix (.var 3) (.var 4)) .nil))) (bLw 1))
  (.cons (.ite cNx (.cons (.forr (.nm 6) (.seq (.call 14 (.cons (.ix (.var 3) (.var 4)) (.cons (.ix (.var 3) (.bin .Add (.var 4) (.cst (.int (1))))) .nil)))) (bLw 2)) .nil) .nil)
  .nil)))
theorem Ay {cs:List Int}{m:Int}{t0:List Nat}{t:List Nat}(hG:Good t0)(hl:t0.length<=300){k:Nat}(hk:k<(pc t0.length t0).length){a5 a6:Slot}(h5:aN a5)(h6:aN a6) :
  ∃ b5 b6,aN b5/\aN b6/\aF (T 5) bL (EL cs m t (pc t0.length t0) (sN k) a5 a6) = .nx (EL cs m t (pc t0.length t0) (sN k) b5 b6):=by
 obtain⟨n',t',hG',hl',hdk,hlow⟩:=pU k t0.length t0 hG (av _);have hPl:(pc t0.length t0).length<=400:=bh (nW _ _) (by omega);have hPp:=iq t0.length t0 hG;generalize pc t0.length t0=P at *;have hdc:P.drop k=P[k]::P.drop (k+1):=cw hk;have hpk:Piece P[k]:=hPp _ (e8 hk);have hjt:=ig n' t' hG' hl';rw[<-hdk] at hjt;have hlowd:∀ p∈P.drop k,∀ c∈p.2,c<128:=fun p hp c hc=>hlow c (by
  rw[<-hjt];exact List.mem_flatten.mpr ⟨p.2,List.mem_map.mpr ⟨p,hp,rfl⟩,hc⟩)
 have v3:∀ a5 a6,ev (T 5) (.var 3) (EL cs m t P (sN k) a5 a6) = .ok (.lst (P.map pD),.mv [3]):=fun a5 a6=>cG rfl rfl
 have v4:∀ a5 a6,ev (T 5) (.var 4) (EL cs m t P (sN k) a5 a6) = .ok (.int (k:Int),.mv []):=fun a5 a6=>aC rfl rfl
 have g1:bI (T 5) (.asg (.nm 5) (.call 11 (.cons (.sl (.var 3) (.some (.var 4)) .none) .nil)) false) (EL cs m t P (sN k) a5 a6) = .nx (EL cs m t P (sN k) (some (ki (P.drop k),.own)) a6):=aM (mq (aB _) h5 h6) (show (5:Nat)<7 by decide) (iH (B4 (v3 _ _) (v4 _ _)) (rank (fun p hp=>hPp p (gb hp)) (by rw[bz];omega)));have xk:∀ a5 a6,ev (T 5) (.ix (.var 3) (.var 4)) (EL cs m t P (sN k) a5 a6) = .ok (pD P[k],.mv []):=fun a5 a6=>iT (i:=k) (v3 _ _) (v4 _ _) (by rw[List.getElem?_map,List.getElem?_eq_getElem hk];rfl) (p9 _)
 obtain⟨rows,fr,hrows,eo⟩:=others (n:=1) hpk (hlowd P[k] (by rw[hdc];exact ai));have rl:∀{s:List Nat}{r:List Pe},Cut s r->s.length<=200->r.length<=200:=fun {s r} h hs=>by
  have:r.length<=s.length:=by
   rw[<-h.eq];have hok:=h.ok;clear h hs
   induction r with
   |nil=>exact cy _
   |cons p r ih =>
    rw[aq,bg,ao,aj];have:=(hok p ai).c1;have:=ih fun q hq=>hok q (ah _ hq)
    omega
  omega
 have hk64:=hpk.c64;obtain⟨R1,hR1,ec1⟩:=zh (xk (some (ki (P.drop k),.own)) a6) eo;have hit1:dI (T 5) (.seq (.call 13 (.cons (.ix (.var 3) (.var 4)) .nil))) (EL cs m t P (sN k) (some (ki (P.drop k),.own)) a6) = .ok (rows.map fun r=>.lst (r.map pD),[]):=by
  rw[dI,ec1,aA];show (dX (some (rows.map fun r=>D.lst (r.map pD)))).bind _=_;rw[aU,aA,hR1]
 obtain⟨b6,u6,q1⟩:=jH (n:=3) (k:=k) (j:=1) (cs:=cs) (m:=m) (t:=t) (P:=P) (S:=P.drop k) hPl rows a6 h6 (fun r hr=>by
  obtain⟨l1,l2⟩:=Bu hG' hl' (hdk ▸ hdc) (hrows r hr);rw[<-hdc] at l1;exact⟨l1,l2,rl (hrows r hr) (by omega)⟩)
 have g2:=cD hit1 q1;have ec:ev (T 5) cNx (EL cs m t P (sN k) (some (ki (P.drop k),.own)) b6) = .ok (.bl (decide (k+1<P.length)),.mv []):=ox (bJ (y:=1) (v4 _ _) (aE _)) (by rw[jh (v3 _ _),ag]);unfold bL;by_cases hn:k+1<P.length
 ·have hdc2:P.drop (k+1)=P[k+1]::P.drop (k+2):=cw hn;have hpn:Piece P[k+1]:=hPp _ (e8 hn);have hn64:=hpn.c64;have xn:ev (T 5) (.ix (.var 3) (.bin .Add (.var 4) (.cst (.int (1))))) (EL cs m t P (sN k) (some (ki (P.drop k),.own)) b6) = .ok (pD P[k+1],.mv []):=iT (i:=k+1) (v3 _ _) (bJ (y:=1) (v4 _ _) (aE _)) (by rw[List.getElem?_map,List.getElem?_eq_getElem hn];rfl) (p9 _);obtain⟨nh,fr2,hrows2,ep⟩:=pairs (n:=1) hpk hpn (fun c hc=>by
   rcases List.mem_append.mp hc with hc | hc
   ·exact hlowd P[k] (by rw[hdc];exact ai) c hc
   ·exact hlowd P[k+1] (by rw[hdc,hdc2];exact ah _ ai) c hc)
  obtain⟨R2,hR2,ec2⟩:=yF (xk (some (ki (P.drop k),.own)) b6) xn ep;have hit2:dI (T 5) (.seq (.call 14 (.cons (.ix (.var 3) (.var 4)) (.cons (.ix (.var 3) (.bin .Add (.var 4) (.cst (.int (1))))) .nil)))) (EL cs m t P (sN k) (some (ki (P.drop k),.own)) b6) = .ok (nh.map fun r=>.lst (r.map pD),[]):=by
   rw[dI,ec2,aA];show (dX (some (nh.map fun r=>D.lst (r.map pD)))).bind _=_;rw[aU,aA,hR2]
  have hd3:P.drop k=P[k]::P[k+1]::P.drop (k+2):=by rw[hdc,hdc2]
  obtain⟨c6,w6,q2⟩:=jH (n:=3) (k:=k) (j:=2) (cs:=cs) (m:=m) (t:=t) (P:=P) (S:=P.drop k) hPl nh b6 u6 (fun r hr=>by
   obtain⟨l1,l2⟩:=A8 hG' hl' (hdk ▸ hd3) (hrows2 r hr);rw[<-hd3] at l1;exact⟨l1,l2,rl (hrows2 r hr) (by rw[ao];omega)⟩)
  have g3:=cD hit2 q2;refine⟨some (ki (P.drop k),.own),c6,aB _,w6,?_⟩;rw[aF,g1,aD,aF,g2,aD];refine bQ ?_;rw[hX ec,if_pos hn];exact bQ g3
 ·refine⟨some (ki (P.drop k),.own),b6,aB _,u6,?_⟩;rw[aF,g1,aD,aF,g2,aD];refine bQ ?_;rw[hX ec,if_neg hn,dJ]
theorem mH {cs:List Int}{m:Int}{t0:List Nat}{t:List Nat}(hG:Good t0)(hl:t0.length<=300):∀(j k:Nat) (a4 a5 a6:Slot),aN a4->aN a5->aN a6->k+j=(pc t0.length t0).length ->
  ∃ b4 b5 b6,aN b4/\aN b5/\aN b6/\bT (.nm 4) [] (aF (T 5) bL) (aS (k:Int) 1 j) (EL cs m t (pc t0.length t0) a4 a5 a6) = .nx (EL cs m t (pc t0.length t0) b4 b5 b6)
 |0,k,a4,a5,a6,h4,h5,h6,_=>⟨a4,a5,a6,h4,h5,h6,rfl⟩
 | j+1,k,a4,a5,a6,h4,h5,h6,hkj=>by
  obtain⟨b5,b6,u5,u6,st⟩:=Ay (cs:=cs) (m:=m) (t:=t) hG hl (k:=k) (by omega) h5 h6;obtain⟨c4,c5,c6,w4,w5,w6,q⟩:=mH (cs:=cs) (m:=m) (t:=t) hG hl j (k+1) (sN k) b5 b6 (aB _) u5 u6 (by omega);have hb:aZ [] (.nm 4) (.int (k:Int)) (EL cs m t (pc t0.length t0) a4 a5 a6)=some (EL cs m t (pc t0.length t0) (sN k) a5 a6):=cO (mq h4 h5 h6) (show (4:Nat)<7 by decide);refine⟨c4,c5,c6,w4,w5,w6,?_⟩;rw[fF,bK hb st,q]
noncomputable def c2:Ex:=.cmp .Eq (.bin .Mod (.call 5 (.cons (.var 0) (.cons (.cst (.int (80))) (.cons (.cst (.int (2147483647))) .nil)))) (.cst (.int (8)))) (.cst (.int (1)))
noncomputable def e6:Ex:=.cmp .Eq (.mth .sjoin (.cst (.str ("" : PySem.Str))) (.cons (.comp 2 [] (.tp [0,1]) (.seq (.var 3)) .none (.var 1)) .nil)) (.var 2)
theorem zP:b15=(.cons (.asg (.nm 1) (.cst (.int (90))) false)
  (.cons (.ite c2 (.cons (.asg (.nm 1) (.cst (.int (160))) false) .nil) .nil)
  (.cons (.asg (.nm 2) (.call 8 (.cons (.var 0) (.cons (.var 1) .nil))) false)
  (.cons (.asg (.nm 3) (.call 1 (.cons (.var 2) .nil)) false)
  (.cons (.forr (.nm 4) (.rng1 (.blt .len (.cons (.var 3) .nil))) bL)
  (.cons (.ret e6) .nil)))))):=rfl
theorem law (ns:List Int)(hl:ns.length<=63):∃ fr,Pc.run fns gl 1000 6 15 [.lst (ns.map D.int)] = .ok (.bl true,fr):=by
 have hst:aK [.lst (ns.map D.int)] 7=[some (.lst (iD ns),.sh []),none,none,none,none,none,none]:=rfl;have t0:∀ a1 a2 a3,aN a1->aN a2->aN a3->Tame [some (.lst (iD ns),.sh []),a1,a2,a3,none,none,none]:=fun a1 a2 a3 h1 h2 h3=>.cons (dA _) (.cons h1 (.cons h2 (.cons h3 (.cons tn (.cons tn (.cons tn .nil))))))
 have g1:bI (T 5) (.asg (.nm 1) (.cst (.int (90))) false) [some (.lst (iD ns),.sh []),none,none,none,none,none,none] = .nx [some (.lst (iD ns),.sh []),sI 90,none,none,none,none,none]:=aM (t0 _ _ _ tn tn tn) (show (1:Nat)<7 by decide) (aE _);obtain⟨r,_,_,er⟩:=mX 4 ns 80 2147483647 (by decide) (by decide);obtain⟨R,v0⟩:∃ R,ev (T 5) (.var 0) [some (.lst (iD ns),.sh []),sI 90,none,none,none,none,none] = .ok (.lst (iD ns),R):=eZ rfl;have ec:ev (T 5) c2 [some (.lst (iD ns),.sh []),sI 90,none,none,none,none,none] = .ok (.bl (decide (r%8=1)),.mv []):=Ct.tV (dW (show (0:Int)<8 by decide) (tB v0 (aE _) (aE _) er) (aE _)) (aE _);have g2:∃ m:Nat,m<=300/\bI (T 5) (.ite c2 (.cons (.asg (.nm 1) (.cst (.int (160))) false) .nil) .nil) [some (.lst (iD ns),.sh []),sI 90,none,none,none,none,none] = .nx [some (.lst (iD ns),.sh []),sI (m:Int),none,none,none,none,none]:=by
  rw[hX ec];split
  ·exact⟨160,by decide,bQ (aM (t0 _ _ _ (aB _) tn tn) (show (1:Nat)<7 by decide) (aE _))⟩
  ·exact⟨90,by decide,dJ⟩
 obtain⟨m,hm,g2⟩:=g2;obtain⟨t,hG,htl,et⟩:=tX 2 ns m hm;obtain⟨R',v0'⟩:∃ R,ev (T 5) (.var 0) [some (.lst (iD ns),.sh []),sI (m:Int),none,none,none,none,none] = .ok (.lst (iD ns),R):=eZ rfl;have g3:bI (T 5) (.asg (.nm 2) (.call 8 (.cons (.var 0) (.cons (.var 1) .nil))) false) [some (.lst (iD ns),.sh []),sI (m:Int),none,none,none,none,none] = .nx [some (.lst (iD ns),.sh []),sI (m:Int),sT t,none,none,none,none]:=aM (t0 _ _ _ (aB _) tn tn) (show (2:Nat)<7 by decide) (o8 v0' (aC rfl rfl) et);have cu:=cT 1 t (by omega) hG;obtain⟨b4,b5,b6,u4,u5,u6,ql⟩:=mH (cs:=ns) (m:=(m:Int)) (t:=t) hG (by omega) (pc t.length t).length 0 none none none tn tn tn (by omega);have hj:=ig t.length t hG (av _);have hpl:(pc t.length t).length<=400:=bh (nW _ _) (by omega);generalize pc t.length t=P at *;have g4:bI (T 5) (.asg (.nm 3) (.call 1 (.cons (.var 2) .nil)) false) [some (.lst (iD ns),.sh []),sI (m:Int),sT t,none,none,none,none] = .nx (EL ns (m:Int) t P none none none):=aM (t0 _ _ _ (aB _) (aB _) tn) (show (3:Nat)<7 by decide) (iH (aC rfl rfl) cu);have v3:∀ a4 a5 a6,ev (T 5) (.var 3) (EL ns (m:Int) t P a4 a5 a6) = .ok (.lst (P.map pD),.mv [3]):=fun a4 a5 a6=>cG rfl rfl
 have hitl:dI (T 5) (.rng1 (.blt .len (.cons (.var 3) .nil))) (EL ns (m:Int) t P none none none) = .ok (aS ((0:Nat):Int) 1 P.length,[]):=AW (by rw[jh (v3 _ _ _),ag]) (by omega);have g5:=cD hitl ql;have hit:dI (T 5) (.seq (.var 3)) (EL ns (m:Int) t P b4 b5 b6) = .ok (P.map pD,[3]):=by
  rw[dI,v3,aA];rfl
 have k2:=eQ (own:=2) (pick:=[]) (t:=.tp [0,1]) (e:=.var 1) (r:=fun p:Pe=>D.str (tx p.2)) hit (by omega) (fun p hp=>by
  have hb:aZ [] (.tp [0,1]) (pD p) (bF (EL ns (m:Int) t P b4 b5 b6) 2 [])=some [sN p.1,sT p.2]:=rfl;rw[hb];exact kL (aC rfl rfl))
 rw[show (P.map fun p=>D.str (tx p.2))=(P.map (·.2)).map (fun l=>D.str (tx l)) by rw[cv];rfl] at k2;have kj:=uY k2 (by rw[hj];omega);rw[hj] at kj;refine⟨true,?_⟩;rw[cA (F:=⟨1,7,b15⟩) rfl rfl];dsimp only;rw[hst,zP,aF,g1,aD,aF,g2,aD,aF,g3,aD,aF,g4,aD,aF,g5,aD];exact fN (xm kj (aC rfl rfl) (B6 39 t))
end K07
end
section
namespace K07
open PySem PySem.Spec PyProof.Rows L2 Pc
noncomputable abbrev st (i:Nat):Stmt:=PySem.Challenge.pw_patchsquare_k07_no_cut_nearby.main.body.getD i (.Pass ⟨0,0,0,0⟩)
noncomputable def eT:List Str:=["range","len","list","min","all","sum","enumerate"]
noncomputable def pQ:List Str:=["FIGURES","CAPITALS","ANY","KIND_SIGNS","SIGN_BITS","KIND_BITS","COUNT_BITS","MOST_SIGNS","FIGURE_BITS","MOST_FIGURES"]
noncomputable def df0:Df:=⟨"piece_length",st 14,["kind","count"],["kind","count","head"],b0⟩
noncomputable def df1:Df:=⟨"cut_text",st 16,["text"],["text","cuts","pieces","start","kind","end"],b1⟩
noncomputable def df2:Df:=⟨"refuse_strange_signs",st 17,["text"],["text","place","sign"],b2⟩
noncomputable def df3:Df:=⟨"best_cuts",st 18,["text"],["text","cuts","runs","start","choices","kind"],b3⟩
noncomputable def df4:Df:=⟨"cuts_of_kind",st 19,["cuts","start","kind","run"],["cuts","start","kind","run","choices","count","rest"],b4⟩
noncomputable def df5:Df:=⟨"_law_mix",st 21,["_law_script","_law_k","_law_prime"],["_law_script","_law_k","_law_prime","_law_cell"],b5⟩
noncomputable def df6:Df:=⟨"_law_signs",st 22,["_law_kind"],["_law_kind","_law_some"],b6⟩
noncomputable def df7:Df:=⟨"_law_run",st 23,["_law_d","_law_size"],["_law_d","_law_size","_law_some","_law_run_here","_law_k"],b7⟩
noncomputable def df8:Df:=⟨"_law_text",st 24,["_law_script","_law_most"],["_law_script","_law_most","_law_size","_law_text_here","_law_k","_law_d","_law_long"],b8⟩
noncomputable def df9:Df:=⟨"_law_cost",st 25,["_law_kind","_law_many"],["_law_kind","_law_many"],b9⟩
noncomputable def df10:Df:=⟨"_law_is_piece",st 26,["_law_piece"],["_law_piece","_law_some"],b10⟩
noncomputable def df11:Df:=⟨"_law_rank",st 27,["_law_pieces"],["_law_pieces","_law_bits"],b11⟩
noncomputable def df12:Df:=⟨"_law_kinds",st 28,["_law_signs_here"],["_law_signs_here"],b12⟩
noncomputable def df13:Df:=⟨"_law_others",st 29,["_law_piece"],["_law_piece","_law_rows","_law_cut","_law_left"],b13⟩
noncomputable def df14:Df:=⟨"_law_pairs",st 30,["_law_one","_law_two"],["_law_one","_law_two","_law_rows","_law_both","_law_cut","_law_left"],b14⟩
noncomputable def Cy:Df:=⟨"law",st 31,["_law_script"],["_law_script","_law_most","_law_text_here","_law_found","_law_k","_law_told","_law_row"],b15⟩
noncomputable def p:Pg:=⟨[df0,df1,df2,df3,df4,df5,df6,df7,df8,df9,df10,df11,df12,df13,df14,Cy],pQ,eT,gl,1000⟩
theorem ok:rb (Df.Ok p) p.dfs:=by
 refine⟨?a0,?a1,?a2,?a3,?a4,?a5,?a6,?a7,?a8,?a9,?a10,?a11,?a12,?a13,?a14,?a15,trivial⟩
 case a0 | a7 | a8 | a9 | a14=>exact Df.ok_of (n:=60) (by decide +kernel) rfl (fun _ _ _ _ _ _ us hl=>@AK (fun us=>bindArgs _ ⟨us,[]⟩=pure (List.zip _ us)) us hl (fun _ _=>rfl))
 case a1 | a2 | a3 | a6 | a10 | a11 | a12 | a13 | a15=>exact Df.ok_of (n:=60) (by decide +kernel) rfl (fun _ _ _ _ _ _ us hl=>@Cv (fun us=>bindArgs _ ⟨us,[]⟩=pure (List.zip _ us)) us hl (fun _=>rfl))
 case a4=>exact Df.ok_of (n:=60) (by decide +kernel) rfl (fun _ _ _ _ _ _ us hl=>@len4 (fun us=>bindArgs _ ⟨us,[]⟩=pure (List.zip _ us)) us hl (fun _ _ _ _=>rfl))
 case a5=>exact Df.ok_of (n:=60) (by decide +kernel) rfl (fun _ _ _ _ _ _ us hl=>@B5 (fun us=>bindArgs _ ⟨us,[]⟩=pure (List.zip _ us)) us hl (fun _ _ _=>rfl))
theorem plaw (ns:List Int)(hl:ns.length<=63):∃ fr,p.run 6 15 [.lst (ns.map D.int)] = .ok (.bl true,fr):=law ns hl
end K07
namespace K07
open PySem PySem.W Pc.Hd
noncomputable def K (P:Params):Frag:=[(2,{ cls:=Value.none,data:=Data.dict #[] }),
 di 3 #[kv P "__name__" 165 (sv "law_patchsquare_k07_no_cut_nearby" 320),kv P "__doc__" 166 .none,kv P "__package__" 167 .none,kv P "__loader__" 168 (.builtin "__main__.__loader__#opaque"),kv P "__spec__" 169 .none,kv P "__annotations__" 170 (.ref 6),kv P "__builtins__" 171 (.ref 4),kv P "__file__" 173 (sv "/claim/cut.py" 172),kv P "__cached__" 174 .none,kv P "SquareError" 206 (.ref 24),kv P "NoSign" 231 (.ref 44),kv P "FIGURES" 235 (.int 1 234),kv P "CAPITALS" 237 (.int 2 236),kv P "ANY" 239 (.int 3 238),kv P "KIND_SIGNS" 244 (.ref 47),kv P "SIGN_BITS" 249 (.ref 48),kv P "KIND_BITS" 251 (.int 2 250),kv P "COUNT_BITS" 253 (.int 6 252),kv P "MOST_SIGNS" 255 (.int 64 254),kv P "FIGURE_BITS" 260 (.ref 49),kv P "MOST_FIGURES" 262 (.int 3 261),kv P "piece_length" 271 (.ref 56),kv P "cut_text" 285 (.ref 63),kv P "refuse_strange_signs" 294 (.ref 70),kv P "best_cuts" 306 (.ref 77),kv P "cuts_of_kind" 319 (.ref 84),kv P "_law_mix" 331 (.ref 91),kv P "_law_signs" 339 (.ref 98),kv P "_law_run" 350 (.ref 105),kv P "_law_text" 363 (.ref 112),kv P "_law_cost" 371 (.ref 119),kv P "_law_is_piece" 377 (.ref 124),kv P "_law_rank" 383 (.ref 129),kv P "_law_kinds" 389 (.ref 134),kv P "_law_others" 395 (.ref 139),kv P "_law_pairs" 401 (.ref 144),kv P "law" 407 (.ref 149)] 37,
 di 6 #[] 0,
 tu 15 #[(.type "ValueError")],
 tu 22 #[],
 di 23 #[kv P "__module__" 196 (sv "patchsquare.errors" 187),kv P "__firstlineno__" 200 (.int 2 199),kv P "__static_attributes__" 201 (.ref 22),kv P "__weakref__" 203 (.ref 25),kv P "__doc__" 204 .none] 3,
 (24,{ cls:=Value.type "type",data:=Data.cls { name:=Str.ofString "SquareError",bases:=[Value.type "ValueError"],mro:=[Value.ref 24,Value.type "ValueError",Value.type "Exception",Value.type "BaseException",Value.type "object"],ns:=23,qualname:=Str.ofString "SquareError",subclasses:=[Value.ref 44] },slots:=#[some (Value.ref 15),none,some (Value.str (Str.ofString "SquareError") 189),some (Value.str (Str.ofString "SquareError") 197),some (Value.builtin "ValueError.__new__"),some (Value.bool true)] }),
 (25,{ cls:=Value.type "getset_descriptor",data:=Data.fields #[Value.str (Str.ofString "__weakref__") 202,Value.ref 24,Value.builtin "ExceptionGroup.__weakref__",Value.none] }),
 tu 28 #[(.ref 24)],
 co 40 #[(sv "__init__" 219),(sv "NoSign.__init__" 220),(sv "/claim/cut.py" 221),(.int 6 0),(.int 2 0),(.int 0 0),(.int 0 0),(.int 3 0),(.ref 35),(.bool true),(.int 181 0),(.ref 36),.none,(.ref 37),(.ref 38),(.ref 39),(.int 224 0),(.int 6 0),(sv "/claim/cut.py" 225)],
 (41,{ cls:=Value.type "function",data:=Data.func { name:=Str.ofString "__init__",qualname:=Str.ofString "NoSign.__init__",params:={ posonlyargs:=[],args:=[{ arg:=Str.ofString "self",annotation:=none,pos:={ line:=6,col:=17,endLine:=6,endCol:=21 } },{ arg:=Str.ofString "place",annotation:=none,pos:={ line:=6,col:=23,endLine:=6,endCol:=28 } }],vararg:=none,kwonlyargs:=[],kw_defaults:=[],kwarg:=none,defaults:=[] },body:=FuncBody.stmts [Stmt.Expr (((Expr.Name (Str.ofString "SquareError") { line:=7,col:=8,endLine:=7,endCol:=19 }).Attribute (Str.ofString "__init__") { line:=7,col:=8,endLine:=7,endCol:=28 }).Call [Expr.Name (Str.ofString "self") { line:=7,col:=29,endLine:=7,endCol:=33 },Expr.JoinedStr [Expr.Constant (Const.str (Str.ofString "the sign at place ")) 0 { line:=7,col:=37,endLine:=7,endCol:=55 },(Expr.Name (Str.ofString "place") { line:=7,col:=56,endLine:=7,endCol:=61 }).FormattedValue (-1) none { line:=7,col:=55,endLine:=7,endCol:=62 },Expr.Constant (Const.str (Str.ofString " can't be written")) 0 { line:=7,col:=62,endLine:=7,endCol:=79 }] { line:=7,col:=35,endLine:=7,endCol:=80 }] [] { line:=7,col:=8,endLine:=7,endCol:=81 }) { line:=7,col:=8,endLine:=7,endCol:=81 },Stmt.Assign [(Expr.Name (Str.ofString "self") { line:=8,col:=8,endLine:=8,endCol:=12 }).Attribute (Str.ofString "place") { line:=8,col:=8,endLine:=8,endCol:=18 }] (Expr.Name (Str.ofString "place") { line:=8,col:=21,endLine:=8,endCol:=26 }) { line:=8,col:=8,endLine:=8,endCol:=26 }],scope:={ kind:=ScopeKind.function,names:=[(Str.ofString "self",NameKind.local),(Str.ofString "place",NameKind.local),(Str.ofString "SquareError",NameKind.globalImplicit)],isGenerator:=false,isCoroutine:=false },globals:=3,closure:=[],defaults:=Value.none,kwdefaults:=Value.none,pyModule:=Value.str (Str.ofString "patchsquare.errors") 187,code:=Value.ref 40 } }),
 tu 42 #[(sv "place" 227)],
 di 43 #[kv P "__module__" 214 (sv "patchsquare.errors" 187),kv P "__firstlineno__" 218 (.int 4 217),kv P "__init__" 226 (.ref 41),kv P "__static_attributes__" 228 (.ref 42),kv P "__doc__" 229 .none] 2,
 (44,{ cls:=Value.type "type",data:=Data.cls { name:=Str.ofString "NoSign",bases:=[Value.ref 24],mro:=[Value.ref 44,Value.ref 24,Value.type "ValueError",Value.type "Exception",Value.type "BaseException",Value.type "object"],ns:=43,qualname:=Str.ofString "NoSign" },slots:=#[some (Value.ref 28),none,some (Value.str (Str.ofString "NoSign") 207),some (Value.str (Str.ofString "NoSign") 215),some (Value.builtin "ValueError.__new__"),some (Value.bool true)] }),
 tu 47 #[(sv "" 240),(sv "0123456789" 241),(sv " ABCDEFGHIJKLMNOPQRSTUVWXYZ.,-:/" 242),(sv " !\"#$&'()*+,-./0123456789:;<=>?@ABCDEFGHIJKLMNOPQRSTUVWXYZ[\\]^_`abcdefghijklmnopqrstuvwxyz{|}~" 243)],
 tu 48 #[(.int 0 245),(.int 0 246),(.int 5 247),(.int 7 248)],
 tu 49 #[(.int 0 256),(.int 4 257),(.int 7 258),(.int 10 259)],
 co 55 #[(sv "piece_length" 263),(sv "piece_length" 264),(sv "/claim/cut.py" 265),(.int 20 0),(.int 2 0),(.int 0 0),(.int 0 0),(.int 3 0),(.ref 50),(.bool true),(.int 181 0),(.ref 51),.none,(.ref 52),(.ref 53),(.ref 54),(.int 269 0),(.int 20 0),(sv "/claim/cut.py" 270)],
 fo 56 (st 14) (sv "patchsquare.pieces" 232) (.ref 55),
 co 62 #[(sv "cut_text" 274),(sv "cut_text" 275),(sv "/claim/cut.py" 276),(.int 26 0),(.int 1 0),(.int 0 0),(.int 0 0),(.int 3 0),(.ref 57),(.bool true),(.int 181 0),(.ref 58),.none,(.ref 59),(.ref 60),(.ref 61),(.int 283 0),(.int 26 0),(sv "/claim/cut.py" 284)],
 fo 63 (st 16) (sv "patchsquare.cutting" 272) (.ref 62),
 co 69 #[(sv "refuse_strange_signs" 286),(sv "refuse_strange_signs" 287),(sv "/claim/cut.py" 288),(.int 37 0),(.int 1 0),(.int 0 0),(.int 0 0),(.int 3 0),(.ref 64),(.bool true),(.int 181 0),(.ref 65),.none,(.ref 66),(.ref 67),(.ref 68),(.int 292 0),(.int 37 0),(sv "/claim/cut.py" 293)],
 fo 70 (st 17) (sv "patchsquare.cutting" 272) (.ref 69),
 co 76 #[(sv "best_cuts" 295),(sv "best_cuts" 296),(sv "/claim/cut.py" 297),(.int 41 0),(.int 1 0),(.int 0 0),(.int 0 0),(.int 3 0),(.ref 71),(.bool true),(.int 181 0),(.ref 72),.none,(.ref 73),(.ref 74),(.ref 75),(.int 304 0),(.int 41 0),(sv "/claim/cut.py" 305)],
 fo 77 (st 18) (sv "patchsquare.cutting" 272) (.ref 76),
 co 83 #[(sv "cuts_of_kind" 307),(sv "cuts_of_kind" 308),(sv "/claim/cut.py" 309),(.int 51 0),(.int 4 0),(.int 0 0),(.int 0 0),(.int 3 0),(.ref 78),(.bool true),(.int 181 0),(.ref 79),.none,(.ref 80),(.ref 81),(.ref 82),(.int 317 0),(.int 51 0),(sv "/claim/cut.py" 318)],
 fo 84 (st 19) (sv "patchsquare.cutting" 272) (.ref 83),
 co 90 #[(sv "_law_mix" 322),(sv "_law_mix" 323),(sv "/claim/cut.py" 324),(.int 58 0),(.int 3 0),(.int 0 0),(.int 0 0),(.int 3 0),(.ref 85),(.bool true),(.int 181 0),(.ref 86),.none,(.ref 87),(.ref 88),(.ref 89),(.int 329 0),(.int 58 0),(sv "/claim/cut.py" 330)],
 fo 91 (st 21) (sv "law_patchsquare_k07_no_cut_nearby" 320) (.ref 90),
 co 97 #[(sv "_law_signs" 332),(sv "_law_signs" 333),(sv "/claim/cut.py" 334),(.int 63 0),(.int 1 0),(.int 0 0),(.int 0 0),(.int 3 0),(.ref 92),(.bool true),(.int 181 0),(.ref 93),.none,(.ref 94),(.ref 95),(.ref 96),(.int 337 0),(.int 63 0),(sv "/claim/cut.py" 338)],
 fo 98 (st 22) (sv "law_patchsquare_k07_no_cut_nearby" 320) (.ref 97),
 co 104 #[(sv "_law_run" 340),(sv "_law_run" 341),(sv "/claim/cut.py" 342),(.int 70 0),(.int 2 0),(.int 0 0),(.int 0 0),(.int 3 0),(.ref 99),(.bool true),(.int 181 0),(.ref 100),.none,(.ref 101),(.ref 102),(.ref 103),(.int 348 0),(.int 70 0),(sv "/claim/cut.py" 349)],
 fo 105 (st 23) (sv "law_patchsquare_k07_no_cut_nearby" 320) (.ref 104),
 co 111 #[(sv "_law_text" 351),(sv "_law_text" 352),(sv "/claim/cut.py" 353),(.int 77 0),(.int 2 0),(.int 0 0),(.int 0 0),(.int 3 0),(.ref 106),(.bool true),(.int 181 0),(.ref 107),.none,(.ref 108),(.ref 109),(.ref 110),(.int 361 0),(.int 77 0),(sv "/claim/cut.py" 362)],
 fo 112 (st 24) (sv "law_patchsquare_k07_no_cut_nearby" 320) (.ref 111),
 co 118 #[(sv "_law_cost" 364),(sv "_law_cost" 365),(sv "/claim/cut.py" 366),(.int 89 0),(.int 2 0),(.int 0 0),(.int 0 0),(.int 3 0),(.ref 113),(.bool true),(.int 181 0),(.ref 114),.none,(.ref 115),(.ref 116),(.ref 117),(.int 369 0),(.int 89 0),(sv "/claim/cut.py" 370)],
 fo 119 (st 25) (sv "law_patchsquare_k07_no_cut_nearby" 320) (.ref 118),
 co 123 #[(sv "_law_is_piece" 372),(sv "_law_is_piece" 373),(sv "/claim/cut.py" 374),(.int 93 0),(.int 1 0),(.int 0 0),(.int 0 0),(.int 3 0),(.ref 120),(.bool true),(.int 181 0),(.ref 121),.none,.none,.none,(.ref 122),(.int 375 0),(.int 93 0),(sv "/claim/cut.py" 376)],
 fo 124 (st 26) (sv "law_patchsquare_k07_no_cut_nearby" 320) (.ref 123),
 co 128 #[(sv "_law_rank" 378),(sv "_law_rank" 379),(sv "/claim/cut.py" 380),(.int 98 0),(.int 1 0),(.int 0 0),(.int 0 0),(.int 3 0),(.ref 125),(.bool true),(.int 181 0),(.ref 126),.none,.none,.none,(.ref 127),(.int 381 0),(.int 98 0),(sv "/claim/cut.py" 382)],
 fo 129 (st 27) (sv "law_patchsquare_k07_no_cut_nearby" 320) (.ref 128),
 co 133 #[(sv "_law_kinds" 384),(sv "_law_kinds" 385),(sv "/claim/cut.py" 386),(.int 101 0),(.int 1 0),(.int 0 0),(.int 0 0),(.int 3 0),(.ref 130),(.bool true),(.int 181 0),(.ref 131),.none,.none,.none,(.ref 132),(.int 387 0),(.int 101 0),(sv "/claim/cut.py" 388)],
 fo 134 (st 28) (sv "law_patchsquare_k07_no_cut_nearby" 320) (.ref 133),
 co 138 #[(sv "_law_others" 390),(sv "_law_others" 391),(sv "/claim/cut.py" 392),(.int 103 0),(.int 1 0),(.int 0 0),(.int 0 0),(.int 3 0),(.ref 135),(.bool true),(.int 181 0),(.ref 136),.none,.none,.none,(.ref 137),(.int 393 0),(.int 103 0),(sv "/claim/cut.py" 394)],
 fo 139 (st 29) (sv "law_patchsquare_k07_no_cut_nearby" 320) (.ref 138),
 co 143 #[(sv "_law_pairs" 396),(sv "_law_pairs" 397),(sv "/claim/cut.py" 398),(.int 109 0),(.int 2 0),(.int 0 0),(.int 0 0),(.int 3 0),(.ref 140),(.bool true),(.int 181 0),(.ref 141),.none,.none,.none,(.ref 142),(.int 399 0),(.int 109 0),(sv "/claim/cut.py" 400)],
 fo 144 (st 30) (sv "law_patchsquare_k07_no_cut_nearby" 320) (.ref 143),
 co 148 #[(sv "law" 402),(sv "law" 403),(sv "/claim/cut.py" 404),(.int 117 0),(.int 1 0),(.int 0 0),(.int 0 0),(.int 3 0),(.ref 145),(.bool true),(.int 181 0),(.ref 146),.none,.none,.none,(.ref 147),(.int 405 0),(.int 117 0),(sv "/claim/cut.py" 406)],
 fo 149 (st 31) (sv "law_patchsquare_k07_no_cut_nearby" 320) (.ref 148)]
noncomputable def as:List Addr:=[2,3,6,15,22,23,24,25,28,40,41,42,43,44,47,48,49,55,56,62,63,69,70,76,77,83,84,90,91,97,98,104,105,111,112,118,119,123,124,128,129,133,134,138,139,143,144,148,149]
noncomputable def Q:Program:={ PySem.Challenge.pw_patchsquare_k07_no_cut_nearby with main:={ PySem.Challenge.pw_patchsquare_k07_no_cut_nearby.main with body:=[st 1,st 2,st 4,st 5,st 6,st 7,st 8,st 9,st 10,st 11,st 12,st 13,st 14,st 16,st 17,st 18,st 19,st 21,st 22,st 23,st 24,st 25,st 26,st 27,st 28,st 29,st 30,st 31] } }
noncomputable def H:Hook:=kHook K as (fun _=>rfl)
end K07
open PySem PySem.W PyProof.Rows
theorem K07.left:LeftO PySem.Challenge.pw_patchsquare_k07_no_cut_nearby K07.Q [] (fun s=>xlAt K07.Q [] s&&recOk (RowW.records PySem.Challenge.rw_patchsquare_k07_no_cut_nearby.row.toRowW) s) (Hook.obs K07.H) (Hook.val K07.H) 2232:=by
 intro w
 kernel_rfl
theorem PySem.Challenge.cw_patchsquare_k07_no_cut_nearby_holds : PySem.Challenge.rw_patchsquare_k07_no_cut_nearby.Holds := by
 refine holds_law (by decide +kernel) fun said=>?_
 refine holds_open (q:=K07.Q) (loose:=[]) (XP:=XL K07.Q []) (YP:=Hook.says K07.H) K07.left (Hook.of K07.H) (Hook.keeps K07.H) (fun s e=>xl_of s (Bool.and_eq_true_iff.mp e).1) XL.keeps (by rfl) (by rfl) (by rfl) (fun s e=>recFacts_of (Bool.and_eq_true_iff.mp e).2) (by rfl) said (by decide +kernel) ⟨rfl,rfl,rfl,rfl,rfl,by decide +kernel⟩ ?hw ?hc
 case hw=>w_witness2
 refine Pc.walk (l:=PySem.Challenge.rw_patchsquare_k07_no_cut_nearby) K07.p 6 15 "_law_script" K07.Cy rfl rfl (fun w h Y=>PySem.W.kIn_of Y) rfl rfl rfl ⟨rfl,by decide,by decide⟩ K07.ok ?st ?nl ?hh K07.plaw
 case nl=>intro w;rfl
 case hh=>intro w;exact Pc.Be rfl
 case st =>
  intro w;refine⟨⟨?d0,?d1,?d2,?d3,?d4,?d5,?d6,?d7,?d8,?d9,?d10,?d11,?d12,?d13,?d14,?d15,trivial⟩,Pc.wF ⟨?glb0,?glb1,?glb2,?glb3,?glb4,?glb5,?glb6,?glb7,?glb8,?glb9,trivial⟩,⟨?e0,?e1,?e2,?e3,?e4,?e5,?e6,trivial⟩⟩
  case d0 | d1 | d2 | d3 | d4 | d5 | d6 | d7 | d8 | d9 | d10 | d11 | d12 | d13 | d14 | d15=>refine' Pc.yf ?a ?l ?c ?k;(case a=>rfl);(case l=>rfl);(case c=>rfl);(case k=>rfl)
  case glb0=>refine' Pc.gl_int (i:=1) ?ga0;(case ga0=>rfl)
  case glb1=>refine' Pc.gl_int (i:=2) ?ga1;(case ga1=>rfl)
  case glb2=>refine' Pc.gl_int (i:=3) ?ga2;(case ga2=>rfl)
  case glb3=>refine' Pc.oN (ds:=[.str ("" : PySem.Str),.str ("0123456789" : PySem.Str),.str (" ABCDEFGHIJKLMNOPQRSTUVWXYZ.,-:/" : PySem.Str),.str (" !\"#$&'()*+,-./0123456789:;<=>?@ABCDEFGHIJKLMNOPQRSTUVWXYZ[\\]^_`abcdefghijklmnopqrstuvwxyz{|}~" : PySem.Str)]) (vs:=[.str ("" : PySem.Str),.str ("0123456789" : PySem.Str),.str (" ABCDEFGHIJKLMNOPQRSTUVWXYZ.,-:/" : PySem.Str),.str (" !\"#$&'()*+,-./0123456789:;<=>?@ABCDEFGHIJKLMNOPQRSTUVWXYZ[\\]^_`abcdefghijklmnopqrstuvwxyz{|}~" : PySem.Str)]) ?ga3 ?gl3 ?gc3 ?gz3 ?gv3 ?gr3;(case ga3=>rfl);(case gl3=>rfl);(case gc3=>rfl);(case gz3=>decide);(case gv3=>exact (.cons ⟨_,rfl⟩ (.cons ⟨_,rfl⟩ (.cons ⟨_,rfl⟩ (.cons ⟨_,rfl⟩ .nil)))));(case gr3=>exact fun H=>(.cons (.str _) (.cons (.str _) (.cons (.str _) (.cons (.str _) .nil)))))
  case glb4=>refine' Pc.oN (ds:=[.int 0,.int 0,.int 5,.int 7]) (vs:=[.int 0,.int 0,.int 5,.int 7]) ?ga4 ?gl4 ?gc4 ?gz4 ?gv4 ?gr4;(case ga4=>rfl);(case gl4=>rfl);(case gc4=>rfl);(case gz4=>decide);(case gv4=>exact (.cons ⟨_,rfl⟩ (.cons ⟨_,rfl⟩ (.cons ⟨_,rfl⟩ (.cons ⟨_,rfl⟩ .nil)))));(case gr4=>exact fun H=>(.cons (.int _) (.cons (.int _) (.cons (.int _) (.cons (.int _) .nil)))))
  case glb5=>refine' Pc.gl_int (i:=2) ?ga5;(case ga5=>rfl)
  case glb6=>refine' Pc.gl_int (i:=6) ?ga6;(case ga6=>rfl)
  case glb7=>refine' Pc.gl_int (i:=64) ?ga7;(case ga7=>rfl)
  case glb8=>refine' Pc.oN (ds:=[.int 0,.int 4,.int 7,.int 10]) (vs:=[.int 0,.int 4,.int 7,.int 10]) ?ga8 ?gl8 ?gc8 ?gz8 ?gv8 ?gr8;(case ga8=>rfl);(case gl8=>rfl);(case gc8=>rfl);(case gz8=>decide);(case gv8=>exact (.cons ⟨_,rfl⟩ (.cons ⟨_,rfl⟩ (.cons ⟨_,rfl⟩ (.cons ⟨_,rfl⟩ .nil)))));(case gr8=>exact fun H=>(.cons (.int _) (.cons (.int _) (.cons (.int _) (.cons (.int _) .nil)))))
  case glb9=>refine' Pc.gl_int (i:=3) ?ga9;(case ga9=>rfl)
  case e0 | e1 | e2 | e3 | e4 | e5 | e6=>dsimp only;rfl
end
