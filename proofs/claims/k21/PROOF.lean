import PyProof.Rows.All
import Wide.All
import OpenK.AllK
import Wide.FinOn
import Lean
import PyProof.EqAt
import PyProof.EqKinds
import PyProof.TupleCall
import PySem.Syntax
import PySem.Str
import PySem.Sem
import PySem.Builtin.Int.W1All
import PySem.Builtin.Str.Common
import PySem.Builtin.Range.Common
import KE.IntText
import KE.KSortAsk
import PyProof.IsRules
import PyProof.NeKinds
import PyProof.DictWalks
import PyProof.EnumMake
import PyProof.EnumFor
import PyProof.ZipIter
import PyProof.Rows.EnumRows
import PyProof.Rows.FactsT2
import KE.KRevIter
import PyProof.CompFree
import PyProof.CompUse
import PyProof.Cells
import PyProof.ConsumeWalk
import PyProof.IsInstanceH
import PyProof.IsiNone
import PyProof.SumWalkG
import PyProof.Rows.SumGenD
import KE.KDictList
import KE.KSortTup
import PyProof.Rows.SortRuns
import KE.KSorted
import KE.KSort
import PyProof.Draws
import PyProof.ListRange
import PyProof.MinMaxWalk
import PyProof.WalkInts
import PyProof.Conv_int_bool
import PyProof.Rows.CallKwBuiltin
import KE.KIntText
import PyProof.CallStr
import PyProof.Rows.SeqMore
import PyProof.Rows.StrJoin2
import PyProof.Rows.StrSplitAre
import PyProof.Rows.StrSplitJoin
import PySem.Challenge.RW_patchsquare_k21_rows_by_turns
set_option Elab.async false
set_option linter.all false
set_option maxRecDepth 100000
set_option maxHeartbeats 0
abbrev aa:=@Option.map_eq_some_iff
abbrev ab:=@Option.bind_eq_some_iff
abbrev ae:=@List.mem_cons_of_mem
abbrev ag:=@List.append_assoc
abbrev ah:=@List.size_toArray
abbrev ai:=@Nat.le_refl
abbrev aj:=@Bool.and_eq_true
abbrev ak:=@List.length_map
abbrev ao:=@List.mem_cons_self
abbrev aq:=@List.mem_append_right
abbrev au:=@List.length_append
abbrev av:=@List.length_cons
abbrev aw:=@List.map_cons
abbrev ax:=@List.append_nil
abbrev ay:=@decide_eq_false
abbrev az:=@Bool.false_ne_true
abbrev ba:=@Nat.lt_of_lt_of_le
abbrev bc:=@Array.length_toList
abbrev be:=@Bool.false_eq_true
abbrev bf:=@List.mem_append_left
abbrev bg:=@Nat.ne_of_lt
abbrev bh:=@Nat.le_trans
abbrev bj:=@List.drop_eq_getElem_cons
abbrev bo:=@Option.map_some
abbrev bp:=@PySem.mem_of_lookup
abbrev bq:=@List.mem_of_getElem
abbrev br:=@Option.some.injEq
abbrev bt:=@Option.some.inj
abbrev bu:=@decide_eq_true
abbrev bw:=@List.nodup_nil
abbrev bz:=@List.lookup_cons
abbrev cf:=@List.length_singleton
abbrev cg:=@List.map_map
abbrev cj:=@if_true
abbrev cm:=@if_false
abbrev cn:=@Nat.zero_le
abbrev cq:=@List.extract_eq_take_drop
abbrev cu:=@List.take_append_drop
abbrev cv:=@List.nil_append
abbrev cw:=@List.map_append
abbrev cx:=@Nat.lt_irrefl
abbrev cy:=@decide_eq_true_eq
abbrev cz:=@Nat.lt_succ_of_lt
abbrev c9:=@List.take_of_length_le
abbrev da:=@List.flatten_cons
abbrev de:=@List.replicate_succ
abbrev df:=@Array.toList_append
abbrev dg:=@List.all_eq_true
abbrev dh:=@Ne.symm
abbrev dk:=@Int.toNat_natCast
abbrev dm:=@List.mem_append
abbrev dn:=@List.length_set
abbrev dq:=@List.filterMap_cons
abbrev dt:=@List.Perm.append_left
abbrev du:=@List.length_nil
abbrev dw:=@List.nodup_append
abbrev dz:=@List.any_cons
abbrev ef:=@List.all_cons
abbrev eg:=@List.map_congr_left
abbrev en:=@beq_self_eq_true
abbrev eo:=@List.length_take
abbrev et:=@List.length_drop
abbrev fb:=@decide_true
abbrev fe:=@List.drop_of_length_le
abbrev fh:=@Bool.or_eq_true
abbrev fi:=@List.perm_append_comm
abbrev fk:=@List.length_replicate
abbrev fm:=@Nat.le_of_lt
abbrev fq:=@List.sum_cons
abbrev ft:=@List.mem_cons
abbrev fu:=@List.lookup_append
abbrev fv:=@Int.le_refl
abbrev fw:=@decide_false
abbrev f6:=@Nat.le_succ_of_le
abbrev f7:=@List.map_nil
abbrev f9:=@List.length_range
abbrev gb:=@List.drop_drop
abbrev gc:=@List.Perm.append_right
abbrev gh:=@Bool.not_eq_true'
abbrev gi:=@List.not_mem_nil
abbrev gj:=@List.nil_sublist
abbrev gm:=@Array.toList_extract
abbrev gn:=@Nat.mul_le_mul_left
abbrev gp:=@PyProof.Rows.callWith_type1
abbrev gq:=@Int.le_trans
abbrev gr:=@Int.natCast_nonneg
abbrev gu:=@Nat.shiftRight_eq_div_pow
abbrev gv:=@List.mem_or_eq_of_mem_set
abbrev gw:=@decide_eq_false_iff_not
abbrev gx:=@congrArg
abbrev gy:=@PySem.F.plainAttrs_list
abbrev g6:=@Nat.le_of_not_lt
abbrev g7:=@List.pairwise_singleton
abbrev g8:=@List.ext_getElem
abbrev g9:=@Nat.zero_add
abbrev ic:=@Int.le_of_lt
abbrev ie:=@Nat.min_eq_left
section
namespace L2
open PySem PySem.Spec PyProof.Rows
noncomputable abbrev Key:=Sum Int Str
noncomputable def iZ:Key->Value->Bool
 |.inl k,v=>Value.isInt k v
 |.inr x,v=>Value.isStrOf x v
noncomputable def keyH (w:World):Key->Int
 |.inl k=>hashInt k
 |.inr x=>hashStr w x
theorem aU:∀{k:Key}{v:Value},iZ k v=true->(∃ i t,k=Sum.inl i/\v=Value.int i t)\/(∃ x t,k=Sum.inr x/\v=Value.str x t)
 | .inl i,v,h=>by
  obtain⟨t,e⟩:=Value.isInt_shape (k:=i) (v:=v) h;exact .inl ⟨i,t,rfl,e⟩
 | .inr x,v,h=>by
  obtain⟨t,e⟩:=Value.isStrOf_shape (x:=x) (v:=v) h;exact .inr ⟨x,t,rfl,e⟩
theorem qF (i:Int)(t:Tok):iZ (.inl i) (.int i t)=true:=by simp[iZ,Value.isInt]
theorem rA (x:Str)(t:Tok):iZ (.inr x) (.str x t)=true:=by simp[iZ,Value.isStrOf]
theorem za (a b:Int):decide ((Sum.inl a:Key)=Sum.inl b)=(a==b):=by
 by_cases e:a=b
 ·subst e;simp
 ·have h:¬ (Sum.inl a:Key)=Sum.inl b:=fun q=>e (Sum.inl.inj q)
  rw[ay h];exact (beq_eq_false_iff_ne.mpr e).symm
theorem zt (a b:Str):decide ((Sum.inr a:Key)=Sum.inr b)=decide (a=b):=by
 by_cases e:a=b
 ·subst e;simp
 ·have h:¬ (Sum.inr a:Key)=Sum.inr b:=fun q=>e (Sum.inr.inj q)
  rw[ay h,ay e]
theorem Am (a:Int)(b:Str):decide ((Sum.inl a:Key)=Sum.inr b)=false:=ay (fun q=>nomatch q)
theorem AG (a:Str)(b:Int):decide ((Sum.inr a:Key)=Sum.inl b)=false:=ay (fun q=>nomatch q)
noncomputable def aI (prog:Program)(w:World):PySem.KeyKind prog w Key where
 is:=iZ
 hash:=keyH w
 inj:=fun v a b ha hb=>by
  rcases aU ha with ⟨i,t,rfl,rfl⟩ | ⟨x,t,rfl,rfl⟩
  ·rcases aU hb with ⟨j,u,rfl,e⟩ | ⟨y,u,rfl,e⟩
   ·injection e with e1 _;rw[e1]
   ·exact nomatch e
  ·rcases aU hb with ⟨j,u,rfl,e⟩ | ⟨y,u,rfl,e⟩
   ·exact nomatch e
   ·injection e with e1 _;rw[e1]
 byValue:=fun k v h=>by
  rcases aU h with ⟨i,t,rfl,rfl⟩ | ⟨x,t,rfl,rfl⟩<;>rfl
 pyHash:=fun hv h=>by
  rcases aU hv with ⟨i,t,rfl,rfl⟩ | ⟨x,t,rfl,rfl⟩
  ·exact wpAny_pyHash_int h
  ·exact wpAny_pyHash_str h
 eqBool:=fun hu hv h=>by
  rcases aU hu with ⟨i,t,rfl,rfl⟩ | ⟨x,t,rfl,rfl⟩
  ·rcases aU hv with ⟨j,u,rfl,rfl⟩ | ⟨y,u,rfl,rfl⟩
   ·rw[za] at h;exact wpAny_eqBool_int h
   ·rw[Am] at h;exact SeqAt.EqAt.int_str i t y u _ _ _ _ h
  ·rcases aU hv with ⟨j,u,rfl,rfl⟩ | ⟨y,u,rfl,rfl⟩
   ·rw[AG] at h;exact SeqAt.EqAt.str_int x t j u _ _ _ _ h
   ·rw[zt] at h;exact wpAny_eqBool_str h
 «strs»:=fun k x t v h=>by
  rcases aU h with ⟨i,u,rfl,e⟩ | ⟨y,u,rfl,e⟩
  ·exact nomatch e
  ·injection e with e1 _
   subst e1;cases v<;>rfl
theorem cW (prog:Program)(w:World)(i:Int)(t:Tok):(aI prog w).is (.inl i) (.int i t)=true:=qF i t
theorem cH (prog:Program)(w:World)(x:Str)(t:Tok):(aI prog w).is (.inr x) (.str x t)=true:=rA x t
end L2
namespace L2
open PySem PySem.Spec PyProof.Rows
inductive V where
 | non | bl (b:Bool) | int (i:Int) | str (x:Str) | byt (b:Array UInt8) | flt (b:UInt64) | ref (a:Addr) | ty (n:String)
 deriving DecidableEq
noncomputable def RelV:V->Value->Prop
 |.non,u=>u=Value.none
 |.bl b,u=>u=Value.bool b
 |.int i,u=>∃ t,u=Value.int i t
 |.str x,u=>∃ t,u=Value.str x t
 |.byt b,u=>∃ t,u=Value.bytes b t
 |.flt b,u=>∃ t,u=Value.float b t
 |.ref a,u=>u=Value.ref a
 |.ty n,u=>u=Value.type n
noncomputable abbrev aH:List V->List Value->Prop:=Paired RelV
theorem aH.length {xs:List V}{us:List Value}(r:aH xs us):xs.length=us.length:=Paired.length r
theorem aH.get:∀{xs:List V}{us:List Value}{i:Nat}{x:V},aH xs us->xs[i]? = some x->∃ u,us[i]? = some u/\RelV x u
 |_,_,_,_,.nil,e=>by simp at e
 |_,_,0,_,.cons r _,e=>by simp at e;subst e;exact⟨_,rfl,r⟩
 | _,_,i+1,x,.cons _ t,e=>by
  obtain⟨u,h1,h2⟩:=aH.get (i:=i) (x:=x) t (by simpa using e);exact⟨u,by simpa using h1,h2⟩
theorem aH.set {x:V}{u:Value}(r:RelV x u):∀{xs:List V}{us:List Value}(i:Nat),aH xs us->aH (xs.set i x) (us.set i u)
 |_,_,_,.nil=>.nil
 |_,_,0,.cons _ t=>.cons r t
 |_,_,i+1,.cons q t=>.cons q (aH.set r i t)
theorem aH.append:∀{xs ys:List V}{us ws:List Value},aH xs us->aH ys ws->aH (xs++ys) (us++ws)
 |_,_,_,_,.nil,s=>s
 |_,_,_,_,.cons r t,s=>.cons r (aH.append t s)
theorem aH.take:∀{xs:List V}{us:List Value}(n:Nat),aH xs us->aH (xs.take n) (us.take n)
 |_,_,0,_=>.nil
 |_,_,_+1,.nil=>.nil
 |_,_,n+1,.cons r t=>.cons r (aH.take n t)
theorem aH.drop:∀{xs:List V}{us:List Value}(n:Nat),aH xs us->aH (xs.drop n) (us.drop n)
 |_,_,0,r=>r
 |_,_,_+1,.nil=>.nil
 |_,_,n+1,.cons _ t=>aH.drop n t
noncomputable def qG:Option V->Option Value->Prop
 |some v,some u=>RelV v u
 |none,none=>True
 |_,_=>False
def KV {κ:Type}:List (κ×V)->List (κ×Value)->Prop:=Paired fun (p:κ×V) (q:κ×Value)=>p.1=q.1/\RelV p.2 q.2
noncomputable def kV:Key->V
 |.inl i=>.int i
 |.inr x=>.str x
inductive HO where
 | lst (xs:List V)
 | tup (xs:List V)
 | dK (kvs:List (Key×V)) | dT (kvs:List (List Key×V))
 | set (S:Int->Bool) (n:Nat)
 | ins (C dx:Addr) (fs:List (Str×V))
 | own (x:Addr)
 | xd (fs:List (Str×V))
 | met (f x:Addr)
 | rng (lo hi:Int)
 | frz (o:Obj) (u:HO)
 | tbl (ps:Array Value)
 | ext (φ:Heap->Prop)
noncomputable abbrev Hp:=Addr->Option HO
noncomputable def upd (H:Hp)(a:Addr)(o:HO):Hp:=fun b=>if b=a then some o else H b
theorem aJ {H:Hp}{a:Addr}{o:HO}:upd H a o a=some o:=by unfold upd;rw[if_pos rfl]
theorem aG {H:Hp}{a b:Addr}{o:HO}(h:b≠a):upd H a o b=H b:=by unfold upd;rw[if_neg h]
theorem bG {H:Hp}{a b:Addr}{o:HO}(h:H a=some o)(h':H b=none):a≠b:=by
 intro e;subst e;rw[h] at h';cases h'
section
variable (P:Program)(w:World)
noncomputable def bM (H:Hp)(h:Heap)(a:Addr):HO->Prop
 |.lst xs=>xs.length<=sizeLine/\∃(its:List Value) (n:Nat),aH xs its/\h.get? a=some { cls:=.type "list",data:=.seq its.toArray n }
 |.tup xs=>xs.length<=sizeLine/\∃ its:List Value,aH xs its/\IsTup h a its.toArray
 |.dK kvs=>kvs.length<=sizeLine/\(a==sysModules)=false/\∃ vs,KV kvs vs/\h.DictOf (aI P w) a vs
 | .dT kvs=>kvs.length<=sizeLine/\(a==sysModules)=false/\∃ xs:List (List Key×Addr×Value),
   Paired (fun (p:List Key×V) (q:List Key×Addr×Value)=>p.1=q.1/\H q.2.1=some (.tup (p.1.map kV))/\RelV p.2 q.2.2) kvs xs /\
   ∃ o es ep,h.get? a=some o/\o.ExactDict/\o.data = .dict es ep/\es.toList=xs.map (entryOfKey (tupleKind (aI P w)))/\(xs.map (·.1)).Nodup
 |.set S n=>h.SetOf (intKind P w) a S n
 | .ins C dx fs=>H dx=some (.own a)/\fs.length<=1000/\dx≠a/\h.get? a=some (PySem.W.instObj C dx) /\
   ∃ mA,h.Ns1 dx mA/\(∀ f,qG (fs.lookup f) (mA f))/\PySem.Within mA (fs.map (·.1))
 |.own _=>∃ o,h.get? a=some o
 |.xd fs=>∃ mA,h.Ns1 a mA/\∀ f,qG (fs.lookup f) (mA f)
 |.rng lo hi=>∃ t u v,h.get? a=some { cls:=.type "range",data:=.fields #[.int lo t,.int hi u,.int 1 v] }
 |.frz o u=>h.get? a=some o/\bM H h a u
 |.tbl ps=>h.get? a=some { cls:=.none,data:=.fields ps }
 |.met f x=>h.get? a=some (PySem.W.methodObj (.ref f) (.ref x))
 |.ext φ=>φ h/\(∃ o,h.get? a=some o)/\∀ h1 h2:Heap,φ h1->(∀ o,h1.get? a=some o->h2.get? a=some o)->φ h2
def iF (H:Hp)(h:Heap):Prop:=∀ a o,H a=some o->bM P w H h a o
end
section
variable {P:Program}{w:World}{H H':Hp}{h h':Heap}{a:Addr}{o:HO}
theorem bM.lt (x:bM P w H h a o):a<h.objs.size:=by
 cases o with
 |lst xs=>obtain⟨_,_,_,_,e⟩:=x;exact Heap.lt_size e
 |tup xs=>obtain⟨_,_,_,p⟩:=x;exact p.lt
 |dK kvs=>obtain⟨_,_,_,_,o,_,_,e,_⟩:=x;exact Heap.lt_size e
 |dT kvs=>obtain⟨_,_,_,_,o,_,_,e,_⟩:=x;exact Heap.lt_size e
 |set S n=>obtain⟨o,_,_,_,e,_⟩:=x;exact Heap.lt_size e
 |ins C dx fs=>obtain⟨_,_,_,e,_⟩:=x;exact Heap.lt_size e
 |own y=>obtain⟨_,e⟩:=x;exact Heap.lt_size e
 |xd fs=>obtain⟨_,⟨_,_,_,e,_⟩,_⟩:=x;exact Heap.lt_size e
 |rng lo hi=>obtain⟨_,_,_,e⟩:=x;exact Heap.lt_size e
 |frz ob u=>obtain⟨e,_⟩:=x;exact Heap.lt_size e
 |tbl ps=>exact Heap.lt_size (show h.get? a=some _ from x)
 |met f y=>exact Heap.lt_size (show h.get? a=some _ from x)
 |ext φ=>obtain⟨_,⟨_,e⟩,_⟩:=x;exact Heap.lt_size e
theorem Paired.mapP {α β:Type}{F G:α->β->Prop}:∀{l₁:List α}{l₂:List β},Paired F l₁ l₂->(∀ a b,F a b->G a b)->Paired G l₁ l₂
 |_,_,.nil,_=>.nil
 |_,_,.cons r t,f=>.cons (f _ _ r) (Paired.mapP t f)
theorem bM.stay (x:bM P w H h a o)(k:∀ b u,(b=a\/H b=some (.own a))->h.get? b=some u->h'.get? b=some u)
  (ho:∀ b,H b=some (.own a)->H' b=some (.own a)) (ht:∀ b xs,H b=some (.tup xs)->H' b=some (.tup xs)):bM P w H' h' a o:=by
 induction o with
 |lst xs=>obtain⟨z,its,n,r,e⟩:=x;exact⟨z,its,n,r,k _ _ (.inl rfl) e⟩
 |tup xs=>obtain⟨z,its,r,ob,e,c⟩:=x;exact⟨z,its,r,ob,k _ _ (.inl rfl) e,c⟩
 |dK kvs=>obtain⟨z,y,vs,r,ob,es,ep,e,c⟩:=x;exact⟨z,y,vs,r,ob,es,ep,k _ _ (.inl rfl) e,c⟩
 |dT kvs =>
  obtain⟨z,y,xs,r,ob,es,ep,e,c⟩:=x;exact⟨z,y,xs,Paired.mapP r fun p q z=>⟨z.1,ht _ _ z.2.1,z.2.2⟩,ob,es,ep,k _ _ (.inl rfl) e,c⟩
 |set S n=>obtain⟨ob,es,ep,t,e,c⟩:=x;exact⟨ob,es,ep,t,k _ _ (.inl rfl) e,c⟩
 |ins C dx fs =>
  obtain⟨d,z,ne,e,mA,⟨od,es,ep,e2,c⟩,r⟩:=x;exact⟨ho _ d,z,ne,k _ _ (.inl rfl) e,mA,⟨od,es,ep,k _ _ (.inr d) e2,c⟩,r⟩
 |own y=>obtain⟨ob,e⟩:=x;exact⟨ob,k _ _ (.inl rfl) e⟩
 |xd fs=>obtain⟨mA,⟨od,es,ep,e,c⟩,r⟩:=x;exact⟨mA,⟨od,es,ep,k _ _ (.inl rfl) e,c⟩,r⟩
 |rng lo hi=>obtain⟨t,u,v,e⟩:=x;exact⟨t,u,v,k _ _ (.inl rfl) e⟩
 |frz ob u ih=>obtain⟨e,q⟩:=x;exact⟨k _ _ (.inl rfl) e,ih q⟩
 |tbl ps =>
  have e:h.get? a=some { cls:=.none,data:=.fields ps }:=x;show h'.get? a=some { cls:=.none,data:=.fields ps };exact k a _ (.inl rfl) e
 |met f y =>
  have e:h.get? a=some (PySem.W.methodObj (.ref f) (.ref y)):=x;show h'.get? a=some (PySem.W.methodObj (.ref f) (.ref y));exact k a _ (.inl rfl) e
 |ext φ=>obtain⟨p,⟨o,e⟩,st⟩:=x;exact⟨st _ _ p fun o q=>k _ _ (.inl rfl) q,⟨o,k _ _ (.inl rfl) e⟩,st⟩
theorem iF.lt (x:iF P w H h)(e:H a=some o):a<h.objs.size:=(x a o e).lt
theorem iF.fresh (x:iF P w H h)(e:h.objs.size<=a):H a=none:=by
 cases q:H a with
 |none=>rfl
 |some u=>exact absurd (ba (x.lt q) e) (cx _)
theorem iF.kept (x:iF P w H h)(k:∀ b u,h.get? b=some u->h'.get? b=some u):iF P w H h':=fun a o e =>
 (x a o e).stay (fun b u _ q=>k b u q) (fun _ q=>q) fun _ _ q=>q
theorem iF.laid (x:iF P w H h)(k:∀ b u,h.get? b=some u->h'.get? b=some u)(hp:h.objs.size<=a)(new:bM P w (upd H a o) h' a o):iF P w (upd H a o) h':=fun b u e=>by
 have hn:=x.fresh hp;by_cases hb:b=a
 ·subst hb;rw[aJ] at e;cases e;exact new
 ·rw[aG hb] at e;exact (x b u e).stay (fun c v _ q=>k c v q) (fun c q=>by rw[aG (bG q hn)];exact q) fun c xs q=>by rw[aG (bG q hn)];exact q
end
def Rd (H:Hp)(a:Addr)(u:HO):Prop:=H a=some u\/∃ o,H a=some (.frz o u)
theorem Rd.ok {P:Program}{w:World}{H:Hp}{h:Heap}{a:Addr}{u:HO}(r:Rd H a u)(x:iF P w H h):bM P w H h a u:=by
 rcases r with r | ⟨o,r⟩
 ·exact x a u r
 ·obtain⟨_,q⟩:=x a _ r;exact q
noncomputable def mZ:Option HO->Prop
 | some (.lst _)=>True
 | some (.dK _)=>True
 | some (.dT _)=>True
 | some (.set _ _)=>True
 | some (.ins _ _ _)=>True
 | some (.ext _)=>True
 |_=>False
section
variable {P:Program}{w:World}{H:Hp}{h h':Heap}{x e:Addr}{o':HO}
theorem iF.write (ok:iF P w H h)(mu:mZ (H x))(he:e=x\/H e=some (.own x))(k:∀ b u,b≠e->h.get? b=some u->h'.get? b=some u)(heo:∃ u,h'.get? e=some u)
  (new:bM P w (upd H x o') h' x o'):iF P w (upd H x o') h':=fun b u q=>by
 have nown:∀ c y,H c=some (.own y)->c≠x:=fun c y r z=>by subst z;rw[r] at mu;exact mu
 have ntup:∀ c xs,H c=some (.tup xs)->c≠x:=fun c xs r z=>by subst z;rw[r] at mu;exact mu
 by_cases hb:b=x
 ·subst hb;rw[aJ] at q;cases q;exact new
 ·rw[aG hb] at q;by_cases hbe:b=e
  ·have q':H b=some (.own x):=by
    rcases he with z | z
    ·exact absurd (hbe.trans z) hb
    ·rw[hbe];exact z
   rw[q] at q';cases q';obtain⟨v,hv⟩:=heo;exact⟨v,by rw[hbe];exact hv⟩
  ·refine (ok b u q).stay (fun c v hc r=>k c v ?_ r) (fun c r=>by rw[aG (nown c b r)];exact r) fun c xs r=>by rw[aG (ntup c xs r)];exact r
   rcases hc with rfl | hc
   ·exact hbe
   ·rintro rfl;rcases he with z | z
    ·exact nown c b hc z
    ·rw[hc] at z;cases z;exact hb rfl
end
structure Un (fs ex:List Addr)(H H':Hp)(h h':Heap):Prop where
 keep:∀ b o,h.get? b=some o->H b=none->b∉fs->b∉ex->h'.get? b=some o
 slot:∀ b o,h.get? b=some o->H b=none->b∈fs->b∉ex->∃ sl,h'.get? b=some { o with slots:=sl }
 free:∀ b o,h.get? b=some o->H b=none->b∉ex->H' b=none
 there:∀ b o,h.get? b=some o->b∉ex->∃ o',h'.get? b=some o'
 tups:∀ b xs,H b=some (.tup xs)->H' b=some (.tup xs)
 frzs:∀ b o u,H b=some (.frz o u)->H' b=some (.frz o u)
 tbls:∀ b ps,H b=some (.tbl ps)->∃ more,H' b=some (.tbl (ps++more))
section
variable {fs fs' ex ex':List Addr}{H H1 H2:Hp}{h h1 h2 h':Heap}{a x e:Addr}{o:HO}
theorem Un.any (u:Un fs ex H H1 h h1){b:Addr}{ob:Obj}(q:h.get? b=some ob)(n:H b=none)(hx:b∉ex):∃ sl,h1.get? b=some { ob with slots:=sl }:=by
 by_cases hb:b∈fs
 ·exact u.slot b ob q n hb hx
 ·exact⟨ob.slots,u.keep b ob q n hb hx⟩
theorem Un.kept (k:∀ b u,h.get? b=some u->h'.get? b=some u):Un fs ex H H h h' :=
 ⟨fun b ob q _ _ _=>k b ob q,fun b ob q _ _ _=>⟨ob.slots,k b ob q⟩,fun _ _ _ n _=>n,fun b ob q _=>⟨ob,k b ob q⟩,fun _ _ q=>q,fun _ _ _ q=>q,fun _ ps q=>⟨#[],by rw[q];simp⟩⟩
theorem Un.refl:Un fs ex H H h h:=Un.kept fun _ _ q=>q
theorem Un.laid (k:∀ b u,h.get? b=some u->h'.get? b=some u)(hp:h.objs.size<=a)(hn:H a=none):Un fs ex H (upd H a o) h h' where
 keep:=fun b u q _ _ _=>k b u q
 slot:=fun b u q _ _ _=>⟨u.slots,k b u q⟩
 free:=fun b u q n _=>by rw[aG (bg (ba (Heap.lt_size q) hp))];exact n
 there:=fun b u q _=>⟨u,k b u q⟩
 tups:=fun b xs q=>by rw[aG (bG q hn)];exact q
 frzs:=fun b u xs q=>by rw[aG (bG q hn)];exact q
 tbls:=fun b ps q=>⟨#[],by rw[aG (bG q hn),q];simp⟩
theorem Un.write (mu:mZ (H x))(he:e=x\/H e=some (.own x))(k:∀ b u,b≠e->h.get? b=some u->h'.get? b=some u)(heo:∃ u,h'.get? e=some u):Un fs ex H (upd H x o) h h':=by
 have hx:∀ b,H b=none->b≠x:=fun b n z=>by subst z;rw[n] at mu;exact mu
 have hb:∀ b,H b=none->b≠e:=fun b n z=>by
  subst z;rcases he with r | r
  ·exact hx b n r
  ·rw[n] at r;cases r
 have hm:∀ b u,H b=some u->¬ mZ (some u)->b≠x:=fun b u q nm z=>by subst z;rw[q] at mu;exact nm mu
 refine⟨fun b u q n _ _=>k b u (hb b n) q,fun b u q n _ _=>⟨u.slots,k b u (hb b n) q⟩,fun b u q n _=>by rw[aG (hx b n)];exact n,fun b u q _=>?_,
  fun b xs q=>by rw[aG (hm b _ q fun z=>z)];exact q,fun b u xs q=>by rw[aG (hm b _ q fun z=>z)];exact q,fun b ps q=>⟨#[],by rw[aG (hm b _ q fun z=>z),q];simp⟩⟩
 by_cases hbe:b=e
 ·subst hbe;exact heo
 ·exact⟨u,k b u hbe q⟩
end
noncomputable def trk (h:Heap)(H:Hp):List Addr:=(List.range h.objs.size).filter fun a=>(H a).isSome
noncomputable def lW (h:Heap)(H:Hp):Heap:=PySem.W.hideAll h (trk h H)
theorem qU (h:Heap)(H:Hp):(lW h H).objs.size=h.objs.size:=PySem.W.hideAll_size _ _
theorem ua {h:Heap}{H:Hp}{b:Addr}{o:Obj}(e:h.get? b=some o)(n:H b=none):(lW h H).get? b=some o :=
 PySem.W.hideAll_get _ e fun hm=>by
  have q:(H b).isSome=true:=(List.mem_filter.mp hm).2;rw[n] at q;simp at q
theorem xj {h:Heap}{H:Hp}{b:Addr}{o:Obj}(e:(lW h H).get? b=some o):h.get? b=some o/\H b=none:=by
 have e':h.get? b=some o:=PySem.W.of_hideAll (trk h H) e;refine⟨e',?_⟩;cases q:H b with
 |none=>rfl
 |some x =>
  have hm:b∈trk h H:=List.mem_filter.mpr ⟨List.mem_range.mpr (Heap.lt_size e'),by simp[q]⟩;have z:(lW h H).get? b=none:=PySem.W.hideAll_none (trk h H) hm;rw[z] at e;cases e
noncomputable def wU (g h:Heap)(L:Addr):List (Addr×Obj):=(List.range h.objs.size).filterMap fun a=>if a=L\/(g.get? a).isSome=true then none else (h.get? a).map fun o=>(a,o)
noncomputable def rest (g h:Heap)(L d:Addr):List (Addr×Obj):=(wU g h L).filter fun p=>decide (p.1≠d)
end L2
namespace L2
open PySem PySem.Spec PyProof.Rows
structure Mod (K:PySem.W.Frag)(mg:Str->Option Value)(base:Heap):Prop where
 kin:K.In base
 glob:base.Ns mainGlobals mg
 blt:∃ mb,base.Ns builtinsNs mb/\∀ x:Str,x≠"__name__"->mb x=bootBuiltins x
 nolimit:base.NoLimit
structure Cx where
 prog:Program
 w:World
 K:PySem.W.Frag
 mg:Str->Option Value
 base:Heap
 A:Around
 N:List Str
 s₀:Shared
 H₀:Hp
 env:Env
 outer:List Env
 stack:List Env
 ex:List Addr
 fn:Str->Bool
 calm:Bool
 pn:List (Addr×Obj)
 xe:Value->Shared->Prop
noncomputable def tq (l:List Env):List Addr:=l.filterMap (·.frame)
noncomputable abbrev Cx.fs (X:Cx):List Addr:=tq X.outer
def vI (sc:Scope)(x:Str):Prop:=sc.names.lookup x=some .local\/sc.names.lookup x=some .cell\/sc.names.lookup x=some .free
def Loc (sc:Scope)(x:Str):Prop:=sc.names.lookup x=some .local\/sc.names.lookup x=some .cell
noncomputable def Look (env:Env)(h:Heap)(m:Str->Option Value)(x:Str)(u:Value):Prop :=
 (env.kindOf x=some .local/\m x=some u)\/((env.kindOf x=some .cell\/env.kindOf x=some .free)/\∃ c,env.cells.lookup x=some c/\h.IsCell c (some u))
structure Cx.Ok (X:Cx):Prop where
 mod:Mod X.K X.mg X.base
 kind:X.env.scope.kind = .function
 glob:X.env.globals=mainGlobals
 blt:X.env.builtins=builtinsNs
 above:X.s₀.heap.objs.size<=X.env.locals
 inj:∀ x y c,X.env.cells.lookup x=some c->X.env.cells.lookup y=some c->x=y
 has:∀ x,(X.env.kindOf x=some .cell\/X.env.kindOf x=some .free)->∃ c,X.env.cells.lookup x=some c
 cab:∀ x c,X.fn x=true->X.env.cells.lookup x=some c->X.s₀.heap.objs.size<=c
 hd:X.calm=true->X.A.handled=none
 frames:X.A.frames=some X.stack
 stk:X.stack=X.outer\/(X.stack=X.env::X.outer/\X.env.frame=some X.env.locals)
 exf:∀ b∈X.ex,b≠X.env.locals/\∀ x c,X.env.cells.lookup x=some c->c≠b
 bs:∀ b o,X.base.get? b=some o->X.s₀.heap.get? b=some o/\X.H₀ b=none
 bsz:X.base.objs.size<=X.s₀.heap.objs.size
 noex:∀ b o,X.base.get? b=some o->b∉X.ex
 exfs:∀ b∈X.ex,b∉X.fs
 funs:X.s₀.heap.FunFrames X.base X.outer
 frf:∀ b∈X.fs,X.H₀ b=none
structure Inv (X:Cx)(pins:List (Addr×Obj))(σ:List (Option V))(H:Hp)(s:Shared):Prop where
 ok:X.Ok
 os:s.os=X.s₀.os
 bare:AllBare s.gens
 base:Un X.fs X.ex X.H₀ H X.s₀.heap s.heap
 loc:∃ m,s.heap.Ns X.env.locals m/\∀(i:Nat) (x:Str) (v:V),X.N[i]? = some x->σ[i]? = some (some v)->vI X.env.scope x->∃ u,RelV v u/\Look X.env s.heap m x u
 cell:∀ x c,X.env.cells.lookup x=some c->∃ v,s.heap.IsCell c v
 free:H X.env.locals=none
 freeC:∀ x c,X.env.cells.lookup x=some c->H c=none
 pin:∀ p∈X.pn++pins,s.heap.get? p.1=some p.2/\H p.1=none/\p.1≠X.env.locals/\p.1∉X.fs/\∀ v,p.2.data≠.cell v
 hok:iF X.prog X.w H s.heap
 len:σ.length=X.N.length
section
variable {X:Cx}{pins:List (Addr×Obj)}{σ:List (Option V)}{H H':Hp}{s:Shared}{h':Heap}
theorem Cx.Ok.nofr (ok:X.Ok){b:Addr}{o:Obj}(e:X.base.get? b=some o):b∉X.fs:=fun hb=>by
 have:=(ok.funs.mem hb).1;rw[e] at this;cases this
theorem Inv.bs (I:Inv X pins σ H s):∀ b o,X.base.get? b=some o->s.heap.get? b=some o/\H b=none:=fun b o e =>
 ⟨I.base.keep b o (I.ok.bs b o e).1 (I.ok.bs b o e).2 (I.ok.nofr e) (I.ok.noex b o e),I.base.free b o (I.ok.bs b o e).1 (I.ok.bs b o e).2 (I.ok.noex b o e)⟩
theorem Inv.bk (I:Inv X pins σ H s):∀ b o,X.base.get? b=some o->s.heap.get? b=some o:=fun b o e=>(I.bs b o e).1
theorem Inv.mod (I:Inv X pins σ H s):Mod X.K X.mg X.base:=I.ok.mod
theorem Inv.kIn (I:Inv X pins σ H s):X.K.In s.heap:=I.ok.mod.kin.keeps I.bk
theorem Inv.lt (I:Inv X pins σ H s):X.env.locals<s.heap.objs.size:=let ⟨_,hn,_⟩:=I.loc;hn.lt
theorem Inv.sz (I:Inv X pins σ H s):X.s₀.heap.objs.size<=s.heap.objs.size:=bh I.ok.above (fm I.lt)
theorem Inv.nofs (I:Inv X pins σ H s){a:Addr}(h:s.heap.objs.size<=a):a∉X.fs:=fun hb=>by
 obtain⟨_,o,ho,_⟩:=I.ok.funs.mem hb;exact absurd (ba (Heap.lt_size ho) (bh I.sz h)) (cx _)
theorem Inv.cne (I:Inv X pins σ H s):∀ x c,X.env.cells.lookup x=some c->c≠X.env.locals:=fun x c e z=>by
 obtain⟨v,o,ho,hd⟩:=I.cell x c e;obtain⟨m,⟨o',es,ep,ho',hd',_⟩,_⟩:=I.loc;rw[z,ho'] at ho;cases ho;rw[hd'] at hd;cases hd
theorem Inv.funs (I:Inv X pins σ H s):s.heap.FunFrames X.base X.outer:=by
 have all:∀(l:List Env),(∀ b∈tq l,b∈X.fs)->X.s₀.heap.FunFrames X.base l->s.heap.FunFrames X.base l:=by
  intro l
  induction l with
  |nil=>intro _ _;trivial
  |cons env r ih =>
   intro hs hl;obtain⟨hk,⟨L,o,hf,hn,ho,hd⟩,hr⟩:=hl;have hL:L∈X.fs:=hs L (by unfold tq;rw[dq,hf];exact ao);obtain⟨sl,e⟩:=I.base.slot L o ho (I.ok.frf L hL) hL fun z=>I.ok.exfs L z hL
   exact⟨hk,⟨L,_,hf,hn,e,hd⟩,ih (fun b hb=>hs b (by unfold tq;rw[dq,hf];exact ae _ hb)) hr⟩
 exact all X.outer (fun _ hb=>hb) I.ok.funs
theorem Inv.stack (I:Inv X pins σ H s):s.heap.FunFrames X.base X.stack:=by
 rcases I.ok.stk with e | ⟨e,hf⟩
 ·rw[e];exact I.funs
 ·rw[e];obtain⟨m,hn,_⟩:=I.loc;refine .cons (by rw[I.ok.kind];decide) hf hn ?_ I.funs;exact Heap.get?_none_of_le (bh I.ok.bsz I.ok.above)
theorem Inv.stkSub (I:Inv X pins σ H s):∀ b∈tq X.stack,b∈X.env.locals::X.fs:=fun b hb=>by
 rcases I.ok.stk with e | ⟨e,hf⟩
 ·rw[e] at hb;exact ae _ hb
 ·rw[e] at hb;unfold tq at hb;rw[dq,hf] at hb;exact hb
theorem Inv.stkFree (I:Inv X pins σ H s):∀ b∈tq X.stack,H b=none:=fun b hb=>by
 rcases ft.mp (I.stkSub b hb) with e | hb
 ·rw[e];exact I.free
 ·obtain⟨_,o,ho,_⟩:=I.ok.funs.mem hb;exact I.base.free b o ho (I.ok.frf b hb) fun z=>I.ok.exfs b z hb
theorem Inv.step {g':Array GenState}{t':Nat}{d':Drawn}{ch:List Addr}(I:Inv X pins σ H s)
  (hch:∀ b∈ch,(b∈X.ex\/X.s₀.heap.objs.size<=b)/\b≠X.env.locals/\(∀ x c,X.env.cells.lookup x=some c->c≠b)/\∀ p∈X.pn++pins,p.1≠b)
  (keep:∀ b o,b≠X.env.locals->b∉X.fs->b∉ch->s.heap.get? b=some o->H b=none->h'.get? b=some o)
  (slot:∀ b o,b≠X.env.locals->b∈X.fs->b∉ch->s.heap.get? b=some o->H b=none->∃ sl,h'.get? b=some { o with slots:=sl }) (free:∀ b o,b∉ch->s.heap.get? b=some o->H b=none->H' b=none)
  (there:∀ b o,b∉ch->s.heap.get? b=some o->∃ o',h'.get? b=some o')
  (tups:∀ b xs,H b=some (.tup xs)->H' b=some (.tup xs)) (frzs:∀ b o u,H b=some (.frz o u)->H' b=some (.frz o u)) (tbls:∀ b ps,H b=some (.tbl ps)->∃ more,H' b=some (.tbl (ps++more)))
  (ns:∀ m,s.heap.Ns X.env.locals m->h'.Ns X.env.locals m) (hok:iF X.prog X.w H' h') (hg:AllBare g') :
  Inv X pins σ H' { s with heap:=h',gens:=g',drawn:=d',toks:=t' }:=by
 have neL:∀ b o,X.s₀.heap.get? b=some o->b≠X.env.locals:=fun b o e=>bg (ba (Heap.lt_size e) I.ok.above)
 have neC:∀ b o,X.s₀.heap.get? b=some o->b∉X.ex->b∉ch:=fun b o e hx hb=>by
  rcases (hch b hb).1 with z | z
  ·exact hx z
  ·exact absurd (ba (Heap.lt_size e) z) (cx _)
 have cellK:∀ x c,X.env.cells.lookup x=some c->∀ v,s.heap.IsCell c v->h'.IsCell c v:=fun x c e v ⟨o,ho,hd⟩=>by
  have nch:c∉ch:=fun z=>(hch c z).2.2.1 x c e rfl
  by_cases hc:c∈X.fs
  ·obtain⟨sl,q⟩:=slot c o (I.cne x c e) hc nch ho (I.freeC x c e);exact⟨_,q,hd⟩
  ·exact⟨o,keep c o (I.cne x c e) hc nch ho (I.freeC x c e),hd⟩
 refine⟨I.ok,I.os,hg,⟨fun b o e n hb hx=>?_,fun b o e n hb hx=>?_,fun b o e n hx=>?_,fun b o e hx=>?_,fun b xs e=>tups b xs (I.base.tups b xs e),fun b o xs e=>frzs b o xs (I.base.frzs b o xs e),fun b ps e=>?_⟩,?_,fun x c e=>?_,?_,fun x c e=>?_,fun p hp=>?_,hok,I.len⟩
 ·exact keep b o (neL b o e) hb (neC b o e hx) (I.base.keep b o e n hb hx) (I.base.free b o e n hx)
 ·obtain⟨sl,e1⟩:=I.base.slot b o e n hb hx;obtain⟨sl',e2⟩:=slot b _ (neL b o e) hb (neC b o e hx) e1 (I.base.free b o e n hx);exact⟨sl',e2⟩
 ·obtain⟨o',e1⟩:=I.base.there b o e hx;exact free b o' (neC b o e hx) e1 (I.base.free b o e n hx)
 ·obtain⟨o',e1⟩:=I.base.there b o e hx;exact there b o' (neC b o e hx) e1
 ·obtain⟨m1,e1⟩:=I.base.tbls b ps e;obtain⟨m2,e2⟩:=tbls b _ e1;exact⟨m1++m2,by rw[e2,Array.append_assoc]⟩
 ·obtain⟨m,hn,hl⟩:=I.loc;refine⟨m,ns m hn,fun i x v e1 e2 e3=>?_⟩;obtain⟨u,r,l⟩:=hl i x v e1 e2 e3;refine⟨u,r,?_⟩;rcases l with l | ⟨k,c,e,z⟩
  ·exact .inl l
  ·exact .inr ⟨k,c,e,cellK x c e _ z⟩
 ·obtain⟨v,z⟩:=I.cell x c e;exact⟨v,cellK x c e v z⟩
 ·obtain⟨m,⟨o,_,_,ho,_⟩,_⟩:=I.loc;exact free _ o (fun z=>(hch _ z).2.1 rfl) ho I.free
 ·obtain⟨v,o,ho,hd⟩:=I.cell x c e;exact free c o (fun z=>(hch c z).2.2.1 x c e rfl) ho (I.freeC x c e)
 ·obtain⟨e,n,ne,nf,d⟩:=I.pin p hp;have nch:p.1∉ch:=fun z=>(hch p.1 z).2.2.2 p hp rfl
  exact⟨keep p.1 p.2 ne nf nch e n,free p.1 p.2 nch e n,ne,nf,d⟩
theorem Inv.un {t':Nat}(I:Inv X pins σ H s)(u:Un X.fs [] H H' s.heap h')(hok:iF X.prog X.w H' h'):Inv X pins σ H' { s with heap:=h',toks:=t' }:=by
 obtain⟨m,⟨o,es,ep,ho,r⟩,_⟩:=id I.loc;obtain⟨sl,hL⟩:=u.any ho I.free (by simp);exact I.step (g':=s.gens) (d':=s.drawn) (ch:=[]) (fun _ z=>nomatch z) (fun b o _ hb _ e n=>u.keep b o e n hb (by simp)) (fun b o _ hb _ e n=>u.slot b o e n hb (by simp)) (fun b o _ e n=>u.free b o e n (by simp)) (fun b o _ e=>u.there b o e (by simp)) u.tups u.frzs u.tbls (fun m' hm=>by
  obtain⟨o',es',ep',ho',r'⟩:=hm;rw[ho] at ho';cases ho';exact⟨_,es',ep',hL,r'⟩) hok I.bare
theorem Inv.call {g':Array GenState}{t':Nat}{d':Drawn}{ch:List Addr}(I:Inv X pins σ H s)(u:Un (tq X.stack) ch H H' s.heap h')(hok:iF X.prog X.w H' h')(hg:AllBare g')
  (hch:∀ b∈ch,(b∈X.ex\/X.s₀.heap.objs.size<=b)/\b≠X.env.locals/\(∀ x c,X.env.cells.lookup x=some c->c≠b)/\∀ p∈X.pn++pins,p.1≠b) :
  Inv X pins σ H' { s with heap:=h',gens:=g',drawn:=d',toks:=t' }:=by
 obtain⟨m,⟨o,es,ep,ho,r⟩,_⟩:=id I.loc;obtain⟨sl,hL⟩:=u.any ho I.free fun z=>(hch _ z).2.1 rfl
 exact I.step (ch:=ch) hch (fun b o hL hb hc e n=>u.keep b o e n (fun z=>(ft.mp (I.stkSub b z)).elim hL hb) hc) (fun b o _ _ hc e n=>u.any e n hc) (fun b o hc e n=>u.free b o e n hc) (fun b o hc e=>u.there b o e hc) u.tups u.frzs u.tbls (fun m' hm=>by
  obtain⟨o',es',ep',ho',r'⟩:=hm;rw[ho] at ho';cases ho';exact⟨_,es',ep',hL,r'⟩) hok hg
theorem Inv.turned {t':Nat}{it:Addr}(I:Inv X pins σ H s)(k:∀ b o,b≠it->s.heap.get? b=some o->h'.get? b=some o)(hn:H it=none)(hL:it≠X.env.locals)
  (h1:it∈X.ex\/X.s₀.heap.objs.size<=it) (h2:∀ x c,X.env.cells.lookup x=some c->c≠it) (h3:∀ p∈X.pn++pins,p.1≠it):Inv X pins σ H { s with heap:=h',toks:=t' }:=by
 have nit:∀ b u,H b=some u->b≠it:=fun b u e z=>by rw[z,hn] at e;cases e
 refine I.step (g':=s.gens) (d':=s.drawn) (ch:=[it]) (fun b hb=>?_) (fun b o _ _ hc e _=>k b o (fun z=>hc (by simp[z])) e) (fun b o _ _ hc e _=>⟨o.slots,k b o (fun z=>hc (by simp[z])) e⟩) (fun _ _ _ _ n=>n)
  (fun b o hc e=>⟨o,k b o (fun z=>hc (by simp[z])) e⟩) (fun _ _ e=>e) (fun _ _ _ e=>e) (fun b ps e=>⟨#[],by rw[e];simp⟩) (fun m hm=>?_) (fun b u e=>?_) I.bare
 ·have e:b=it:=by simpa using hb
  subst e;exact⟨h1,hL,h2,h3⟩
 ·obtain⟨o,es,ep,ho,r⟩:=hm;exact⟨o,es,ep,k _ o (dh hL) ho,r⟩
 ·refine (I.hok b u e).stay (fun c v hc q=>k c v ?_ q) (fun _ q=>q) fun _ _ q=>q
  rcases hc with z | z
  ·rw[z];exact nit b u e
  ·exact nit c _ z
theorem Inv.tok (I:Inv X pins σ H s)(t:Nat):Inv X pins σ H { s with toks:=t }:=I.un (h':=s.heap) (t':=t) Un.refl I.hok
theorem Inv.kept {t':Nat}(I:Inv X pins σ H s)(k:∀ b u,s.heap.get? b=some u->h'.get? b=some u):Inv X pins σ H { s with heap:=h',toks:=t' }:=I.un (Un.kept k) (I.hok.kept k)
theorem Inv.laid {a:Addr}{o:HO}{t':Nat}(I:Inv X pins σ H s)(k:∀ b u,s.heap.get? b=some u->h'.get? b=some u)(hp:s.heap.objs.size<=a)(new:bM X.prog X.w (upd H a o) h' a o) :
  Inv X pins σ (upd H a o) { s with heap:=h',toks:=t' }:=I.un (Un.laid k hp (I.hok.fresh hp)) (I.hok.laid k hp new)
theorem Inv.write {x e:Addr}{o:HO}{t':Nat}(I:Inv X pins σ H s)(mu:mZ (H x))(he:e=x\/H e=some (.own x))(k:∀ b u,b≠e->s.heap.get? b=some u->h'.get? b=some u)(heo:∃ u,h'.get? e=some u)
  (new:bM X.prog X.w (upd H x o) h' x o):Inv X pins σ (upd H x o) { s with heap:=h',toks:=t' }:=I.un (Un.write mu he k heo) (I.hok.write mu he k heo new)
theorem Inv.weak {σ':List (Option V)}(I:Inv X pins σ H s)(hl:σ'.length=σ.length)(w:∀(i:Nat) v,σ'[i]? = some (some v)->σ[i]? = some (some v)):Inv X pins σ' H s :=
 ⟨I.ok,I.os,I.bare,I.base,let ⟨m,hn,hl'⟩:=I.loc;⟨m,hn,fun i x v e1 e2 e3=>hl' i x v e1 (w i v e2) e3⟩,I.cell,I.free,I.freeC,I.pin,I.hok,hl.trans I.len⟩
theorem Inv.pins_of {pins':List (Addr×Obj)}(I:Inv X pins σ H s)(h:∀ p∈pins',s.heap.get? p.1=some p.2/\H p.1=none/\p.1≠X.env.locals/\p.1∉X.fs/\∀ v,p.2.data≠.cell v):Inv X pins' σ H s :=
 ⟨I.ok,I.os,I.bare,I.base,I.loc,I.cell,I.free,I.freeC,fun p hp=>(dm.mp hp).elim (fun z=>I.pin p (bf _ z)) (h p),I.hok,I.len⟩
theorem nD {N:List Str}(hN:N.Nodup){i j:Nat}{x:Str}(a:N[i]? = some x)(b:N[j]? = some x):i=j:=by
 obtain⟨h1,e1⟩:=List.getElem?_eq_some_iff.mp a;obtain⟨h2,e2⟩:=List.getElem?_eq_some_iff.mp b;exact (List.getElem_inj hN).mp (e1.trans e2.symm)
theorem qN {M:Model}{A:Around}{E:Value->Shared->Prop}{i:Nat}{x:Str}{v:V}{u:Value}{Q:Unit->Shared->Prop}(I:Inv X pins σ H s)(hN:X.N.Nodup)(hi:X.N[i]? = some x)(hx:Loc X.env.scope x)(r:RelV v u)
  (h:∀ s',Inv X pins (σ.set i (some v)) H s'->(∃ a,Heap.SameBut a s.heap s'.heap/\(a=X.env.locals\/X.env.cells.lookup x=some a))->Q () s') (hf:X.fn x=true\/X.env.scope.names.lookup x=some .local:=by first | exact .inl rfl | exact .inr rfl | assumption):wpAny M A (storeName X.env x u) Q E s:=by
 obtain⟨m,hn,hl⟩:=id I.loc;have hcls:(X.env.scope.kind == .class || (X.env.scope.kind == .module&&X.env.locals != X.env.globals))=false:=by rw[I.ok.kind];rfl
 have hiσ:i<σ.length:=by rw[I.len];exact (List.getElem?_eq_some_iff.mp hi).1
 have cne:=I.cne;have tracked:∀{a:Addr}{h':Heap},(∃ o,s.heap.get? a=some o/\H a=none)->Heap.SameBut a s.heap h'->iF X.prog X.w H h':=fun {a h'} ha hs b ob e=>by
  obtain⟨_,_,hfree⟩:=ha;refine (I.hok b ob e).stay (fun c w' hc q=>(hs.2 c ?_).trans q) (fun _ q=>q) fun _ _ q=>q
  rintro rfl;rcases hc with rfl | hc
  ·rw[hfree] at e;cases e
  ·rw[hfree] at hc;cases hc
 rcases hx with hk | hk
 ·refine wpAny_storeName_local hk hn (fun h' hn' hs=>?_) hcls;obtain⟨oL,_,_,hoL,_⟩:=id hn;refine h _ ⟨I.ok,I.os,I.bare,⟨fun b o e n hb hx=>?_,fun b o e n hb hx=>?_,I.base.free,fun b o e hx=>?_,I.base.tups,I.base.frzs,I.base.tbls⟩,⟨_,hn',fun j y v' e1 e2 e3=>?_⟩,fun y c e=>?_,I.free,I.freeC,fun p hp=>?_,tracked ⟨oL,hoL,I.free⟩ hs,by simpa using I.len⟩ ⟨_,hs,.inl rfl⟩
  ·exact (hs.2 b (bg (ba (Heap.lt_size e) I.ok.above))).trans (I.base.keep b o e n hb hx)
  ·obtain⟨sl,e1⟩:=I.base.slot b o e n hb hx;exact⟨sl,(hs.2 b (bg (ba (Heap.lt_size e) I.ok.above))).trans e1⟩
  ·obtain⟨o',e1⟩:=I.base.there b o e hx;exact⟨o',(hs.2 b (bg (ba (Heap.lt_size e) I.ok.above))).trans e1⟩
  ·by_cases hj:j=i
   ·subst hj;rw[hi] at e1;cases e1;rw[List.getElem?_set_self hiσ] at e2;cases e2;exact⟨u,r,.inl ⟨hk,by simp⟩⟩
   ·rw[List.getElem?_set_ne (dh hj)] at e2;obtain⟨u',r',q⟩:=hl j y v' e1 e2 e3;refine⟨u',r',?_⟩;rcases q with ⟨k,e⟩ | ⟨k,c,e,z⟩
    ·refine .inl ⟨k,?_⟩;have:y≠x:=fun e=>hj (nD hN e1 (e ▸ hi))
     simp[this,e]
    ·exact .inr ⟨k,c,e,z.sameBut hs (cne y c e)⟩
  ·obtain⟨w',z⟩:=I.cell y c e;exact⟨w',z.sameBut hs (cne y c e)⟩
  ·obtain⟨e,n,ne,nf,d⟩:=I.pin p hp;exact⟨(hs.2 p.1 ne).trans e,n,ne,nf,d⟩
 ·have hfn:X.fn x=true:=by
   rcases hf with z | z
   ·exact z
   ·rw[z] at hk;cases hk
  obtain⟨c,hc⟩:=I.ok.has x (.inl hk);obtain⟨w',z⟩:=I.cell x c hc;refine wpAny_storeName_cell I.ok.kind hk hc z (fun h' hc' hs=>?_);obtain⟨oc,hoc,hocd⟩:=id z;refine h { s with heap:=h' } ⟨I.ok,I.os,I.bare,⟨fun b o e n hb hx=>?_,fun b o e n hb hx=>?_,I.base.free,fun b o e hx=>?_,I.base.tups,I.base.frzs,I.base.tbls⟩,⟨m,hn.sameBut hs (Ne.symm (cne x c hc)),fun j y v' e1 e2 e3=>?_⟩,fun y c' e=>?_,I.free,I.freeC,fun p hp=>?_,tracked ⟨oc,hoc,I.freeC x c hc⟩ hs,by simpa using I.len⟩ ⟨c,hs,.inr hc⟩
  ·exact (hs.2 b (bg (ba (Heap.lt_size e) (I.ok.cab x c hfn hc)))).trans (I.base.keep b o e n hb hx)
  ·obtain⟨sl,e1⟩:=I.base.slot b o e n hb hx;exact⟨sl,(hs.2 b (bg (ba (Heap.lt_size e) (I.ok.cab x c hfn hc)))).trans e1⟩
  ·obtain⟨o',e1⟩:=I.base.there b o e hx;exact⟨o',(hs.2 b (bg (ba (Heap.lt_size e) (I.ok.cab x c hfn hc)))).trans e1⟩
  ·by_cases hj:j=i
   ·subst hj;rw[hi] at e1;cases e1;rw[List.getElem?_set_self hiσ] at e2;cases e2;exact⟨u,r,.inr ⟨.inl hk,c,hc,hc'⟩⟩
   ·rw[List.getElem?_set_ne (dh hj)] at e2;obtain⟨u',r',q⟩:=hl j y v' e1 e2 e3;refine⟨u',r',?_⟩;rcases q with q | ⟨k,c',e,z'⟩
    ·exact .inl q
    ·refine .inr ⟨k,c',e,z'.sameBut hs ?_⟩;rintro rfl;exact hj (nD hN e1 (I.ok.inj _ _ _ e hc ▸ hi))
  ·by_cases hcc:c'=c
   ·subst hcc;exact⟨_,hc'⟩
   ·obtain⟨w2,z2⟩:=I.cell y c' e;exact⟨w2,z2.sameBut hs hcc⟩
  ·obtain⟨e,n,ne,nf,d⟩:=I.pin p hp;refine⟨(hs.2 p.1 ?_).trans e,n,ne,nf,d⟩;intro q;rw[q,hoc] at e;have q':oc=p.2:=bt e;exact d w' (by rw[<-q'];exact hocd)
theorem iu {M:Model}{A:Around}{E:Value->Shared->Prop}{i:Nat}{x:Str}{v:V}{u:Value}{Q:Unit->Shared->Prop}(I:Inv X pins σ H s)(hN:X.N.Nodup)(hi:X.N[i]? = some x)(hx:Loc X.env.scope x)(r:RelV v u)
  (h:∀ s',Inv X pins (σ.set i (some v)) H s'->Q () s') (hf:X.fn x=true\/X.env.scope.names.lookup x=some .local:=by first | exact .inl rfl | exact .inr rfl | assumption):wpAny M A (storeName X.env x u) Q E s :=
 qN I hN hi hx r (fun s' I' _=>h s' I') hf
theorem Inv.call' {s':Shared}{ch:List Addr}(I:Inv X pins σ H s)(ho:s'.os=s.os)(u:Un (tq X.stack) ch H H' s.heap s'.heap)(hok:iF X.prog X.w H' s'.heap)(hg:AllBare s'.gens)
  (hch:∀ b∈ch,(b∈X.ex\/X.s₀.heap.objs.size<=b)/\b≠X.env.locals/\(∀ x c,X.env.cells.lookup x=some c->c≠b)/\∀ p∈X.pn++pins,p.1≠b):Inv X pins σ H' s':=by
 obtain⟨h',g',d',t',o'⟩:=s';have e:o'=s.os:=ho;subst e;exact I.call (g':=g') (t':=t') (d':=d') u hok hg hch
end
noncomputable abbrev XK:=Value->Option Addr->Hp->Prop
noncomputable abbrev St:=List (Option V)
noncomputable abbrev VK:=V->Hp->Prop
noncomputable abbrev TE:=St->Hp->VK->Prop
noncomputable abbrev TT:=St->Hp->(Bool->Hp->Prop)->Prop
noncomputable abbrev TA:=St->Hp->(List V->Hp->Prop)->Prop
structure Ends where
 nx:St->Hp->Prop
 rt:VK
 bk:St->Hp->Prop:=fun _ _=>False
 ct:St->Hp->Prop:=fun _ _=>False
noncomputable abbrev TS:=Ends->St->Hp->Prop
def EP (X:Cx)(pins:List (Addr×Obj))(σ:St)(Q:VK)(u:Value)(s':Shared):Prop:=∃ v H',Inv X pins σ H' s'/\RelV v u/\Q v H'
def TP (X:Cx)(pins:List (Addr×Obj))(σ:St)(Q:Bool->Hp->Prop)(b:Bool)(s':Shared):Prop:=∃ H',Inv X pins σ H' s'/\Q b H'
def AP (X:Cx)(pins:List (Addr×Obj))(σ:St)(Q:List V->Hp->Prop)(us:List Value)(s':Shared):Prop:=∃ vs H',Inv X pins σ H' s'/\aH vs us/\Q vs H'
noncomputable def SP (X:Cx)(pins:List (Addr×Obj))(D:Ends)(f:Flow)(s':Shared):Prop :=
 match f with
 |.next=>∃ σ' H',Inv X pins σ' H' s'/\D.nx σ' H'
 |.brk=>∃ σ' H',Inv X pins σ' H' s'/\D.bk σ' H'
 |.cont=>∃ σ' H',Inv X pins σ' H' s'/\D.ct σ' H'
 |.ret u=>∃ v σ' H',Inv X pins σ' H' s'/\RelV v u/\D.rt v H'
noncomputable def PE (X:Cx)(e:Expr)(t:TE):Prop :=
 ∀(pins:List (Addr×Obj)) (s:Shared) (σ:St) (H:Hp) (Q:VK),Inv X pins σ H s->t σ H Q->wpAny (model X.prog X.w) X.A (eval e X.env) (EP X pins σ Q) X.xe s
noncomputable def PT (X:Cx)(e:Expr)(t:TT):Prop :=
 ∀(pins:List (Addr×Obj)) (s:Shared) (σ:St) (H:Hp) (Q:Bool->Hp->Prop),Inv X pins σ H s->t σ H Q->wpAny (model X.prog X.w) X.A (isTrue e X.env (eval e X.env)) (TP X pins σ Q) X.xe s
noncomputable def PW (X:Cx)(e:Expr)(t:TT):Prop :=
 ∀(whole:Sem Value) (pins:List (Addr×Obj)) (s:Shared) (σ:St) (H:Hp) (Q:Bool->Hp->Prop),Inv X pins σ H s->t σ H Q->wpAny (model X.prog X.w) X.A (isTrue e X.env whole) (TP X pins σ Q) X.xe s
theorem PW.pt {X:Cx}{e:Expr}{t:TT}(h:PW X e t):PT X e t:=h _
noncomputable def PA (X:Cx)(es:List Expr)(t:TA):Prop :=
 ∀(pos:Pos) (pins:List (Addr×Obj)) (s:Shared) (σ:St) (H:Hp) (Q:List V->Hp->Prop),Inv X pins σ H s->t σ H Q->wpAny (model X.prog X.w) X.A (spliced (backTo pos (starEach es X.env))) (AP X pins σ Q) X.xe s
noncomputable def PS (X:Cx)(st:Stmt)(t:TS):Prop :=
 ∀(pins:List (Addr×Obj)) (s:Shared) (σ:St) (H:Hp) (D:Ends),Inv X pins σ H s->t D σ H->wpAny (model X.prog X.w) X.A (exec st X.env) (SP X pins D) X.xe s
noncomputable def kI (X:Cx)(st:List Stmt)(t:TS):Prop :=
 ∀(pins:List (Addr×Obj)) (s:Shared) (σ:St) (H:Hp) (D:Ends),Inv X pins σ H s->t D σ H->wpAny (model X.prog X.w) X.A (execs st X.env) (SP X pins D) X.xe s
theorem bW {α:Type}{t:Sem α}{Q Q':α->Shared->Prop}{M:Model}{A:Around}{E:Value->Shared->Prop}{s:Shared}(h:wpAny M A t Q E s)(hQ:∀ a s,Q a s->Q' a s):wpAny M A t Q' E s:=wpAny_mono h hQ fun _ _ x=>x
end L2
namespace L2
open PySem PySem.Spec PyProof.Rows
section
variable {X:Cx}
def tVar (i:Nat):TE:=fun σ H Q=>∃ v,σ[i]? = some (some v)/\Q v H
def tC (v:V):TE:=fun _ H Q=>Q v H
theorem n5 {i:Nat}{x:Str}{pos:Pos}(hN:X.N[i]? = some x)(hv:vI X.env.scope x)(hd:(x==("__debug__" : Str))=false:=by decide) (hcd:(x==("__classdict__" : Str))=false:=by decide):PE X (.Name x pos) (tVar i):=by
 intro pins s σ H Q I h;obtain⟨v,e,h⟩:=h;obtain⟨m,hn,hl⟩:=I.loc;obtain⟨u,r,l⟩:=hl i x v hN e hv;have fin:EP X pins σ Q u s:=⟨v,H,I,r,h⟩;rcases l with ⟨hk,hm⟩ | ⟨hk,c,hc,hcell⟩
 ·exact wpAny_Name (wpAny_loadName_local I.ok.kind hk hn hm fin) hd
 ·rcases hk with hk | hk
  ·exact wpAny_Name (wpAny_loadName_cell I.ok.kind hk hc hcell fin) hd
  ·exact wpAny_Name (wpAny_loadName_free I.ok.kind hk hc hcell fin hcd) hd
theorem nT {i j pos}:PE X (.Constant (.int i) j pos) (tC (.int i)):=fun _ _ _ H _ I h=>wpAny_Constant_int ⟨.int i,H,I.tok _,⟨_,rfl⟩,h⟩
theorem yf {b j pos}:PE X (.Constant (.bool b) j pos) (tC (.bl b)):=fun _ _ _ H _ I h=>Constant_bool ⟨.bl b,H,I,rfl,h⟩
theorem um {j pos}:PE X (.Constant .none j pos) (tC .non):=fun _ _ _ H _ I h=>Constant_none ⟨.non,H,I,rfl,h⟩
theorem uI {x j pos}:PE X (.Constant (.str x) j pos) (tC (.str x)):=fun _ _ _ H _ I h=>Calls.Constant_str ⟨.str x,H,I.tok _,⟨_,rfl⟩,h⟩
def Gl (X:Cx)(x:Str):Prop:=X.env.kindOf x=some .globalImplicit
theorem lI {E:Value->Shared->Prop}{pins:List (Addr×Obj)}{s:Shared}{σ:St}{H:Hp}{x:Str}{u:Value}{pos:Pos}{Q:Value->Shared->Prop}(I:Inv X pins σ H s)(hg:Gl X x)(hm:X.mg x=some u)(h:Q u s)
  (hd:(x==("__debug__" : Str))=false:=by decide):wpAny (model X.prog X.w) X.A (eval (.Name x pos) X.env) Q E s :=
 Calls.Name_function_global I.ok.kind hg (Calls.loadGlobal_global (by rw[I.ok.glob];exact I.mod.glob.keeps I.bk) hm h) hd
theorem iO {E:Value->Shared->Prop}{pins:List (Addr×Obj)}{s:Shared}{σ:St}{H:Hp}{x:Str}{u:Value}{pos:Pos}{Q:Value->Shared->Prop}(I:Inv X pins σ H s)(hg:Gl X x)(hm:X.mg x=none)(hv:bootBuiltins x=some u)(h:Q u s)
  (hn:x≠"__name__":=by decide) (hd:(x==("__debug__" : Str))=false:=by decide):wpAny (model X.prog X.w) X.A (eval (.Name x pos) X.env) Q E s:=by
 obtain⟨mb,h1,h2⟩:=I.mod.blt;exact Calls.Name_function_global I.ok.kind hg (Calls.loadGlobal_builtin (by rw[I.ok.glob];exact I.mod.glob.keeps I.bk) hm (by rw[I.ok.blt];exact h1.keeps I.bk) ((h2 x hn).trans hv) h) hd
theorem pI {x:Str}{v:V}{u:Value}{pos:Pos}(hg:Gl X x)(hm:X.mg x=some u)(r:RelV v u)(hd:(x==("__debug__" : Str))=false:=by decide):PE X (.Name x pos) (tC v) :=
 fun _ _ _ H _ I h=>lI I hg hm ⟨v,H,I,r,h⟩ hd
theorem vB {x:Str}{v:V}{u:Value}{pos:Pos}(hg:Gl X x)(hm:X.mg x=none)(hv:bootBuiltins x=some u)(r:RelV v u)(hn:x≠"__name__":=by decide) (hd:(x==("__debug__" : Str))=false:=by decide):PE X (.Name x pos) (tC v) :=
 fun _ _ _ H _ I h=>iO I hg hm hv ⟨v,H,I,r,h⟩ hn hd
variable {a b:Expr}{ta tb:TE}{pos:Pos}
variable {tA tB':TT}{rest:List Expr}
def tAnd (t u:TT):TT:=fun σ H Q=>t σ H fun c H1=>if c=true then u σ H1 Q else Q false H1
def tOr (t u:TT):TT:=fun σ H Q=>t σ H fun c H1=>if c=true then Q true H1 else u σ H1 Q
def tNot (t:TT):TT:=fun σ H Q=>t σ H fun c H1=>Q (!c) H1
theorem xh (ha:PT X a tA):PW X (.BoolOp .And [a] pos) tA:=by
 intro wh pins s σ H Q I h;refine isTrue_and (bW (ha pins s σ H Q I h) fun c s1 e=>?_);cases c with
 |true=>exact isTrue_and_nil e
 |false=>exact e
theorem zB (ha:PT X a tA):PW X (.BoolOp .Or [a] pos) tA:=by
 intro wh pins s σ H Q I h;refine isTrue_or (bW (ha pins s σ H Q I h) fun c s1 e=>?_);cases c with
 |false=>exact isTrue_or_nil e
 |true=>exact e
theorem Ak (ha:PT X a tA)(hb:PW X (.BoolOp .And (b::rest) pos) tB'):PW X (.BoolOp .And (a::b::rest) pos) (tAnd tA tB'):=by
 intro wh pins s σ H Q I h;refine isTrue_and (bW (ha pins s σ H _ I h) fun c s1 ⟨H1,I1,q1⟩=>?_);cases c with
 |true=>exact hb wh pins s1 σ H1 Q I1 q1
 |false=>exact⟨H1,I1,q1⟩
theorem BM (ha:PT X a tA)(hb:PW X (.BoolOp .Or (b::rest) pos) tB'):PW X (.BoolOp .Or (a::b::rest) pos) (tOr tA tB'):=by
 intro wh pins s σ H Q I h;refine isTrue_or (bW (ha pins s σ H _ I h) fun c s1 ⟨H1,I1,q1⟩=>?_);cases c with
 |true=>exact⟨H1,I1,q1⟩
 |false=>exact hb wh pins s1 σ H1 Q I1 q1
theorem yq (ha:PT X a tA):PT X (.UnaryOp .Not a pos) (tNot tA):=by
 intro pins s σ H Q I h;exact isTrue_not (ha pins s σ H (fun c H1=>Q (!c) H1) I h)
def AW (ta tb:TE):TE:=fun σ H Q=>ta σ H fun x H1=>∃ c,x = .bl c/\if c=true then tb σ H1 Q else Q (.bl false) H1
def tOrV (ta tb:TE):TE:=fun σ H Q=>ta σ H fun x H1=>∃ c,x = .bl c/\if c=true then Q (.bl true) H1 else tb σ H1 Q
def B5 (ta:TE):TE:=fun σ H Q=>ta σ H fun x H1=>∃ c,x = .bl c/\Q (.bl (!c)) H1
theorem AA {op}{t:TE}(h:PE X a t):PE X (.BoolOp op [a] pos) t:=fun pins s σ H Q I hw=>BoolOp_one (h pins s σ H Q I hw)
theorem Ah (ha:PE X a ta)(hb:PE X (.BoolOp .And (b::rest) pos) tb):PE X (.BoolOp .And (a::b::rest) pos) (AW ta tb):=by
 intro pins s σ H Q I h;refine BoolOp_and (bW (ha pins s σ H _ I h) fun v s1 ⟨x,H1,I1,r1,q1⟩=>?_);obtain⟨c,rfl,q1⟩:=q1;cases r1;refine wpAny_truthy_bool ?_;cases c with
 |true=>exact hb pins s1 σ H1 Q I1 q1
 |false=>exact⟨.bl false,H1,I1,rfl,q1⟩
theorem Bm (ha:PE X a ta)(hb:PE X (.BoolOp .Or (b::rest) pos) tb):PE X (.BoolOp .Or (a::b::rest) pos) (tOrV ta tb):=by
 intro pins s σ H Q I h;refine BoolOp_or (bW (ha pins s σ H _ I h) fun v s1 ⟨x,H1,I1,r1,q1⟩=>?_);obtain⟨c,rfl,q1⟩:=q1;cases r1;refine wpAny_truthy_bool ?_;cases c with
 |false=>exact hb pins s1 σ H1 Q I1 q1
 |true=>exact⟨.bl true,H1,I1,rfl,q1⟩
theorem y9 (ha:PE X a ta):PE X (.UnaryOp .Not a pos) (B5 ta):=by
 intro pins s σ H Q I h;refine UnaryOp_ (bW (ha pins s σ H _ I h) fun v s1 ⟨x,H1,I1,r1,q1⟩=>?_);obtain⟨c,rfl,q1⟩:=q1;cases r1;exact not_of (wpAny_truthy_bool ⟨.bl (!c),H1,I1,rfl,q1⟩)
def tIf (t:TT)(ta tb:TE):TE:=fun σ H Q=>t σ H fun c H1=>if c=true then ta σ H1 Q else tb σ H1 Q
theorem tu {c:Expr}(hc:PT X c tA)(ha:PE X a ta)(hb:PE X b tb):PE X (.IfExp c a b pos) (tIf tA ta tb):=by
 intro pins s σ H Q I h;refine wpAny_IfExp (bW (hc pins s σ H _ I h) fun d s1 ⟨H1,I1,q1⟩=>?_);cases d with
 |true=>exact ha pins s1 σ H1 Q I1 q1
 |false=>exact hb pins s1 σ H1 Q I1 q1
end
end L2
namespace L2
open PySem PySem.Spec PyProof.Rows
noncomputable def j6 (K:PySem.W.Frag)(H:Hp)(a:Addr)(xs:List V):Prop :=
 Rd H a (.lst xs) \/
  ∃(o:Obj) (its:Array Value) (n:Nat),K.lookup a=some o/\o.cls = .type "list"/\o.dict=none/\o.data = .seq its n/\its.size<=sizeLine/\aH xs its.toList
noncomputable def gH (K:PySem.W.Frag)(H:Hp)(a:Addr)(xs:List V):Prop :=
 Rd H a (.tup xs) \/
  ∃(o:Obj) (its:Array Value) (n:Nat),K.lookup a=some o/\o.cls = .type "tuple"/\o.data = .seq its n/\its.size<=sizeLine/\aH xs its.toList
noncomputable def absV:Value->Option V
 |.none=>some .non
 |.bool b=>some (.bl b)
 |.int i _=>some (.int i)
 |.str x _=>some (.str x)
 |.bytes b _=>some (.byt b)
 |.float b _=>some (.flt b)
 |.ref a=>some (.ref a)
 |.type n=>some (.ty n)
 |_=>none
theorem RelV.abs {x:V}{u:Value}(r:RelV x u):absV u=some x:=by
 cases x with
 |non=>cases r;rfl
 |bl _=>cases r;rfl
 |int _=>obtain⟨t,rfl⟩:=r;rfl
 |str _=>obtain⟨t,rfl⟩:=r;rfl
 |byt _=>obtain⟨t,rfl⟩:=r;rfl
 |flt _=>obtain⟨t,rfl⟩:=r;rfl
 |ref _=>cases r;rfl
 |ty _=>cases r;rfl
theorem RelV.inj {x y:V}{u:Value}(r:RelV x u)(q:RelV y u):x=y:=bt (r.abs.symm.trans q.abs)
theorem aH.inj:∀{xs ys:List V}{us:List Value},aH xs us->aH ys us->xs=ys
 |_,_,_,.nil,.nil=>rfl
 |_,_,_,.cons r t,.cons r' t'=>by rw[r.inj r',aH.inj t t']
section
variable {X:Cx}{pins:List (Addr×Obj)}{σ:St}{H:Hp}{s:Shared}{a:Addr}{xs ys:List V}
theorem Inv.list (I:Inv X pins σ H s)(h:j6 X.K H a xs):∃ its:List Value,aH xs its/\PlainL s.heap a its.toArray/\xs.length<=sizeLine:=by
 rcases h with h | ⟨o,its,n,hk,hc,hd,hs,hz,r⟩
 ·obtain⟨z,its,n,r,e⟩:=h.ok I.hok;exact⟨its,r,⟨_,n,e,rfl,rfl,rfl⟩,z⟩
 ·refine⟨its.toList,r,⟨o,n,I.kIn a o hk,hc,hd,by simpa using hs⟩,?_⟩;have e:=r.length;simp only[Array.length_toList] at e;omega
theorem Inv.tuple (I:Inv X pins σ H s)(h:gH X.K H a xs):∃ its:List Value,aH xs its/\IsTup s.heap a its.toArray/\xs.length<=sizeLine:=by
 rcases h with h | ⟨o,its,n,hk,hc,hs,hz,r⟩
 ·obtain⟨z,its,r,p⟩:=h.ok I.hok;exact⟨its,r,p,z⟩
 ·refine⟨its.toList,r,⟨o,I.kIn a o hk,hc,n,by simpa using hs⟩,?_⟩;have e:=r.length;simp only[Array.length_toList] at e;omega
theorem Inv.list_inj (I:Inv X pins σ H s)(h:j6 X.K H a xs)(h':j6 X.K H a ys):xs=ys:=by
 obtain⟨its,r,⟨o,n,e,_,_,d⟩,_⟩:=I.list h;obtain⟨its',r',⟨o',n',e',_,_,d'⟩,_⟩:=I.list h';rw[e] at e';cases e';rw[d] at d';injection d' with d1 _
 have:its=its':=by simpa using congrArg Array.toList d1
 subst this;exact r.inj r'
theorem Inv.tuple_inj (I:Inv X pins σ H s)(h:gH X.K H a xs)(h':gH X.K H a ys):xs=ys:=by
 obtain⟨its,r,⟨o,e,_,n,d⟩,_⟩:=I.tuple h;obtain⟨its',r',⟨o',e',_,n',d'⟩,_⟩:=I.tuple h';rw[e] at e';cases e';rw[d] at d';injection d' with d1 _
 have:its=its':=by simpa using congrArg Array.toList d1
 subst this;exact r.inj r'
end
noncomputable abbrev Cx.wish (X:Cx)(E:Value->Shared->Prop):Cx:={ X with xe:=E }
noncomputable abbrev Cx.nox (X:Cx):Cx:=X.wish fun _ _=>False
theorem Cx.Ok.wish {X:Cx}(ok:X.Ok)(E:Value->Shared->Prop):(X.wish E).Ok :=
 ⟨ok.mod,ok.kind,ok.glob,ok.blt,ok.above,ok.inj,ok.has,ok.cab,ok.hd,ok.frames,ok.stk,ok.exf,ok.bs,ok.bsz,ok.noex,ok.exfs,ok.funs,ok.frf⟩
theorem Cx.Ok.unwish {X:Cx}{E:Value->Shared->Prop}(ok:(X.wish E).Ok):X.Ok :=
 ⟨ok.mod,ok.kind,ok.glob,ok.blt,ok.above,ok.inj,ok.has,ok.cab,ok.hd,ok.frames,ok.stk,ok.exf,ok.bs,ok.bsz,ok.noex,ok.exfs,ok.funs,ok.frf⟩
section
variable {X:Cx}{pins:List (Addr×Obj)}{σ:St}{H:Hp}{s:Shared}{E:Value->Shared->Prop}
theorem Inv.wish (I:Inv X pins σ H s)(E:Value->Shared->Prop):Inv (X.wish E) pins σ H s:=⟨I.ok.wish E,I.os,I.bare,I.base,I.loc,I.cell,I.free,I.freeC,I.pin,I.hok,I.len⟩
theorem Inv.unwish (I:Inv (X.wish E) pins σ H s):Inv X pins σ H s:=⟨I.ok.unwish,I.os,I.bare,I.base,I.loc,I.cell,I.free,I.freeC,I.pin,I.hok,I.len⟩
theorem SP.unwish {D:Ends}{f:Flow}{s':Shared}(h:SP (X.wish E) pins D f s'):SP X pins D f s':=by
 cases f with
 |next=>obtain⟨σ',H',I,q⟩:=h;exact⟨σ',H',I.unwish,q⟩
 |brk=>obtain⟨σ',H',I,q⟩:=h;exact⟨σ',H',I.unwish,q⟩
 |cont=>obtain⟨σ',H',I,q⟩:=h;exact⟨σ',H',I.unwish,q⟩
 |ret u=>obtain⟨v,σ',H',I,r,q⟩:=h;exact⟨v,σ',H',I.unwish,r,q⟩
theorem kI.nox {st:List Stmt}{t:TS}(h:kI X.nox st t):kI X st t:=fun pins s σ H D I hw =>
 wpAny_mono (h pins s σ H D (I.wish _) hw) (fun _ _ q=>q.unwish) fun _ _ z=>False.elim z
end
section
variable {X:Cx}{st:Stmt}{rest:List Stmt}{t u:TS}{e:Expr}{te:TE}{pos:Pos}
def uw:TS:=fun D σ H=>D.nx σ H
def tSeq (t u:TS):TS:=fun D σ H=>t { D with nx:=u D } σ H
theorem wz:kI X [] uw:=fun _ _ σ H _ I h=>wpAny_execs_nil ⟨σ,H,I,h⟩
theorem tP (h1:PS X st t)(h2:kI X rest u):kI X (st::rest) (tSeq t u):=by
 intro pins s σ H D I h;refine wpAny_execs_cons (bW (h1 pins s σ H { D with nx:=u D } I h) fun f s1 q=>?_);cases f with
 |next =>
  obtain⟨σ',H',I',q⟩:=q;exact h2 pins s1 σ' H' D I' q
 |ret v=>exact q
 |brk=>exact q
 |cont=>exact q
theorem vA:PS X (.Pass pos) uw:=fun _ _ σ H _ I h=>wpAny_Pass ⟨σ,H,I,h⟩
theorem Inv.quiet {pins:List (Addr×Obj)}{σ:St}{H:Hp}{s:Shared}(I:Inv X pins σ H s):interactive X.env=false:=by simp[interactive,I.ok.kind]
theorem zk {x j pos pos'}:PS X (.Expr (.Constant (.str x) j pos) pos') uw:=fun _ s σ H _ I h=>wpAny_Expr (Calls.Constant_str (show SP X _ _ .next { s with toks:=s.toks+1 } from ⟨σ,H,I.tok _,h⟩)) I.quiet
def uH (te:TE):TS:=fun D σ H=>te σ H fun _ H1=>D.nx σ H1
theorem jb (he:PE X e te)(hs:swapsWith e none pos.line X.env=pure false:=by rfl):PS X (.Expr e pos) (uH te):=by
 intro pins s σ H D I h;exact wpAny_Expr_any (bW (he pins s σ H _ I h) fun v s1 ⟨x,H1,I1,r1,q1⟩=>⟨σ,H1,I1,q1⟩) I.quiet hs
def tRet (te:TE):TS:=fun D σ H=>te σ H D.rt
theorem Ar (he:PE X e te):PS X (.Return (some e) pos) (tRet te):=by
 intro pins s σ H D I h;exact wpAny_Return_some (bW (he pins s σ H _ I h) fun v s1 ⟨x,H1,I1,r1,q1⟩=>⟨x,σ,H1,I1,r1,q1⟩)
def Br:TS:=fun D _ H=>D.rt .non H
theorem vy:PS X (.Return none pos) Br:=fun _ _ σ H _ I h=>wpAny_Return_none ⟨.non,σ,H,I,rfl,h⟩
def tIfS (c:TT)(t u:TS):TS:=fun D σ H=>c σ H fun b H1=>if b=true then t D σ H1 else u D σ H1
theorem B8 {c:Expr}{a b:List Stmt}{tc:TT}(hc:PT X c tc)(ha:kI X a t)(hb:kI X b u):PS X (.If c a b pos) (tIfS tc t u):=by
 intro pins s σ H D I h;refine wpAny_If (bW (hc pins s σ H _ I h) fun d s1 ⟨H1,I1,q1⟩=>?_);cases d with
 |true=>exact ha pins s1 σ H1 D I1 q1
 |false=>exact hb pins s1 σ H1 D I1 q1
end
noncomputable abbrev TG:=V->St->Hp->(St->Hp->Prop)->Prop
noncomputable abbrev xU:=List V->St->Hp->(St->Hp->Prop)->Prop
noncomputable def PG (X:Cx)(target:Expr)(t:TG):Prop :=
 ∀(pins:List (Addr×Obj)) (s:Shared) (σ:St) (H:Hp) (v:V) (u:Value) (Q:St->Hp->Prop),Inv X pins σ H s->RelV v u->t v σ H Q ->
  wpAny (model X.prog X.w) X.A (assign target X.env u) (fun _ s'=>∃ σ' H',Inv X pins σ' H' s'/\Q σ' H') X.xe s
noncomputable def Bc (X:Cx)(ts:List Expr)(t:xU):Prop :=
 ∀(pins:List (Addr×Obj)) (s:Shared) (σ:St) (H:Hp) (vs:List V) (us:List Value) (Q:St->Hp->Prop),Inv X pins σ H s->aH vs us->t vs σ H Q ->
  wpAny (model X.prog X.w) X.A (assignInOrder ((assignEach ts X.env).map (·.2)) us) (fun _ s'=>∃ σ' H',Inv X pins σ' H' s'/\Q σ' H') X.xe s
noncomputable abbrev zV:=V->V->V->Hp->(Hp->Prop)->Prop
noncomputable def BL (X:Cx)(t:zV):Prop :=
 ∀(pins:List (Addr×Obj)) (s:Shared) (σ:St) (H:Hp) (o i v:V) (ov iv u:Value) (Q:Hp->Prop),Inv X pins σ H s->RelV o ov->RelV i iv->RelV v u->t o i v H Q ->
  wpAny (model X.prog X.w) X.A (setItem ov iv u) (fun _ s'=>∃ H',Inv X pins σ H' s'/\Q H') X.xe s
noncomputable abbrev TIp:=V->V->Hp->VK->Prop
noncomputable def PIp (X:Cx)(op:Operator)(t:TIp):Prop :=
 ∀(pins:List (Addr×Obj)) (s:Shared) (σ:St) (H:Hp) (x y:V) (v u:Value) (Q:VK),Inv X pins σ H s->RelV x v->RelV y u->t x y H Q ->
  wpAny (model X.prog X.w) X.A (inplaceOp op v u) (EP X pins σ Q) X.xe s
section
variable {X:Cx}{pos:Pos}
noncomputable def kW (i:Nat):TG:=fun v σ H Q=>Q (σ.set i (some v)) H
theorem pW {i:Nat}{x:Str}(hN:X.N.Nodup)(hi:X.N[i]? = some x)(hx:Loc X.env.scope x)(hf:X.fn x=true\/X.env.scope.names.lookup x=some .local:=by first | exact .inl rfl | exact .inr rfl | assumption):PG X (.Name x pos) (kW i):=by
 intro pins s σ H v u Q I r h;exact wpAny_assign_Name (iu I hN hi hx r (fun s' I'=>⟨_,H,I',h⟩) hf)
noncomputable def Ct:xU:=fun vs σ H Q=>vs=[]/\Q σ H
noncomputable def xq (t:TG)(u:xU):xU:=fun vs σ H Q=>∃ v r,vs=v::r/\t v σ H fun σ' H'=>u r σ' H' Q
theorem vp:Bc X [] Ct:=by
 intro pins s σ H vs us Q I r h;obtain⟨e,h⟩:=h;subst e;cases r;exact assignInOrder_nil ⟨σ,H,I,h⟩
theorem rJ {e:Expr}{es:List Expr}{t:TG}{u:xU}(h1:PG X e t)(h2:Bc X es u)
  (hs:(assignEach (e::es) X.env).map (·.2)=assign e X.env::(assignEach es X.env).map (·.2):=by rfl):Bc X (e::es) (xq t u):=by
 intro pins s σ H vs us Q I r h;obtain⟨v,vr,e1,h⟩:=h;subst e1;cases r with
 |cons r rr =>
  rw[hs];refine assignInOrder_cons (bW (h1 pins s σ H _ _ _ I r h) fun _ s1 ⟨σ1,H1,I1,q1⟩=>?_);exact h2 pins s1 σ1 H1 _ _ Q I1 rr q1
noncomputable def sU (K:PySem.W.Frag)(n:Nat)(t:xU):TG:=fun v σ H Q=>∃ a xs,v = .ref a/\gH K H a xs/\xs.length=n/\t xs σ H Q
theorem rL {es:List Expr}{k:Nat}{t:xU}{n:Nat}(hc:X.calm=true)(h:Bc X es t)
  (hn:(assignEach es X.env).length=n:=by rfl) (hst:(assignEach es X.env).findIdx? (·.1)=none:=by rfl):PG X (.Tuple es k pos) (sU X.K n t):=by
 intro pins s σ H v u Q I r hw;obtain⟨a,xs,e1,hq,hl,hw⟩:=hw;subst e1;cases r;obtain⟨its,rv,ht,hz⟩:=I.tuple hq;refine assign_Tuple_tuple (I.ok.hd hc) ht (by simp[hn,<-hl,rv.length]) hst fun h' hx=>?_
 have I1:Inv X pins σ H { s with heap:=h' }:=I.kept (t':=s.toks) fun b o e=>hx b o (bg (Heap.lt_size e)) e
 exact h pins _ σ H xs _ Q I1 (by simpa using rv) hw
noncomputable def Bh (to ti:TE)(t:zV):TG:=fun v σ H Q=>to σ H fun o H1=>ti σ H1 fun i H2=>t o i v H2 fun H3=>Q σ H3
theorem zb {o i:Expr}{to ti:TE}{t:zV}(ho:PE X o to)(hi:PE X i ti)(hs:BL X t)
  (ha:∀ v,assign (.Subscript o i pos) X.env v=(do
   let ov <- holding [v] (eval o X.env);let iv <- holding [v,ov] (eval i X.env)
   standAt pos
   holding [v,ov,iv] (setItem ov iv v)
   release [v,ov,iv] []):=by intro _;rfl):PG X (.Subscript o i pos) (Bh to ti t):=by
 intro pins s σ H v u Q I r h;rw[ha];refine wpAny_bind (wpAny_holding (bW (ho pins s σ H _ I h) fun ov s1 ⟨x,H1,I1,r1,q1⟩=>?_));refine wpAny_bind (wpAny_holding (bW (hi pins s1 σ H1 _ I1 q1) fun iv s2 ⟨y,H2,I2,r2,q2⟩=>?_));refine wpAny_bind (wpAny_standAt (wpAny_bind (wpAny_holding (bW (hs pins s2 σ H2 x y v ov iv u _ I2 r1 r2 r q2) fun _ s3 ⟨H3,I3,q3⟩=>?_))));exact wpAny_release ⟨σ,H3,I3,q3⟩
def wM (te:TE)(g:TG):TS:=fun D σ H=>te σ H fun x H1=>g x σ H1 D.nx
theorem sW {tg e:Expr}{te:TE}{g:TG}(he:PE X e te)(hg:PG X tg g)(hs:swapsWithSole [tg] e pos.line X.env=pure false:=by rfl)(hw:swappedStores [tg] e X.env=pure none:=by rfl)
  (h1:(assignEach [tg] X.env).map (·.2)=[assign tg X.env]:=by rfl):PS X (.Assign [tg] e pos) (wM te g):=by
 intro pins s σ H D I h;refine wpAny_Assign_stores (bW (he pins s σ H _ I h) fun v s1 ⟨x,H1,I1,r1,q1⟩=>?_) hs hw;rw[h1];exact bW (hg pins s1 σ H1 x v _ I1 r1 q1) fun _ s2 q=>q
theorem yB {i:Nat}{x:Str}{e:Expr}{te:TE}{pos':Pos}(hN:X.N.Nodup)(hi:X.N[i]? = some x)(hx:Loc X.env.scope x)(he:PE X e te)(hs:swapsWith e (some (.Name x pos')) pos.line X.env=pure false:=by rfl)(hf:X.fn x=true\/X.env.scope.names.lookup x=some .local:=by first | exact .inl rfl | exact .inr rfl | assumption) :
  PS X (.Assign [.Name x pos'] e pos) (wM te (kW i)):=by
 intro pins s σ H D I h;refine wpAny_Assign_Name (bW (he pins s σ H _ I h) fun v s1 ⟨y,H1,I1,r1,q1⟩=>?_) hs;exact iu I1 hN hi hx r1 (fun s2 I2=>⟨_,H1,I2,q1⟩) hf
def tAug (i:Nat)(te:TE)(ti:TIp):TS:=fun D σ H=>∃ x,σ[i]? = some (some x)/\te σ H fun y H1=>ti x y H1 fun z H2=>D.nx (σ.set i (some z)) H2
theorem z0 {i:Nat}{x:Str}{e:Expr}{te:TE}{op:Operator}{ti:TIp}{pos':Pos}(hN:X.N.Nodup)(hi:X.N[i]? = some x)(hx:Loc X.env.scope x)(he:PE X e te)(ho:PIp X op ti)(hf:X.fn x=true\/X.env.scope.names.lookup x=some .local:=by first | exact .inl rfl | exact .inr rfl | assumption) :
  PS X (.AugAssign (.Name x pos') op e pos) (tAug i te ti):=by
 intro pins s σ H D I h;obtain⟨v,e1,h⟩:=h;obtain⟨m,hn,hl⟩:=I.loc;have vis:vI X.env.scope x:=by rcases hx with k | k;exact .inl k;exact .inr (.inl k)
 obtain⟨u,r,l⟩:=hl i x v hi e1 vis;refine wpAny_AugAssign_Name ?_;have go:wpAny (model X.prog X.w) X.A (eval e X.env) (fun w s₂=>wpAny (model X.prog X.w) X.A (inplaceOp op u w) (fun r s₃=>wpAny (model X.prog X.w) X.A (storeName X.env x r) (fun _=>SP X pins D .next) X.xe s₃) X.xe s₂) X.xe s:=by
  refine bW (he pins s σ H _ I h) fun w s1 ⟨y,H1,I1,r1,q1⟩=>?_
  refine bW (ho pins s1 σ H1 v y u w _ I1 r r1 q1) fun z s2 ⟨zv,H2,I2,r2,q2⟩=>?_
  exact iu I2 hN hi hx r2 (fun s3 I3=>⟨_,H2,I3,q2⟩) hf
 rcases l with ⟨hk,hm⟩ | ⟨hk,c,hc,hcell⟩
 ·exact wpAny_loadName_local I.ok.kind hk hn hm go
 ·rcases hk with hk | hk
  ·exact wpAny_loadName_cell I.ok.kind hk hc hcell go
  ·rcases hx with k | k
   ·have:X.env.scope.names.lookup x=some .free:=hk;rw[k] at this;cases this
   ·have:X.env.scope.names.lookup x=some .free:=hk;rw[k] at this;cases this
end
section
variable {X:Cx}{pos:Pos}
end
structure It where
 go:Nat->Hp->Prop
 yld:Nat->Hp->V->Hp->Prop
 stop:Nat->Hp->Prop
noncomputable def gC (X:Cx)(pins:List (Addr×Obj))(H:Hp)(b:Addr):Prop :=
 H b=none/\b≠X.env.locals/\b∉X.fs/\(b∈X.ex\/X.s₀.heap.objs.size<=b)/\(∀ x c,X.env.cells.lookup x=some c->c≠b)/\∀ p∈X.pn++pins,p.1≠b
theorem Inv.fpOk {X:Cx}{pins:List (Addr×Obj)}{σ:St}{H H':Hp}{s:Shared}{b:Addr}(I:Inv X pins σ H s)(hb:s.heap.objs.size<=b)(hn:H' b=none):gC X pins H' b:=by
 refine⟨hn,Nat.ne_of_gt (ba I.lt hb),I.nofs hb,.inr (bh I.sz hb),fun x c e z=>?_,fun p hp z=>?_⟩
 ·obtain⟨v,q⟩:=I.cell x c e;exact absurd (ba q.lt (by rw[z];exact hb)) (cx _)
 ·exact absurd (ba (Heap.lt_size (I.pin p hp).1) (by rw[z];exact hb)) (cx _)
structure Turn (P:Program)(w:World)(K:PySem.W.Frag)(tg:Expr)(J:It)(fp:List Addr)(it:Addr)(tn:Nat->Heap->Prop):Prop where
 mem:it∈fp
 obj:∀ i h,tn i h->∀ b∈fp,∃ o,h.get? b=some o/\∀ v,o.data≠.cell v
 keep:∀ i h h',tn i h->(∀ b∈fp,∀ o,h.get? b=some o->h'.get? b=some o)->tn i h'
 item:∀(X:Cx),X.prog=P->X.w=w->X.K=K->X.calm=true->∀(i:Nat) (pins:List (Addr×Obj)) (s:Shared) (σ:St) (H:Hp) (E:Value->Shared->Prop),Inv X pins σ H s->(∀ b∈fp,gC X pins H b)->tn i s.heap->J.go i H ->
  wpAny (model P w) X.A (pyNext (.ref it)) (fun r s1=>∃ u,r=some u /\
   wpAny (model P w) X.A (letOwnedTupleGo tg (.ref it) u) (fun _ s2=>∃ x H',Inv X pins σ H' s2/\RelV x u/\J.yld i H x H'/\tn (i+1) s2.heap/\∀ b∈fp,H' b=none) E s1) E s
 done:∀(X:Cx),X.prog=P->X.w=w->X.K=K->X.calm=true->∀(i:Nat) (pins:List (Addr×Obj)) (s:Shared) (σ:St) (H:Hp) (E:Value->Shared->Prop),Inv X pins σ H s->(∀ b∈fp,gC X pins H b)->tn i s.heap->J.stop i H ->
  wpAny (model P w) X.A (pyNext (.ref it)) (fun r s1=>r=none/\Inv X pins σ H s1) E s
 self:∀(A:Around) (i:Nat) (s:Shared) (Q:Value->Shared->Prop) (E:Value->Shared->Prop),tn i s.heap->Q (.ref it) s->wpAny (model P w) A (pyIter (.ref it)) Q E s
noncomputable abbrev TI:=St->Hp->(It->Hp->Prop)->Prop
noncomputable def AD (X:Cx)(pins:List (Addr×Obj))(σ:St)(tg:Expr)(R:It->Hp->Prop)(itv:Value)(s2:Shared):Prop :=
 ∃(it:Addr) (fp:List Addr) (tn:Nat->Heap->Prop) (J:It) (H':Hp),itv = .ref it/\Inv X pins σ H' s2/\Turn X.prog X.w X.K tg J fp it tn/\tn 0 s2.heap/\(∀ b∈fp,gC X pins H' b)/\R J H'
noncomputable def PI (X:Cx)(tg iter:Expr)(wi:TI):Prop :=
 ∀(pins:List (Addr×Obj)) (s:Shared) (σ:St) (H:Hp) (R:It->Hp->Prop),Inv X pins σ H s->wi σ H R ->
  wpAny (model X.prog X.w) X.A (eval iter X.env) (fun v s1=>wpAny (model X.prog X.w) X.A (pyIter v) (AD X pins σ tg R) X.xe s1) X.xe s
theorem pB {M:Model}{A:Around}{E:Value->Shared->Prop}{s:Shared}{tg:Expr}{it:Addr}{u:Value}{o:Obj}{n:String}{vs:Array Value}{Q:Unit->Shared->Prop}(ho:s.heap.get? it=some o)(hc:o.cls = .type n)(hd:o.data = .fields vs)
  (hn:["enumerate","zip","dict_itemiterator","dict_reverseitemiterator","odict_iterator","itertools.zip_longest","itertools.pairwise"].contains n=false) (hQ:Q () s):wpAny M A (letOwnedTupleGo tg (.ref it) u) Q E s:=by
 unfold letOwnedTupleGo;cases tg<;>first
  | exact wpAny_pure hQ
  | (cases u<;>first
    | exact wpAny_pure hQ
    | (refine wpAny_bind (wpAny_load ho ?_)
       rw[hc,hd];show wpAny M A (if (["enumerate","zip","dict_itemiterator","dict_reverseitemiterator","odict_iterator","itertools.zip_longest","itertools.pairwise"].contains n&&vs[0]?==some (rawInt _))=true then _ else _) Q E s;rw[if_neg (by intro h;rw[hn,Bool.false_and] at h;cases h)];exact wpAny_pure hQ))
noncomputable def Itl (K:PySem.W.Frag)(a:Addr):It :=
 ⟨fun i H=>∃ xs x,j6 K H a xs/\xs[i]? = some x,fun i H x H'=>H'=H/\∀ xs,j6 K H a xs->xs[i]? = some x,fun i H=>∃ xs,j6 K H a xs/\xs.length<=i⟩
noncomputable def Itt (K:PySem.W.Frag)(a:Addr):It :=
 ⟨fun i H=>∃ xs x,gH K H a xs/\xs[i]? = some x,fun i H x H'=>H'=H/\∀ xs,gH K H a xs->xs[i]? = some x,fun i H=>∃ xs,gH K H a xs/\xs.length<=i⟩
theorem qq {P:Program}{w:World}{K:PySem.W.Frag}{tg:Expr}(a it:Addr):Turn P w K tg (Itl K a) [it] it (fun i h=>h.IsListIter it a i) where
 mem:=by simp
 obj:=fun i h st b hb=>by
  have e:b=it:=by simpa using hb
  subst e;obtain⟨o,e,c,d⟩:=st;exact⟨o,e,fun v z=>by rw[d] at z;cases z⟩
 keep:=fun i h h' st k=>st.at fun o e=>k it (by simp) o e
 item:=by
  intro X hP hw hK hc i pins s σ H E I hf st hg;subst hP hw hK;obtain⟨xs,x,hq,hx⟩:=hg;obtain⟨its,rv,p,hz⟩:=I.list hq;obtain⟨u,hu,ru⟩:=rv.get hx;obtain⟨f0,f1,f2,f3,f4,f5⟩:=hf it (by simp);refine wpAny_pyNext_list_item st p.isList (x:=u) (by simpa using hu) fun h' st' sb=>?_
  have I1:Inv X pins σ H { s with heap:=h' }:=I.turned (t':=s.toks) (fun b o hb e=>(sb.2 b hb).trans e) f0 f1 f3 f4 f5;obtain⟨o,e,c,d⟩:=id st';exact⟨u,rfl,pB (s:={ s with heap:=h' }) e c d (by decide) ⟨x,H,I1,ru,⟨rfl,fun ys hy=>by rw[I.list_inj hy hq];exact hx⟩,st',fun b hb=>(hf b hb).1⟩⟩
 done:=by
  intro X hP hw hK hc i pins s σ H E I hf st hg;subst hP hw hK;obtain⟨xs,hq,hx⟩:=hg;obtain⟨its,rv,p,hz⟩:=I.list hq;obtain⟨f0,f1,f2,f3,f4,f5⟩:=hf it (by simp);have hl:=rv.length;exact wpAny_pyNext_list_end (I.ok.hd hc) st p.isList (by simp;omega) fun h' eb=>⟨rfl,I.turned (t':=s.toks) (fun b o hb e=>eb b o hb e) f0 f1 f3 f4 f5⟩
 self:=fun _ _ _ _ _ st h=>wpAny_pyIter_listiter st h
theorem oN {P:Program}{w:World}{K:PySem.W.Frag}{tg:Expr}(a it:Addr):Turn P w K tg (Itt K a) [it] it (fun i h=>h.IsTupleIter it a i) where
 mem:=by simp
 obj:=fun i h st b hb=>by
  have e:b=it:=by simpa using hb
  subst e;obtain⟨o,e,c,d⟩:=st;exact⟨o,e,fun v z=>by rw[d] at z;cases z⟩
 keep:=fun i h h' st k=>st.at fun o e=>k it (by simp) o e
 item:=by
  intro X hP hw hK hc i pins s σ H E I hf st hg;subst hP hw hK;obtain⟨xs,x,hq,hx⟩:=hg;obtain⟨its,rv,p,hz⟩:=I.tuple hq;obtain⟨u,hu,ru⟩:=rv.get hx;obtain⟨f0,f1,f2,f3,f4,f5⟩:=hf it (by simp);refine wpAny_pyNext_tuple_item st (show s.heap.IsTuple a its.toArray from p) (x:=u) (by simpa using hu) fun h' st' sb=>?_
  have I1:Inv X pins σ H { s with heap:=h' }:=I.turned (t':=s.toks) (fun b o hb e=>(sb.2 b hb).trans e) f0 f1 f3 f4 f5;obtain⟨o,e,c,d⟩:=id st';exact⟨u,rfl,pB (s:={ s with heap:=h' }) e c d (by decide) ⟨x,H,I1,ru,⟨rfl,fun ys hy=>by rw[I.tuple_inj hy hq];exact hx⟩,st',fun b hb=>(hf b hb).1⟩⟩
 done:=by
  intro X hP hw hK hc i pins s σ H E I hf st hg;subst hP hw hK;obtain⟨xs,hq,hx⟩:=hg;obtain⟨its,rv,p,hz⟩:=I.tuple hq;obtain⟨f0,f1,f2,f3,f4,f5⟩:=hf it (by simp);have hl:=rv.length;exact wpAny_pyNext_tuple_end (I.ok.hd hc) st (show s.heap.IsTuple a its.toArray from p) (by simp;omega) fun h' eb=>⟨rfl,I.turned (t':=s.toks) (fun b o hb e=>eb b o hb e) f0 f1 f3 f4 f5⟩
 self:=fun _ _ _ _ _ st h=>wpAny_pyIter_tupleiter st h
end L2
namespace L2
open PySem PySem.Spec PyProof.Rows
section
variable {X:Cx}{tg:Expr}
def tFor (wi:TI)(g:TG)(tb:TS):TS:=fun D σ H=>wi σ H fun J H1=>∃ W:Nat->Nat->St->Hp->Prop,(∃ m,W 0 m σ H1)/\∀ i m σ H,W i m σ H ->
 (J.stop i H/\D.nx σ H)\/(J.go i H/\∃ N:St->Hp->Prop,(∀ σ' H',N σ' H'->∃ m',m'<m/\W (i+1) m' σ' H')/\∀ x H',J.yld i H x H'->g x σ H' fun σ2 H2=>tb { D with nx:=N,ct:=N,bk:=D.nx } σ2 H2)
noncomputable def jZ (fp:List Addr)(h:Heap):List (Addr×Obj):=fp.filterMap fun b=>(h.get? b).map fun o=>(b,o)
theorem dP {fp:List Addr}{h:Heap}{b:Addr}{o:Obj}(hb:b∈fp)(e:h.get? b=some o):(b,o)∈jZ fp h:=List.mem_filterMap.mpr ⟨b,hb,by rw[e];rfl⟩
theorem qP {fp:List Addr}{h:Heap}{p:Addr×Obj}(hp:p∈jZ fp h):p.1∈fp/\h.get? p.1=some p.2:=by
 obtain⟨b,hb,e⟩:=List.mem_filterMap.mp hp;cases q:h.get? b with
 |none=>rw[q] at e;cases e
 |some o =>
  rw[q] at e;have e':(b,o)=p:=bt e;subst e';exact⟨hb,q⟩
theorem Inv.pinned {pins:List (Addr×Obj)}{σ:St}{H:Hp}{s:Shared}{fp:List Addr}(I:Inv X pins σ H s)(hf:∀ b∈fp,gC X pins H b)(ho:∀ b∈fp,∃ o,s.heap.get? b=some o/\∀ v,o.data≠.cell v):Inv X (pins++jZ fp s.heap) σ H s :=
 I.pins_of fun p hp=>(dm.mp hp).elim (fun z=>I.pin p (aq _ z)) fun z=>by
  obtain⟨hb,e⟩:=qP z;obtain⟨f0,f1,f2,_⟩:=hf p.1 hb;obtain⟨o,e',d⟩:=ho p.1 hb;rw[e] at e';cases e';exact⟨e,f0,f1,f2,d⟩
theorem Inv.unpinned {pins pl:List (Addr×Obj)}{σ:St}{H:Hp}{s:Shared}(I:Inv X (pins++pl) σ H s):Inv X pins σ H s:=I.pins_of fun p hp=>I.pin p (aq _ (bf _ hp))
theorem z6 {iter:Expr}{body:List Stmt}{wi:TI}{g:TG}{tb:TS}{pos:Pos}(hp:PassesOwn (model X.prog X.w) X.A X.env X.xe)(hc:X.calm=true)(hi:PI X tg iter wi)(hg:PG X tg g)(hb:kI X body tb)
  (hs:∀ x,foldedSetIterable iter X.env x=pure x:=by intro _;rfl):PS X (.For tg iter body [] pos) (tFor wi g tb):=by
 intro pins s σ H D I h;refine wpAny_For (bW (hi pins s σ H _ I h) fun v s1 h1=>bW h1 fun itv s2 h2=>?_) hs;obtain⟨it,fp,tn,J,H2,e,I2,T,st2,f2,W,⟨m0,w0⟩,turn⟩:=h2;subst e;have stat:∀{H':Hp},(∀ b∈fp,H' b=none)->∀ b∈fp,gC X pins H' b:=fun hn b hb=>⟨hn b hb,(f2 b hb).2⟩
 refine codeAny_forLoop_any (fun n s'=>∃ i σ' H',Inv X pins σ' H' s'/\tn i s'.heap/\(∀ b∈fp,H' b=none)/\W i n σ' H') ?_ m0 ⟨0,σ,H2,I2,st2,fun b hb=>(f2 b hb).1,w0⟩;rintro n s3 ⟨i,σ3,H3,I3,st3,fr3,w3⟩;rcases turn i n σ3 H3 w3 with ⟨stop,qn⟩ | ⟨go,N,hN,step⟩
 ·refine wpAny_passesOwn hp (bW (T.done X rfl rfl rfl hc i pins s3 σ3 H3 X.xe I3 (stat fr3) st3 stop) fun r s4 ⟨hr,I4⟩=>?_);subst hr;exact wpAny_execs_nil ⟨σ3,H3,I4,qn⟩
 ·refine wpAny_passesOwn hp (bW (T.item X rfl rfl rfl hc i pins s3 σ3 H3 X.xe I3 (stat fr3) st3 go) fun r s4 ⟨u,hr,h4⟩=>?_);subst hr;refine wpAny_passesOwn hp (bW h4 fun _ s5 ⟨x,H5,I5,r5,y5,st5,fr5⟩=>?_);have I5':=I5.pinned (stat fr5) (T.obj _ _ st5);refine wpAny_passesOwn hp (bW (hg _ s5 σ3 H5 x u _ I5' r5 (step x H5 y5)) fun _ s6 ⟨σ6,H6,I6,q6⟩=>?_);refine wpAny_passesOwn hp (bW (hb _ s6 σ6 H6 _ I6 q6) fun f s7 q7=>?_);have again:∀{σ7:St}{H7:Hp},Inv X (pins++jZ fp s5.heap) σ7 H7 s7->N σ7 H7->∃ m,m<n/\∃ i σ' H',Inv X pins σ' H' s7/\tn i s7.heap/\(∀ b∈fp,H' b=none)/\W i m σ' H':=fun {σ7 H7} I7 n7=>by
   obtain⟨m',hm,w7⟩:=hN σ7 H7 n7;refine⟨m',hm,i+1,σ7,H7,I7.unpinned,T.keep _ _ _ st5 fun b hb o e=>(I7.pin (b,o) (aq _ (aq _ (dP hb e)))).1,fun b hb=>?_,w7⟩;obtain⟨o,e,d⟩:=T.obj _ _ st5 b hb;exact (I7.pin (b,o) (aq _ (aq _ (dP hb e)))).2.1
  cases f with
  |next=>obtain⟨σ7,H7,I7,n7⟩:=q7;exact again I7 n7
  |cont=>obtain⟨σ7,H7,I7,n7⟩:=q7;exact again I7 n7
  |brk=>obtain⟨σ7,H7,I7,q7⟩:=q7;exact⟨σ7,H7,I7.unpinned,q7⟩
  |ret v=>obtain⟨x7,σ7,H7,I7,r7,q7⟩:=q7;exact⟨x7,σ7,H7,I7.unpinned,r7,q7⟩
end
end L2
namespace L2
open PySem PySem.Spec PyProof.Rows
noncomputable abbrev R2:=V->V->Hp->VK->Prop
noncomputable def eO (X:Cx)(f:Value->Value->Sem Value)(r:R2):Prop :=
 ∀(pins:List (Addr×Obj)) (s:Shared) (σ:St) (H:Hp) (x y:V) (v u:Value) (Q:VK),Inv X pins σ H s->RelV x v->RelV y u->r x y H Q ->
  wpAny (model X.prog X.w) X.A (f v u) (EP X pins σ Q) X.xe s
noncomputable def UnR (X:Cx)(f:Value->Sem Value)(r:V->Hp->VK->Prop):Prop :=
 ∀(pins:List (Addr×Obj)) (s:Shared) (σ:St) (H:Hp) (x:V) (v:Value) (Q:VK),Inv X pins σ H s->RelV x v->r x H Q ->
  wpAny (model X.prog X.w) X.A (f v) (EP X pins σ Q) X.xe s
noncomputable def fE (X:Cx)(f:Value)(r:List V->Hp->VK->Prop):Prop :=
 ∀(pins:List (Addr×Obj)) (s:Shared) (σ:St) (H:Hp) (xs:List V) (us:List Value) (Q:VK),Inv X pins σ H s->aH xs us->r xs H Q ->
  wpAny (model X.prog X.w) X.A (call f us) (EP X pins σ Q) X.xe s
noncomputable def TruR (X:Cx)(r:V->Hp->(Bool->Hp->Prop)->Prop):Prop :=
 ∀(pins:List (Addr×Obj)) (s:Shared) (σ:St) (H:Hp) (x:V) (v:Value) (Q:Bool->Hp->Prop),Inv X pins σ H s->RelV x v->r x H Q ->
  wpAny (model X.prog X.w) X.A (truthy v) (TP X pins σ Q) X.xe s
def AU (r:R2)(ta tb:TE):TE:=fun σ H Q=>ta σ H fun x H1=>tb σ H1 fun y H2=>r x y H2 Q
def tUn (r:V->Hp->VK->Prop)(ta:TE):TE:=fun σ H Q=>ta σ H fun x H1=>r x H1 Q
noncomputable def rI (C:Int->Int->Prop)(g:Int->Int->V):R2:=fun x y H Q=>∃ i j,x = .int i/\y = .int j/\C i j/\Q (g i j) H
noncomputable def oZ (g:Int->Int->V):R2:=fun x y H Q=>∃ i j,x = .int i/\y = .int j/\Q (g i j) H
def rU (g:Int->V):V->Hp->VK->Prop:=fun x H Q=>∃ i,x = .int i/\Q (g i) H
section
variable {X:Cx}{a b c:Expr}{ta tb tc:TE}{pos:Pos}
theorem y6 (ha:PE X a ta)(hb:PE X b tb){pins:List (Addr×Obj)}{s:Shared}{σ:St}{H:Hp}{R:V->V->Hp->Prop}(I:Inv X pins σ H s)
  (h:ta σ H fun x H1=>tb σ H1 fun y H2=>R x y H2) {Q:Value->Shared->Prop}{f:Value->Value->Sem Value}
  (hf:∀ v u s2 x y H2,Inv X pins σ H2 s2->RelV x v->RelV y u->R x y H2->wpAny (model X.prog X.w) X.A (f v u) Q X.xe s2) :
  wpAny (model X.prog X.w) X.A (eval a X.env) (fun v s₁=>wpAny (model X.prog X.w) X.A (eval b X.env) (fun u s₂=>wpAny (model X.prog X.w) X.A (f v u) Q X.xe s₂) X.xe s₁) X.xe s:=by
 refine bW (ha pins s σ H _ I h) fun v s1 ⟨x,H1,I1,r1,q1⟩=>?_
 refine bW (hb pins s1 σ H1 _ I1 q1) fun u s2 ⟨y,H2,I2,r2,q2⟩=>?_
 exact hf v u s2 x y H2 I2 r1 r2 q2
theorem xG {op:Operator}{r:R2}(ho:eO X (binaryOp op) r)(ha:PE X a ta)(hb:PE X b tb):PE X (.BinOp a op b pos) (AU r ta tb):=by
 intro pins s σ H Q I h;exact wpAny_BinOp (y6 ha hb I h fun v u s2 x y H2 I2 rx ry q=>ho pins s2 σ H2 x y v u Q I2 rx ry q)
theorem AY {op:UnaryOp}{r:V->Hp->VK->Prop}(ho:UnR X (unaryOp op) r)(ha:PE X a ta):PE X (.UnaryOp op a pos) (tUn r ta):=by
 intro pins s σ H Q I h;exact UnaryOp_ (bW (ha pins s σ H _ I h) fun v s1 ⟨x,H1,I1,r1,q1⟩=>ho pins s1 σ H1 x v Q I1 r1 q1)
theorem AN {f:Value->Value->Sem Value}{C:Int->Int->Prop}{g:Int->Int->Int}
  (rule:∀(i j:Int) (t u:Tok) (s:Shared) (Q:Value->Shared->Prop) (E:Value->Shared->Prop),C i j->Q (.int (g i j) s.toks) { s with toks:=s.toks+1 }->wpAny (model X.prog X.w) X.A (f (.int i t) (.int j u)) Q E s) :
  eO X f (rI C fun i j=>.int (g i j)):=by
 intro pins s σ H x y v u Q I rx ry h;obtain⟨i,j,rfl,rfl,hc,q⟩:=h;obtain⟨t,rfl⟩:=rx;obtain⟨t',rfl⟩:=ry;exact rule i j t t' s _ _ hc ⟨.int (g i j),H,I.tok _,⟨_,rfl⟩,q⟩
theorem nS {f:Value->Value->Sem Value}{g:Int->Int->Int}
  (rule:∀(i j:Int) (t u:Tok) (s:Shared) (Q:Value->Shared->Prop) (E:Value->Shared->Prop),Q (.int (g i j) s.toks) { s with toks:=s.toks+1 }->wpAny (model X.prog X.w) X.A (f (.int i t) (.int j u)) Q E s) :
  eO X f (oZ fun i j=>.int (g i j)):=by
 intro pins s σ H x y v u Q I rx ry h;obtain⟨i,j,rfl,rfl,q⟩:=h;obtain⟨t,rfl⟩:=rx;obtain⟨t',rfl⟩:=ry;exact rule i j t t' s _ _ ⟨.int (g i j),H,I.tok _,⟨_,rfl⟩,q⟩
theorem ve {f:Value->Value->Sem Value}{g:Int->Int->Bool}
  (rule:∀(i j:Int) (t u:Tok) (s:Shared) (Q:Value->Shared->Prop) (E:Value->Shared->Prop),Q (.bool (g i j)) s->wpAny (model X.prog X.w) X.A (f (.int i t) (.int j u)) Q E s) :
  eO X f (oZ fun i j=>.bl (g i j)):=by
 intro pins s σ H x y v u Q I rx ry h;obtain⟨i,j,rfl,rfl,q⟩:=h;obtain⟨t,rfl⟩:=rx;obtain⟨t',rfl⟩:=ry;exact rule i j t t' s _ _ ⟨.bl (g i j),H,I,rfl,q⟩
def CDiv (i j:Int):Prop:=0<j/\j<1073741824
def Cu (i j:Int):Prop:=0<=j/\j<=1000000/\i.natAbs<2 ^ 64
def Av (i j:Int):Prop:=(-(2 ^ 64)<i/\i<2 ^ 64)\/(-(2 ^ 64)<j/\j<2 ^ 64)
theorem Av.ok {i j:Int}(h:Av i j):IntMulOk i j:=by
 rcases h with ⟨h1,h2⟩ | ⟨h1,h2⟩
 ·exact .of_left (intBits_le_64 h1 h2)
 ·exact .of_right (intBits_le_64 h1 h2)
theorem oJ (k:Nat):(0:Int)<=2 ^ k:=by
 rw[two_pow_cast];exact gr _
theorem yM:eO X (binaryOp .Add) (oZ fun i j=>.int (i+j)):=nS fun _ _ _ _ _ _ _ q=>add_int q
theorem zd:eO X (binaryOp .Sub) (oZ fun i j=>.int (i - j)):=nS fun _ _ _ _ _ _ _ q=>sub_int q
theorem yL:eO X (binaryOp .Mult) (rI Av fun i j=>.int (i*j)):=AN fun _ _ _ _ _ _ _ hc q=>mul_int q hc.ok
theorem vm:eO X (binaryOp .FloorDiv) (rI CDiv fun i j=>.int (i / j)):=AN fun i j _ _ _ _ _ hc q=>by
 have h1:(0:Int)<j:=hc.1;have h2:j<1073741824:=hc.2;exact floordiv_int (by omega) (by rw[Int.fdiv_eq_ediv_of_nonneg i (by omega)];exact q) (.inl (PyProof.noPylong_small (by omega)))
theorem yF:eO X (binaryOp .Mod) (rI (fun _ j=>0<j) fun i j=>.int (i%j)):=AN fun i j _ _ _ _ _ hc q=>by
 have h1:(0:Int)<j:=hc;exact mod_int' (by omega) (by rw[Int.fmod_eq_emod_of_nonneg i (by omega)];exact q)
theorem z8:eO X (binaryOp .Pow) (rI Cu fun i j=>.int (i ^ j.toNat)):=AN fun _ _ _ _ _ _ _ hc q=>pow_int_small hc.1 hc.2.1 hc.2.2 q
theorem zC:eO X (binaryOp .LShift) (rI Cu fun i j=>.int (i*2 ^ j.toNat)):=AN fun _ _ _ _ _ _ _ hc q=>lshift_int_small hc.1 hc.2.1 hc.2.2 q
theorem zK:eO X (binaryOp .RShift) (rI (fun _ j=>0<=j) fun i j=>.int (i / 2 ^ j.toNat)):=AN fun i j _ _ _ _ _ hc q =>
 rshift_int hc (by rw[Int.fdiv_eq_ediv_of_nonneg i (oJ _)];exact q)
theorem zP:eO X (binaryOp .BitAnd) (oZ fun i j=>.int (Builtin.bitAnd i j)):=nS fun _ _ _ _ _ _ _ q=>and_int q
theorem AZ:eO X (binaryOp .BitOr) (oZ fun i j=>.int (Builtin.bitOr i j)):=nS fun _ _ _ _ _ _ _ q=>or_int q
theorem y4:eO X (binaryOp .BitXor) (oZ fun i j=>.int (Builtin.bitXor i j)):=nS fun _ _ _ _ _ _ _ q=>xor_int q
theorem xm:eO X (inplaceOp .Add) (oZ fun i j=>.int (i+j)):=nS fun _ _ _ _ _ _ _ q=>iadd_int q
theorem vc:eO X (inplaceOp .Sub) (oZ fun i j=>.int (i - j)):=nS fun _ _ _ _ _ _ _ q=>isub_int q
theorem unI {f:Value->Sem Value}{g:Int->Int}
  (rule:∀(i:Int) (t:Tok) (s:Shared) (Q:Value->Shared->Prop) (E:Value->Shared->Prop),Q (.int (g i) s.toks) { s with toks:=s.toks+1 }->wpAny (model X.prog X.w) X.A (f (.int i t)) Q E s) :
  UnR X f (rU fun i=>.int (g i)):=by
 intro pins s σ H x v Q I rx h;obtain⟨i,rfl,q⟩:=h;obtain⟨t,rfl⟩:=rx;exact rule i t s _ _ ⟨.int (g i),H,I.tok _,⟨_,rfl⟩,q⟩
theorem AK:UnR X (unaryOp .USub) (rU fun i=>.int (-i)):=unI fun _ _ _ _ _ q=>neg_int q
end
noncomputable def cM:V->V->Bool
 |.non,.non=>true | .non,.int _=>true | .int _,.non=>true | .non,.bl _=>true | .bl _,.non=>true | .non,.str _=>true | .str _,.non=>true
 |.int _,.int _=>true | .bl _,.bl _=>true | .str _,.str _=>true | .byt _,.byt _=>true
 |.int _,.str _=>true | .str _,.int _=>true | .bl _,.str _=>true | .str _,.bl _=>true
 |_,_=>false
section
variable {X:Cx}{a b c:Expr}{ta tb tc:TE}{pos:Pos}
theorem oO {pins:List (Addr×Obj)}{σ:St}{H:Hp}{s:Shared}{Q:VK}{k k':Bool}(I:Inv X pins σ H s)(q:Q (.bl k) H)(e:k=k'):EP X pins σ Q (.bool k') s:=by
 subst e;exact⟨.bl k,H,I,rfl,q⟩
theorem Bf:eO X (compareOp .Lt) (oZ fun i j=>.bl (decide (i<j))):=ve fun _ _ _ _ _ _ _ q=>lt_int q
theorem Cq:eO X (compareOp .LtE) (oZ fun i j=>.bl (decide (i<=j))):=ve fun _ _ _ _ _ _ _ q=>le_int q
theorem A5:eO X (compareOp .Gt) (oZ fun i j=>.bl (decide (j<i))):=ve fun _ _ _ _ _ _ _ q=>gt_int q
theorem A7:eO X (compareOp .GtE) (oZ fun i j=>.bl (decide (j<=i))):=ve fun _ _ _ _ _ _ _ q=>ge_int q
theorem qV:eO X (compareOp .In) (fun x y H Q=>∃ i j,x = .str i/\y = .str j/\Q (.bl (!(Builtin.Str.occurrences j i 0 j.length 1).isEmpty)) H):=by
 intro pins s σ H x y v u Q I rx ry h;obtain⟨i,j,rfl,rfl,q⟩:=h;obtain⟨t,rfl⟩:=rx;obtain⟨t',rfl⟩:=ry;exact in_str (oO I q rfl)
theorem Ai:eO X (compareOp .Is) (fun x y H Q=>y = .non/\Q (.bl (decide (x = .non))) H):=by
 intro pins s σ H x y v u Q I rx ry h;obtain⟨rfl,q⟩:=h;cases ry;refine is_none_gen (oO I q ?_);cases x<;>first
  | (cases rx;rfl)
  | (obtain⟨t,rfl⟩:=rx;rfl)
theorem wq:eO X (compareOp .IsNot) (fun x y H Q=>y = .non/\Q (.bl (!decide (x = .non))) H):=by
 intro pins s σ H x y v u Q I rx ry h;obtain⟨rfl,q⟩:=h;cases ry;refine isnot_none_gen (oO I q ?_);cases x<;>first
  | (cases rx;rfl)
  | (obtain⟨t,rfl⟩:=rx;rfl)
theorem vZ {op:CmpOp}{r:R2}(ho:eO X (compareOp op) r)(ha:PE X a ta)(hb:PE X b tb)(hm:behindInMarks op b=false):PE X (.Compare a [op] [b] pos) (AU r ta tb):=by
 intro pins s σ H Q I h;exact wpAny_Compare1 (y6 ha hb I h fun v u s2 x y H2 I2 rx ry q=>ho pins s2 σ H2 x y v u Q I2 rx ry q) hm
def Ba (t:TE):TT:=fun σ H Q=>t σ H fun x H'=>∃ k,x = .bl k/\Q k H'
theorem vw {op:CmpOp}{r:R2}(ho:eO X (compareOp op) r)(ha:PE X a ta)(hb:PE X b tb)(hm:behindInMarks op b=false):PT X (.Compare a [op] [b] pos) (Ba (AU r ta tb)):=by
 intro pins s σ H Q I h;refine wpAny_isTrue_Compare1 (bW (ha pins s σ H _ I h) fun v s1 ⟨x,H1,I1,r1,q1⟩=>bW (hb pins s1 σ H1 _ I1 q1) fun u s2 ⟨y,H2,I2,r2,q2⟩ =>
  bW (ho pins s2 σ H2 x y v u _ I2 r1 r2 q2) fun c s3 ⟨z,H3,I3,r3,k,e,q3⟩=>?_) hm
 subst e;cases r3;exact wpAny_truthy_bool ⟨H3,I3,q3⟩
noncomputable def z7 (K:PySem.W.Frag)(x:V)(H:Hp)(k:Bool):Prop :=
 match x with
 |.non=>k=false
 |.bl b=>k=b
 |.int i=>k=(i != 0)
 |.str y=>y.length<=sizeLine/\k=((y.length:Int) != 0)
 |.byt y=>y.size<=sizeLine/\k=((y.size:Int) != 0)
 |.ref p=>(∃ xs,j6 K H p xs/\k = !xs.isEmpty)\/(∃ xs,gH K H p xs/\k = !xs.isEmpty)\/∃ kvs,H p=some (.dK kvs)/\k = !kvs.isEmpty
 |_=>False
theorem oz {κ:Type}{kvs:List (κ×V)}{vs:List (κ×Value)}(r:KV kvs vs):(!vs.isEmpty) = !kvs.isEmpty:=by
 cases r<;>rfl
theorem jt {xs:List V}{its:List Value}(r:aH xs its):(!its.toArray.isEmpty) = !xs.isEmpty:=by
 cases r<;>simp
theorem gK:(sizeLine:Nat)<2 ^ 63:=by rw[sizeLine_eq];decide
theorem zj:TruR X (fun x H Q=>∃ k,z7 X.K x H k/\Q k H):=by
 intro pins s σ H x v Q I rx h;obtain⟨k,e,q⟩:=h;have hl:=gK;have hs:sizeLine=16777216:=sizeLine_eq;cases x with
 |non =>
  cases rx;have e':k=false:=e;subst e';exact truthy_none ⟨H,I,q⟩
 |bl b =>
  cases rx;have e':k=b:=e;subst e';exact wpAny_truthy_bool ⟨H,I,q⟩
 |int i =>
  obtain⟨t,rfl⟩:=rx;have e':k=(i != 0):=e;subst e';exact PySem.P.truthy_int ⟨H,I,q⟩
 |str y =>
  obtain⟨t,rfl⟩:=rx;obtain⟨hy,e'⟩:y.length<=sizeLine/\k=((y.length:Int) != 0):=e;subst e';exact PySem.P.truthy_str (by omega) ⟨H,I.tok _,q⟩
 |byt y =>
  obtain⟨t,rfl⟩:=rx;obtain⟨hy,e'⟩:y.size<=sizeLine/\k=((y.size:Int) != 0):=e;subst e';exact PySem.W.truthy_bytes (by omega) ⟨H,I.tok _,q⟩
 |ref p =>
  cases rx;have e':(∃ xs,j6 X.K H p xs/\k = !xs.isEmpty)\/(∃ xs,gH X.K H p xs/\k = !xs.isEmpty)\/∃ kvs,H p=some (.dK kvs)/\k = !kvs.isEmpty:=e;rcases e' with ⟨xs,hx,e'⟩ | ⟨xs,hx,e'⟩ | ⟨kvs,hx,e'⟩
  ·subst e';obtain⟨its,r,pl,hz⟩:=I.list hx;have hlen:=r.length;exact wpAny_truthy_list pl.isList (by simp only[List.size_toArray];omega) ⟨H,I.tok _,by rw[jt r];exact q⟩
  ·subst e';obtain⟨its,r,pl,hz⟩:=I.tuple hx;have hlen:=r.length;exact truthy_tuple pl (by simp only[List.size_toArray];omega) ⟨H,I.tok _,by rw[jt r];exact q⟩
  ·subst e';obtain⟨hz,hS,vs,r,m⟩:kvs.length<=sizeLine/\(p==sysModules)=false/\∃ vs,KV kvs vs/\s.heap.DictOf (aI X.prog X.w) p vs:=I.hok p _ hx;have hlen:kvs.length=vs.length:=Paired.length r;exact wpAny_truthy_dict hS m (by omega) ⟨H,I.tok _,by rw[oz r];exact q⟩
 |_=>exact (show False from e).elim
theorem tw (ha:PE X a ta)(he:∀ whole,isTrue a X.env whole=(do let v <- whole;standAt a.pos;holding [v] (truthy v))) :
  PT X a (fun σ H Q=>ta σ H fun x H'=>∃ k,z7 X.K x H' k/\Q k H'):=by
 intro pins s σ H Q I h;exact isTrue_plain (bW (ha pins s σ H _ I h) fun v s1 ⟨x,H1,I1,r1,q1⟩=>zj pins s1 σ H1 x v Q I1 r1 q1) (he _)
theorem oT:eO X (binaryOp .Add) (fun x y H Q=>∃ i j,x = .str i/\y = .str j/\i.length+j.length<=sizeLine/\Q (.str (i++j)) H):=by
 intro pins s σ H x y v u Q I rx ry h;obtain⟨i,j,rfl,rfl,hz,q⟩:=h;obtain⟨t,rfl⟩:=rx;obtain⟨t',rfl⟩:=ry;exact add_str (fun t' tk=>⟨.str (i++j),H,I.tok _,⟨_,rfl⟩,q⟩) hz
theorem vals1 {x:V}{us:List Value}(r:aH [x] us):∃ u,us=[u]/\RelV x u:=by
 cases r with
 |cons r1 r2=>cases r2;exact⟨_,rfl,r1⟩
end
end L2
namespace L2
open PySem PySem.Spec PyProof.Rows
structure ObjM (h:Heap)(x dx C:Addr)(mA:Str->Option Value):Prop where
 obj:h.get? x=some (PySem.W.instObj C dx)
 ns:h.Ns1 dx mA
 ne:dx≠x
section
variable {prog:Program}{w:World}{A:Around}{E:Value->Shared->Prop}{s:Shared}{K:PySem.W.Frag}{x dx C f:Addr}{mA:Str->Option Value}{name:Str}{v:Value}
end
section
variable {P:Program}{w:World}{H H':Hp}{h h':Heap}{a C dx:Addr}{fs fs':List (Str×V)}
end
structure Cls (K:PySem.W.Frag)(C:Addr):Prop where
 pg:PySem.W.plainGet K C Str.empty=true
 hd:PySem.W.hasDictIn K C=true
 po:PySem.W.plainOver K C=true
 sa:PySem.W.findIn K (.ref C) "__setattr__" = some (some (.builtin "object.__setattr__"))
structure Con (K:PySem.W.Frag)(C:Addr)(f:Str)(v:V)(u:Value):Prop where
 at_:PySem.W.findIn K (.ref C) f=some (some u)
 rel:RelV v u
 get:PySem.W.specialIn K u "__get__" = some none
 cp:PySem.W.copiedNames.contains f=false
structure Meth (K:PySem.W.Frag)(C:Addr)(m:Str)(f:Addr):Prop where
 at_:PySem.W.findIn K (.ref C) m=some (some (.ref f))
 fn:PySem.W.isFn K (.ref f)=true
 kp:PySem.W.keepIn K (.ref f)=true
section
variable {X:Cx}{pins:List (Addr×Obj)}{σ:St}{H:Hp}{s:Shared}{a C dx:Addr}{fs:List (Str×V)}{f:Str}{v:V}{A:Around}{E:Value->Shared->Prop}
end
section
variable {X:Cx}{o e value:Expr}{f:Str}{pos pos' tpos:Pos}{ta tv:TE}
end
section
variable {X:Cx}{pins:List (Addr×Obj)}{σ:St}{H:Hp}{s:Shared}{A:Around}{E:Value->Shared->Prop}{Q:Value->Shared->Prop}{c:Value}{b:Bool}
inductive jI (K:PySem.W.Frag) (H:Hp):V->Value->Prop where
 | non:jI K H .non (.type "NoneType")
 | bl (x:Bool):jI K H (.bl x) (.type "bool")
 | int (i:Int):jI K H (.int i) (.type "int")
 | str (x:Str):jI K H (.str x) (.type "str")
 | flt (x:UInt64):jI K H (.flt x) (.type "float")
 | lst {a:Addr}{xs:List V}(e:H a=some (.lst xs)):jI K H (.ref a) (.type "list")
 | frz {a:Addr}{o:Obj}{xs:List V}(e:H a=some (.frz o (.lst xs))):jI K H (.ref a) (.type "list")
 | tup {a:Addr}{xs:List V}(e:H a=some (.tup xs)):jI K H (.ref a) (.type "tuple")
 | dK {a:Addr}{kvs:List (Key×V)}(e:H a=some (.dK kvs)):jI K H (.ref a) (.type "dict")
 | dT {a:Addr}{kvs:List (List Key×V)}(e:H a=some (.dT kvs)):jI K H (.ref a) (.type "dict")
 | ins {a C dx:Addr}{fs:List (Str×V)}(e:H a=some (.ins C dx fs)) (cl:Cls K C) (ha:PySem.W.findIn K (.ref C) "__class__" = some (some (.builtin "object.__class__")))
   (hn:PySem.W.specialIn K (.builtin "object.__class__") "__get__" = some (some (.builtin "getset_descriptor.__get__"))) (htk:PySem.W.takesIn K (.builtin "object.__class__")=some true)
   (hm:PySem.W.mroIn K C (.type "object")=some true):jI K H (.ref a) (.ref C)
end
end L2
namespace L2
open PySem PySem.Spec PyProof.Rows
structure fL (k:Nat)(A:Around):Prop where
 hd:A.handled=none
 dp:A.depth+3*k+5<recursionLimit
 un:A.units+16*k+200<cLine
theorem fL.deeper {k:Nat}{A:Around}(r:fL (k+1) A)(env:Env):fL k (A.deeper env) :=
 ⟨r.hd,by have:=r.dp;show A.depth+1+3*k+5<_;omega,by have:=r.un;show A.units+3+16*k+200<_;omega⟩
theorem fL.depth {k:Nat}{A:Around}(r:fL k A):A.depth<recursionLimit:=by have:=r.dp;omega
theorem fL.units {k:Nat}{A:Around}(r:fL k A):A.units+64<cLine:=by have:=r.un;omega
def AB:TA:=fun _ H Q=>Q [] H
def uj (ta:TE)(tr:TA):TA:=fun σ H Q=>ta σ H fun x H1=>tr σ H1 fun xs H2=>Q (x::xs) H2
section
variable {X:Cx}{e:Expr}{es:List Expr}{te:TE}{t:TA}{pos:Pos}
theorem oF:PA X [] AB:=fun _ _ _ _ H Q I h=>Calls.spliced_nil ⟨[],H,I,.nil,h⟩
theorem i7 (ha:PE X e te)(hr:PA X es t)(hs:starEach (e::es) X.env=(false,eval e X.env)::starEach es X.env:=by rfl):PA X (e::es) (uj te t):=by
 intro pos pins s σ H Q I h;rw[hs];show wpAny _ _ (spliced ((false,eval e X.env)::backTo pos (starEach es X.env))) _ _ s;refine Calls.spliced_cons (bW (ha pins s σ H _ I h) fun u s1 ⟨x,H1,I1,r1,q1⟩=>?_);exact bW (hr pos pins s1 σ H1 _ I1 q1) fun us s2 ⟨xs,H2,I2,r2,q2⟩=>⟨x::xs,H2,I2,.cons r1 r2,q2⟩
def tTup (t:TA):TE:=fun σ H Q=>t σ H fun xs H1=>xs.length<=sizeLine/\∀ p,H1 p=none->Q (.ref p) (upd H1 p (.tup xs))
def tLst (t:TA):TE:=fun σ H Q=>t σ H fun xs H1=>xs.length<=sizeLine/\∀ p,H1 p=none->Q (.ref p) (upd H1 p (.lst xs))
theorem zi {x1}(h:PA X es t):PE X (.Tuple es x1 pos) (tTup t):=by
 intro pins s σ H Q I hq;refine wpAny_Tuple_spliced (bW (h pos pins s σ H _ I hq) fun us s1 ⟨xs,H1,I1,r,z,q⟩=>⟨by rw[<-r.length];exact z,?_⟩);have hf:H1 s1.heap.objs.size=none:=I1.hok.fresh (ai _);refine⟨.ref s1.heap.objs.size,upd H1 s1.heap.objs.size (.tup xs),I1.laid (t':=s1.toks) (fun b u e=>Heap.get?_push_of_some _ e) (ai _) ?_,rfl,q _ hf⟩;exact⟨z,us,r,⟨_,Heap.get?_push_size _ rfl,rfl,_,rfl⟩⟩
theorem tL (h:PA X es t):PE X (.List es pos) (tLst t):=by
 intro pins s σ H Q I hq;refine wpAny_List_spliced (bW (h pos pins s σ H _ I hq) fun us s1 ⟨xs,H1,I1,r,z,q⟩=>⟨by rw[<-r.length];exact z,?_⟩);have hf:H1 s1.heap.objs.size=none:=I1.hok.fresh (ai _);refine⟨.ref s1.heap.objs.size,upd H1 s1.heap.objs.size (.lst xs),I1.laid (t':=s1.toks) (fun b u e=>Heap.get?_push_of_some _ e) (ai _) ?_,rfl,q _ hf⟩;exact⟨z,us,0,r,Heap.get?_push_size _ rfl⟩
end
noncomputable abbrev Sp:=List V->Hp->VK->XK->Prop
noncomputable abbrev uN:=List Env->Hp->Shared->XK->Value->Shared->Prop
structure xl (P:Program)(w:World)(K:PySem.W.Frag)(mg:Str->Option Value)(base:Heap)(A:Around)(outer:List Env)(s:Shared)(H:Hp):Prop where
 frames:A.frames=some outer
 mod:Mod K mg base
 bs:∀ b o,base.get? b=some o->s.heap.get? b=some o/\H b=none
 bsz:base.objs.size<=s.heap.objs.size
 funs:s.heap.FunFrames base outer
 frf:∀ b∈tq outer,H b=none
 hok:iF P w H s.heap
 bare:AllBare s.gens
noncomputable def CE (outer:List Env)(P:Program)(w:World)(H:Hp)(s:Shared)(Q:VK)(u:Value)(s':Shared):Prop :=
 ∃ v H',s'.os=s.os/\AllBare s'.gens/\Un (tq outer) [] H H' s.heap s'.heap/\iF P w H' s'.heap/\RelV v u/\Q v H'
noncomputable def CR (CX:uN)(outer:List Env)(P:Program)(w:World)(H:Hp)(s:Shared)(Q:VK)(E:XK)(r:Result)(s':Shared):Prop :=
 match r with
 | .ok (.ret u)=>CE outer P w H s Q u s'
 |.ok _=>False
 |.error e=>CX outer H s E e s'
structure lA (P:Program)(w:World)(K:PySem.W.Frag)(mg:Str->Option Value)(base:Heap)(CX:uN)(k:Nat)(f:Addr)(fd:FuncData)(ps:List Str)(sp:Sp):Prop where
 len:∀ vs H Q E,sp vs H Q E->vs.length=ps.length
 run:∀(A:Around) (outer:List Env) (s:Shared) (H:Hp) (args:Args) (us:List Value) (vs:List V) (Q:VK) (E:XK),fL k A->xl P w K mg base A outer s H->BindsTo s fd args (ps.zip us)->aH vs us->sp vs H Q E ->
  codeAny (model P w) A (.call (.ref f) args) (CR CX outer P w H s Q E) s
section
variable {X:Cx}{pins:List (Addr×Obj)}{σ:St}{H:Hp}{s s':Shared}
theorem Inv.env0 (I:Inv X pins σ H s):xl X.prog X.w X.K X.mg X.base X.A X.stack s H :=
 ⟨I.ok.frames,I.ok.mod,I.bs,bh I.ok.bsz I.sz,I.stack,I.stkFree,I.hok,I.bare⟩
theorem Inv.after {Q:VK}{u:Value}(I:Inv X pins σ H s)(h:CE X.stack X.prog X.w H s Q u s'):EP X pins σ Q u s':=by
 obtain⟨v,H',os,bare,un,hok,r,q⟩:=h;obtain⟨hh,g,d,t,os'⟩:=s';obtain rfl:os'=s.os:=os;exact⟨v,H',I.call (h':=hh) (g':=g) (d':=d) (t':=t) (ch:=[]) un hok bare (fun b z=>absurd z (by simp)),r,q⟩
end
def uo (sp:Sp)(dvs:List V)(E:XK)(t:TA):TE:=fun σ H Q=>t σ H fun vs H1=>sp (vs++dvs) H1 Q E
noncomputable def Binds (K:PySem.W.Frag)(fd:FuncData)(ps:List Str)(ds:List Value):Prop :=
 ∀(s:Shared) (us:List Value),K.In s.heap->(us++ds).length=ps.length->BindsTo s fd ⟨us,[]⟩ (ps.zip (us++ds))
theorem Binds.all {K:PySem.W.Frag}{fd:FuncData}{ps:List Str}(h:∀ us:List Value,us.length=ps.length->bindArgs fd ⟨us,[]⟩=pure (ps.zip us)):Binds K fd ps []:=fun s us _ hl=>by
 rw[ax] at hl ⊢;exact .of_eq (h us hl)
def lC (CX:uN)(X:Cx)(E:XK):Prop:=∀(pins:List (Addr×Obj)) (σ:St) (H:Hp) (s:Shared) (e:Value) (s':Shared),Inv X pins σ H s->CX X.stack H s E e s'->X.xe e s'
section
variable {X:Cx}{CX:uN}{k:Nat}{f C:Addr}{fd:FuncData}{ps:List Str}{sp:Sp}{dvs:List V}{ds:List Value}{E:XK}{x m:Str}{p pos apos:Pos}{e o:Expr}{es:List Expr}{ta:TE}{t:TA}
theorem sy {pins:List (Addr×Obj)}{σ:St}{H:Hp}{s:Shared}{Q:VK}{us:List Value}{vs:List V}(F:lA X.prog X.w X.K X.mg X.base CX k f fd ps sp)(hr:fL k X.A)(hb:Binds X.K fd ps ds)(hd:aH dvs ds)(hx:lC CX X E)
  (I:Inv X pins σ H s) (r:aH vs us) (h:sp (vs++dvs) H Q E):wpAny (model X.prog X.w) X.A (call (.ref f) us) (EP X pins σ Q) X.xe s:=by
 have r2:aH (vs++dvs) (us++ds):=r.append hd;have hl:(us++ds).length=ps.length:=by rw[<-r2.length];exact F.len _ _ _ _ h
 refine wpAny_call (codeAny_mono (F.run X.A X.stack s H ⟨us,[]⟩ (us++ds) (vs++dvs) Q E hr I.env0 (hb s us I.kIn hl) r2 h) fun r s' hq=>?_);cases r with
 |error e=>exact hx pins σ H s e s' I hq
 |ok fl =>
  cases fl with
  |ret u=>exact I.after hq
  |next=>exact False.elim hq
  |brk=>exact False.elim hq
  |cont=>exact False.elim hq
theorem vD (F:lA X.prog X.w X.K X.mg X.base CX k f fd ps sp)(hr:fL k X.A)(hg:Gl X x)(hm:X.mg x=some (.ref f))(hk:PySem.W.keepIn X.K (.ref f)=true)(hb:Binds X.K fd ps ds)(hd:aH dvs ds)(hx:lC CX X E)
  (ha:PA X (e::es) t) (hdb:(x==("__debug__" : Str))=false:=by decide) (he:starEach (e::es) X.env=(false,eval e X.env)::starEach es X.env:=by rfl) (hpl:(backTo pos (starEach es X.env)).any (·.1)=false:=by rfl) :
  PE X (.Call (.Name x p) (e::es) [] pos) (uo sp dvs E t):=by
 intro pins s σ H Q I h;refine wpAny_Call_Name_kw (lI I hg hm ?_ hdb);refine PySem.W.callWith_K (h₀:=X.base) I.ok.mod.kin hk (bW (ha pos pins s σ H _ I h) fun us s1 ⟨vs,H1,I1,r,q⟩=>⟨I1.kIn,?_⟩) he hpl;exact sy F hr hb hd hx I1 r q
theorem rR (F:lA X.prog X.w X.K X.mg X.base CX k f fd ps sp)(hr:fL k X.A)(hg:Gl X x)(hm:X.mg x=some (.ref f))(hk:PySem.W.keepIn X.K (.ref f)=true)(hb:Binds X.K fd ps ds)(hd:aH dvs ds)(hx:lC CX X E)
  (hdb:(x==("__debug__" : Str))=false:=by decide):PE X (.Call (.Name x p) [] [] pos) (uo sp dvs E AB):=by
 intro pins s σ H Q I h;refine wpAny_Call_Name_kw (lI I hg hm ?_ hdb);exact PySem.W.callWith_K0 I.kIn hk (sy (us:=[]) F hr hb hd hx I .nil h)
structure Mk (K:PySem.W.Frag)(C f:Addr):Prop where
 makes:PySem.W.makesIn K C=true
 init:PySem.W.findIn K (.ref C) "__init__" = some (some (.ref f))
 fn:PySem.W.isFn K (.ref f)=true
 kp:PySem.W.keepIn K (.ref C)=true
end
section
variable {X:Cx}{CX:uN}{k:Nat}{f C:Addr}{fd:FuncData}{ps ks:List Str}{sp:Sp}{E:XK}{x m:Str}{p pos apos kpos:Pos}{e o:Expr}{es:List Expr}{kws:List Keyword}{te ta:TE}{t tk:TA}{nm:Option Str}
structure KBinds (K:PySem.W.Frag)(fd:FuncData)(ps ks:List Str)(g:List Value->List Value->List Value)(gV:List V->List V->List V):Prop where
 to:∀(s:Shared) (us ws:List Value),K.In s.heap->(g us ws).length=ps.length->BindsTo s fd ⟨us,ks.zip ws⟩ (ps.zip (g us ws))
 rel:∀{vs:List V}{us:List Value}{zs:List V}{ws:List Value},aH vs us->aH zs ws->aH (gV vs zs) (g us ws)
variable {g:List Value->List Value->List Value}{gV:List V->List V->List V}
end
structure jf (N P:List Str)(sc:Scope):Prop where
 kind:sc.kind = .function
 co:sc.isCoroutine=false
 gen:sc.isGenerator=false
 nd:N.Nodup
 pre:N.take P.length=P
 par:∀ x∈P,sc.names.lookup x=some .local\/sc.names.lookup x=some .cell
 nofree:∀ y∈sc.names,y.2≠.free
theorem k6 {kindOf:Str->Option NameKind}{x:Str}:∀{binds:List (Str×Value)}{m:Str->Option Value},(∀ v,(x,v)∉binds)->bindL kindOf binds m x=m x
 |[],_,_=>rfl
 | (n,v)::r,m,h=>by
  unfold bindL;rw[k6 fun w hw=>h w (ae _ hw)];split
  ·have:x≠n:=by rintro rfl;exact h v ao
   simp[this]
  ·rfl
theorem ko {kindOf:Str->Option NameKind}{x:Str}:∀{binds:List (Str×Value)}{m:Str->Option Value},(∀ v,(x,v)∉binds)->bindC kindOf binds m x=m x
 |[],_,_=>rfl
 | (n,v)::r,m,h=>by
  unfold bindC;rw[ko fun w hw=>h w (ae _ hw)];split
  ·rfl
  ·have:x≠n:=by rintro rfl;exact h v ao
   simp[this]
theorem kl {kindOf:Str->Option NameKind}{x:Str}{v:Value}:∀{P:List Str}{vs:List Value}{i:Nat}{m:Str->Option Value},P.Nodup->P[i]? = some x->vs[i]? = some v->kindOf x=some .local ->
  bindL kindOf (P.zip vs) m x=some v
 |[],_,_,_,_,h,_,_=>by simp at h
 |_::_,[],_,_,_,_,h,_=>by simp at h
 | p::P,w::vs,0,m,nd,h1,h2,hk=>by
  simp at h1 h2;subst h1;subst h2;show bindL kindOf ((p,w)::P.zip vs) m p=_;unfold bindL;rw[k6 fun v hv=>(List.nodup_cons.mp nd).1 (List.of_mem_zip hv).1,if_pos hk];simp
 | p::P,w::vs,i+1,m,nd,h1,h2,hk=>by
  show bindL kindOf ((p,w)::P.zip vs) m x=_;unfold bindL;exact kl (i:=i) (List.nodup_cons.mp nd).2 (by simpa using h1) (by simpa using h2) hk
theorem lg {kindOf:Str->Option NameKind}{x:Str}{v:Value}:∀{P:List Str}{vs:List Value}{i:Nat}{m:Str->Option Value},P.Nodup->P[i]? = some x->vs[i]? = some v->kindOf x≠some .local ->
  bindC kindOf (P.zip vs) m x=some v
 |[],_,_,_,_,h,_,_=>by simp at h
 |_::_,[],_,_,_,_,h,_=>by simp at h
 | p::P,w::vs,0,m,nd,h1,h2,hk=>by
  simp at h1 h2;subst h1;subst h2;show bindC kindOf ((p,w)::P.zip vs) m p=_;unfold bindC;rw[ko fun v hv=>(List.nodup_cons.mp nd).1 (List.of_mem_zip hv).1,if_neg hk];simp
 | p::P,w::vs,i+1,m,nd,h1,h2,hk=>by
  show bindC kindOf ((p,w)::P.zip vs) m x=_;unfold bindC;exact lg (i:=i) (List.nodup_cons.mp nd).2 (by simpa using h1) (by simpa using h2) hk
noncomputable def start (N:List Str)(vs:List V):St:=vs.map some++List.replicate (N.length - vs.length) none
noncomputable def oq (CX:uN)(P:Program)(w:World)(K:PySem.W.Frag)(mg:Str->Option Value)(base:Heap)(N:List Str)(qual:Str)(scope:Scope)(f:Addr)(cd:Value)(A:Around)(outer:List Env)(s:Shared)(H:Hp)(E:XK):Cx where
 prog:=P
 w:=w
 K:=K
 mg:=mg
 base:=base
 A:=A.deeper (envOfC qual scope s.heap.objs.size f cd)
 N:=N
 s₀:=s
 H₀:=H
 env:=envOfC qual scope s.heap.objs.size f cd
 outer:=outer
 stack:=envOfC qual scope s.heap.objs.size f cd::outer
 ex:=[]
 calm:=true
 fn:=fun _=>true
 pn:=[]
 xe:=fun e s'=>wpAny (model P w) (A.deeper (envOfC qual scope s.heap.objs.size f cd)) (leaving (envOfC qual scope s.heap.objs.size f cd) e) (fun _ s''=>CX outer H s E e s'') (fun e' s''=>CX outer H s E e' s'') s'
theorem mX {sc:Scope}{n:Nat}{x:Str}(h:sc.names.lookup x=some .cell):∃ c,(cellsFrom n sc.names []).lookup x=some c:=by
 have q:=PySem.W.cellsFrom_some sc.names n [] (.inl h);exact Option.isSome_iff_exists.mp q
theorem qE {CX:uN}{P:Program}{w:World}{K:PySem.W.Frag}{mg:Str->Option Value}{base:Heap}{N ps:List Str}{qual:Str}{scope:Scope}{f:Addr}{cd:Value}{A:Around}{outer:List Env}{s s1:Shared}{H:Hp}{E:XK}{us:List Value}{vs:List V}
  (S:jf N ps scope) (hd:A.handled=none) (e0:xl P w K mg base A outer s H) (hl:vs.length=ps.length) (r:aH vs us)
  (x:InCallC s s.heap.objs.size (bindL (envOfC qual scope s.heap.objs.size f cd).kindOf (ps.zip us) fun _=>none) (cellsFrom (s.heap.objs.size+1) scope.names []) (bindC (envOfC qual scope s.heap.objs.size f cd).kindOf (ps.zip us) fun _=>none) s1) :
  Inv (oq CX P w K mg base N qual scope f cd A outer s H E) [] (start N vs) H s1:=by
 have hpl:ps.length<=N.length:=by have:=gx List.length S.pre;rw[eo] at this;omega
 obtain⟨h1,tk,rfl,hk⟩:=x.done;have noA:∀ b:Addr,b∉(oq CX P w K mg base N qual scope f cd A outer s H E).ex:=fun b z=>absurd (show b∈([]:List Addr) from z) (by simp)
 refine⟨⟨e0.mod,S.kind,rfl,rfl,ai _,fun y z c h1 h2=>?_,fun y hy=>?_,fun y c _ h=>?_,fun _=>hd,Around.frames_deeper e0.frames,.inr ⟨rfl,rfl⟩,fun b z=>absurd z (noA b),e0.bs,e0.bsz,fun b _ _=>noA b,fun b z=>absurd z (noA b),e0.funs,e0.frf⟩,
  rfl,e0.bare,Un.kept hk,⟨_,x.toInCall.ns,fun i y v h1 h2 h3=>?_⟩,fun y c h=>⟨_,x.cell y c h⟩,e0.hok.fresh (Nat.le_refl _),fun y c h=>?_,fun p hp=>absurd (show p∈([]:List (Addr×Obj)) from hp) (by simp),e0.hok.kept hk,?_⟩
 ·exact name_of_addr x.apart (bp h1) (bp h2)
 ·have hy:scope.names.lookup y=some .cell\/scope.names.lookup y=some .free:=hy;rcases hy with hy | hy
  ·exact mX hy
  ·exact absurd rfl (S.nofree _ (bp hy))
 ·exact fm (x.above y c (bp h))
 ·have hi:i<vs.length:=by
   unfold start at h2;by_cases hi:i<vs.length
   ·exact hi
   ·rw[List.getElem?_append_right (by simpa using hi)] at h2;rw[List.getElem?_replicate] at h2;split at h2<;>cases h2
  have ha:vs[i]? = some v:=by
   unfold start at h2;rw[List.getElem?_append_left (by simpa using hi),List.getElem?_map] at h2;cases e:vs[i]? with
   |none=>rw[e] at h2;cases h2
   |some a=>rw[e] at h2;cases h2;rfl
  obtain⟨u,hu,rv⟩:=r.get ha;have hp:ps[i]? = some y:=by
   rw[<-S.pre,List.getElem?_take_of_lt (by omega)];exact h1
  have ndP:ps.Nodup:=by rw[<-S.pre];exact S.nd.sublist (List.take_sublist _ _)
  refine⟨u,rv,?_⟩;rcases S.par y (List.mem_of_getElem? hp) with k | k
  ·exact .inl ⟨k,kl ndP hp hu k⟩
  ·obtain⟨c,e⟩:=mX (n:=s.heap.objs.size+1) k;refine .inr ⟨.inl k,c,e,?_⟩;have q:=x.cell y c e;rw[lg ndP hp hu (by show scope.names.lookup y≠_;rw[k];decide)] at q;exact q
 ·exact e0.hok.fresh (fm (x.above y c (bp h)))
 ·unfold start;show _=N.length;rw[au,ak,fk];omega
theorem By {CX:uN}{P:Program}{w:World}{K:PySem.W.Frag}{mg:Str->Option Value}{base:Heap}{k:Nat}{f:Addr}{name qual:Str}{params:Arguments}{body:List Stmt}{scope:Scope}{dV kV doc pm cdv ct oc:Value}{an od:Option Addr}
  {osl:Array (Option Value)}{N ps:List Str}{sp:Sp}(lk:K.lookup f=some ⟨oc,od,.func (PySem.W.fnOf name qual params body scope dV kV doc pm an cdv ct),osl⟩) (hcd:PySem.W.codeIn K cdv qual=true) (S:jf N ps scope)
  (len:∀ vs H Q E,sp vs H Q E->vs.length=ps.length)
  (hbody:∀(A:Around) (outer:List Env) (s:Shared) (H:Hp) (vs:List V) (Q:VK) (E:XK),fL k (A.deeper (envOfC qual scope s.heap.objs.size f cdv))->sp vs H Q E ->
   ∃ t,kI (oq CX P w K mg base N qual scope f cdv A outer s H E) body t/\t { nx:=fun _ H'=>Q .non H',rt:=Q } (start N vs) H) :
  lA P w K mg base CX (k+1) f (PySem.W.fnOf name qual params body scope dV kV doc pm an cdv ct) ps sp:=by
 refine⟨len,fun A outer s H args us vs Q E hr e0 hb r hsp=>?_⟩;have hl:=len _ _ _ _ hsp;have KX:K.In s.heap:=e0.mod.kin.keeps fun b o e=>(e0.bs b o e).1
 have lim:s.heap.NoLimit:=e0.mod.nolimit.keeps fun b o e=>(e0.bs b o e).1
 have hkind:∀ y∈ps.zip us,scope.names.lookup y.1=some .local\/(scope.names.lookup y.1=some .cell/\((cellsFrom (s.heap.objs.size+1) scope.names []).lookup y.1).isSome=true):=fun ⟨n,v⟩ hy=>by
  rcases S.par n (List.of_mem_zip hy).1 with q | q
  ·exact .inl q
  ·exact .inr ⟨q,PySem.W.cellsFrom_some _ _ _ (.inl q)⟩
 refine codeAny_call_function hr.depth (KX _ _ lk) rfl S.co S.gen rfl (PySem.W.codeRec_of KX hcd) (hb _ _ _ _ ?_);refine wpAny_newFunctionEnv_cells S.kind hkind fun env he s1 x=>?_
 subst he;refine⟨lim.keeps x.toInCall.keep,codeAny_func ?_⟩;obtain⟨t,ht,hq⟩:=hbody A outer s H vs Q E (hr.deeper _) hsp;have I:Inv (oq CX P w K mg base N qual scope f cdv A outer s H E) [] (start N vs) H s1:=qE S hr.hd e0 hl r x;refine wpAny_mono (ht [] s1 (start N vs) H _ I hq) (fun fl s' hs=>?_) fun e s' hs=>hs
 have fin:∀{σ':St}{H':Hp}{v:V}{u:Value},Inv (oq CX P w K mg base N qual scope f cdv A outer s H E) [] σ' H' s'->RelV v u->Q v H'->CE outer P w H s Q u s' :=
  fun {σ' H' v u} J rv q=>⟨v,H',J.os,J.bare,J.base,J.hok,rv,q⟩
 cases fl with
 |ret u =>
  obtain⟨v,σ',H',J,rv,q⟩:=hs;exact fin J rv q
 |next =>
  obtain⟨σ',H',J,q⟩:=hs;exact fin (v:=V.non) (u:=Value.none) J rfl q
 |brk =>
  obtain⟨_,_,_,q⟩:=hs;exact False.elim q
 |cont =>
  obtain⟨_,_,_,q⟩:=hs;exact False.elim q
end L2
namespace L2
open PySem PySem.Spec PyProof.Rows
section
variable {X:Cx}{x:Str}{p pos:Pos}{e:Expr}{es:List Expr}{t:TA}{id T:String}{r:List V->Hp->VK->Prop}
def tCB (r:List V->Hp->VK->Prop)(t:TA):TE:=fun σ H Q=>t σ H fun vs H1=>r vs H1 Q
theorem mK (hc:fE X (.builtin id) r)(hg:Gl X x)(hm:X.mg x=none)(hv:bootBuiltins x=some (.builtin id))(ha:PA X (e::es) t)(hn:x≠"__name__":=by decide) (hdb:(x==("__debug__" : Str))=false:=by decide)
  (he:starEach (e::es) X.env=(false,eval e X.env)::starEach es X.env:=by rfl) (hpl:(backTo pos (starEach es X.env)).any (·.1)=false:=by rfl):PE X (.Call (.Name x p) (e::es) [] pos) (tCB r t):=by
 intro pins s σ H Q I h;refine wpAny_Call_Name_kw (iO I hg hm hv ?_ hn hdb);exact PyProof.Rows.callWith_builtin1 (bW (ha pos pins s σ H _ I h) fun us s1 ⟨vs,H1,I1,r1,q1⟩=>hc pins s1 σ H1 vs us Q I1 r1 q1) he hpl
theorem qt (hc:fE X (.type T) r)(hg:Gl X x)(hm:X.mg x=none)(hv:bootBuiltins x=some (.type T))(ha:PA X (e::es) t)(hn:x≠"__name__":=by decide) (hdb:(x==("__debug__" : Str))=false:=by decide)
  (he:starEach (e::es) X.env=(false,eval e X.env)::starEach es X.env:=by rfl) (hpl:(backTo pos (starEach es X.env)).any (·.1)=false:=by rfl):PE X (.Call (.Name x p) (e::es) [] pos) (tCB r t):=by
 intro pins s σ H Q I h;refine wpAny_Call_Name_kw (iO I hg hm hv ?_ hn hdb);exact gp (bW (ha pos pins s σ H _ I h) fun us s1 ⟨vs,H1,I1,r1,q1⟩=>hc pins s1 σ H1 vs us Q I1 r1 q1) he hpl
end
end L2
namespace HT
open PySem PyProof.Rows
theorem rP (A:Around)(s:Shared)(a:Int)(t:Tok)(c:Int)(u:Tok):∃ e,SeqAt.EqAt A s (.int a t) (.int c u) e/\(e=true↔a=c) :=
 ⟨(a==c),SeqAt.EqAt.int_int a t c u,by simp⟩
theorem tf (A:Around)(s:Shared)(a:Int)(t:Tok)(c:Int)(u:Tok)(prog:Program)(w:World)(E:Value->Shared->Prop)(Q:Value->Shared->Prop)(h:Q (.bool (decide (a<c))) s) :
  wpAny (model prog w) A (richCompare .Lt (.int a t) (.int c u)) Q E s :=
 (PyProof.Rows.lt_int h:wpAny (model prog w) A (compareOp .Lt (.int a t) (.int c u)) Q E s)
section
open PySem.SeqAt
open PySem.AutoSeq1 (wpAny_loadPart')
open PySem.MeetsSeq PySem.MeetsSeq2 PySem.MeetsSeq3
end
section
variable {prog:Program}{w:World}{A:Around}{E:Value->Shared->Prop}{s:Shared}
theorem xb {t b:Addr}{vs ws:List Value}{Q:Value->Shared->Prop}(ht:IsTup s.heap t vs.toArray)(hb:IsTup s.heap b ws.toArray)(hv:vs≠[])
  (h1:ws=[]->Q (.ref t) s) (h2:ws≠[]->Q (.ref s.heap.objs.size) { s with heap:=s.heap.push { cls:=.type "tuple",data:=.seq (vs++ws).toArray } })
  (hsz:vs.length+ws.length<=sizeLine):wpAny (model prog w) A (binaryOp .Add (.ref t) (.ref b)) Q E s:=by
 obtain⟨⟨cls,dd,data,sl⟩,ho,hc,n,hd⟩:=id ht;obtain⟨⟨cls2,dd2,data2,sl2⟩,ho2,hc2,n2,hd2⟩:=id hb;simp only at hc hd hc2 hd2;subst hc hd hc2 hd2;have e:vs.toArray++ws.toArray=(vs++ws).toArray:=by simp
 by_cases hw:ws=[]
 ·exact concat_meets ⟨_,ho,rfl⟩ ⟨_,ho2,rfl⟩ noFill_tuple_add seq_tuple_add PySem.F.slot_tuple_add PySem.F.entry_tuple_add (PySem.F.args_tuple_add_2 _ _)
   (tuple_addW1 t b vs.toArray ws.toArray n n2 dd dd2 sl sl2 (by simpa using hv) (by simp[hw])) ⟨ho,ho2,h1 hw⟩
 ·refine concat_meets ⟨_,ho,rfl⟩ ⟨_,ho2,rfl⟩ noFill_tuple_add seq_tuple_add PySem.F.slot_tuple_add PySem.F.entry_tuple_add (PySem.F.args_tuple_add_2 _ _)
   (tuple_addW2 t b vs.toArray ws.toArray n n2 dd dd2 sl sl2 (by simpa using hv) (by simpa using hw) (by rw[List.size_toArray,List.size_toArray];exact hsz)) ⟨ho,ho2,?_⟩
  rw[e];exact h2 hw
noncomputable def bD (n d:Nat):Option Int->Nat
 |none=>d
 |some v=>if v<0 then (v+(n:Int)).toNat else min v.toNat n
theorem lQ (n d:Nat)(hd:d<=n)(o:Option Int):bD n d o<=n:=by
 cases o with
 |none=>exact hd
 |some v =>
  show (if v<0 then (v+(n:Int)).toNat else min v.toNat n)<=n;by_cases hv:v<0
  ·rw[if_pos hv];omega
  ·rw[if_neg hv];exact Nat.min_le_right _ _
theorem pM (v:Int)(n d:Nat):(if v<0 then max (v+(n:Int)) 0 else min v (n:Int))=((bD n d (some v):Nat):Int):=by
 show (if v<0 then max (v+(n:Int)) 0 else min v (n:Int))=(((if v<0 then (v+(n:Int)).toNat else min v.toNat n):Nat):Int);by_cases hv:v<0
 ·simp only[if_pos hv];omega
 ·simp only[if_neg hv];omega
theorem og (lo hi:Option Int)(n:Nat):Builtin.Slice.sliceAdjust lo hi 1 (n:Int)=(((bD n 0 lo:Nat):Int),((bD n n hi:Nat):Int)):=by
 have h1:¬ ((1:Int)<0):=by omega
 unfold Builtin.Slice.sliceAdjust;simp only[h1,if_false];refine Prod.ext ?_ ?_
 ·cases lo with
  |none=>rfl
  |some v=>exact pM v n 0
 ·cases hi with
  |none=>rfl
  |some v=>exact pM v n n
theorem oV (i j:Nat):Builtin.Slice.slicePlaces (i:Int) (j:Int) 1=j - i:=by
 unfold Builtin.Slice.slicePlaces;have h1:(1:Int) > 0:=by omega
 simp only[h1,if_true,Int.ediv_one];split<;>omega
theorem jr {v:Value}{o:Option Int}{Q:Option Int->Shared->Prop}(p:IsPart v o)(h:Q o s):wpAny (model prog w) A (Builtin.Slice.slicePartIndex v) Q E s:=by
 cases p with
 |none=>exact slicePart_none h
 |int i t=>exact slicePart_int h
theorem iQ {sl:Addr}{vl vu:Value}{lo hi:Option Int}{n:Nat}{Q:Int×Int×Nat->Shared->Prop}(hs:s.heap.IsSliceOf sl vl vu .none)(pl:IsPart vl lo)(pu:IsPart vu hi)
  (h:Q (((bD n 0 lo:Nat):Int),1,bD n n hi - bD n 0 lo) s):wpAny (model prog w) A (Builtin.Slice.sliceApplied (.ref sl) (pure (n:Int))) Q E s:=by
 obtain⟨os,hos,hcs,hds⟩:=id hs;unfold Builtin.Slice.sliceApplied Builtin.Slice.sliceFields;refine wpAny_bind (wpAny_bind (wpAny_field hos hds (x:=vl) rfl (wpAny_bind (wpAny_field hos hds (x:=vu) rfl (wpAny_bind (wpAny_field hos hds (x:=.none) rfl (wpAny_pure ?_)))))));refine wpAny_bind (slicePart_none ?_);show wpAny _ _ (if ((1:Int)==0)=true then _ else _) _ _ s;rw[if_neg (by decide)];refine wpAny_bind (jr pl (wpAny_bind (jr pu (wpAny_bind (wpAny_pure ?_)))));show wpAny _ _ (match Builtin.Slice.sliceAdjust lo hi 1 (n:Int) with | (lo,hi)=>pure (lo,(1:Int),Builtin.Slice.slicePlaces lo hi 1)) _ _ s;rw[og lo hi n];show wpAny _ _ (pure (((bD n 0 lo:Nat):Int),(1:Int),Builtin.Slice.slicePlaces ((bD n 0 lo:Nat):Int) ((bD n n hi:Nat):Int) 1)) _ _ s;rw[oV];exact wpAny_pure h
theorem uU (xs:Array Value)(i k:Nat):((List.range k).filterMap fun (m:Nat)=>xs[((i:Int)+(m:Int)*1).toNat]?).toArray=((xs.toList.drop i).take k).toArray:=by
 have e:(fun (m:Nat)=>xs[((i:Int)+(m:Int)*1).toNat]?)=fun m=>xs[i+m]?:=by
  funext m;have:((i:Int)+(m:Int)*1).toNat=i+m:=by omega
  rw[this]
 rw[e];have:=pick_run xs i k;rw[List.filterMap_map] at this;have e2:((fun x=>xs[x]?)∘fun x=>i+x)=fun m=>xs[i+m]?:=rfl
 rw[e2] at this;rw[this]
theorem ig {t sl:Addr}{items:Array Value}{vl vu:Value}{lo hi:Option Int}{Q:Value->Shared->Prop}(ht:IsTup s.heap t items)(hs:s.heap.IsSliceOf sl vl vu .none)(pl:IsPart vl lo)(pu:IsPart vu hi)
  (hw:¬ (bD items.size 0 lo=0/\bD items.size items.size hi=items.size))
  (h:Q (.ref s.heap.objs.size) { s with heap:=s.heap.push { cls:=.type "tuple",data:=.seq ((items.toList.drop (bD items.size 0 lo)).take (bD items.size items.size hi - bD items.size 0 lo)).toArray } })
  (hsz:items.size<=sizeLine):wpAny (model prog w) A (getItem (.ref t) (.ref sl)) Q E s:=by
 have htake:sizeOk (.seq ((items.toList.drop (bD items.size 0 lo)).take (bD items.size items.size hi - bD items.size 0 lo)).toArray):=by
  show ((items.toList.drop (bD items.size 0 lo)).take (bD items.size items.size hi - bD items.size 0 lo)).toArray.size<=sizeLine;rw[ah,eo,et,bc];omega
 have hj:bD items.size items.size hi<=items.size:=lQ _ _ (ai _) hi;obtain⟨os,hos,hcs,hds⟩:=id hs;have hTs:s.TypeIs (.ref sl) "slice":=⟨os,hos,hcs⟩;unfold getItem
 try with_reducible refine wpAny_holding ?_
 first | refine wpAny_bind (wpAny_pure ?_) | skip
 refine wpAny_bind (wpAny_sequenceKey ht.typeIs (by decide) ?_);refine wpAny_bind (wpAny_callSpecial?_slot (name:=Str.ofString "__getitem__") ht.typeIs PyProof.Rows.slot_tuple_getitem
  (wpAny_call_entry PyProof.Rows.slot_tuple_getitem ht.typeIs entry_tuple_getitem ?_ (args_tuple_getitem _ _)))
 show wpAny _ _ (Builtin.Tuple.tupleItemsOf (.ref t) >>= _) _ _ s;refine wpAny_bind (tupleItemsOf_ ht ?_);refine wpAny_bind (wpAny_typeOf hTs ?_);rw[if_pos (by decide)];refine wpAny_bind (iQ hs pl pu ?_);have hno:¬ ((((bD items.size 0 lo:Nat):Int)==0&&(1:Int)==1&&(bD items.size items.size hi - bD items.size 0 lo)==items.size)=true):=by
  intro q;rw[aj,aj] at q;have q1:((bD items.size 0 lo:Nat):Int)=0:=eq_of_beq q.1.1;have q2:bD items.size items.size hi - bD items.size 0 lo=items.size:=eq_of_beq q.2;exact hw ⟨by omega,by omega⟩
 show wpAny _ _ (if (((bD items.size 0 lo:Nat):Int)==0&&(1:Int)==1&&(bD items.size items.size hi - bD items.size 0 lo)==items.size)=true then _ else _) _ _ s;rw[if_neg hno,uU]
 first
  | exact wpAny_bind (m:=Builtin.Tuple.tupleExact _) (wpAny_newObj_type (wpAny_pure ⟨_,rfl,wpAny_pure h⟩) htake)
  | exact wpAny_bind (m:=Builtin.Tuple.tupleExact _) (wpAny_newObj_type (wpAny_bind (wpAny_pure (wpAny_pure ⟨_,rfl,wpAny_pure h⟩))) htake)
  | exact wpAny_bind (wpAny_bind (m:=Builtin.Tuple.tupleExact _) (wpAny_newObj_type (wpAny_pure (wpAny_pure ⟨_,rfl,wpAny_pure h⟩)) htake))
  | exact wpAny_bind (wpAny_bind (m:=Builtin.Tuple.tupleExact _) (wpAny_newObj_type (wpAny_pure ⟨_,rfl,wpAny_pure h⟩) htake))
end
end HT
namespace L2
open PySem PySem.Spec PyProof.Rows
noncomputable abbrev TO:=St->Hp->(Option Int->Hp->Prop)->Prop
noncomputable def PO (X:Cx)(e:Option Expr)(t:TO):Prop :=
 ∀(pins:List (Addr×Obj)) (s:Shared) (σ:St) (H:Hp) (Q:Option Int->Hp->Prop),Inv X pins σ H s->t σ H Q ->
  wpAny (model X.prog X.w) X.A (evalPart e X.env) (fun u s'=>∃ o H',Inv X pins σ H' s'/\IsPart u o/\Q o H') X.xe s
noncomputable def vC:TO:=fun _ H Q=>Q none H
noncomputable def BN (t:TE):TO:=fun σ H Q=>t σ H fun x H1=>∃ i,x = .int i/\Q (some i) H1
section
variable {X:Cx}{e:Expr}{te:TE}{lo hi:Option Expr}{tl th:TO}{pos p2:Pos}
theorem wN:PO X none vC:=by
 intro pins s σ H Q I h;rw[evalPart_none];exact wpAny_pure ⟨none,H,I,.none,h⟩
theorem vR (h:PE X e te):PO X (some e) (BN te):=by
 intro pins s σ H Q I hw;rw[evalPart_some];refine bW (h pins s σ H _ I hw) fun u s1 ⟨x,H1,I1,r1,q1⟩=>?_
 obtain⟨i,rfl,q⟩:=q1;obtain⟨t,rfl⟩:=r1;exact⟨some i,H1,I1,.int i t,q⟩
noncomputable def xx (X:Cx)(r:V->Option Int->Option Int->Hp->VK->Prop):Prop :=
 ∀(pins:List (Addr×Obj)) (s:Shared) (σ:St) (H:Hp) (x:V) (v vl vu:Value) (lo hi:Option Int) (sl:Addr) (Q:VK),Inv X pins σ H s->RelV x v->s.heap.IsSliceOf sl vl vu .none->IsPart vl lo->IsPart vu hi->r x lo hi H Q ->
  ∃ T id,typeLookup (.type T) "__getitem__" = pure (some (.builtin id))/\s.TypeIs v T/\wpAny (model X.prog X.w) X.A (getItem v (.ref sl)) (EP X pins σ Q) X.xe s
theorem xx.or {r r':V->Option Int->Option Int->Hp->VK->Prop}(h:xx X r)(h':xx X r'):xx X (fun x lo hi H Q=>r x lo hi H Q\/r' x lo hi H Q):=by
 intro pins s σ H x v vl vu lo hi sl Q I rx hs pl pu q;rcases q with q | q
 ·exact h pins s σ H x v vl vu lo hi sl Q I rx hs pl pu q
 ·exact h' pins s σ H x v vl vu lo hi sl Q I rx hs pl pu q
def tSl (r:V->Option Int->Option Int->Hp->VK->Prop)(te:TE)(tl th:TO):TE:=fun σ H Q=>te σ H fun x H1=>tl σ H1 fun l H2=>th σ H2 fun u H3=>r x l u H3 Q
theorem se {r:V->Option Int->Option Int->Hp->VK->Prop}(hr:xx X r)(he:PE X e te)(hl:PO X lo tl)(hu:PO X hi th):PE X (.Subscript e (.Slice lo hi none p2) pos) (tSl r te tl th):=by
 intro pins s σ H Q I h;refine Subscript_ (bW (he pins s σ H _ I h) fun v s1 ⟨x,H1,I1,r1,q1⟩=>?_);refine wpAny_Slice (bW (hl pins s1 σ H1 _ I1 q1) fun vl s2 ⟨l,H2,I2,pl,q2⟩=>bW (hu pins s2 σ H2 _ I2 q2) fun vu s3 ⟨u,H3,I3,pu,q3⟩=>?_);rw[evalPart_none];refine wpAny_pure ?_;have I4:Inv X pins σ H3 { s3 with heap:=s3.heap.push { cls:=.type "slice",data:=.fields #[vl,vu,.none] } }:=I3.kept (t':=s3.toks) fun b ob q=>Heap.get?_push_of_some _ q
 obtain⟨T,id,hT,ht,hg⟩:=hr pins { s3 with heap:=s3.heap.push { cls:=.type "slice",data:=.fields #[vl,vu,.none] } } σ H3 x v vl vu l u s3.heap.objs.size Q I4 r1 (Heap.IsSliceOf.new ..) pl pu q3;show wpAny (model X.prog X.w) X.A (subscriptTail e (.Slice lo hi none p2) v (.ref s3.heap.objs.size)) (EP X pins σ Q) X.xe { s3 with heap:=s3.heap.push { cls:=.type "slice",data:=.fields #[vl,vu,.none] } };exact tail_any (ops:=[.ref s3.heap.objs.size,v]) ht hT hg (by with_unfolding_all rfl)
noncomputable def j8 (xs:List V)(lo hi:Option Int):List V:=(xs.drop (HT.bD xs.length 0 lo)).take (HT.bD xs.length xs.length hi - HT.bD xs.length 0 lo)
theorem iX (xs:List V)(lo hi:Option Int):(j8 xs lo hi).length<=xs.length:=by
 unfold j8;rw[eo,et];omega
def rSlT (K:PySem.W.Frag):V->Option Int->Option Int->Hp->VK->Prop:=fun x lo hi H Q=>∃ a xs,x = .ref a/\gH K H a xs /\
 ¬ (HT.bD xs.length 0 lo=0/\HT.bD xs.length xs.length hi=xs.length)/\∀ p,H p=none->Q (.ref p) (upd H p (.tup (j8 xs lo hi)))
theorem zY:xx X (rSlT X.K):=by
 intro pins s σ H x v vl vu lo hi sl Q I rx hs pl pu h;obtain⟨a,xs,rfl,hx,hw,q⟩:=h;cases rx;obtain⟨its,r,ht,hz⟩:=I.tuple hx;have hlen:its.toArray.size=xs.length:=by rw[ah];exact r.length.symm
 refine⟨"tuple",_,PyProof.Rows.slot_tuple_getitem.lookup,ht.typeIs,?_⟩;refine HT.ig ht hs pl pu (by rw[hlen];exact hw) ?_ (by rw[hlen];exact hz);rw[hlen];refine⟨.ref s.heap.objs.size,_,I.laid (t':=s.toks) (o:=.tup (j8 xs lo hi)) (fun b ob q=>Heap.get?_push_of_some _ q) (ai _) ?_,rfl,q _ (I.hok.fresh (ai _))⟩;exact⟨bh (iX xs lo hi) hz,_,(r.drop (HT.bD xs.length 0 lo)).take (HT.bD xs.length xs.length hi - HT.bD xs.length 0 lo),IsTup.new _ _⟩
noncomputable def Bv (K:PySem.W.Frag):R2:=fun x y H Q=>∃ a b xs ys,x = .ref a/\y = .ref b/\gH K H a xs/\gH K H b ys/\xs≠[]/\xs.length+ys.length<=sizeLine /\
 (ys=[]->Q (.ref a) H)/\(ys≠[]->∀ p,H p=none->Q (.ref p) (upd H p (.tup (xs++ys))))
theorem aH.nil_iff {xs:List V}{us:List Value}(r:aH xs us):us=[]↔xs=[]:=by
 cases r with
 |nil=>simp
 |cons _ _=>simp
theorem vW:eO X (binaryOp .Add) (Bv X.K):=by
 intro pins s σ H x y v u Q I rx ry h;obtain⟨a,b,xs,ys,rfl,rfl,ha,hb,hx,hz,q1,q2⟩:=h;cases rx;cases ry;obtain⟨its,r1,p1,_⟩:=I.tuple ha;obtain⟨its2,r2,p2,_⟩:=I.tuple hb;refine HT.xb p1 p2 (fun z=>hx (r1.nil_iff.mp z)) (fun z=>⟨.ref a,H,I,rfl,q1 (r2.nil_iff.mp z)⟩) (fun z=>?_) (by rw[<-r1.length,<-r2.length];exact hz);refine⟨.ref s.heap.objs.size,_,I.laid (t':=s.toks) (o:=.tup (xs++ys)) (fun b ob q=>Heap.get?_push_of_some _ q) (ai _) ?_,rfl,q2 (fun w=>z (r2.nil_iff.mpr w)) _ (I.hok.fresh (ai _))⟩;exact⟨by rw[au];exact hz,_,r1.append r2,IsTup.new _ _⟩
end
end L2
namespace L2
open PySem PySem.Spec PyProof.Rows
noncomputable def gE (n:Nat)(i:Int):Option Nat:=if 0<=i then (if i<n then some i.toNat else none) else if -(n:Int)<=i then some (i+n).toNat else none
noncomputable def vT {α:Type}(xs:List α)(i:Int):Option α:=(gE xs.length i).bind fun j=>xs[j]?
theorem pj {n:Nat}{i:Int}{j:Nat}(h:gE n i=some j):seqIndex? i n=some j/\j<n/\-(n:Int)<=i/\i<n:=by
 unfold gE at h;by_cases h0:0<=i
 ·rw[if_pos h0] at h;by_cases h1:i<n
  ·rw[if_pos h1] at h;have e:i.toNat=j:=bt h;exact⟨by rw[seqIndex_of h0 h1,e],by omega,by omega,h1⟩
  ·rw[if_neg h1] at h;cases h
 ·rw[if_neg h0] at h;by_cases h1 : -(n:Int)<=i
  ·rw[if_pos h1] at h;have e:(i+n).toNat=j:=bt h;exact⟨by rw[seqIndex_neg (by omega) h1,e],by omega,h1,by omega⟩
  ·rw[if_neg h1] at h;cases h
theorem mh {α:Type}{xs:List α}{i:Int}{v:α}(h:vT xs i=some v):∃ j,seqIndex? i xs.length=some j/\xs[j]? = some v/\j<xs.length/\-(xs.length:Int)<=i/\i<xs.length:=by
 unfold vT at h;cases e:gE xs.length i with
 |none=>rw[e] at h;cases h
 |some j =>
  rw[e] at h;obtain⟨h1,h2,h3,h4⟩:=pj e;exact⟨j,h1,h,h2,h3,h4⟩
def jj (b:Expr):Prop:=∀ o i,subscripted b false o i=operate [o,i] (getItem o i)
noncomputable def u0 (X:Cx)(r:R2):Prop :=
 ∀(value slice:Expr) (pins:List (Addr×Obj)) (s:Shared) (σ:St) (H:Hp) (x y:V) (v u:Value) (Q:VK),Inv X pins σ H s->RelV x v->RelV y u->r x y H Q ->
  subscripted slice false v u=operate [v,u] (getItem v u)->wpAny (model X.prog X.w) X.A (subscriptTail value slice v u) (EP X pins σ Q) X.xe s
noncomputable def MtR (X:Cx)(id:String)(r:V->List V->Hp->VK->Prop):Prop :=
 ∀(pins:List (Addr×Obj)) (s:Shared) (σ:St) (H:Hp) (x:V) (xs:List V) (v:Value) (us:List Value) (Q:VK),Inv X pins σ H s->RelV x v->aH xs us->r x xs H Q ->
  wpAny (model X.prog X.w) X.A (call (.builtin id) (v::us)) (EP X pins σ Q) X.xe s
section
variable {X:Cx}{a b:Expr}{ta tb:TE}{pos:Pos}
theorem u0.or {r r':R2}(h:u0 X r)(h':u0 X r'):u0 X (fun x y H Q=>r x y H Q\/r' x y H Q):=by
 intro value slice pins s σ H x y v u Q I rx ry q hs;rcases q with q | q
 ·exact h value slice pins s σ H x y v u Q I rx ry q hs
 ·exact h' value slice pins s σ H x y v u Q I rx ry q hs
theorem x5 {r:R2}(hr:u0 X r)(ha:PE X a ta)(hb:PE X b tb)(hs:jj b):PE X (.Subscript a b pos) (AU r ta tb):=by
 intro pins s σ H Q I h;exact Subscript_ (y6 ha hb I h fun v u s2 x y H2 I2 rx ry q=>hr a b pins s2 σ H2 x y v u Q I2 rx ry q (hs _ _))
noncomputable def rIxL (K:PySem.W.Frag):R2:=fun x y H Q=>∃ p xs i v,x = .ref p/\y = .int i/\j6 K H p xs/\vT xs i=some v/\Q v H
noncomputable def rIxT (K:PySem.W.Frag):R2:=fun x y H Q=>∃ p xs i v,x = .ref p/\y = .int i/\gH K H p xs/\vT xs i=some v/\Q v H
noncomputable def rIxS:R2:=fun x y H Q=>∃ z i c,x = .str z/\y = .int i/\z.length<=sizeLine/\vT z.cps.toList i=some c/\Q (.str ⟨#[c]⟩) H
theorem qa:u0 X (rIxL X.K):=by
 intro value slice pins s σ H x y v u Q I rx ry h hs;obtain⟨p,xs,i,z,rfl,rfl,hq,he,q⟩:=h;cases rx;obtain⟨t,rfl⟩:=ry;obtain⟨its,r,pl,hz⟩:=I.list hq;obtain⟨j,h1,h2,h3,h4,h5⟩:=mh he;obtain⟨w,ew,rw'⟩:=r.get h2;have hl:=r.length;have hn:=gK;have fin:EP X pins σ Q w s:=⟨z,H,I,rw',q⟩;by_cases h0:0<=i
 ·have hj:i.toNat=j:=by
   rw[seqIndex_of h0 h5] at h1;exact bt h1
  exact item_listR pl.isList h0 (by omega) (by rw[hj];simpa using ew) fin hs
 ·have hj:(i+(its.toArray.size:Int)).toNat=j:=by
   rw[seqIndex_neg (by omega) h4] at h1;rw[ah,<-hl];exact bt h1
  exact subscriptTail_builtinR (x:=w) pl.isList.typeIs slot_list_getitem.lookup
   (wpAny_getItem_list_neg (Q:=fun r s'=>r=w/\EP X pins σ Q r s') pl.isList (by omega) (by rw[List.size_toArray]<;>omega) (by omega) (by rw[hj];simpa using ew) ⟨rfl,fin⟩) hs
theorem rG:u0 X (rIxT X.K):=by
 intro value slice pins s σ H x y v u Q I rx ry h hs;obtain⟨p,xs,i,z,rfl,rfl,hq,he,q⟩:=h;cases rx;obtain⟨t,rfl⟩:=ry;obtain⟨its,r,pl,hz⟩:=I.tuple hq;obtain⟨j,h1,h2,h3,h4,h5⟩:=mh he;obtain⟨w,ew,rw'⟩:=r.get h2;have hl:=r.length;have hn:=gK;have fin:EP X pins σ Q w s:=⟨z,H,I,rw',q⟩;exact subscriptTail_builtinR (x:=w) pl.typeIs slot_tuple_getitem.lookup
  (getItem_tuple (j:=j) (Q:=fun r s'=>r=w/\EP X pins σ Q r s') pl (by omega) (by omega) (by rw[List.size_toArray,<-hl];exact h1) (by simpa using ew) ⟨rfl,fin⟩) hs
theorem yY:u0 X rIxS:=by
 intro value slice pins s σ H x y v u Q I rx ry h hs;obtain⟨z,i,c,rfl,rfl,hz,he,q⟩:=h;obtain⟨t,rfl⟩:=rx;obtain⟨t',rfl⟩:=ry;obtain⟨j,h1,h2,h3,h4,h5⟩:=mh he;have hl:z.cps.toList.length=z.length:=by simp[Str.length]
 rw[hl] at h1 h4 h5;have hn:=gK;exact tail_any (typeIs_str s z t) slot_str_getitem.lookup (getItem_str (c:=c) (by
  have e1:decide (i < -(2 ^ 63:Int))=false:=ay (by omega);have e2:decide (i ≥ 2 ^ 63)=false:=ay (by omega);rw[e1,e2,Bool.or_false]) (by rw[h1];simpa using h2) ⟨.str ⟨#[c]⟩,H,I.tok _,⟨_,rfl⟩,q⟩) hs
theorem n9 (its:List Value)(n j:Nat)(u:Value):Obj.mapSeq (·.setIfInBounds j u) { cls:=.type "list",data:=.seq its.toArray n }={ cls:=.type "list",data:=.seq (its.set j u).toArray n }:=by
 simp[Obj.mapSeq]
theorem Inv.lst {pins:List (Addr×Obj)}{σ:St}{H:Hp}{s:Shared}{p:Addr}{xs:List V}(I:Inv X pins σ H s)(h:H p=some (.lst xs)) :
  ∃(its:List Value) (n:Nat),aH xs its/\s.heap.get? p=some { cls:=.type "list",data:=.seq its.toArray n }/\xs.length<=sizeLine:=by
 obtain⟨z,its,n,r,e⟩:=I.hok p _ h;exact⟨its,n,r,e,z⟩
theorem Inv.lstUpd {pins:List (Addr×Obj)}{σ:St}{H:Hp}{s:Shared}{p:Addr}{xs ys:List V}{its its':List Value}{n n':Nat}{f:Obj->Obj}(I:Inv X pins σ H s)(h:H p=some (.lst xs))
  (ho:s.heap.get? p=some { cls:=.type "list",data:=.seq its.toArray n }) (hf:f { cls:=.type "list",data:=.seq its.toArray n }={ cls:=.type "list",data:=.seq its'.toArray n' }) (r:aH ys its') (hz:ys.length<=sizeLine) (t:Nat) :
  Inv X pins σ (upd H p (.lst ys)) { s with heap:=s.heap.update p f,toks:=t }:=by
 have e:(s.heap.update p f).get? p=some { cls:=.type "list",data:=.seq its'.toArray n' }:=by
  rw[Heap.get?_update_self f ho (by rw[hf]<;>rfl),hf]
 refine I.write (x:=p) (e:=p) (by rw[h];trivial) (.inl rfl) (fun b u hb q=>(Heap.get?_update_other _ _ (dh hb)).trans q) ⟨_,e⟩ ?_;exact⟨hz,its',n',r,e⟩
def xX:V->V->V->Hp->(Hp->Prop)->Prop:=fun o i v H Q=>∃ p xs k j,o = .ref p/\i = .int k/\H p=some (.lst xs)/\gE xs.length k=some j/\Q (upd H p (.lst (xs.set j v)))
theorem set_list:BL X xX:=by
 intro pins s σ H o i v ov iv u Q I ro ri rv h;obtain⟨p,xs,k,j,rfl,rfl,hp,hj,q⟩:=h;cases ro;obtain⟨t,rfl⟩:=ri;obtain⟨its,n,r,ho,hz⟩:=I.lst hp;obtain⟨h1,h2,h3,h4⟩:=pj hj;have hl:=r.length;have hn:=gK;have I':Inv X pins σ (upd H p (.lst (xs.set j v))) { s with heap:=s.heap.update p (Obj.mapSeq (·.setIfInBounds j u)) } :=
  I.lstUpd hp ho (n9 its n j u) (r.set rv j) (by rw[dn];exact hz) s.toks
 by_cases h0:0<=k
 ·have hk:k.toNat=j:=by
   rw[seqIndex_of h0 h4] at h1;exact bt h1
  exact PySem.W.ki_setAt ho h0 (by omega) (by rw[ah,<-hl];exact h4) (by rw[hk];exact⟨_,I',q⟩)
 ·have hk:(k+(its.toArray.size:Int)).toNat=j:=by
   rw[seqIndex_neg (by omega) h3] at h1;rw[ah,<-hl];exact bt h1
  exact PySem.W.ki_setBack ho (by omega) (by rw[ah,<-hl];exact h3) (by omega) (by rw[hk];exact⟨_,I',q⟩)
theorem lD (lo hi:Option Int)(n:Nat):(sliceBounds lo hi none n).1=((HT.bD n 0 lo:Nat):Int)/\(sliceBounds lo hi none n).2.1=((HT.bD n n hi:Nat):Int)/\(sliceBounds lo hi none n).2.2=1:=by
 refine⟨?_,?_,rfl⟩
 ·cases lo with
  |none=>simp[sliceBounds,HT.bD]
  |some i =>
   simp only[sliceBounds,HT.bD,Option.getD_none,show (1:Int) > 0 by decide,if_true];by_cases h:i<0
   ·simp only[h,if_true]<;>omega
   ·simp only[h,if_false]<;>omega
 ·cases hi with
  |none=>simp[sliceBounds,HT.bD]
  |some i =>
   simp only[sliceBounds,HT.bD,Option.getD_none,show (1:Int) > 0 by decide,if_true];by_cases h:i<0
   ·simp only[h,if_true]<;>omega
   ·simp only[h,if_false]<;>omega
theorem kg (its:List Value)(lo hi:Option Int):slicePick its.toArray lo hi none=((its.drop (HT.bD its.length 0 lo)).take (HT.bD its.length its.length hi - HT.bD its.length 0 lo)).toArray:=by
 obtain⟨h1,h2,h3⟩:=lD lo hi its.toArray.size;unfold slicePick;rw[h1,h2,h3];simp only[sliceRange_one,pick_run,List.size_toArray]<;>rfl
def rSlL (K:PySem.W.Frag):V->Option Int->Option Int->Hp->VK->Prop:=fun x lo hi H Q=>∃ a xs,x = .ref a/\j6 K H a xs/\∀ p,H p=none->Q (.ref p) (upd H p (.lst (j8 xs lo hi)))
theorem vG:xx X (rSlL X.K):=by
 intro pins s σ H x v vl vu lo hi sl Q I rx hs pl pu h;obtain⟨a,xs,rfl,hx,q⟩:=h;cases rx;obtain⟨its,r,ht,hz⟩:=I.list hx;have hlen:=r.length;refine⟨"list",_,slot_list_getitem.lookup,ht.isList.typeIs,?_⟩;refine wpAny_getItem_list_slice ht.isList hs pl pu .none (by simp) ?_ (by rw[List.size_toArray]<;>omega);rw[kg,<-hlen];refine⟨.ref s.heap.objs.size,_,I.laid (t':=s.toks) (o:=.lst (j8 xs lo hi)) (fun b ob q=>Heap.get?_push_of_some _ q) (ai _) ?_,rfl,q _ (I.hok.fresh (ai _))⟩;exact⟨bh (iX xs lo hi) hz,_,0,(r.drop (HT.bD xs.length 0 lo)).take (HT.bD xs.length xs.length hi - HT.bD xs.length 0 lo),Heap.get?_push_size _ rfl⟩
noncomputable def fN:V->Bool
 |.non=>true
 |.bl _=>true
 |.int _=>true
 |.str _=>true
 |_=>false
noncomputable def uY:V->V->Bool
 |.non,.non=>true
 |.bl a,.bl b=>a==b
 |.bl a,.int b=>(if a then 1 else 0)==b
 |.int a,.bl b=>a==(if b then 1 else 0)
 |.int a,.int b=>a==b
 |.str a,.str b=>a==b
 |_,_=>false
theorem z5 {A:Around}{s:Shared}{y x:V}{u v:Value}(ry:RelV y u)(rx:RelV x v)(fy:fN y=true)(fx:fN x=true):SeqAt.EqAt A s u v (uY y x):=by
 cases y with
 |non =>
  cases ry;cases x with
  |non=>cases rx;exact SeqAt.EqAt.same _
  |bl b=>cases rx;exact SeqAt.EqAt.none_bool b
  |int b=>obtain⟨t,rfl⟩:=rx;exact SeqAt.EqAt.none_int b t
  |str b=>obtain⟨t,rfl⟩:=rx;exact SeqAt.EqAt.none_str b t
  |_=>exact absurd (show false=true from fx) az
 |bl a =>
  cases ry;cases x with
  |non=>cases rx;exact SeqAt.EqAt.bool_none a
  |bl b=>cases rx;exact SeqAt.EqAt.bool_bool a b
  |int b=>obtain⟨t,rfl⟩:=rx;exact SeqAt.EqAt.bool_int a b t
  |str b=>obtain⟨t,rfl⟩:=rx;exact SeqAt.EqAt.bool_str a b t
  |_=>exact absurd (show false=true from fx) az
 |int a =>
  obtain⟨t',rfl⟩:=ry;cases x with
  |non=>cases rx;exact SeqAt.EqAt.int_none a t'
  |bl b=>cases rx;exact SeqAt.EqAt.int_bool a t' b
  |int b=>obtain⟨t,rfl⟩:=rx;exact SeqAt.EqAt.int_int a t' b t
  |str b=>obtain⟨t,rfl⟩:=rx;exact SeqAt.EqAt.int_str a t' b t
  |_=>exact absurd (show false=true from fx) az
 |str a =>
  obtain⟨t',rfl⟩:=ry;cases x with
  |non=>cases rx;exact SeqAt.EqAt.str_none a t'
  |bl b=>cases rx;exact SeqAt.EqAt.str_bool a t' b
  |int b=>obtain⟨t,rfl⟩:=rx;exact SeqAt.EqAt.str_int a t' b t
  |str b=>obtain⟨t,rfl⟩:=rx;exact SeqAt.EqAt.str_str a t' b t
  |_=>exact absurd (show false=true from fx) az
 |_=>exact absurd (show false=true from fy) az
noncomputable def oM (x:V)(u:Value):Bool:=match u with
 |.none=>uY .non x
 |.bool b=>uY (.bl b) x
 |.int i _=>uY (.int i) x
 |.str z _=>uY (.str z) x
 |_=>false
theorem uM {x y:V}{u:Value}(r:RelV y u)(f:fN y=true):oM x u=uY y x:=by
 cases y with
 |non=>cases r;rfl
 |bl b=>cases r;rfl
 |int i=>obtain⟨t,rfl⟩:=r;rfl
 |str z=>obtain⟨t,rfl⟩:=r;rfl
 |_=>exact absurd (show false=true from f) az
theorem il {x:V}:∀{xs:List V}{us:List Value},aH xs us->xs.all fN=true->us.any (oM x)=xs.any fun y=>uY y x
 |_,_,.nil,_=>rfl
 | y::xs,u::us,.cons r t,f=>by
  rw[ef,aj] at f;rw[dz,dz,uM r f.1,il t f.2]
theorem fO {A:Around}{s:Shared}{x:V}{v:Value}(rx:RelV x v)(fx:fN x=true):∀{xs:List V}{us:List Value},aH xs us->xs.all fN=true->∀ u∈us,SeqAt.EqAt A s u v (oM x u)
 |_,_,.nil,_=>fun u hu=>by cases hu
 | y::xs,u::us,.cons r t,f=>fun u' hu=>by
  rw[ef,aj] at f;rcases ft.mp hu with rfl | hu
  ·rw[uM r f.1];exact z5 r rx f.1 fx
  ·exact fO rx fx t f.2 u' hu
noncomputable def inV (x:V)(xs:List V):Bool:=xs.any fun y=>uY y x
noncomputable def rIn (K:PySem.W.Frag)(neg:Bool):R2:=fun x y H Q=>∃ p xs,y = .ref p/\(j6 K H p xs\/gH K H p xs)/\fN x=true/\xs.all fN=true/\Q (.bl (if neg then !inV x xs else inV x xs)) H
theorem kq:eO X (compareOp .In) (rIn X.K false):=by
 intro pins s σ H x y v u Q I rx ry h;obtain⟨p,xs,rfl,hq,fx,fs,q⟩:=h;cases ry;rcases hq with hq | hq
 ·obtain⟨its,r,pl,hz⟩:=I.list hq;refine SeqAt.in_listAt (oM x) pl.isList (fun w hw=>fO rx fx r fs w (by simpa using hw)) ⟨.bl _,H,I,rfl,?_⟩;rw[show its.toArray.any (oM x)=its.any (oM x) by simp,il r fs];exact q
 ·obtain⟨its,r,pl,hz⟩:=I.tuple hq;refine SeqAt.in_tupleAt (oM x) pl (fun w hw=>fO rx fx r fs w (by simpa using hw)) ⟨.bl _,H,I,rfl,?_⟩;rw[show its.toArray.any (oM x)=its.any (oM x) by simp,il r fs];exact q
theorem iq:eO X (compareOp .NotIn) (rIn X.K true):=by
 intro pins s σ H x y v u Q I rx ry h;obtain⟨p,xs,rfl,hq,fx,fs,q⟩:=h;cases ry;rcases hq with hq | hq
 ·obtain⟨its,r,pl,hz⟩:=I.list hq;refine SeqAt.notIn_listAt (oM x) pl.isList (fun w hw=>fO rx fx r fs w (by simpa using hw)) ⟨.bl _,H,I,rfl,?_⟩;rw[show its.toArray.any (oM x)=its.any (oM x) by simp,il r fs];exact q
 ·obtain⟨its,r,pl,hz⟩:=I.tuple hq;refine SeqAt.notIn_tupleAt (oM x) pl (fun w hw=>fO rx fx r fs w (by simpa using hw)) ⟨.bl _,H,I,rfl,?_⟩;rw[show its.toArray.any (oM x)=its.any (oM x) by simp,il r fs];exact q
theorem lK:eO X (compareOp .NotIn) (fun x y H Q=>∃ i j,x = .str i/\y = .str j/\Q (.bl (!(!(Builtin.Str.occurrences j i 0 j.length 1).isEmpty))) H):=by
 intro pins s σ H x y v u Q I rx ry h;obtain⟨i,j,rfl,rfl,q⟩:=h;obtain⟨t,rfl⟩:=rx;obtain⟨t',rfl⟩:=ry;exact notIn_str ⟨.bl _,H,I,rfl,q⟩
theorem ik:fE X (.builtin "len") (fun xs H Q=>∃ p ys,xs=[.ref p]/\(j6 X.K H p ys\/gH X.K H p ys)/\Q (.int ys.length) H):=by
 intro pins s σ H xs us Q I r h;obtain⟨p,ys,rfl,hq,q⟩:=h;obtain⟨u,rfl,rx⟩:=vals1 r;cases rx;have hn:=gK;rcases hq with hq | hq
 ·obtain⟨its,r',pl,hz⟩:=I.list hq;have hlen:=r'.length;exact Calls.call_len_list pl.isList (by simp only[List.size_toArray]<;>omega) ⟨.int ys.length,H,I.tok _,⟨s.toks+1,by rw[List.size_toArray,hlen]⟩,q⟩
 ·obtain⟨its,r',pl,hz⟩:=I.tuple hq;have hlen:=r'.length;exact len_tuple pl (by simp only[List.size_toArray]<;>omega) ⟨.int ys.length,H,I.tok _,⟨s.toks+1,by rw[List.size_toArray,hlen]⟩,q⟩
theorem l9:fE X (.builtin "len") (fun xs H Q=>∃ z,xs=[.str z]/\z.length<=sizeLine/\Q (.int z.length) H):=by
 intro pins s σ H xs us Q I r h;obtain⟨z,rfl,hz,q⟩:=h;obtain⟨u,rfl,t,rfl⟩:=vals1 r;have hn:=gK;exact len_str (by omega) ⟨.int z.length,H,I.tok _,⟨_,rfl⟩,q⟩
theorem iC:fE X (.type "list") (fun xs H Q=>∃ p ys,xs=[.ref p]/\(j6 X.K H p ys\/gH X.K H p ys)/\∀ l,H l=none->Q (.ref l) (upd H l (.lst ys))):=by
 intro pins s σ H xs us Q I r h;obtain⟨p,ys,rfl,hq,q⟩:=h;obtain⟨u,rfl,rx⟩:=vals1 r;cases rx;have fin:∀(its:List Value),aH ys its->ys.length<=sizeLine->∀(h':Heap) (c':Nat),(∀ b o',s.heap.get? b=some o'->h'.get? b=some o') ->
   h'.get? s.heap.objs.size=some { cls:=.type "list",dict:=none,data:=.seq its.toArray c',slots:=#[] }->EP X pins σ Q (.ref s.heap.objs.size) { s with heap:=h' }:=fun its r' hz h' c' kp e =>
  ⟨.ref s.heap.objs.size,_,I.laid (t':=s.toks) kp (ai _) (show bM X.prog X.w _ h' _ (.lst ys) from ⟨hz,its,c',r',e⟩),rfl,q _ (I.hok.fresh (ai _))⟩
 rcases hq with hq | hq
 ·obtain⟨its,r',pl,hz⟩:=I.list hq;have hlen:=r'.length;obtain⟨o,ho,hc,n,hd⟩:=pl.isList;exact call_list_seq p (.inl rfl) ho hc hd (fun h' c' kp e=>fin its r' hz h' c' kp e) (by simp only[List.size_toArray]<;>omega)
 ·obtain⟨its,r',pl,hz⟩:=I.tuple hq;have hlen:=r'.length;obtain⟨o,ho,hc,n,hd⟩:=pl;exact call_list_seq p (.inr rfl) ho hc hd (fun h' c' kp e=>fin its r' hz h' c' kp e) (by simp only[List.size_toArray]<;>omega)
def tyV (K:PySem.W.Frag)(T:String)(x:V)(H:Hp):Prop:=match x with
 |.str _=>T = "str"
 |.int _=>T = "int"
 | .ref p=>(T = "list"/\∃ xs,j6 K H p xs)\/(T = "tuple"/\∃ o,K.lookup p=some o/\o.cls = .type "tuple"/\o.dict=none) \/
   (T = "dict"/\((∃ kvs,H p=some (.dK kvs))\/∃ kvs,H p=some (.dT kvs)))\/(T = "set"/\∃ S n,H p=some (.set S n))
 |_=>False
theorem uR {pins:List (Addr×Obj)}{σ:St}{H:Hp}{s:Shared}{T:String}{x:V}{v:Value}(I:Inv X pins σ H s)(r:RelV x v)(ty:tyV X.K T x H) :
  s.TypeIs v T/\∀ a,v = .ref a->∃ ob,s.heap.get? a=some ob/\ob.dict=none:=by
 cases x with
 |str z =>
  obtain⟨t,rfl⟩:=r;cases (show T = "str" from ty);exact⟨typeIs_str s z t,fun _ e=>nomatch e⟩
 |int i =>
  obtain⟨t,rfl⟩:=r;cases (show T = "int" from ty);exact⟨typeIs_int s i t,fun _ e=>nomatch e⟩
 |ref p =>
  cases r;rcases ty with ⟨rfl,xs,hq⟩ | ⟨rfl,o,hk,hc,hd⟩ | ⟨rfl,hk⟩ | ⟨rfl,S,n,hk⟩
  ·obtain⟨its,_,pl,_⟩:=I.list hq;refine⟨pl.isList.typeIs,fun a e=>?_⟩;cases e;obtain⟨o,n,e,c,hd,_⟩:=pl;exact⟨o,e,hd⟩
  ·refine⟨⟨o,I.kIn p o hk,hc⟩,fun a e=>?_⟩;cases e;exact⟨o,I.kIn _ o hk,hd⟩
  ·have z:∃ o,s.heap.get? p=some o/\o.ExactDict:=by
    rcases hk with ⟨kvs,hk⟩ | ⟨kvs,hk⟩
    ·obtain⟨_,_,_,_,o,_,_,e,ex,_⟩:=I.hok p _ hk;exact⟨o,e,ex⟩
    ·obtain⟨_,_,_,_,o,_,_,e,ex,_⟩:=I.hok p _ hk;exact⟨o,e,ex⟩
   obtain⟨o,e,ex⟩:=z;refine⟨⟨o,e,ex.1⟩,fun a e2=>?_⟩;cases e2;exact⟨o,e,ex.2.1⟩
  ·obtain⟨o,_,_,_,e,ex,_⟩:=I.hok p _ hk;refine⟨⟨o,e,ex.1⟩,fun a e2=>?_⟩;cases e2;exact⟨o,e,ex.2.1⟩
 |_=>exact False.elim ty
def A4 (K:PySem.W.Frag)(T:String)(r:V->List V->Hp->VK->Prop)(to:TE):TE:=fun σ H Q=>to σ H fun x H1=>tyV K T x H1/\r x [] H1 Q
def tBM (K:PySem.W.Frag)(T:String)(r:V->List V->Hp->VK->Prop)(to:TE)(t:TA):TE:=fun σ H Q=>to σ H fun x H1=>tyV K T x H1/\t σ H1 fun xs H2=>r x xs H2 Q
variable {o e:Expr}{es:List Expr}{to:TE}{t:TA}{name:Str}{apos cpos:Pos}{T id:String}{r:V->List V->Hp->VK->Prop}
theorem zN (pa:PlainAttrs T)(slot:Slot T name id)(hty:typeOf (.builtin id)=pure (.type "method_descriptor")) (hm:MtR X id r) (ho:PE X o to)
  (hbase:attributeBase o name X.env (eval o X.env)=eval o X.env:=by rfl) (hline:(apos.endLine==cpos.line)=true:=by rfl):PE X (.Call (.Attribute o name apos) [] [] cpos) (A4 X.K T r to):=by
 intro pins s σ H Q I h;refine wpAny_Call_method0_late hbase hline (bW (ho pins s σ H _ I h) fun v s1 ⟨x,H1,I1,r1,ty,q1⟩=>?_);obtain⟨h1,h2⟩:=uR I1 r1 ty;exact⟨T,id,pa,slot,hty,h1,h2,Calls.callWith_builtin rfl (PySem.evalArgs_none (hm pins s1 σ H1 x [] v [] Q I1 r1 .nil q1))⟩
theorem xT (pa:PlainAttrs T)(slot:Slot T name id)(hty:typeOf (.builtin id)=pure (.type "method_descriptor")) (hm:MtR X id r) (ho:PE X o to) (ha:PA X (e::es) t)
  (hbase:attributeBase o name X.env (eval o X.env)=eval o X.env:=by rfl)
  (hfew:((backTo cpos (starEach (e::es) X.env)).all (fun x=>!x.1)&&(backToKw cpos (keywordEach [] X.env)).all (fun x=>x.1.isSome)
   && decide ((e::es).length+([]:List Keyword).length+(if ([]:List Keyword).isEmpty then 0 else 1)<30))=true:=by rfl)
  (hline:(apos.endLine==cpos.line)=true:=by rfl) (hs:starEach (e::es) X.env=(false,eval e X.env)::starEach es X.env:=by rfl) (hplain:(backTo cpos (starEach es X.env)).any (·.1)=false:=by rfl) :
  PE X (.Call (.Attribute o name apos) (e::es) [] cpos) (tBM X.K T r to t):=by
 intro pins s σ H Q I h;refine wpAny_Call_method_late hbase hfew hline rfl (bW (ho pins s σ H _ I h) fun v s1 ⟨x,H1,I1,r1,ty,q1⟩=>?_);obtain⟨h1,h2⟩:=uR I1 r1 ty;refine⟨T,id,pa,slot,hty,h1,h2,?_⟩;have hA:=ha cpos pins s1 σ H1 _ I1 q1;rw[hs] at hA ⊢;refine Calls.callWith_builtin (by show (false || (backTo cpos (starEach es X.env)).any (·.1))=false;rw[hplain]<;>rfl) (Calls.evalArgs_plain ?_);exact bW hA fun us s2 ⟨vs,H2,I2,r2,q2⟩=>hm pins s2 σ H2 x vs v us Q I2 r1 r2 q2
end
end L2
namespace L2
open PySem PySem.Spec PyProof.Rows
noncomputable def MtM (X:Cx)(id:String)(r:V->List V->Hp->VK->Prop):Prop :=
 ∀(pins:List (Addr×Obj)) (s:Shared) (σ:St) (H:Hp) (x:V) (xs:List V) (v:Value) (us:List Value) (Q:VK),Inv X pins σ H s->RelV x v->aH xs us->r x xs H Q ->
  wpAny (model X.prog X.w) X.A (call (.builtin id) (v::us)) (EP X pins σ Q) X.xe s
theorem aH.one:∀{x:V}{us:List Value},aH [x] us->∃ u,us=[u]/\RelV x u
 |_,_,.cons r .nil=>⟨_,rfl,r⟩
theorem aH.two:∀{x y:V}{us:List Value},aH [x,y] us->∃ u v,us=[u,v]/\RelV x u/\RelV y v
 | _,_,_,.cons r (.cons q .nil)=>⟨_,_,rfl,r,q⟩
theorem aH.rep {xs:List V}{us:List Value}(h:aH xs us):∀ k:Nat,aH (List.replicate k xs).flatten (List.replicate k us).flatten
 |0=>.nil
 | k+1=>by
  rw[de,de,da,da];exact aH.append h (aH.rep h k)
theorem foldl_rep (its:List Value):∀(k:Nat) (acc:List Value),
  List.foldl (fun x1 x2=>x1++x2) acc.toArray (List.replicate k its.toArray)=(acc++(List.replicate k its).flatten).toArray
 |0,acc=>by simp
 | k+1,acc=>by
  have e:acc.toArray++its.toArray=(acc++its).toArray:=by simp
  have e2:(acc++its)++(List.replicate k its).flatten=acc++(List.replicate (k+1) its).flatten:=by
   rw[de,da,ag]
  rw[<-e2,<-foldl_rep its k (acc++its),<-e,de,List.foldl_cons]
section
variable {X:Cx}{pins:List (Addr×Obj)}{σ:St}{H:Hp}{s:Shared}{l b:Addr}{xs ys zs:List V}
theorem Inv.lset {its its':List Value}{n:Nat}{f:Array Value->Array Value}{t':Nat}(I:Inv X pins σ H s)(hH:H l=some (.lst xs))
  (e:s.heap.get? l=some { cls:=.type "list",data:=.seq its.toArray n }) (hf:f its.toArray=its'.toArray) (hv:aH ys its') (hz:ys.length<=sizeLine) :
  Inv X pins σ (upd H l (.lst ys)) { s with heap:=s.heap.update l (Obj.mapSeq f),toks:=t' }:=by
 have q:=PySem.IsL.update e f;rw[hf] at q;refine I.write (x:=l) (e:=l) (by rw[hH];exact trivial) (.inl rfl) (fun b' u hb hu=>(Heap.get?_update_other s.heap (Obj.mapSeq f) (dh hb)).trans hu) ⟨_,q⟩ ?_;exact⟨hz,its',_,hv,q⟩
theorem Inv.lnew {its:List Value}{t':Nat}(I:Inv X pins σ H s)(hv:aH ys its)(hz:ys.length<=sizeLine) :
  Inv X pins σ (upd H s.heap.objs.size (.lst ys)) { s with heap:=s.heap.push { cls:=.type "list",data:=.seq its.toArray },toks:=t' } :=
 I.laid (fun _ _ q=>Heap.get?_push_of_some _ q) (ai _) ⟨hz,its,0,hv,Heap.get?_push_size _ rfl⟩
theorem Inv.fresh (I:Inv X pins σ H s):H s.heap.objs.size=none:=I.hok.fresh (ai _)
theorem Inv.lstM (I:Inv X pins σ H s)(hH:H l=some (.lst xs)):xs.length<=sizeLine/\∃(its:List Value) (n:Nat),aH xs its/\xs.length=its.length/\s.heap.get? l=some { cls:=.type "list",data:=.seq its.toArray n }:=by
 obtain⟨z,its,n,r,e⟩:=I.hok l _ hH;exact⟨z,its,n,r,r.length,e⟩
theorem sZ {n:Nat}(h:n<=sizeLine):Builtin.List.listTooLong n=false:=by
 unfold Builtin.List.listTooLong;exact ay (by omega)
end
section
variable {X:Cx}
def vU:V->List V->Hp->VK->Prop:=fun x vs H Q=>∃ l xs y,x = .ref l/\vs=[y]/\H l=some (.lst xs)/\xs.length<sizeLine/\Q .non (upd H l (.lst (xs ++ [y])))
theorem kB:MtM X "list.append" vU:=by
 intro pins s σ H x vs v us Q I rx rv h;obtain⟨l,xs,y,rfl,rfl,hH,hz,q⟩:=h;cases rx;obtain⟨u,rfl,ru⟩:=rv.one;obtain⟨z,its,n,r,hl,e⟩:=I.lstM hH;refine call_meets F.slot_list_append ⟨_,e,rfl⟩ F.entry_list_append (F.args_list_append_2 _ _) (PySem.list_append l its.toArray n u (by rw[ah];omega)) ⟨e,?_⟩;refine⟨.non,_,I.lset (its':=its ++ [u]) hH e (by simp) (r.append (.cons ru .nil)) ?_,rfl,q⟩;rw[au,cf];omega
theorem len_rep {α:Type}(xs:List α)(k:Nat):(List.replicate k xs).flatten.length=k*xs.length:=by
 induction k with
 |zero=>simp
 |succ k ih=>rw[de,da,au,ih,Nat.succ_mul,Nat.add_comm]
end
section
variable {prog:Program}{w:World}{A:Around}{E:Value->Shared->Prop}{s:Shared}
end
section
variable {X:Cx}
end
end L2
namespace Att
open PySem PySem.W PySem.Calls PyProof.Rows
theorem i4 {P:Params}{h:Heap}:∀(ns:List Int) (vs:List Value),WellAll P h vs (ns.map WData.int)->IntsAre vs ns:=by
 intro ns
 induction ns with
 |nil =>
  intro vs w;rw[f7] at w;cases w;exact .nil
 |cons n ns ih =>
  intro vs w;rw[aw] at w;cases w with
  |cons a b =>
   cases a;exact .cons _ _ (ih _ b)
theorem rl {l:OpenLaw}{n:Nat}(hn:l.most=some n){P:Params}{h:Heap}{args:List WData}{vals:List Value}
  (hpre:l.row.toRowW.claim.pre args=true) (hwl:WellAll P h vals args) :
  ∃ a vs ns,vals=[Value.ref a]/\args=[WData.list (ns.map WData.int)]/\h.get? a=some { cls:=.type "list",data:=.seq vs.toArray }/\IntsAre vs ns/\ns.length<=n:=by
 have hsh:WShape.hasAll [] args [.list .int]=true:=(pre_splitW hpre).1;have hc:l.pre.holds [] { args:=args }=true:=(pre_splitW hpre).2;obtain⟨d,r,rfl,h1,h2⟩:=hasAllW_cons hsh;obtain rfl:=hasAllW_nil h2;obtain⟨xs,rfl,h3⟩:=hasW_list h1;obtain⟨ns,rfl⟩:=items_int h3;have hlen:ns.length<=n:=by
  unfold OpenLaw.pre at hc;have h4:(WTm.not (.lt (.lit (.int (n:Int))) (.len (.arg 0)))).holds [] { args:=[.list (ns.map .int)] }=true:=by
   have h4:=(holds_andW hc).1;rw[hn] at h4;exact h4
  have h5:=condW_of h4 (w_not (w_lt w_lit (w_len_list (w_arg rfl))));rw[ak] at h5;refine g6 fun q=>?_
  have q':(n:Int)<((ns.length:Nat):Int):=by omega
  first
   | (rw[bu q'] at h5;exact absurd h5 (by decide))
   | (simp at h5;omega)
 cases hwl with
 |cons w1 w2 =>
  cases w2;cases w1 with
  |list ho hall=>exact⟨_,_,ns,rfl,rfl,ho,i4 ns _ hall,hlen⟩
theorem rz (l:OpenLaw)(args:List WData):l.row.toRowW.claim.post args (.bool true) args=true :=
 postW_of (r:=l.row.toRowW) (X:=(true==true))
  (show WShape.has [] (.bool true) .bool=true by first | rfl | decide | simp[WShape.has,WShape.arms,WShape.armsAll])
  (show (WTm.eq .res (.lit (.bool true))).value [] { args:=args,res:=some (.bool true),after:=args }=some (.bool (true==true)) from w_eq_bool (w_res rfl) w_lit) rfl
theorem ni {l:OpenLaw}{n:Nat}{q:Program}{loose:List Str}{XP:(Str->Option Value)->Heap->Prop}{YP:World->Heap->Prop}{d:DefRec}
  (hn:l.most=some n) (hdf:d.params.defaults=[])
  (call:∀(w:World) (s₀ s₁:Shared) (mg mb:Str->Option Value) (fa:Addr) (o:Obj) (pm cd doc:Value) (a:Addr) (vs:List Value) (ns:List Int),
   Ground q loose [] XP w s₀ mg mb s₁.heap->YP w s₁.heap ->
   s₁.heap.get? fa=some o->o.data = .func (docDef d.name d.params d.body d.scope pm cd doc)->s₁.heap.CodeRec cd d.name->mg d.name=some (.ref fa) ->
   s₁.heap.get? a=some { cls:=.type "list",data:=.seq vs.toArray }->IntsAre vs ns->ns.length<=n->s₁.gens = #[] ->
   codeAny (model l.prog w) callerA (.call (.ref fa) ⟨[.ref a],[]⟩) (fun r s'=>r = .ok (.ret (.bool true))/\OldK s₁.heap s'.heap/\s'.os=s₁.os/\AllBare s'.gens) s₁) :
  WalkO q loose XP YP l.row.toRowW d [] (fun f vs=>PySem.call f vs):=by
 intro w s₀ s₁ mg mb G Y fa o pm cd doc dV kV ho hd hcd hD hmg hg args vals as hpre hlay hrd hwl hlo;obtain rfl:dV = .none:=Dflts.none hD hdf;obtain rfl:kV = .none:=Dflts.noKw hD;obtain⟨a,vs,ns,rfl,rfl,hobj,hints,hlen⟩:=rl hn hpre hwl;refine enter_call (codeAny_mono (call w s₀ s₁ mg mb fa o pm cd doc a vs ns G Y ho (fd_plain hd) hcd hmg hobj hints hlen hg) fun r s' hq=>?_);obtain⟨rfl,h2,h3,h4⟩:=hq;exact⟨.inl ⟨.bool true,.bool true,[],rfl,fun _=>rfl,.bool true,rz l _,fun _=>⟨List.Pairwise.nil,fun _ hm=>(nomatch hm)⟩⟩,h2,h3,h4⟩
section
variable {prog:Program}{w:World}{A:Around}{E:Value->Shared->Prop}{s:Shared}{K:Frag}
noncomputable def jv (h:Heap):Heap:={ h with objs:=#[] }
theorem gS (h:Heap)(b:Addr):(jv h).get? b=none:=by
 cases e:(jv h).get? b with
 |none=>rfl
 |some o=>exact absurd (Heap.lt_size e) (Nat.not_lt_zero _)
noncomputable def ledger (h:Heap)(L d:Addr):List (Addr×Obj):=(List.range h.objs.size).filterMap fun a=>if a=L\/a=d then none else (h.get? a).map fun o=>(a,o)
theorem cD {h:Heap}{L d a:Addr}{o:Obj}:(a,o)∈ledger h L d↔a≠L/\a≠d/\h.get? a=some o:=by
 unfold ledger;rw[List.mem_filterMap];constructor
 ·rintro⟨b,_,e⟩;split at e
  ·cases e
  ·rename_i hb;obtain⟨o',ho,e'⟩:=aa.mp e;cases e';exact⟨fun q=>hb (.inl q),fun q=>hb (.inr q),ho⟩
 ·rintro⟨n1,n2,ho⟩;refine⟨a,List.mem_range.mpr (Heap.lt_size ho),?_⟩;rw[if_neg (show ¬ (a=L\/a=d) from fun q=>q.elim n1 n2),ho]<;>rfl
theorem sD {h:Heap}{L:Addr}{m:Str->Option Value}(n:h.Ns L m):Fr (jv h) L h m :=
 ⟨n,fun b o e=>(by rw[gS] at e;cases e),cn _⟩
end
end Att
namespace L2
open PySem PySem.Spec PyProof.Rows
theorem eM:∀{vs:List Value}{ns:List Int},IntsAre vs ns->aH (ns.map V.int) vs
 |_,_,.nil=>.nil
 |_,_,.cons n t h=>.cons ⟨t,rfl⟩ (eM h)
def AE (H:Hp):Prop:=∀ b,H b=none\/∃ o xs,H b=some (.frz o (.lst xs))
theorem uS {P:Program}{w:World}{K:PySem.W.Frag}{mg mb:Str->Option Value}{CX:uN}{k:Nat}{fa a:Addr}{fd:FuncData}{x:Str}{sp:Sp}{s₁:Shared}{vs:List Value}{ns:List Int}
  (KX:K.In s₁.heap) (hns:s₁.heap.Ns mainGlobals mg) (hb:s₁.heap.Ns builtinsNs mb) (hbb:∀ x:Str,x≠"__name__"->mb x=bootBuiltins x) (hlim:s₁.heap.NoLimit) (hg:s₁.gens = #[])
  (ha:s₁.heap.get? a=some { cls:=.type "list",data:=.seq vs.toArray }) (hi:IntsAre vs ns) (hl:ns.length<=sizeLine) (hr:fL k callerA)
  (F:∀ base:Heap,K.In base->base.Ns mainGlobals mg->lA P w K mg base CX k fa fd [x] sp) (hbind:∀(s:Shared) (u:Value),BindsTo s fd ⟨[u],[]⟩ [(x,u)])
  (hsp:∀ H:Hp,AE H->j6 K H a (ns.map V.int)->sp [.ref a] H (fun v _=>v = .bl true) fun _ _ _=>False)
  (hCX:∀ H e s',CX [] H s₁ (fun _ _ _=>False) e s'->False) :
  codeAny (model P w) callerA (.call (.ref fa) ⟨[.ref a],[]⟩) (fun r s'=>r = .ok (.ret (.bool true))/\OldK s₁.heap s'.heap/\s'.os=s₁.os/\AllBare s'.gens) s₁:=by
 have rv:=eM hi;have lenV:=hi.length;have core:∀ H:Hp,AE H->j6 K H a (ns.map V.int)->iF P w H s₁.heap->(∀ b,H b≠none->b=a)->(H a≠none->K.lookup a=none) ->
   codeAny (model P w) callerA (.call (.ref fa) ⟨[.ref a],[]⟩) (fun r s'=>r = .ok (.ret (.bool true))/\OldK s₁.heap s'.heap/\s'.os=s₁.os/\AllBare s'.gens) s₁:=by
  intro H hO hS hok hA hK;have base_of:∀{b:Addr}{o:Obj},s₁.heap.get? b=some o->H b=none->(lW s₁.heap H).get? b=some o:=fun e n=>ua e n
  have noA:∀{b:Addr}{o:Obj}{es:Array DictEntry}{ep:Nat},s₁.heap.get? b=some o->o.data = .dict es ep->H b=none:=fun {b o es ep} e d=>by
   cases q:H b with
   |none=>rfl
   |some u =>
    have e':b=a:=hA b (by rw[q];simp);subst e';rw[ha] at e;cases e;have d':Data.seq vs.toArray _=Data.dict es ep:=d;cases d'
  have nsK:∀{b:Addr}{m:Str->Option Value},s₁.heap.Ns b m->(lW s₁.heap H).Ns b m:=fun {b m} ⟨o,es,ep,e,d,r⟩=>⟨o,es,ep,base_of e (noA e d),d,r⟩
  have hKb:K.In (lW s₁.heap H):=fun b o e=>base_of (KX b o e) (by
   cases q:H b with
   |none=>rfl
   |some u =>
    have e':b=a:=hA b (by rw[q];simp);subst e';rw[hK (by rw[q];simp)] at e;cases e)
  have hM:Mod K mg (lW s₁.heap H):=⟨hKb,nsK hns,⟨mb,nsK hb,hbb⟩,let ⟨mc,h1,h2⟩:=hlim;⟨mc,nsK h1,h2⟩⟩;have e0:xl P w K mg (lW s₁.heap H) callerA [] s₁ H:=⟨rfl,hM,fun b o e=>xj e,Nat.le_of_eq (qU _ _),trivial,fun b hb=>absurd (show b∈([]:List Addr) from hb) (by simp),hok,.of_eq hg⟩;refine codeAny_mono ((F _ hKb (nsK hns)).run callerA [] s₁ H ⟨[.ref a],[]⟩ [.ref a] [.ref a] _ _ hr e0 (hbind s₁ (.ref a)) (.cons rfl .nil) (hsp H hO hS)) fun r s' h=>?_
  cases r with
  |error e=>exact (hCX H e s' h).elim
  |ok fl =>
   cases fl with
   |next=>exact False.elim h
   |brk=>exact False.elim h
   |cont=>exact False.elim h
   |ret u =>
    obtain⟨v,H',os,bare,un,hok',r',q⟩:=h;have q':v = .bl true:=q;subst q';obtain rfl:u=Value.bool true:=r';refine⟨rfl,OldK.of_keep fun b o e=>?_,os,bare⟩;cases q:H b with
    |none=>exact un.keep b o e q (by intro z;exact absurd (show b∈([]:List Addr) from z) (by simp)) (by simp)
    |some u =>
     rcases hO b with z | ⟨ob,xs,z⟩
     ·rw[q] at z;cases z
     ·have z2:=un.frzs b ob _ z;obtain⟨e1,_⟩:=hok b _ z;obtain⟨e2,_⟩:=hok' b _ z2;rw[e] at e1;cases e1;exact e2
 cases hk:K.lookup a with
 |some o =>
  have e:=KX a o hk;rw[ha] at e;cases e;refine core (fun _=>none) (fun _=>.inl rfl) (.inr ⟨_,vs.toArray,_,hk,rfl,rfl,rfl,by rw[List.size_toArray,lenV];exact hl,by simpa using rv⟩) (fun b u z=>by have z':(none:Option HO)=some u:=z;cases z') (fun b z=>absurd rfl z) fun z=>absurd rfl z
 |none =>
  refine core (fun b=>if b=a then some (.frz { cls:=.type "list",data:=.seq vs.toArray } (.lst (ns.map V.int))) else none) (fun b=>?_) (.inl (.inr ⟨{ cls:=.type "list",data:=.seq vs.toArray },if_pos rfl⟩)) (fun b u z=>?_) (fun b z=>?_) fun _=>hk
  ·by_cases hb:b=a
   ·exact .inr ⟨_,_,if_pos hb⟩
   ·exact .inl (if_neg hb)
  ·by_cases hb:b=a
   ·have z':=(if_pos hb).symm.trans z;cases z';subst hb;exact⟨ha,by rw[ak];exact hl,vs,_,rv,ha⟩
   ·have z':=(if_neg hb).symm.trans z;cases z'
  ·by_cases hb:b=a
   ·exact hb
   ·exact absurd (if_neg hb) z
end L2
namespace L2
open PySem PySem.Spec PyProof.Rows
theorem vj {l:PySem.W.OpenLaw}{n k:Nat}{q:Program}{loose:List Str}{XP:(Str->Option Value)->Heap->Prop}{YP:World->Heap->Prop}{d:DefRec}{K:Params->PySem.W.Frag}{CX:World->uN}{sp:World->Sp}{x:Str}
  (hn:l.most=some n) (hn2:n<=sizeLine) (hdf:d.params.defaults=[]) (hr:fL k callerA)
  (hY:∀(w:World) (h:Heap),YP w h->(K w.params).In h)
  (F:∀(w:World) (mg:Str->Option Value) (fa:Addr) (h:Heap),(K w.params).In h->h.Ns mainGlobals mg->mg d.name=some (.ref fa) ->
   ∃ fd:FuncData,(∀(s:Shared) (u:Value),BindsTo s fd ⟨[u],[]⟩ [(x,u)]) /\
    ∀ base:Heap,(K w.params).In base->base.Ns mainGlobals mg->lA l.prog w (K w.params) mg base (CX w) k fa fd [x] (sp w))
  (hsp:∀(w:World) (H:Hp) (a:Addr) (ns:List Int),ns.length<=n->AE H->j6 (K w.params) H a (ns.map V.int)->sp w [.ref a] H (fun v _=>v = .bl true) fun _ _ _=>False)
  (hCX:∀(w:World) (H:Hp) (s:Shared) (e:Value) (s':Shared),CX w [] H s (fun _ _ _=>False) e s'->False) :
  PySem.W.WalkO q loose XP YP l.row.toRowW d [] (fun f vs=>PySem.call f vs):=by
 refine Att.ni hn hdf fun w s₀ s₁ mg mb fa o pm cd doc a vs ns G Y ho hd hcd hmg hobj hints hlen hg=>?_
 have KX:=hY w _ Y;obtain⟨fd,hb,hF⟩:=F w mg fa _ KX G.T.g hmg;exact uS KX G.T.g G.T.b G.T.builtins G.T.nolimit hg hobj hints (bh hlen hn2) hr hF hb (fun H hO hS=>hsp w H a ns hlen hO hS) fun H e s'=>hCX w H s₁ e s'
end L2
namespace L2
open PySem PySem.Spec PyProof.Rows
noncomputable def dG (s:Stmt):Arguments:=match s with
 |.FunctionDef _ a _ _ _ _ _ _ _ _=>a
 |_=>{ posonlyargs:=[],args:=[],vararg:=none,kwonlyargs:=[],kw_defaults:=[],kwarg:=none,defaults:=[] }
noncomputable def cA (s:Stmt):List Stmt:=match s with
 |.FunctionDef _ _ b _ _ _ _ _ _ _=>b
 |_=>[]
noncomputable def aR (s:Stmt):Scope:=match s with
 |.FunctionDef _ _ _ _ _ _ sc _ _ _=>sc
 |_=>{ kind:=.function,names:=[],isGenerator:=false,isCoroutine:=false }
noncomputable abbrev AH:uN:=fun _ _ _ _ _ _=>False
noncomputable abbrev E0:XK:=fun _ _ _=>False
theorem xK {X:Cx}:lC AH X E0:=fun _ _ _ _ _ _ _ h=>h.elim
structure yi (K:PySem.W.Frag)(x qual:Str)(st:Stmt)(f:Addr)(fd:FuncData):Prop where
 ex:∃(oc:Value) (od:Option Addr) (kV doc pm:Value) (an:Option Addr) (cdv ct:Value) (osl:Array (Option Value)),
  fd=PySem.W.fnOf x qual (dG st) (cA st) (aR st) .none kV doc pm an cdv ct/\K.lookup f=some ⟨oc,od,.func fd,osl⟩/\PySem.W.codeIn K cdv qual=true
 kp:PySem.W.keepIn K (.ref f)=true
section
variable {P:Program}{w:World}{K:PySem.W.Frag}{mg:Str->Option Value}{base:Heap}
theorem yi.ok {x qual:Str}{st:Stmt}{f:Addr}{fd:FuncData}{N ps:List Str}{k:Nat}{sp:Sp}(F:yi K x qual st f fd)(S:jf N ps (aR st))(len:∀ vs H Q E,sp vs H Q E->vs.length=ps.length)
  (hbody:∀(cdv:Value) (A:Around) (outer:List Env) (s:Shared) (H:Hp) (vs:List V) (Q:VK) (E:XK),fL k (A.deeper (envOfC qual (aR st) s.heap.objs.size f cdv))->sp vs H Q E ->
   ∃ t,kI (oq AH P w K mg base N qual (aR st) f cdv A outer s H E).nox (cA st) t/\t { nx:=fun _ H'=>Q .non H',rt:=Q } (start N vs) H):lA P w K mg base AH (k+1) f fd ps sp:=by
 obtain⟨oc,od,kV,doc,pm,an,cdv,ct,osl,rfl,lk,hcd⟩:=F.ex;refine By lk hcd S len fun A outer s H vs Q E hr hsp=>?_
 obtain⟨t,h,q⟩:=hbody cdv A outer s H vs Q E hr hsp;exact⟨t,h.nox,q⟩
theorem yi.binds {x qual:Str}{st:Stmt}{f:Addr}{fd:FuncData}{ps:List Str}(F:yi K x qual st f fd)
  (h:∀(kV doc pm:Value) (an:Option Addr) (cdv ct:Value) (us:List Value),us.length=ps.length->bindArgs (PySem.W.fnOf x qual (dG st) (cA st) (aR st) .none kV doc pm an cdv ct) ⟨us,[]⟩=pure (ps.zip us)):Binds K fd ps []:=by
 obtain⟨oc,od,kV,doc,pm,an,cdv,ct,osl,rfl,lk,hcd⟩:=F.ex;exact .all (h kV doc pm an cdv ct)
theorem yn {x qual:Str}{st:Stmt}{f:Addr}{oc:Value}{od an:Option Addr}{osl:Array (Option Value)}{kV doc pm cdv ct:Value}(l:K.lookup f=some ⟨oc,od,.func (PySem.W.fnOf x qual (dG st) (cA st) (aR st) .none kV doc pm an cdv ct),osl⟩)
  (c:PySem.W.codeIn K cdv qual=true) (k:PySem.W.keepIn K (.ref f)=true):yi K x qual st f (PySem.W.fnOf x qual (dG st) (cA st) (aR st) .none kV doc pm an cdv ct):=⟨⟨oc,od,kV,doc,pm,an,cdv,ct,osl,rfl,l,c⟩,k⟩
end
section
variable {X:Cx}
end
def aE (H H':Hp):Prop:=∀ b o,H b=some o->H' b=some o
theorem aE.refl (H:Hp):aE H H:=fun _ _ h=>h
theorem aE.trans {H H1 H2:Hp}(a:aE H H1)(b:aE H1 H2):aE H H2:=fun c o h=>b c o (a c o h)
section
variable {κ:Type}[DecidableEq κ]
noncomputable def gL (kvs:List (κ×V))(k:κ):Option V:=(kvs.find? fun kv=>decide (kv.1=k)).map (·.2)
noncomputable def putK (kvs:List (κ×V))(k:κ)(v:V):List (κ×V) :=
 if (kvs.any fun kv=>decide (kv.1=k))=true then kvs.map (fun kv=>if kv.1=k then (kv.1,v) else kv) else kvs ++ [(k,v)]
theorem hU {p:κ×V}{r:List (κ×V)}{k:κ}(e:p.1=k):gL (p::r) k=some p.2:=by simp[gL,List.find?_cons,e]
theorem hV {p:κ×V}{r:List (κ×V)}{k:κ}(e:¬ p.1=k):gL (p::r) k=gL r k:=by simp[gL,List.find?_cons,e]
theorem ir (k:κ):∀ kvs:List (κ×V),(kvs.any fun kv=>decide (kv.1=k))=(gL kvs k).isSome
 |[]=>rfl
 | p::r=>by
  rw[dz];by_cases e:p.1=k
  ·simp only[hU e,decide_eq_true e,Bool.true_or,Option.isSome_some]
  ·rw[hV e,ay e,Bool.false_or];exact ir k r
theorem mH (kvs:List (κ×V))(k:κ)(v:V):(putK kvs k v).length<=kvs.length+1:=by
 unfold putK;split
 ·rw[ak];omega
 ·rw[au,av,du];omega
theorem qG.isSome_eq {o:Option V}{u:Option Value}(r:qG o u):o.isSome=u.isSome:=by
 cases o with
 |none=>cases u with
  |none=>rfl
  |some _=>exact (show False from r).elim
 |some _=>cases u with
  |none=>exact (show False from r).elim
  |some _=>rfl
theorem KV.val {kvs:List (κ×V)}{vs:List (κ×Value)}(r:KV kvs vs)(k:κ):qG (gL kvs k) (valueAt vs k):=by
 unfold KV at r
 induction r with
 |nil=>exact True.intro
 |@cons p q ps qs h t ih =>
  obtain⟨h1,h2⟩:=h;by_cases e:p.1=k
  ·have e':q.1=k:=h1.symm.trans e;have b:valueAt (q::qs) k=some q.2:=by simp[valueAt,List.find?_cons,e']
   rw[hU e,b];exact h2
  ·have e':¬ q.1=k:=fun z=>e (h1.trans z)
   have b:valueAt (q::qs) k=valueAt qs k:=by simp[valueAt,List.find?_cons,e']
   rw[hV e,b];exact ih
theorem KV.any {kvs:List (κ×V)}{vs:List (κ×Value)}(r:KV kvs vs)(k:κ):(kvs.any fun kv=>decide (kv.1=k))=vs.any fun kv=>decide (kv.1=k):=by
 unfold KV at r
 induction r with
 |nil=>rfl
 |cons h t ih=>rw[dz,dz,ih,h.1]
theorem KV.repl {kvs:List (κ×V)}{vs:List (κ×Value)}(r:KV kvs vs)(k:κ){y:V}{u:Value}(ry:RelV y u) :
  KV (kvs.map fun kv=>if kv.1=k then (kv.1,y) else kv) (vs.map fun kv=>if kv.1=k then (kv.1,u) else kv):=by
 unfold KV at r ⊢
 induction r with
 |nil=>exact .nil
 |@cons p q ps qs h t ih =>
  rw[aw,aw];refine .cons ?_ ih;obtain⟨h1,h2⟩:=h;by_cases e:p.1=k
  ·rw[if_pos e,if_pos (h1.symm.trans e)];exact⟨h1,ry⟩
  ·rw[if_neg e,if_neg (fun z=>e (h1.trans z))];exact⟨h1,h2⟩
theorem KV.put {kvs:List (κ×V)}{vs:List (κ×Value)}(r:KV kvs vs)(k:κ){y:V}{u:Value}(ry:RelV y u):KV (putK kvs k y) (stored vs k u):=by
 unfold putK stored;rw[r.any k];by_cases e:(vs.any fun kv=>decide (kv.1=k))=true
 ·rw[if_pos e,if_pos e];exact r.repl k ry
 ·rw[if_neg e,if_neg e];exact Paired.snoc r ⟨rfl,ry⟩
theorem KV.keys {kvs:List (κ×V)}{vs:List (κ×Value)}(r:KV kvs vs):kvs.map (·.1)=vs.map (·.1):=by
 unfold KV at r
 induction r with
 |nil=>rfl
 |cons h t ih=>rw[aw,aw,ih,h.1]
theorem KV.length {kvs:List (κ×V)}{vs:List (κ×Value)}(r:KV kvs vs):kvs.length=vs.length:=Paired.length r
end
theorem p8 {P:Program}{w:World}{k:Key}{u:Value}(r:RelV (kV k) u):(aI P w).is k u=true:=by
 cases k with
 |inl i=>obtain⟨t,e⟩:=(show ∃ t,u=Value.int i t from r);subst e;exact cW P w i t
 |inr x=>obtain⟨t,e⟩:=(show ∃ t,u=Value.str x t from r);subst e;exact cH P w x t
theorem iR {P:Program}{w:World}:∀{ks:List Key}{us:List Value},aH (ks.map kV) us->ItemsAre (aI P w) ks us
 |[],_,r=>by rw[f7] at r;cases r;exact .nil
 | k::ks,_,r=>by
  rw[aw] at r;cases r with
  |cons h t=>exact .cons (p8 h) (iR t)
noncomputable abbrev KT (H:Hp):List (List Key×V)->List (List Key×Addr×Value)->Prop:=Paired fun p q=>p.1=q.1/\H q.2.1=some (.tup (p.1.map kV))/\RelV p.2 q.2.2
theorem KT.val {H:Hp}{kvs:List (List Key×V)}{xs:List (List Key×Addr×Value)}(r:KT H kvs xs)(k:List Key):qG (gL kvs k) ((atKey xs k).map (·.2)):=by
 induction r with
 |nil=>exact True.intro
 |@cons p q ps qs h t ih =>
  obtain⟨h1,_,h2⟩:=h;by_cases e:p.1=k
  ·have e':q.1=k:=h1.symm.trans e;have b:atKey (q::qs) k=some q.2:=by simp[atKey,List.find?_cons,e']
   rw[hU e,b];exact h2
  ·have e':¬ q.1=k:=fun z=>e (h1.trans z)
   have b:atKey (q::qs) k=atKey qs k:=by simp[atKey,List.find?_cons,e']
   rw[hV e,b];exact ih
section
variable {P:Program}{w:World}{H:Hp}{h:Heap}{a:Addr}
theorem xF {u:HO}(ok:iF P w H h)(e:Rd H a u):bM P w H h a u:=e.ok ok
theorem i0 {kvs:List (Key×V)}(ok:iF P w H h)(e:Rd H a (.dK kvs)):kvs.length<=sizeLine/\(a==sysModules)=false/\∃ vs,KV kvs vs/\h.DictOf (aI P w) a vs :=
 show bM P w H h a (.dK kvs) from xF ok e
theorem Bk {kvs:List (Key×V)}(ok:iF P w H h)(e:H a=some (.dK kvs)):kvs.length<=sizeLine/\(a==sysModules)=false/\∃ vs,KV kvs vs/\h.DictOf (aI P w) a vs:=i0 ok (.inl e)
theorem oI {ks:List Key}(ok:iF P w H h)(e:H a=some (.tup (ks.map kV))):(tupleKind (aI P w)).is h ks a:=by
 obtain⟨_,its,r,o,h1,h2,n,h3⟩:=(show bM P w H h a (.tup (ks.map kV)) from ok a _ e);exact⟨o,its.toArray,n,h1,h2,h3,by simpa using iR r⟩
theorem p7 {kvs:List (List Key×V)}(ok:iF P w H h)(e:Rd H a (.dT kvs)):kvs.length<=sizeLine/\(a==sysModules)=false /\
  ∃ xs,KT H kvs xs/\h.DictOfH (tupleKind (aI P w)) a xs:=by
 obtain⟨z,y,xs,r,o,es,ep,h1,h2,h3,h4,h5⟩:=(show bM P w H h a (.dT kvs) from xF ok e);refine⟨z,y,xs,r,o,es,ep,h1,h2,h3,h4,fun x hx=>?_,h5⟩;have all:∀{l:List (List Key×V)}{m:List (List Key×Addr×Value)},KT H l m->∀ x∈m,(tupleKind (aI P w)).is h x.1 x.2.1:=by
  intro l m q
  induction q with
  |nil=>intro x hx;exact nomatch hx
  |@cons p q ps qs hq t ih =>
   intro x hx;rcases ft.mp hx with e | hx
   ·subst e;exact oI ok (by rw[<-hq.1];exact hq.2.1)
   ·exact ih x hx
 exact all r x hx
end
noncomputable def wg (H:Hp)(a:Addr)(y:V)(r:Option V):Prop :=
 (∃ kvs k,Rd H a (.dK kvs)/\y=kV k/\r=gL kvs k)\/∃ kvs k b,Rd H a (.dT kvs)/\y = .ref b/\H b=some (.tup (k.map kV))/\r=gL kvs k
section
variable {X:Cx}{pins:List (Addr×Obj)}{σ:St}{H:Hp}{s:Shared}{a:Addr}{y v:V}{u r:Value}{o:Option V}{A:Around}{E:Value->Shared->Prop}
theorem Inv.big (I:Inv X pins σ H s):sysModules<s.heap.objs.size:=by
 have h:mainGlobals<s.heap.objs.size:=(I.mod.glob.keeps I.bk).lt;exact Nat.lt_trans (by decide) h
theorem Ce {Q:Value->Shared->Prop}(hu:A.units+1<cLine)(I:Inv X pins σ H s)(g:wg H a y o)(ry:RelV y u)(h:∀ s',Inv X pins σ H s'->Q (.bool o.isSome) s') :
  wpAny (model X.prog X.w) A (compareOp .In u (.ref a)) Q E s:=by
 rcases g with ⟨kvs,k,e,ey,l⟩ | ⟨kvs,k,b,e,ey,eb,l⟩
 ·subst ey;obtain⟨z,hd,vs,rel,dd⟩:=i0 I.hok e;refine wpAny_in_of (p8 ry) hd dd.mapOf ?_;rw[<-(rel.val k).isSome_eq,<-l];exact h _ (I.tok _)
 ·subst ey;cases (show u=Value.ref b from ry);obtain⟨z,hd,xs,rel,dd⟩:=p7 I.hok e;refine wpAny_in_heap (tupleKind_room_in1 hu) (oI I.hok eb) hd dd ?_;have q:=(rel.val k).isSome_eq;rw[Option.isSome_map] at q;rw[<-q,<-l];exact h _ (I.tok _)
theorem oY {Q:Value->Shared->Prop}(hu:A.units+1<cLine)(I:Inv X pins σ H s)(g:wg H a y o)(ry:RelV y u)(h:∀ s',Inv X pins σ H s'->Q (.bool (!o.isSome)) s') :
  wpAny (model X.prog X.w) A (compareOp .NotIn u (.ref a)) Q E s:=by
 rcases g with ⟨kvs,k,e,ey,l⟩ | ⟨kvs,k,b,e,ey,eb,l⟩
 ·subst ey;obtain⟨z,hd,vs,rel,dd⟩:=i0 I.hok e;refine wpAny_notIn_of (p8 ry) hd dd.mapOf ?_;rw[<-(rel.val k).isSome_eq,<-l];exact h _ (I.tok _)
 ·subst ey;cases (show u=Value.ref b from ry);obtain⟨z,hd,xs,rel,dd⟩:=p7 I.hok e;refine wpAny_notIn_heap (tupleKind_room_in1 hu) (oI I.hok eb) hd dd ?_;have q:=(rel.val k).isSome_eq;rw[Option.isSome_map] at q;rw[<-q,<-l];exact h _ (I.tok _)
theorem wy {h':Heap}{t':Nat}{ob:HO}(I:Inv X pins σ H s)(mu:mZ (H a))(hs:Heap.SameBut a s.heap h')(he:∃ q,h'.get? a=some q)(new:bM X.prog X.w (upd H a ob) h' a ob) :
  Inv X pins σ (upd H a ob) { s with heap:=h',toks:=t' } :=
 I.write (x:=a) (e:=a) mu (.inl rfl) (fun b q hb z=>(hs.2 b hb).trans z) he new
theorem zO {P:Program}{w:World}{H':Hp}{h':Heap}{kvs:List (Key×V)}{vs:List (Key×Value)}(z:kvs.length<=sizeLine)(hd:(a==sysModules)=false)(rel:KV kvs vs)(dd:h'.DictOf (aI P w) a vs) :
  bM P w H' h' a (.dK kvs):=⟨z,hd,vs,rel,dd⟩
end
section
variable {X:Cx}{pins:List (Addr×Obj)}{σ:St}{H:Hp}{s:Shared}{a:Addr}{kvs:List (Key×V)}{k:Key}{u:Value}{A:Around}{E:Value->Shared->Prop}
end
section
variable {X:Cx}{o i e value:Expr}{pos pos' tpos:Pos}{td ty tv:TE}
end
theorem t8 {P:Program}{w:World}{H:Hp}(h:Heap)(hb:sysModules<h.objs.size):bM P w H (h.push { cls:=.type "dict",data:=.dict #[] }) h.objs.size (.dK []) :=
 ⟨cn _,beq_eq_false_iff_ne.mpr (dh (bg hb)),[],.nil,Heap.DictOf.new h⟩
section
variable {X:Cx}{pos:Pos}
end
noncomputable def jK:List (TE×TE)->St->Hp->(List (V×V)->Hp->Prop)->Prop
 |[],_,H,Q=>Q [] H
 | (tk,tv)::r,σ,H,Q=>tk σ H fun x H1=>tv σ H1 fun y H2=>jK r σ H2 fun ps H3=>Q ((x,y)::ps) H3
noncomputable abbrev VV:List (V×V)->List (Value×Value)->Prop:=Paired fun p q=>RelV p.1 q.1/\RelV p.2 q.2
noncomputable def BX (X:Cx)(pos:Pos)(keys:List (Option Expr))(values:List Expr)(trs:List (TE×TE)):Prop :=
 ∀(pins:List (Addr×Obj)) (s:Shared) (σ:St) (H:Hp) (Q:List (V×V)->Hp->Prop),Inv X pins σ H s->jK trs σ H Q ->
  wpAny (model X.prog X.w) X.A (evalPairs (pairTrees keys values X.env pos)) (fun vs s'=>∃ ps H',Inv X pins σ H' s'/\VV ps vs/\Q ps H') X.xe s
theorem vQ {X:Cx}{pos:Pos}:BX X pos [] [] []:=fun pins s σ H Q I h=>pairTrees_nil_walk ⟨[],H,I,.nil,h⟩
theorem tQ {X:Cx}{pos:Pos}{k v:Expr}{ks:List (Option Expr)}{vs:List Expr}{tk tv:TE}{trs:List (TE×TE)}(hk:PE X k tk)(hv:PE X v tv)(hr:BX X pos ks vs trs) :
  BX X pos (some k::ks) (v::vs) ((tk,tv)::trs):=fun pins s σ H Q I h =>
 pairTrees_cons_walk (bW (hk pins s σ H _ I h) fun u s1 ⟨x,H1,I1,rx,q1⟩=>bW (hv pins s1 σ H1 _ I1 q1) fun w2 s2 ⟨y,H2,I2,ry,q2⟩ =>
  bW (hr pins s2 σ H2 _ I2 q2) fun ws s3 ⟨ps,H3,I3,rel,q3⟩=>⟨(x,y)::ps,H3,I3,.cons ⟨rx,ry⟩ rel,q3⟩)
noncomputable def eR (kvs more:List (Key×V)):List (Key×V):=more.foldl (fun acc kv=>putK acc kv.1 kv.2) kvs
theorem KV.merge:∀{more:List (Key×V)}{rs:List (Key×Value)}{kvs:List (Key×V)}{vs:List (Key×Value)},KV more rs->KV kvs vs->KV (eR kvs more) (merged vs rs):=by
 intro more rs kvs vs r;unfold KV at r
 induction r generalizing kvs vs with
 |nil=>intro q;exact q
 |@cons p q ps qs h t ih =>
  intro r0;have e:KV (putK kvs p.1 p.2) (stored vs q.1 q.2):=by
   have:=r0.put p.1 h.2;rw[<-h.1];exact this
  exact ih e
theorem gF:∀(more kvs:List (Key×V)),(eR kvs more).length<=kvs.length+more.length
 |[],kvs=>by show kvs.length<=kvs.length+0;omega
 | p::r,kvs=>by
  have h1:=gF r (putK kvs p.1 p.2);have h2:=mH kvs p.1 p.2;show (eR (putK kvs p.1 p.2) r).length<=_;rw[av];omega
theorem ju {P:Program}{w:World}:∀{kvs:List (Key×V)}{ws:List (Value×Value)},VV (kvs.map fun kv=>(kV kv.1,kv.2)) ws->∃ rs,Carries (aI P w) ws rs/\KV kvs rs
 |[],_,r=>by rw[f7] at r;cases r;exact⟨[],True.intro,.nil⟩
 | p::kvs,_,r=>by
  rw[aw] at r;cases r with
  |@cons a b as bs h t =>
   obtain⟨rs,c,q⟩:=ju (P:=P) (w:=w) t;obtain⟨b1,b2⟩:=b;exact⟨(p.1,b2)::rs,⟨p8 h.1,rfl,c⟩,.cons ⟨rfl,h.2⟩ q⟩
def B0 (trs:List (TE×TE)):TE:=fun σ H Q=>∀ p,H p=none->jK trs σ (upd H p (.dK [])) fun ps H2=>H2 p=some (.dK [])/\∃ kvs:List (Key×V),ps=kvs.map (fun kv=>(kV kv.1,kv.2))/\kvs.length<=15/\Q (.ref p) (upd H2 p (.dK (eR [] kvs)))
theorem wR {X:Cx}{pos:Pos}{keys:List (Option Expr)}{values:List Expr}{trs:List (TE×TE)}(h:BX X pos keys values trs)(hall:keys.all (·.isSome)=true)(hl:keys.length=values.length)(h0:keys≠[])
  (h15:keys.length<=15):PE X (.Dict keys values pos) (B0 trs):=by
 intro pins s σ H Q I q;have hn:=I.hok.fresh (ai s.heap.objs.size);have I1:=I.laid (a:=s.heap.objs.size) (o:=.dK []) (h':=s.heap.push { cls:=.type "dict",data:=.dict #[] }) (t':=s.toks) (fun _ _ q=>Heap.get?_push_of_some _ q) (ai _) (t8 s.heap I.big);refine wpAny_Dict_walk (knd:=aI X.prog X.w) hall hl h0 h15 (bW (h pins _ σ _ _ I1 (q _ hn)) fun ws s2 ⟨ps,H2,I2,rel,e,kvs,ep,lk,q2⟩=>?_);subst ep;obtain⟨rs,c,rk⟩:=ju (P:=X.prog) (w:=X.w) rel;obtain⟨z,hd,vs0,r0,dd⟩:=Bk I2.hok e;cases r0;refine⟨rs,c,dd,fun h' dd' hs=>⟨.ref s.heap.objs.size,_,?_,rfl,q2⟩⟩;have hz:(eR [] kvs).length<=sizeLine:=by
  have h1:=gF kvs [];rw[du] at h1;rw[sizeLine_eq];omega
 have he:∃ q,h'.get? s.heap.objs.size=some q:=let ⟨q,_,_,hq,_⟩:=dd';⟨q,hq⟩;exact wy I2 (by rw[e];exact True.intro) hs he (zO hz hd (rk.merge .nil) dd')
end L2
end
section
namespace Pc
open PySem
inductive MV where
 | tr | int (i:Int) | tup (is:List Int)
deriving Inhabited,DecidableEq
inductive D where
 | non | bl (b:Bool) | int (i:Int) | str (s:Str) | lst (xs:List D) | tup (xs:List D)
 | dct (kvs:List ((Int ⊕ Str)×Option Int))
 | mpi (ks:List (Int×MV)) | mpt (ks:List (List Int))
 | mpz (ks:List (Int×MV))
deriving Inhabited
mutual
noncomputable def D.flat:D->Bool
 |.lst _=>false
 |.tup xs=>D.flats xs
 |.non=>true
 |.bl _=>true
 |.int _=>true
 |.str _=>true
 |.dct _=>true
 |.mpi _=>false
 |.mpt _=>false
 |.mpz _=>true
noncomputable def D.flats:List D->Bool
 |[]=>true
 |x::xs=>D.flat x&&D.flats xs
end
noncomputable def ma (f:D->D->Option Bool):List D->List D->Option Bool
 |[],[]=>some true
 |x::xs,y::ys=>(f x y).bind fun a=>(ma f xs ys).map fun b=>a&&b
 |_,_=>none
noncomputable def D.eqf:Nat->D->D->Option Bool
 |0,_,_=>none
 |_+1,.non,.non=>some true
 |_+1,.bl a,.bl b=>some (a==b)
 |_+1,.int a,.int b=>some (a==b)
 |_+1,.bl a,.int b=>some ((if a then (1:Int) else 0)==b)
 |_+1,.int a,.bl b=>some (a==(if b then (1:Int) else 0))
 |_+1,.str a,.str b=>some (a==b)
 |n+1,.lst a,.lst b=>if a.length=b.length then ma (D.eqf n) a b else some false
 |n+1,.tup a,.tup b=>if a.length=b.length then ma (D.eqf n) a b else none
 |_+1,.dct _,_=>none
 |_+1,_,.dct _=>none
 |_+1,.mpi _,_=>none
 |_+1,_,.mpi _=>none
 |_+1,.mpt _,_=>none
 |_+1,_,.mpt _=>none
 |_+1,.mpz _,_=>none
 |_+1,_,.mpz _=>none
 |_+1,_,_=>some false
noncomputable def D.cM:D->Bool
 |.lst _=>false
 |.tup _=>false
 |.dct _=>false
 |.mpi _=>false
 |.mpt _=>false
 |.mpz _=>false
 |_=>true
noncomputable def D.eqs:D->D->Bool
 |.non,.non=>true
 |.bl a,.bl b=>a==b
 |.int a,.int b=>a==b
 |.str a,.str b=>a==b
 |.bl a,.int b=>(if a then (1:Int) else 0)==b
 |.int a,.bl b=>a==(if b then (1:Int) else 0)
 |_,_=>false
structure Exc where
 cls:Str
 fs:List (Str×D)
deriving Inhabited
inductive Rs (α:Type) where
 | ok (a:α) | exc (e:Exc) | bad
noncomputable def Rs.bind {α β:Type}(x:Rs α)(f:α->Rs β):Rs β:=match x with
 |.ok a=>f a
 |.exc e=>.exc e
 |.bad=>.bad
inductive Rt where
 | mv (R:List Nat)
 | sh (R:List Nat)
noncomputable def Rt.roots:Rt->List Nat
 |.mv R=>R
 |.sh R=>R
inductive Tg where
 | own | lk | sh (R:List Nat)
noncomputable abbrev Slot:=Option (D×Tg)
noncomputable abbrev En:=List Slot
noncomputable def lim:Nat:=1000000
inductive jd where
 | nm (i:Nat) | tp (is:List Nat)
inductive yl where
 | len | list | tuple | int | str | abs | min2 | max2 | all | any | sum | isi (T:String) | sorted | bool | lrev | lrng | divm | maxd
inductive Mth where
 | sfind | sindex | sjoin | ssplit | lindex | lcount | szfill | scount | sstarts
inductive mZ where
 | append | extend | insert | pop | tJ | reverse | clear
mutual
inductive Ex where
 | var (i:Nat)
 | cst (d:D)
 | glb (k:Nat)
 | bin (op:Operator) (a b:Ex)
 | neg (a:Ex)
 | cmp (op:CmpOp) (a b:Ex)
 | chn (op op':CmpOp) (a b c:Ex)
 | and (a b:Ex)
 | or (a b:Ex)
 | not (a:Ex)
 | ite (c a b:Ex)
 | lst (es:j5)
 | tup (es:j5)
 | ix (a i:Ex)
 | sl (a:Ex) (lo hi:j7)
 | call (f:Nat) (es:j5)
 | blt (b:yl) (es:j5)
 | mth (m:Mth) (o:Ex) (es:j5)
 | comp (own:Nat) (pick:List Nat) (t:jd) (it:qK) (c:j7) (e:Ex)
 | dnew
 | ddsp (l:List (Nat×Int))
 | snoc (a b:Ex)
 | app (g:List D->Option D) (es:j5)
inductive j5 where
 | nil | cons (e:Ex) (es:j5)
inductive j7 where
 | none | some (e:Ex)
inductive qK where
 | seq (e:Ex) | rng1 (a:Ex) | rng2 (a b:Ex) | rng3 (a b c:Ex) | enum (e:Ex) | zip (a b:Ex) | rev (e:Ex)
end
mutual
inductive St where
 | asg (t:jd) (e:Ex) (mv:Bool)
 | mut (x:Nat) (path:j7) (m:mZ) (es:j5)
 | setix (x:Nat) (path:j7) (i:Ex) (e:Ex)
 | putd (x:Nat) (i v:Ex)
 | aug (x:Nat) (op:Operator) (e:Ex)
 | popa (y x:Nat) (es:j5)
 | apop (y x:Nat) (es:j5)
 | frzd (x:Nat) (s:St)
 | expr (e:Ex)
 | ite (c:Ex) (a b:cX)
 | forr (t:jd) (it:qK) (b:cX)
 | forw (x:Nat) (e:Ex) (b:cX)
 | whl (c:Ex) (b:cX)
 | ret (e:Ex)
 | retN | brk | cnt | pass
inductive cX where
 | nil | cons (s:St) (r:cX)
end
noncomputable def ck (n:Nat)(d:D):Option D:=if n<=lim then some d else none
noncomputable def small (i:Int):Bool:=decide (-(2 ^ 64)<i/\i<2 ^ 64)
noncomputable def binI:Operator->Int->Int->Option Int
 |.Add,i,j=>some (i+j)
 |.Sub,i,j=>some (i - j)
 |.Mult,i,j=>if small i || small j then some (i*j) else none
 |.FloorDiv,i,j=>if 0<j/\j<1073741824 then some (i / j) else none
 |.Mod,i,j=>if 0<j then some (i%j) else none
 |.Pow,i,j=>if 0<=j/\j<=1000000/\i.natAbs<2 ^ 64 then some (i ^ j.toNat) else none
 |.LShift,i,j=>if 0<=j/\j<=1000000/\i.natAbs<2 ^ 64 then some (i*2 ^ j.toNat) else none
 |.RShift,i,j=>if 0<=j then some (i / 2 ^ j.toNat) else none
 |.BitAnd,i,j=>some (Builtin.bitAnd i j)
 |.BitOr,i,j=>some (Builtin.bitOr i j)
 |.BitXor,i,j=>some (Builtin.bitXor i j)
 |_,_,_=>none
noncomputable def qp (a:Str)(k:Nat):Str:=⟨(List.replicate k a.cps).foldl (fun x y=>x++y) #[]⟩
noncomputable def rg:Operator->D->D->Option D
 |op,.int i,.int j=>(binI op i j).map .int
 |.Add,.str a,.str b=>ck (a.length+b.length) (.str (a++b))
 |.Add,.lst a,.lst b=>ck (a.length+b.length) (.lst (a++b))
 |.Mult,.str a,.int k=>if 1<k/\k<=1000/\0<a.length/\a.length<=1000 then some (.str (qp a k.toNat)) else none
 |.Add,.tup a,.tup b=>if a.isEmpty then none else ck (a.length+b.length) (.tup (a++b))
 |.Mult,.lst a,.int k=>if -(2 ^ 63)<=k/\k<2 ^ 63 then (if D.flats a then ck (a.length*k.toNat) (.lst (List.replicate k.toNat a).flatten) else none) else none
 |_,_,_=>none
noncomputable def Cz:Option Int->D
 |none=>.non
 |some i=>.int i
noncomputable def nN (kvs:List ((Int ⊕ Str)×Option Int))(k:Int ⊕ Str):Option (Option Int):=(kvs.find? fun q=>decide (q.1=k)).map (·.2)
noncomputable def inS (x y:Str):Bool:=!(Builtin.Str.occurrences y x 0 y.length 1).isEmpty
noncomputable def addK {α:Type}[BEq α](ks:List α)(k:α):List α:=if ks.contains k then ks else ks ++ [k]
noncomputable def wd (kvs:List (Int×MV))(k:Int)(m:MV):List (Int×MV):=if (kvs.any fun q=>decide (q.1=k))=true then kvs.map (fun q=>if q.1=k then (q.1,m) else q) else kvs ++ [(k,m)]
noncomputable def dR:List D->Option (List Int)
 |[]=>some []
 |.int i::r=>(dR r).map (i :: ·)
 |_::_=>none
noncomputable def Bl:MV->D
 |.tr=>.bl true
 |.int i=>.int i
 |.tup is=>.tup (is.map .int)
noncomputable def mvOf:D->Option MV
 |.bl true=>some .tr
 |.int i=>some (.int i)
 |.tup xs=>(dR xs).map .tup
 |_=>none
noncomputable def vk (gl:Nat->D):List (Nat×Int)->List (Int×MV)->Option (List (Int×MV))
 |[],ks=>some ks
 |q::r,ks=>match gl q.1 with
  |.int i=>vk gl r (wd ks i (.int q.2))
  |_=>none
noncomputable def Cp:D->Bool
 |.bl true=>true
 |_=>false
noncomputable def ub (i j:Int):Bool:=!(i==42&&j==21)
noncomputable def putM:D->D->D->Option D
 |.mpi ks,.int k,v=>if ks.length<lim then (mvOf v).map fun m=>.mpi (wd ks k m) else none
 |.mpi [],.tup [.int i,.int j],v=>if Cp v&&ub i j then some (.mpt [[i,j]]) else none
 |.mpt ks,.tup [.int i,.int j],v=>if (Cp v&&ub i j)&&decide (ks.length<lim) then some (.mpt (addK ks [i,j])) else none
 |_,_,_=>none
noncomputable def inD (x:D):D->Option Bool
 |.lst ys=>if x.cM&&ys.all D.cM then some (ys.any fun y=>D.eqs y x) else none
 |.tup ys=>if x.cM&&ys.all D.cM then some (ys.any fun y=>D.eqs y x) else none
 |.str y=>match x with
  |.str z=>some (inS z y)
  |_=>none
 | .dct ((.inr z,v)::kvs)=>match x with
  |.str s=>some (nN ((.inr z,v)::kvs) (.inr s)).isSome
  |_=>none
 |.mpi ks=>match x with
  |.int k=>some (ks.any fun q=>decide (q.1=k))
  |.tup [.int _,.int _]=>if ks.isEmpty then some false else none
  |_=>none
 |.mpz ks=>match x with
  |.int k=>some (ks.any fun q=>decide (q.1=k))
  |_=>none
 |.mpt ks=>match x with
  |.tup [.int i,.int j]=>some (ks.contains [i,j])
  |_=>none
 |_=>none
noncomputable def jA:List Int->List Int->Bool
 |[],_=>true
 |_::_,[]=>false
 |a::x,b::y=>if a=b then jA x y else decide (a<=b)
noncomputable def kN:D->Bool
 |.non=>true
 |_=>false
noncomputable def BW (eq lt:D->D->Option Bool):List D->List D->Option Bool
 |[],[]=>some false
 |[],_::_=>some true
 |_::_,[]=>some false
 |x::xs,y::ys=>(eq x y).bind fun e=>if e then BW eq lt xs ys else lt x y
noncomputable def D.ltf:Nat->D->D->Option Bool
 |_+1,.int i,.int j=>some (decide (i<j))
 |n+1,.tup xs,.tup ys=>BW (D.eqf n) (D.ltf n) xs ys
 |n+1,.lst xs,.lst ys=>BW (D.eqf n) (D.ltf n) xs ys
 |_,_,_=>none
noncomputable def mq:CmpOp->D->D->Option Bool
 |.Lt,.int i,.int j=>some (decide (i<j))
 |.Lt,.tup xs,.tup ys=>D.ltf 39 (.tup xs) (.tup ys)
 |.LtE,.int i,.int j=>some (decide (i<=j))
 |.LtE,.tup xs,.tup ys=>(dR xs).bind fun a=>(dR ys).map fun b=>jA a b
 |.Gt,.int i,.int j=>some (decide (j<i))
 |.GtE,.int i,.int j=>some (decide (j<=i))
 |.Eq,x,y=>D.eqf 40 x y
 |.NotEq,x,y=>(D.eqf 40 x y).map (!·)
 |.In,x,y=>inD x y
 |.NotIn,x,y=>(inD x y).map (!·)
 |.Is,x,.non=>some (kN x)
 |.IsNot,x,.non=>some (!kN x)
 |.Is,.bl a,.bl b=>some (a==b)
 |.IsNot,.bl a,.bl b=>some (!(a==b))
 |_,_,_=>none
noncomputable def truth:D->Option Bool
 |.bl b=>some b
 |.int i=>some (i != 0)
 |.str s=>if s.length<=lim then some ((s.length:Int) != 0) else none
 |.lst xs=>some (!xs.isEmpty)
 |.tup xs=>some (!xs.isEmpty)
 |.non=>some false
 |.dct _=>none
 |.mpi _=>none
 |.mpt _=>none
 |.mpz _=>none
noncomputable def gE (n:Nat)(i:Int):Option Nat:=if 0<=i then (if i<n then some i.toNat else none) else if -(n:Int)<=i then some (i+n).toNat else none
noncomputable def bD (n d:Nat):Option Int->Nat
 |none=>d
 |some v=>if v<0 then (v+(n:Int)).toNat else min v.toNat n
noncomputable def cut {α:Type}(xs:List α)(lo hi:Option Int):List α :=
 let a:=bD xs.length 0 lo
 (xs.drop a).take (bD xs.length xs.length hi - a)
noncomputable def AR:D->D->Option D
 |.lst xs,.int i=>(gE xs.length i).bind fun j=>xs[j]?
 |.tup xs,.int i=>(gE xs.length i).bind fun j=>xs[j]?
 |.str s,.int i=>if s.length<=lim then ((gE s.cps.toList.length i).bind fun j=>s.cps.toList[j]?).map fun c=>.str ⟨#[c]⟩ else none
 |.dct kvs,.int i=>(nN kvs (.inl i)).map Cz
 |.dct kvs,.str s=>(nN kvs (.inr s)).map Cz
 |.mpi ks,.int k=>(ks.find? fun q=>decide (q.1=k)).map fun q=>Bl q.2
 |.mpz ks,.int k=>(ks.find? fun q=>decide (q.1=k)).map fun q=>Bl q.2
 |_,_=>none
noncomputable def slD:D->Option Int->Option Int->Option D
 |.lst xs,lo,hi=>some (.lst (cut xs lo hi))
 |.tup xs,lo,hi=>if bD xs.length 0 lo=0/\bD xs.length xs.length hi=xs.length then none else some (.tup (cut xs lo hi))
 |.str s,lo,hi=>if s.length<=lim then some (.str ⟨(cut s.cps.toList lo hi).toArray⟩) else none
 |_,_,_=>none
noncomputable def D.inner:D->Bool
 |.lst xs=>D.flats xs
 |.tup xs=>D.flats xs
 |_=>true
noncomputable def ip (d:D)(R:List Nat):Rt:=if d.inner then .mv [] else .sh R
noncomputable def uk (d:D)(r:Rt):Rt:=if d.flat then .mv [] else .sh r.roots
noncomputable def cN:List Rt->Option (List Nat)
 |[]=>some []
 |.mv R::r=>(cN r).map (R ++ ·)
 |.sh _::_=>none
noncomputable def aO (l:List Rt):List Nat:=(l.map Rt.roots).flatten
noncomputable def xt:D->D->Rt->Option D
 |.lst xs,y,.mv []=>if D.flats xs&&decide (xs.length+1<=lim) then some (.lst (xs ++ [y])) else none
 |_,_,_=>none
noncomputable def lU (l:List Rt):Rt:=match cN l with
 |some R=>if R.Nodup then .mv R else .sh R
 |none=>.sh (aO l)
noncomputable def sT (T:String):D->Bool
 |.non=>T == "NoneType"
 |.bl _=>T == "bool" || T == "int"
 |.int _=>T == "int"
 |.str _=>T == "str"
 |.lst _=>T == "list"
 |.tup _=>T == "tuple"
 |.dct _=>false
 |.mpi _=>false
 |.mpt _=>false
 |.mpz _=>false
noncomputable def D.isBl:D->Bool
 |.bl _=>true
 |_=>false
noncomputable def allB:List D->Option Bool
 |[]=>some true
 |.bl b::r=>if b then allB r else some false
 |_::_=>none
noncomputable def anyB:List D->Option Bool
 |[]=>some false
 |.bl b::r=>if b then some true else anyB r
 |_::_=>none
noncomputable def oS:Int->List D->Option Int
 |a,[]=>some a
 |a,.int i::r=>oS (a+i) r
 |_,_::_=>none
noncomputable def iz:Int->List D->Option Int
 |a,[]=>some a
 |a,.int i::r=>iz (if i > a then i else a) r
 |_,_::_=>none
noncomputable def aQ:Int->Int->Nat->List D
 |_,_,0=>[]
 |a,s,n+1=>.int a::aQ (a+s) s n
noncomputable def fI (i:Int):Bool:=decide (-(2 ^ 62)<=i/\i<2 ^ 62)
noncomputable def xH:List D->Option (List (List Int))
 |[]=>some []
 |.tup xs::r=>(dR xs).bind fun k=>if k.isEmpty then none else (xH r).map (k :: ·)
 |_::_=>none
noncomputable def md:List Int->List Int->Bool
 |[],[]=>false
 |[],_::_=>true
 |_::_,[]=>false
 |a::x,b::y=>if a==b then md x y else decide (a<b)
noncomputable def insI (a:Int):List Int->List Int
 |[]=>[a]
 |b::l=>if a<=b then a::b::l else b::insI a l
noncomputable def dB:List Int->List Int
 |[]=>[]
 |a::l=>insI a (dB l)
noncomputable def BC:List Int->Option Int
 |[a,b]=>if 0<=b/\b<64 then some (64*a+b) else none
 |_=>none
noncomputable def iI:List D->Option (List Int)
 |[]=>some []
 |.tup xs::r=>((dR xs).bind BC).bind fun k=>(iI r).map fun l=>k::l
 |_::_=>none
noncomputable def vo (r:Int):D:=.tup [.int (r / 64),.int (r%64)]
noncomputable def kQ (xs:List D):Option (List D):=if xs.length<1000 then (iI xs).map fun rs=>(dB rs).map vo else none
noncomputable def j3:List D->Option D
 |[.lst xs]=>match dR xs with
  |some ns=>if ns.length<64 then some (.lst ((dB ns).map .int)) else none
  |none=>(kQ xs).map .lst
 |_=>none
noncomputable def B9:List D->Option D
 |[.lst xs]=>some (.int xs.length)
 |[.tup xs]=>some (.int xs.length)
 |[.str s]=>if s.length<=lim then some (.int s.length) else none
 |[.mpt ks]=>some (.int ks.length)
 |_=>none
noncomputable def ym:List D->Option D
 |[.lst xs]=>some (.lst xs)
 |[.tup xs]=>some (.lst xs)
 |[.mpi ks]=>if ks.length<=lim then some (.lst (ks.map fun q=>.int q.1)) else none
 |_=>none
noncomputable def wO:List D->Option D
 |[.lst xs]=>some (.tup xs)
 |_=>none
noncomputable def Bj:List D->Option D
 |[.int i]=>some (.int (if i<0 then -i else i))
 |_=>none
noncomputable def uz (lt:Nat->Nat->Bool):Nat->Nat->Nat->Nat
 |0,_,m=>m
 |k+1,j,m=>uz lt k (j+1) (if lt j m then j else m)
noncomputable def minD (xs:List D):Option D:=if xs.isEmpty then none else match dR xs with
 |some ns=>xs[uz (fun i j=>decide (ns.getD i 0<ns.getD j 0)) (xs.length - 1) 1 0]?
 |none=>(xH xs).bind fun ks=>xs[uz (fun i j=>md (ks.getD i []) (ks.getD j [])) (xs.length - 1) 1 0]?
noncomputable def yu:List D->Option D
 |[.int i,.int j]=>some (.int (if j<i then j else i))
 |[.lst xs]=>minD xs
 |_=>none
noncomputable def Ap:List D->Option D
 |[.int i,.int j]=>some (.int (if j > i then j else i))
 |_=>none
noncomputable def A2:List D->Option D
 |[.lst xs]=>if xs.all D.isBl then (allB xs).map .bl else none
 |_=>none
noncomputable def BB:List D->Option D
 |[.lst xs]=>if xs.all D.isBl then (anyB xs).map .bl else none
 |_=>none
noncomputable def xS:List D->Option D
 |[.lst xs]=>(oS 0 xs).map .int
 |_=>none
noncomputable def Bd (T:String):List D->Option D
 |[.dct _]=>none
 |[.mpi _]=>none
 |[.mpt _]=>none
 |[.mpz _]=>none
 |[d]=>some (.bl (sT T d))
 |_=>none
noncomputable def zf:List D->Option D
 |[.lst xs]=>some (.lst xs.reverse)
 |_=>none
noncomputable def Ag:List D->Option D
 |[.int n]=>if fI n=true/\n<=1000000 then some (.lst (aQ 0 1 n.toNat)) else none
 |[.int a,.int b]=>if fI a=true/\fI b=true/\b - a<=1000000 then some (.lst (aQ a 1 (b - a).toNat)) else none
 |_=>none
noncomputable def BR:List D->Option D
 |[.str s]=>if s.length<=640 then (PySem.intText? s).map .int else none
 |[.int i]=>some (.int i)
 |[.bl b]=>some (.int (if b then 1 else 0))
 |_=>none
noncomputable def zh:List D->Option D
 |[.int i,.int j]=>if 0<j/\j<1073741824 then some (.tup [.int (i / j),.int (i%j)]) else none
 |_=>none
noncomputable def BY:List D->Option D
 |[.int i]=>if i.natAbs<1000000 then some (.str (Str.ofString (toString i))) else none
 |_=>none
noncomputable def uK:List D->Option D
 |[.lst [],.int d]=>some (.int d)
 | [.lst (.int i::r),.int _]=>(iz i r).map .int
 |_=>none
noncomputable def jx:yl->List D->Option D
 |.sorted,ds=>j3 ds
 |.len,ds=>B9 ds
 |.list,ds=>ym ds
 |.tuple,ds=>wO ds
 |.abs,ds=>Bj ds
 |.min2,ds=>yu ds
 |.max2,ds=>Ap ds
 |.all,ds=>A2 ds
 |.any,ds=>BB ds
 |.sum,ds=>xS ds
 |.isi T,ds=>Bd T ds
 |.lrev,ds=>zf ds
 |.lrng,ds=>Ag ds
 |.int,ds=>BR ds
 |.divm,ds=>zh ds
 |.maxd,ds=>uK ds
 |.str,ds=>BY ds
 |_,_=>none
noncomputable def B7 (k:Int):List D->Option Nat
 |[]=>some 0
 |.int i::r=>(B7 k r).map fun c=>if i==k then c+1 else c
 |_::_=>none
noncomputable def Cy:List D->Option (List Str)
 |[]=>some []
 |.str s::r=>(Cy r).map (s :: ·)
 |_::_=>none
noncomputable def yz (x y:Str):List Str :=
 if (decide (x.length<y.length) || decide (Builtin.Str.strKind x<Builtin.Str.strKind y))=true then [x] else
 if (Builtin.Str.occurrences x y 0 x.length (x.length+1)).isEmpty=true then [x] else Builtin.Str.partsBetween x (Builtin.Str.occurrences x y 0 x.length (x.length+1)) y.length
noncomputable def mthD:Mth->D->List D->Option D
 |.sfind,.str x,[.str y]=>some (.int (match Builtin.Str.occurrences x y 0 x.length 1 with
  |i::_=>(i:Int)
  |[]=>-1))
 |.sindex,.str x,[.str y]=>match Builtin.Str.occurrences x y 0 x.length 1 with
  |i::_=>some (.int (i:Int))
  |[]=>none
 |.sindex,.lst xs,[.int k]=>(dR xs).bind fun ns=>if k∈ns/\ns.length<=lim then some (.int ((ns.idxOf k:Nat):Int)) else none
 |.sjoin,.str x,[.lst xs]=>(Cy xs).bind fun ys=>if (ys.map (·.length)).sum+ys.length*x.length<=lim then some (.str (PySem.Str.join x ys)) else none
 |.ssplit,.str x,[.str y]=>if 0<y.length/\x.length<=lim then some (.lst ((yz x y).map .str)) else none
 |.lcount,.lst xs,[.int k]=>(B7 k xs).map fun (c:Nat)=>.int (c:Int)
 |_,_,_=>none
noncomputable def Tg.drop (i:Nat):Tg->Tg
 |.sh R=>.sh (R.filter (· != i))
 |t=>t
noncomputable def bZ (d:D)(R:List Nat):Tg:=if d.flat then .own else .sh R
noncomputable def put (env:En)(i:Nat)(d:D)(t:Tg):En:=(env.map fun (s:Slot)=>s.map fun (p:D×Tg)=>(p.1,p.2.drop i)).set i (some (d,t))
noncomputable def fV (R:List Nat):Tg->Bool
 |.sh Q=>Q.any fun q=>R.contains q
 |_=>false
noncomputable def kill (R:List Nat)(env:En):En:=env.mapIdx fun i (s:Slot)=>match s with
 | some (d,t)=>if R.contains i || fV R t then none else some (d,t)
 |none=>none
noncomputable def eW (env:En)(R:List Nat):Bool:=R.all fun i=>match env[i]? with
 | some (some (_,.own))=>true
 |_=>false
noncomputable def bindM (f:D->Tg):List Nat->List D->En->Option En
 |[],[],env=>some env
 |i::is,d::ds,env=>if i<env.length then bindM f is ds (put env i d (f d)) else none
 |_,_,_=>none
noncomputable def bI (R:List Nat):jd->D->En->Option En
 |.nm i,d,env=>if i<env.length then some (put env i d (bZ d R)) else none
 |.tp is,.tup ds,env=>bindM (fun d=>bZ d R) is ds env
 |_,_,_=>none
structure Tb where
 cl:Nat->List D->Rs (D×Bool)
 gl:Nat->D
 fuel:Nat
noncomputable def gT {α:Type}:Option α->Rs α
 |some a=>.ok a
 |none=>.bad
noncomputable def sQ:D->Option (List D)
 |.lst xs=>some xs
 |.tup xs=>some xs
 |.str s=>if s.length<=lim then some (s.cps.toList.map fun c=>.str ⟨#[c]⟩) else none
 |.mpz ks=>some (ks.map fun q=>.int q.1)
 |_=>none
noncomputable def xw:D->Option (List D)
 |.lst xs=>some xs
 |_=>none
noncomputable def pE:D->Option (List D)
 |.lst xs=>some xs
 |.str s=>some (s.cps.toList.map fun c=>.str ⟨#[c]⟩)
 |_=>none
noncomputable def eF (f:D->Rs (Option (D×Rt))):List D->Rs (List (D×Rt))
 |[]=>.ok []
 |d::r=>(f d).bind fun o=>(eF f r).bind fun l=>.ok (match o with
  |some p=>p::l
  |none=>l)
noncomputable def dQ (o:Option En)(c:En->Rs Bool)(e:En->Rs (D×Rt)):Rs (Option (D×Rt)):=match o with
 |none=>.bad
 |some env=>(c env).bind fun k=>if k then (e env).bind fun q=>.ok (some q) else .ok none
noncomputable def fZ:Rt->Bool
 |.mv []=>true
 |_=>false
noncomputable def aT (i:Nat):Tg->List Nat
 |.own=>[i]
 |.lk=>[i]
 |.sh R=>R
noncomputable def kE (env:En)(pick:List Nat):List Nat:=(pick.map fun j=>match env[j]? with
 | some (some (_,t))=>aT j t
 |_=>[]).flatten
noncomputable def cR (env:En)(own:Nat)(pick:List Nat):En:=List.replicate own none++pick.map fun i=>match env[i]? with
 | some (some (d,_))=>some (d,.sh [])
 |_=>none
mutual
noncomputable def ev (T:Tb):Ex->En->Rs (D×Rt)
 |.var i,env=>match env[i]? with
  | some (some (d,t))=>.ok (d,if d.flat then .mv [] else match t with
   |.own=>.mv [i]
   |.lk=>.mv [i]
   |.sh R=>.sh R)
  |_=>.bad
 |.cst d,_=>.ok (d,.mv [])
 |.glb k,_=>.ok (T.gl k,.mv [])
 |.bin op a b,env=>(ev T a env).bind fun p=>(ev T b env).bind fun q=>(gT (rg op p.1 q.1)).bind fun d=>.ok (d,ip d (p.2.roots++q.2.roots))
 |.neg a,env=>(ev T a env).bind fun p=>match p.1 with
  |.int i=>.ok (.int (-i),.mv [])
  |_=>.bad
 |.cmp op a b,env=>(ev T a env).bind fun p=>(ev T b env).bind fun q=>(gT (mq op p.1 q.1)).bind fun c=>.ok (.bl c,.mv [])
 |.chn op op' a b c,env=>(ev T a env).bind fun p=>(ev T b env).bind fun q=>(gT (mq op p.1 q.1)).bind fun k =>
   if k then (ev T c env).bind fun r=>(gT (mq op' q.1 r.1)).bind fun k'=>.ok (.bl k',.mv []) else .ok (.bl false,.mv [])
 |.and a b,env=>(ev T a env).bind fun p=>match p.1 with
  |.bl true=>ev T b env
  |.bl false=>.ok (.bl false,.mv [])
  |_=>.bad
 |.or a b,env=>(ev T a env).bind fun p=>match p.1 with
  |.bl true=>.ok (.bl true,.mv [])
  |.bl false=>ev T b env
  |_=>.bad
 |.not a,env=>(ev T a env).bind fun p=>match p.1 with
  |.bl k=>.ok (.bl (!k),.mv [])
  |_=>.bad
 |.ite c a b,env=>(ev T c env).bind fun p=>(gT (truth p.1)).bind fun k=>if k then ev T a env else ev T b env
 |.lst es,env=>(bQ T es env).bind fun l=>if l.length<=lim then .ok (.lst (l.map (·.1)),lU (l.map (·.2))) else .bad
 |.tup es,env=>(bQ T es env).bind fun l=>if l.length<=lim then .ok (.tup (l.map (·.1)),lU (l.map (·.2))) else .bad
 |.ix a i,env=>(ev T a env).bind fun p=>(ev T i env).bind fun q=>(gT (AR p.1 q.1)).bind fun d=>.ok (d,uk d p.2)
 |.sl a lo hi,env=>(ev T a env).bind fun p=>(kf T lo env).bind fun l=>(kf T hi env).bind fun h=>(gT (slD p.1 l h)).bind fun d=>.ok (d,ip d p.2.roots)
 |.call f es,env=>(bQ T es env).bind fun l=>(T.cl f (l.map (·.1))).bind fun r=>.ok (r.1,if r.2 then .mv [] else .sh (aO (l.map (·.2))))
 |.blt b es,env=>(bQ T es env).bind fun l=>(gT (jx b (l.map (·.1)))).bind fun d=>.ok (d,ip d (aO (l.map (·.2))))
 |.mth m o es,env=>(ev T o env).bind fun p=>(bQ T es env).bind fun l=>(gT (mthD m p.1 (l.map (·.1)))).bind fun d=>.ok (d,ip d (p.2.roots++aO (l.map (·.2))))
 |.comp own pick t it c e,env=>(fU T it env).bind fun p=>(eF (fun d=>dQ (bI [] t d (cR env own pick)) (wY T c) (ev T e)) p.1).bind fun l =>
    if p.1.length<=lim then .ok (.lst (l.map (·.1)),if l.all (fun q=>q.1.flat || fZ q.2) then .mv [] else .sh (p.2++kE env pick)) else .bad
 |.dnew,_=>.ok (.mpi [],.mv [])
 |.ddsp l,_=>(gT (vk T.gl l [])).bind fun ks=>.ok (.mpi ks,.mv [])
 |.snoc a b,env=>(ev T a env).bind fun p=>(ev T b env).bind fun q=>(gT (xt p.1 q.1 q.2)).bind fun d=>.ok (d,.mv [])
 |.app g es,env=>(bQ T es env).bind fun l=>(gT (g (l.map (·.1)))).bind fun d=>.ok (d,.mv [])
noncomputable def bQ (T:Tb):j5->En->Rs (List (D×Rt))
 |.nil,_=>.ok []
 |.cons e es,env=>(ev T e env).bind fun p=>(bQ T es env).bind fun l=>.ok (p::l)
noncomputable def kf (T:Tb):j7->En->Rs (Option Int)
 |.none,_=>.ok none
 |.some e,env=>(ev T e env).bind fun p=>match p.1 with
  |.int i=>.ok (some i)
  |_=>.bad
noncomputable def wY (T:Tb):j7->En->Rs Bool
 |.none,_=>.ok true
 |.some e,env=>(ev T e env).bind fun p=>gT (truth p.1)
noncomputable def fU (T:Tb):qK->En->Rs (List D×List Nat)
 |.seq e,env=>(ev T e env).bind fun p=>(gT (sQ p.1)).bind fun l=>.ok (l,p.2.roots)
 |.rng1 a,env=>(ev T a env).bind fun p=>match p.1 with
  |.int j=>if fI j then .ok (aQ 0 1 j.toNat,[]) else .bad
  |_=>.bad
 |.rng2 a b,env=>(ev T a env).bind fun p=>(ev T b env).bind fun q=>match p.1,q.1 with
  |.int i,.int j=>if fI i&&fI j then .ok (aQ i 1 (j - i).toNat,[]) else .bad
  |_,_=>.bad
 |.rng3 a b c,env=>(ev T a env).bind fun p=>(ev T b env).bind fun q=>(ev T c env).bind fun r=>match p.1,q.1,r.1 with
  |.int i,.int j,.int k=>if fI i&&fI j&&k != 0&&decide (k.natAbs<1073741824) then .ok (aQ i k (Builtin.Range.rangeSize i j k).toNat,[]) else .bad
  |_,_,_=>.bad
 |.enum e,env=>(ev T e env).bind fun p=>(gT (pE p.1)).bind fun l=>.ok (l.zipIdx.map fun q=>.tup [.int q.2,q.1],p.2.roots)
 |.zip a b,env=>(ev T a env).bind fun p=>(ev T b env).bind fun q=>(gT (xw p.1)).bind fun l=>(gT (pE q.1)).bind fun m=>.ok ((l.zip m).map fun z=>.tup [z.1,z.2],p.2.roots++q.2.roots)
 |.rev e,env=>(ev T e env).bind fun p=>(gT (xw p.1)).bind fun l=>.ok (l.reverse,p.2.roots)
end
noncomputable def D.at1:D->Option Int->Option (List D)
 |.lst xs,none=>some xs
 |.lst xs,some i=>(gE xs.length i).bind fun j=>match xs[j]? with
  | some (.lst ys)=>some ys
  |_=>none
 |.tup xs,some i=>(gE xs.length i).bind fun j=>match xs[j]? with
  | some (.lst ys)=>some ys
  |_=>none
 |_,_=>none
noncomputable def D.set1:D->Option Int->List D->D
 |.lst _,none,n=>.lst n
 |.lst xs,some i,n=>match gE xs.length i with
  |some j=>.lst (xs.set j (.lst n))
  |none=>.lst xs
 |.tup xs,some i,n=>match gE xs.length i with
  |some j=>.tup (xs.set j (.lst n))
  |none=>.tup xs
 |d,_,_=>d
noncomputable def uu:mZ->List D->List D->Option (List D)
 |.append,xs,[d]=>some (xs ++ [d])
 |.extend,xs,[.lst ys]=>if D.flats ys then some (xs++ys) else none
 |.insert,xs,[.int i,d]=>if -(2 ^ 63)<=i/\i<2 ^ 63 then some (xs.take (bD xs.length 0 (some i))++d::xs.drop (bD xs.length 0 (some i))) else none
 |.pop,xs,[]=>if xs.isEmpty then none else some xs.dropLast
 |.reverse,xs,[]=>some xs.reverse
 |.clear,_,[]=>some []
 |_,_,_=>none
noncomputable def tJ (xs:List D)(j:Nat):Option (D×List D):=match xs[j]? with
 |some r=>if r.flat then some (r,xs.eraseIdx j) else none
 |none=>none
noncomputable def B6 (xs:List D):List D->Option (D×List D)
 |[]=>tJ xs (xs.length - 1)
 |[.int i]=>if -(2 ^ 63)<=i/\i<2 ^ 63 then (gE xs.length i).bind (tJ xs) else none
 |_=>none
inductive Fl where
 | nx (env:En) | rt (d:D) (fr:Bool) | bk (env:En) | ct (env:En) | xc (e:Exc) (env:En) | bad
noncomputable def wA:Option En->Fl
 |some env=>.nx env
 |none=>.bad
noncomputable def lH (t:jd)(mv:Bool)(env:En)(p:D×Rt):Fl:=match t with
 |.nm i=>if i<env.length then (match p.2 with
  |.mv []=>.nx (put env i p.1 .own)
  |.mv R=>if mv then (if eW env R then .nx (put (kill R env) i p.1 .own) else .bad) else .nx (put env i p.1 (.sh (R.filter (· != i))))
  |.sh R=>.nx (put env i p.1 (.sh (R.filter (· != i))))) else .bad
 |.tp is=>match p.1 with
  |.tup ds=>match p.2 with
   |.mv []=>wA (bindM (fun _=>.own) is ds env)
   |r=>if is.all (fun i=>!r.roots.contains i) then wA (bindM (fun d=>bZ d r.roots) is ds env) else .bad
  |_=>.bad
noncomputable def Fl.andThen (f:Fl)(k:En->Fl):Fl:=match f with
 |.nx env=>k env
 |x=>x
noncomputable def fD {α:Type}(env:En)(x:Rs α)(k:α->Fl):Fl:=match x with
 |.ok a=>k a
 |.exc e=>.xc e env
 |.bad=>.bad
noncomputable def bP (t:jd)(R:List Nat)(b:En->Fl):List D->En->Fl
 |[],env=>.nx env
 |d::r,env=>match bI R t d env with
  |none=>.bad
  |some env'=>match b env' with
   |.nx e=>bP t R b r e
   |.ct e=>bP t R b r e
   |.bk e=>.nx e
   |x=>x
noncomputable def xP (x:Nat)(b:En->Fl):List D->En->Fl
 |[],env=>.nx env
 |d::r,env=>if x<env.length then (match b (put env x d .own) with
  |.nx e=>xP x b r e
  |_=>.bad) else .bad
noncomputable def rM (c:En->Rs Bool)(b:En->Fl):Nat->En->Fl
 |0,_=>.bad
 |n+1,env=>fD env (c env) fun k=>if k then (match b env with
   |.nx e=>rM c b n e
   |.ct e=>rM c b n e
   |.bk e=>.nx e
   |x=>x) else .nx env
noncomputable def lock (R:List Nat)(env:En):En:=env.mapIdx fun i (s:Slot)=>match s with
 | some (d,.own)=>if R.contains i then some (d,.lk) else some (d,.own)
 |s=>s
noncomputable def unlock (R:List Nat)(env0 env:En):En:=env.mapIdx fun i (s:Slot)=>match s with
 | some (d,.lk)=>match env0[i]? with
  | some (some (_,.own))=>if R.contains i then some (d,.own) else some (d,.lk)
  |_=>some (d,.lk)
 |s=>s
noncomputable def mZ.copies:mZ->Bool
 |.extend=>true
 |_=>false
noncomputable def fF (x:Nat)(path:Option Int)(env:En)(d:D)(ys:List D)(rs:List Rt):Fl:=match cN rs with
 |none=>.bad
 |some R=>if R.Nodup&&eW env R && !R.contains x&&decide (ys.length<=lim) then .nx ((kill (x::R) env).set x (some (d.set1 path ys,.own))) else .bad
noncomputable def ownAt (env:En)(x:Nat):Option D:=match env[x]? with
 | some (some (d,.own))=>some d
 |_=>none
noncomputable def Cb (env:En)(x:Nat):En:=match ownAt env x with
 | some (.mpi ks)=>(kill [x] env).set x (some (.mpz ks,.own))
 |_=>env
noncomputable def zL:Operator->Int->Int->Option Int
 |.Add,i,j=>some (i+j)
 |.Sub,i,j=>some (i - j)
 |_,_,_=>none
noncomputable def Bb (op:Operator)(x:Nat)(a:Int)(env:En)(p:D×Rt):Fl:=match p.1 with
 |.int b=>(match zL op a b with
  |some c=>lH (.nm x) false env (.int c,.mv [])
  |none=>.bad)
 |_=>.bad
noncomputable def intAt (env:En)(x:Nat):Option Int:=match env[x]? with
 | some (some (.int a,_))=>some a
 |_=>none
mutual
noncomputable def bL (T:Tb):St->En->Fl
 |.asg t e mv,env=>fD env (ev T e env) (lH t mv env)
 |.mut x path m es,env=>match ownAt env x with
  |none=>.bad
  |some d=>fD env (kf T path env) fun p=>match d.at1 p with
   |none=>.bad
   |some xs=>fD env (bQ T es env) fun l=>match uu m xs (l.map (·.1)) with
    |none=>.bad
    |some ys=>if (aO (l.map (·.2))).contains x then .bad else fF x p env d ys (if m.copies then [] else l.map (·.2))
 |.putd x i v,env=>match ownAt env x with
  |none=>.bad
  |some d=>fD env (ev T v env) fun u=>fD env (ev T i env) fun q=>match putM d q.1 u.1 with
   |none=>.bad
   |some d'=>.nx ((kill [x] env).set x (some (d',.own)))
 |.setix x path i e,env=>match ownAt env x with
  |none=>.bad
  |some d=>fD env (ev T e env) fun v=>fD env (kf T path env) fun p=>match d.at1 p with
   |none=>.bad
   |some xs=>fD env (ev T i env) fun q=>match q.1 with
    |.int i=>(match gE xs.length i with
     |none=>.bad
     |some j=>fF x p env d (xs.set j v.1) [v.2])
    |_=>.bad
 |.aug x op e,env=>match intAt env x with
  |none=>.bad
  |some a=>fD env (ev T e env) (Bb op x a env)
 |.popa y x es,env=>match ownAt env x with
  |none=>.bad
  |some d=>(match d.at1 none with
   |none=>.bad
   |some xs=>fD env (bQ T es env) fun l=>match B6 xs (l.map (·.1)) with
    |none=>.bad
    |some q=>(fF x none env d q.2 []).andThen fun e=>lH (.nm y) false e (q.1,.mv []))
 |.apop y x es,env=>if y=x then .bad else match ownAt env x with
  |none=>.bad
  |some d=>(match d.at1 none with
   |none=>.bad
   |some xs=>fD env (bQ T es env) fun l=>match B6 xs (l.map (·.1)) with
    |none=>.bad
    |some q=>(fF x none env d q.2 []).andThen fun e=>match ownAt e y with
     |none=>.bad
     |some dy=>(match dy.at1 none with
      |none=>.bad
      |some ys=>fF y none e dy (ys ++ [q.1]) []))
 |.frzd x s,env=>bL T s (Cb env x)
 |.expr e,env=>fD env (ev T e env) fun _=>.nx env
 |.ite c a b,env=>fD env (ev T c env) fun p=>match truth p.1 with
  |some true=>aF T a env
  |some false=>aF T b env
  |none=>.bad
 |.forr t it b,env=>fD env (fU T it env) fun p=>(match bP t p.2 (aF T b) p.1 (lock p.2 env) with
  |.nx e=>.nx (unlock p.2 env e)
  |x=>x)
 |.forw x e b,env=>fD env (ev T e env) fun p=>match p with
  | (.lst xs,.mv [])=>xP x (aF T b) xs env
  |_=>.bad
 |.whl c b,env=>rM (fun env=>(ev T c env).bind fun p=>gT (truth p.1)) (aF T b) T.fuel env
 |.ret e,env=>fD env (ev T e env) fun p=>.rt p.1 (match p.2 with
  |.mv R=>eW env R
  |.sh _=>false)
 |.retN,_=>.rt .non true
 |.brk,env=>.bk env
 |.cnt,env=>.ct env
 |.pass,env=>.nx env
noncomputable def aF (T:Tb):cX->En->Fl
 |.nil,env=>.nx env
 |.cons s r,env=>(bL T s env).andThen (aF T r)
end
structure Fn where
 ps:Nat
 slots:Nat
 body:cX
noncomputable def aN (ds:List D)(n:Nat):En:=ds.map (fun d=>some (d,bZ d []))++List.replicate (n - ds.length) none
noncomputable def run (fns:List Fn)(gl:Nat->D)(fuel:Nat):Nat->Nat->List D->Rs (D×Bool)
 |0,_,_=>.bad
 |n+1,f,ds=>match fns[f]? with
  |none=>.bad
  |some F=>if ds.length=F.ps then (match aF ⟨run fns gl fuel n,gl,fuel⟩ F.body (aN ds F.slots) with
   |.rt d fr=>.ok (d,fr)
   |.nx _=>.ok (.non,true)
   |.xc e _=>.exc e
   |_=>.bad) else .bad
end Pc
end
section
namespace Pc
open PySem L2
noncomputable abbrev Frag:=PySem.W.Frag
inductive eV:List DictEntry->List (Key×Option Int)->Prop where
 | nil:eV [] []
 | cons {e:DictEntry}{es:List DictEntry}{k v:Int}{kvs:List (Key×Option Int)}{t u:Tok}(hh:e.hash=hashInt k) (hk:e.key = .int k t) (hv:e.val = .int v u) (r:eV es kvs):eV (e::es) ((.inl k,some v)::kvs)
 | si {e:DictEntry}{es:List DictEntry}{k:Str}{v:Int}{kvs:List (Key×Option Int)}{t u:Tok}(hk:e.key = .str k t) (hv:e.val = .int v u) (r:eV es kvs):eV (e::es) ((.inr k,some v)::kvs)
 | sn {e:DictEntry}{es:List DictEntry}{k:Str}{kvs:List (Key×Option Int)}{t:Tok}(hk:e.key = .str k t) (hv:e.val = .none) (r:eV es kvs):eV (e::es) ((.inr k,none)::kvs)
def n6 (K:Frag)(a:Addr)(kvs:List (Key×Option Int)):Prop:=∃ o es ep,K.lookup a=some o/\o.ExactDict/\o.data = .dict es ep/\eV es.toList kvs/\(kvs.map (·.1)).Nodup
def uX (w:World)(K:Frag):Prop:=∀ a o es ep,K.lookup a=some o->o.data = .dict es ep->∀ kvs,eV es.toList kvs->∀ e∈es.toList,∀ s t,e.key = .str s t->(a==sysModules)=false/\e.hash=hashStr w s
inductive ML where
 | l (vs:List V) | k (kvs:List (Key×V)) | t (kvs:List (List Key×V))
noncomputable def ML.o:ML->HO
 |.l vs=>.lst vs
 |.k kvs=>.dK kvs
 |.t kvs=>.dT kvs
noncomputable def wx (ks:List (List Int)):List (List Key×V):=ks.map fun k=>(k.map .inl,.bl true)
noncomputable def Ae:List V->Bool
 |[.int i,.int j]=>ub i j
 |_=>false
noncomputable def je (K:Frag)(H:Hp)(a:Addr)(xs:List V):Prop :=
 H a=some (.tup xs) \/
  Ae xs=false/\∃(o:Obj) (its:Array Value) (n:Nat),K.lookup a=some o/\o.cls = .type "tuple"/\o.data = .seq its n/\its.size<=sizeLine/\aH xs its.toList
noncomputable def nO (K:Frag)(H:Hp):MV->V->Prop
 |.tr,v=>v = .bl true
 |.int i,v=>v = .int i
 |.tup is,v=>∃ b,v = .ref b/\je K H b (is.map .int)
noncomputable def gG (K:Frag)(H:Hp):List (Int×MV)->List (Key×V)->Prop
 |[],[]=>True
 |q::r,p::s=>p.1 = .inl q.1/\nO K H q.2 p.2/\gG K H r s
 |_,_=>False
theorem nO.keep {K:Frag}{H H':Hp}(t:∀ b vs,je K H b vs->je K H' b vs):∀{m:MV}{v:V},nO K H m v->nO K H' m v
 |.tr,_,h=>h
 |.int _,_,h=>h
 |.tup _,_,⟨b,e,h⟩=>⟨b,e,t _ _ h⟩
theorem gG.keep {K:Frag}{H H':Hp}(t:∀ b vs,je K H b vs->je K H' b vs):∀{q:List (Int×MV)}{x:List (Key×V)},gG K H q x->gG K H' q x
 |[],[],h=>h
 |_::_,_::_,⟨a,b,c⟩=>⟨a,b.keep t,c.keep t⟩
 |[],_::_,h=>h.elim
 |_::_,[],h=>h.elim
theorem gG.len {K:Frag}{H:Hp}:∀{q:List (Int×MV)}{x:List (Key×V)},gG K H q x->x.length=q.length
 |[],[],_=>rfl
 |_::_,_::_,⟨_,_,c⟩=>by rw[av,av,c.len]
 |[],_::_,h=>h.elim
 |_::_,[],h=>h.elim
theorem je.sq {K:Frag}{H:Hp}{a:Addr}{xs:List V}(h:je K H a xs):gH K H a xs:=h.imp .inl And.right
mutual
inductive Rep (K:Frag) (H:Hp):D->V->List Addr->Prop where
 | non:Rep K H .non .non []
 | bl (b:Bool):Rep K H (.bl b) (.bl b) []
 | int (i:Int):Rep K H (.int i) (.int i) []
 | str (s:Str):Rep K H (.str s) (.str s) []
 | lst {p:Addr}{vs:List V}{ds:List D}{G:List Addr}(h:Rd H p (.lst vs)) (r:aD K H ds vs G):Rep K H (.lst ds) (.ref p) (p::G)
 | tup {p:Addr}{vs:List V}{ds:List D}{G:List Addr}(h:je K H p vs) (r:aD K H ds vs G):Rep K H (.tup ds) (.ref p) G
 | dct {p:Addr}{kvs:List (Key×Option Int)}(h:n6 K p kvs):Rep K H (.dct kvs) (.ref p) []
 | mpi {p:Addr}{ks:List (Int×MV)}{xs:List (Key×V)}(h:H p=some (.dK xs)) (r:gG K H ks xs):Rep K H (.mpi ks) (.ref p) [p]
 | mpt {p:Addr}{ks:List (List Int)}(h:Rd H p (.dT (wx ks))):Rep K H (.mpt ks) (.ref p) [p]
 | mpz {p:Addr}{ks:List (Int×MV)}{xs:List (Key×V)}{o:Obj}(h:H p=some (.frz o (.dK xs))) (r:gG K H ks xs):Rep K H (.mpz ks) (.ref p) []
inductive aD (K:Frag) (H:Hp):List D->List V->List Addr->Prop where
 | nil:aD K H [] [] []
 | cons {d:D}{v:V}{ds:List D}{vs:List V}{G G':List Addr}(h:Rep K H d v G) (r:aD K H ds vs G'):aD K H (d::ds) (v::vs) (G++G')
end
theorem pC {H H':Hp}{b:Addr}(k:∀ u:HO,H b=some u->H' b=some u){o:HO}(h:Rd H b o):Rd H' b o:=by
 rcases h with h | ⟨u,h⟩
 ·exact .inl (k _ h)
 ·exact .inr ⟨u,k _ h⟩
def Be (H H':Hp):Prop:=∀ b o u,H b=some (.frz o u)->H' b=some (.frz o u)
section
variable {K:Frag}{H H':Hp}
theorem Rep.keep (t:∀ b vs,je K H b vs->je K H' b vs)(z:Be H H'){d:D}{v:V}{G:List Addr}(h:Rep K H d v G):(∀ b∈G,∀ u:HO,H b=some u->H' b=some u)->Rep K H' d v G :=
 Rep.rec (motive_1:=fun d v G _=>(∀ b∈G,∀ u:HO,H b=some u->H' b=some u)->Rep K H' d v G) (motive_2:=fun ds vs G _=>(∀ b∈G,∀ u:HO,H b=some u->H' b=some u)->aD K H' ds vs G)
  (fun _=>.non) (fun b _=>.bl b) (fun i _=>.int i) (fun s _=>.str s) (fun h _ ih k=>.lst (pC (k _ ao) h) (ih fun b hb=>k b (ae _ hb)))
  (fun h _ ih k=>.tup (t _ _ h) (ih k)) (fun h _=>.dct h) (fun h r k=>.mpi (k _ ao _ h) (r.keep t)) (fun h k=>.mpt (pC (k _ ao) h)) (fun h r _=>.mpz (z _ _ _ h) (r.keep t))
  (fun _=>.nil) (fun _ _ i1 i2 k=>.cons (i1 fun b hb=>k b (bf _ hb)) (i2 fun b hb=>k b (aq _ hb))) h
theorem aD.keep (t:∀ b vs,je K H b vs->je K H' b vs)(z:Be H H'){ds:List D}{vs:List V}{G:List Addr}(h:aD K H ds vs G):(∀ b∈G,∀ u:HO,H b=some u->H' b=some u)->aD K H' ds vs G :=
 aD.rec (motive_1:=fun d v G _=>True) (motive_2:=fun ds vs G _=>(∀ b∈G,∀ u:HO,H b=some u->H' b=some u)->aD K H' ds vs G)
  trivial (fun _=>trivial) (fun _=>trivial) (fun _=>trivial) (fun _ _ _=>trivial) (fun _ _ _=>trivial) (fun _=>trivial) (fun _ _=>trivial) (fun _=>trivial) (fun _ _=>trivial)
  (fun _=>.nil) (fun h _ _ i2 k=>.cons (Rep.keep t z h fun b hb=>k b (bf _ hb)) (i2 fun b hb=>k b (aq _ hb))) h
theorem aE.rd (e:aE H H'){b:Addr}{o:HO}(h:Rd H b o):Rd H' b o:=by
 rcases h with h | ⟨u,h⟩
 ·exact .inl (e _ _ h)
 ·exact .inr ⟨u,e _ _ h⟩
theorem aE.tqT (e:aE H H'){b:Addr}{vs:List V}(h:je K H b vs):je K H' b vs:=by
 rcases h with h | h
 ·exact .inl (e _ _ h)
 ·exact .inr h
theorem aE.sqT (e:aE H H'){b:Addr}{vs:List V}(h:gH K H b vs):gH K H' b vs:=by
 rcases h with h | h
 ·exact .inl (aE.rd e h)
 ·exact .inr h
theorem Rep.same (e:aE H H'){d:D}{v:V}{G:List Addr}(h:Rep K H d v G):Rep K H' d v G:=h.keep (fun _ _=>aE.tqT e) (fun _ _ _ h=>e _ _ h) fun _ _ _ h=>e _ _ h
theorem aD.same (e:aE H H'){d:List D}{v:List V}{G:List Addr}(h:aD K H d v G):aD K H' d v G:=h.keep (fun _ _=>aE.tqT e) (fun _ _ _ h=>e _ _ h) fun _ _ _ h=>e _ _ h
theorem Rep.flat {d:D}{v:V}{G:List Addr}(h:Rep K H d v G):d.flat=true->G=[] :=
 Rep.rec (motive_1:=fun d v G _=>d.flat=true->G=[]) (motive_2:=fun ds vs G _=>D.flats ds=true->G=[])
  (fun _=>rfl) (fun _ _=>rfl) (fun _ _=>rfl) (fun _ _=>rfl) (fun _ _ _ f=>by simp[D.flat] at f) (fun _ _ ih f=>ih (by simpa[D.flat] using f)) (fun _ _=>rfl) (fun _ _ f=>by simp[D.flat] at f) (fun _ f=>by simp[D.flat] at f) (fun _ _ _=>rfl)
  (fun _=>rfl) (fun _ _ i1 i2 f=>by
   simp only[D.flats,Bool.and_eq_true] at f;rw[i1 f.1,i2 f.2];rfl) h
theorem aD.flat {ds:List D}{vs:List V}{G:List Addr}(h:aD K H ds vs G):D.flats ds=true->G=[] :=
 aD.rec (motive_1:=fun d v G _=>True) (motive_2:=fun ds vs G _=>D.flats ds=true->G=[])
  trivial (fun _=>trivial) (fun _=>trivial) (fun _=>trivial) (fun _ _ _=>trivial) (fun _ _ _=>trivial) (fun _=>trivial) (fun _ _=>trivial) (fun _=>trivial) (fun _ _=>trivial)
  (fun _=>rfl) (fun h _ _ i2 f=>by
   simp only[D.flats,Bool.and_eq_true] at f;rw[Rep.flat h f.1,i2 f.2];rfl) h
theorem Rep.live {d:D}{v:V}{G:List Addr}(h:Rep K H d v G):∀ a∈G,∃ vs:ML,Rd H a vs.o :=
 Rep.rec (motive_1:=fun d v G _=>∀ a∈G,∃ vs:ML,Rd H a vs.o) (motive_2:=fun ds vs G _=>∀ a∈G,∃ vs:ML,Rd H a vs.o)
  (fun _ h=>(nomatch h)) (fun _ _ h=>(nomatch h)) (fun _ _ h=>(nomatch h)) (fun _ _ h=>(nomatch h)) (fun h _ ih a m=>(ft.mp m).elim (fun e=>e ▸ ⟨.l _,h⟩) (ih a)) (fun _ _ ih=>ih) (fun _ _ h=>(nomatch h))
  (fun h _ a m=>(List.mem_singleton.mp m) ▸ ⟨.k _,.inl h⟩) (fun h a m=>(List.mem_singleton.mp m) ▸ ⟨.t _,h⟩) (fun _ _ _ h=>(nomatch h))
  (fun _ h=>(nomatch h)) (fun _ _ i1 i2 a m=>(dm.mp m).elim (i1 a) (i2 a)) h
theorem aD.live {ds:List D}{vs:List V}{G:List Addr}(h:aD K H ds vs G):∀ a∈G,∃ vs:ML,Rd H a vs.o :=
 aD.rec (motive_1:=fun d v G _=>True) (motive_2:=fun ds vs G _=>∀ a∈G,∃ vs:ML,Rd H a vs.o)
  trivial (fun _=>trivial) (fun _=>trivial) (fun _=>trivial) (fun _ _ _=>trivial) (fun _ _ _=>trivial) (fun _=>trivial) (fun _ _=>trivial) (fun _=>trivial) (fun _ _=>trivial)
  (fun _ h=>(nomatch h)) (fun h _ _ i2 a m=>(dm.mp m).elim (Rep.live h a) (i2 a)) h
theorem Rd.ne_none {a:Addr}{u:HO}(h:Rd H a u):H a≠none:=by
 rcases h with h | ⟨o,h⟩<;>rw[h]<;>simp
theorem Rep.nn {d:D}{v:V}{G:List Addr}(h:Rep K H d v G){a:Addr}(m:a∈G):H a≠none:=let ⟨_,q⟩:=h.live a m;Rd.ne_none q
theorem aD.nn {d:List D}{v:List V}{G:List Addr}(h:aD K H d v G){a:Addr}(m:a∈G):H a≠none:=let ⟨_,q⟩:=h.live a m;Rd.ne_none q
theorem aD.len:∀{ds:List D}{vs:List V}{G:List Addr},aD K H ds vs G->ds.length=vs.length
 |_,_,_,.nil=>rfl
 |_,_,_,.cons _ r=>by simp[aD.len r]
theorem aD.get:∀{ds:List D}{vs:List V}{G:List Addr}{i:Nat}{d:D},aD K H ds vs G->ds[i]? = some d->∃ v G',vs[i]? = some v/\Rep K H d v G'/\G'.Sublist G
 |_,_,_,_,_,.nil,e=>by simp at e
 | _,_,_,0,_,.cons h r,e=>by
  simp at e;subst e;exact⟨_,_,rfl,h,List.sublist_append_left _ _⟩
 | _,_,_,i+1,d,.cons h r,e=>by
  obtain⟨v,G',a,b,c⟩:=aD.get (i:=i) (d:=d) r (by simpa using e);exact⟨v,G',by simpa using a,b,c.trans (List.sublist_append_right _ _)⟩
theorem aD.append:∀{ds es:List D}{vs us:List V}{G G':List Addr},aD K H ds vs G->aD K H es us G'->aD K H (ds++es) (vs++us) (G++G')
 |_,_,_,_,_,_,.nil,s=>s
 | _,_,_,_,_,_,.cons h r,s=>by
  rw[ag];exact .cons h (aD.append r s)
theorem aD.take:∀{ds:List D}{vs:List V}{G:List Addr}(n:Nat),aD K H ds vs G->∃ G',aD K H (ds.take n) (vs.take n) G'/\G'.Sublist G
 |_,_,_,0,_=>⟨[],by simpa using .nil,by simp⟩
 |_,_,_,_+1,.nil=>⟨[],by simpa using .nil,by simp⟩
 | _,_,_,n+1,.cons h r=>by
  obtain⟨G',a,b⟩:=aD.take n r;exact⟨_,by simpa using .cons h a,List.Sublist.append (List.Sublist.refl _) b⟩
theorem aD.drop:∀{ds:List D}{vs:List V}{G:List Addr}(n:Nat),aD K H ds vs G->∃ G',aD K H (ds.drop n) (vs.drop n) G'/\G'.Sublist G
 |_,_,_,0,r=>⟨_,by simpa using r,List.Sublist.refl _⟩
 |_,_,_,_+1,.nil=>⟨[],by simpa using .nil,by simp⟩
 | _,_,_,n+1,.cons h r=>by
  obtain⟨G',a,b⟩:=aD.drop n r;exact⟨_,by simpa using a,b.trans (List.sublist_append_right _ _)⟩
theorem aD.split:∀{ds:List D}{vs:List V}{G:List Addr}{i:Nat}{d:D},aD K H ds vs G->ds[i]? = some d->∃ v G1 G' G2,vs[i]? = some v/\G=G1++(G'++G2)/\Rep K H d v G' /\
  ∀(H':Hp) (d':D) (v':V) (N:List Addr),(∀ b vs,je K H b vs->je K H' b vs)->Be H H'->(∀ b∈G1++G2,∀ u:HO,H b=some u->H' b=some u)->Rep K H' d' v' N->aD K H' (ds.set i d') (vs.set i v') (G1++(N++G2))
 |_,_,_,_,_,.nil,e=>by simp at e
 | _,_,_,0,_,.cons (G:=G) (G':=G') h r,e=>by
  simp at e;subst e;refine⟨_,[],_,_,rfl,rfl,h,fun H' d' v' N t z k n=>?_⟩;show aD K H' (_::_) (_::_) (N++G');exact .cons n (r.keep t z fun b hb=>k b (by simpa using hb))
 | _,_,_,i+1,d,.cons (G:=G) (G':=G') h r,e=>by
  obtain⟨v,G1,Gi,G2,a,b,c,f⟩:=aD.split (i:=i) (d:=d) r (by simpa using e);refine⟨v,G++G1,Gi,G2,by simpa using a,by rw[b];simp,c,fun H' d' v' N t z k n=>?_⟩;have q:=aD.cons (h.keep t z fun b hb=>k b (by simp[hb])) (f H' d' v' N t z (fun b hb=>k b (by simp at hb ⊢;exact Or.inr hb)) n);rw[<-ag] at q;exact q
end
noncomputable def aV:Tg->Bool
 |.own=>true
 |.lk=>true
 |.sh _=>false
structure RE (K:Frag)(P:Addr->Prop)(env:En)(σ:L2.St)(H:Hp)(F:Nat->List Addr):Prop where
 len:env.length=σ.length
 val:∀ i d t,env[i]? = some (some (d,t))->∃ v,σ[i]? = some (some v)/\Rep K H d v (F i)
 emp:∀ i,(∀ d t,env[i]?≠some (some (d,t)))->F i=[]
 one:∀ i d t,env[i]? = some (some (d,t))->aV t=true->(F i).Nodup/\(∀ a∈F i,∃ vs:ML,H a=some vs.o) /\
  ∀ a∈F i,∀ j d' t',env[j]? = some (some (d',t'))->a∈F j->i∈aT j t'
 wr:∀ i d,env[i]? = some (some (d,.own))->∀ a∈F i,¬ P a
 pl:∀ a,P a->H a≠none
structure bB (env:En)(F:Nat->List Addr)(H:Hp)(r:Rt)(H':Hp)(G:List Addr):Prop where
 cont:∀ a∈G,H a=none\/∃ i d t,a∈F i/\env[i]? = some (some (d,t))/\∀ q∈aT i t,q∈r.roots
 mv:∀ R,r = .mv R->G.Nodup/\(∀ a∈G,∃ vs:ML,H' a=some vs.o)/\∀ a∈G,H a=none\/∃ i d t,i∈R/\a∈F i/\env[i]? = some (some (d,t))/\aV t=true
theorem bB.nil {env:En}{F:Nat->List Addr}{H H':Hp}{r:Rt}:bB env F H r H' []:=⟨fun _ h=>(nomatch h),fun _ _=>⟨bw,fun _ h=>(nomatch h),fun _ h=>(nomatch h)⟩⟩
theorem RE.same {K:Frag}{P:Addr->Prop}{env:En}{σ:L2.St}{H H':Hp}{F:Nat->List Addr}(r:RE K P env σ H F)(e:aE H H'):RE K P env σ H' F where
 len:=r.len
 val:=fun i d t h=>let ⟨v,a,b⟩:=r.val i d t h;⟨v,a,b.same e⟩
 emp:=r.emp
 one:=fun i d t h o=>let ⟨a,b,c⟩:=r.one i d t h o;⟨a,fun x hx=>let ⟨vs,q⟩:=b x hx;⟨vs,e _ _ q⟩,c⟩
 wr:=r.wr
 pl:=fun a h z=>by
  cases q:H a with
  |none=>exact r.pl a h q
  |some o=>rw[e _ _ q] at z;cases z
theorem aE.no {H H':Hp}(e:aE H H'){a:Addr}(h:H' a=none):H a=none:=by
 cases q:H a with
 |none=>rfl
 |some o=>rw[e _ _ q] at h;cases h
theorem bB.back {env:En}{F:Nat->List Addr}{H H1 H':Hp}{r:Rt}{G:List Addr}(h:bB env F H1 r H' G)(e:aE H H1):bB env F H r H' G where
 cont:=fun a ha=>(h.cont a ha).imp (aE.no e) id
 mv:=fun R hr=>let ⟨a,b,c⟩:=h.mv R hr;⟨a,b,fun x hx=>(c x hx).imp (aE.no e) id⟩
theorem bB.later {env:En}{F:Nat->List Addr}{H H1 H':Hp}{r:Rt}{G:List Addr}(h:bB env F H r H1 G)(e:aE H1 H'):bB env F H r H' G where
 cont:=h.cont
 mv:=fun R hr=>let ⟨a,b,c⟩:=h.mv R hr;⟨a,fun x hx=>let ⟨vs,q⟩:=b x hx;⟨vs,e _ _ q⟩,c⟩
theorem bB.part {env:En}{F:Nat->List Addr}{H H':Hp}{r r':Rt}{G G':List Addr}(h:bB env F H r H' G)(hs:∀ a∈G',a∈G)(hr:∀ q∈r.roots,q∈r'.roots)(hn:∀ R,r'≠.mv R):bB env F H r' H' G' where
 cont:=fun a ha=>(h.cont a (hs a ha)).imp id fun ⟨i,d,t,x,y,z⟩=>⟨i,d,t,x,y,fun q hq=>hr q (z q hq)⟩
 mv:=fun R e=>absurd e (hn R)
noncomputable def mS (F:Nat->List Addr)(i:Nat)(G:List Addr):Nat->List Addr:=fun j=>if j=i then G else F j
theorem cP {F:Nat->List Addr}{i:Nat}{G:List Addr}:mS F i G i=G:=if_pos rfl
theorem cL {F:Nat->List Addr}{i j:Nat}{G:List Addr}(h:j≠i):mS F i G j=F j:=if_neg h
theorem ot (env:En)(i:Nat)(d:D)(t:Tg):(put env i d t).length=env.length:=by simp[put]
theorem cK {env:En}{i:Nat}{d:D}{t:Tg}(h:i<env.length):(put env i d t)[i]? = some (some (d,t)):=by
 unfold put;rw[List.getElem?_set_self (by simpa using h)]
theorem tZ {env:En}{i j:Nat}{d:D}{t:Tg}(h:j≠i):(put env i d t)[j]? = (env[j]?).map fun s=>s.map fun p=>(p.1,p.2.drop i):=by
 unfold put;rw[List.getElem?_set_ne (dh h),List.getElem?_map]
theorem eP {env:En}{i j:Nat}{d d':D}{t t':Tg}(h:j≠i)(e:(put env i d t)[j]? = some (some (d',t'))):∃ t0,env[j]? = some (some (d',t0))/\t'=t0.drop i:=by
 rw[tZ h] at e;cases q:env[j]? with
 |none=>rw[q] at e;cases e
 |some s =>
  rw[q] at e;cases s with
  |none=>cases e
  |some p =>
   obtain⟨a,b⟩:=p;simp only[Option.map_some,Option.some.injEq,Prod.mk.injEq] at e;obtain⟨rfl,rfl⟩:=e;exact⟨b,rfl,rfl⟩
theorem i3 (t:Tg)(i:Nat):aV (t.drop i)=aV t:=by cases t<;>rfl
theorem i5 {t:Tg}{i j k:Nat}(h:k∈aT j t)(hk:k≠i):k∈aT j (t.drop i):=by
 cases t with
 |own=>exact h
 |lk=>exact h
 |sh R =>
  simp only[aT,Tg.drop,List.mem_filter] at h ⊢;exact⟨h,by simpa using hk⟩
section
variable {K:Frag}{P:Addr->Prop}{env:En}{σ:L2.St}{H:Hp}{F:Nat->List Addr}
theorem RE.nn (re:RE K P env σ H F){j:Nat}{d:D}{t:Tg}(h:env[j]? = some (some (d,t))){a:Addr}(m:a∈F j):H a≠none:=let ⟨_,_,r⟩:=re.val j d t h;r.nn m
theorem RE.at' (re:RE K P env σ H F){j:Nat}{a:Addr}(m:a∈F j):∃ d t,env[j]? = some (some (d,t)):=by
 by_cases h:∃ d t,env[j]? = some (some (d,t))
 ·exact h
 ·rw[re.emp j fun d t e=>h ⟨d,t,e⟩] at m;cases m
theorem RE.put (re:RE K P env σ H F){i:Nat}{d:D}{v:V}{G:List Addr}{t:Tg}(hi:i<env.length)(rp:Rep K H d v G)
  (ho:aV t=true->G.Nodup/\(∀ a∈G,∃ vs:ML,H a=some vs.o)/\∀ a∈G,∀ j,j≠i->a∉F j) (hw:t = .own->∀ a∈G,¬ P a)
  (hs:∀ a∈G,∀ j d' t',j≠i->env[j]? = some (some (d',t'))->aV t'=true->a∈F j->j∈aT i t):RE K P (put env i d t) (σ.set i (some v)) H (mS F i G) where
 len:=by rw[ot,dn];exact re.len
 val:=fun j d' t' e=>by
  by_cases h:j=i
  ·subst h;rw[cK hi] at e;cases e;exact⟨v,List.getElem?_set_self (by rw[<-re.len];exact hi),by rw[cP];exact rp⟩
  ·obtain⟨t0,e0,rfl⟩:=eP h e;obtain⟨u,a,b⟩:=re.val j d' t0 e0;exact⟨u,by rw[List.getElem?_set_ne (dh h)];exact a,by rw[cL h];exact b⟩
 emp:=fun j h=>by
  by_cases hj:j=i
  ·subst hj;exact absurd (cK hi) (h d t)
  ·rw[cL hj];refine re.emp j fun d' t' e=>h d' (t'.drop i) ?_
   rw[tZ hj,e];rfl
 one:=fun j d' t' e o=>by
  by_cases h:j=i
  ·subst h;rw[cK hi] at e;cases e;obtain⟨a,b,c⟩:=ho o;rw[cP];refine⟨a,b,fun x hx k d2 t2 e2 m=>?_⟩;by_cases hk:k=j
   ·subst hk;rw[cK hi] at e2;cases e2;cases t<;>simp_all [aT,aV]
   ·rw[cL hk] at m;exact absurd m (c x hx k hk)
  ·obtain⟨t0,e0,rfl⟩:=eP h e;rw[i3] at o;obtain⟨a,b,c⟩:=re.one j d' t0 e0 o;rw[cL h];refine⟨a,b,fun x hx k d2 t2 e2 m=>?_⟩;by_cases hk:k=i
   ·subst hk;rw[cK hi] at e2;cases e2;rw[cP] at m;exact hs x m j d' t0 h e0 o hx
   ·rw[cL hk] at m;obtain⟨t3,e3,rfl⟩:=eP hk e2;exact i5 (c x hx k d2 t3 e3 m) h
 wr:=fun j d' e=>by
  by_cases h:j=i
  ·subst h;rw[cK hi] at e;cases e;rw[cP];exact hw rfl
  ·obtain⟨t0,e0,q⟩:=eP h e;rw[cL h];cases t0 with
   |own=>exact re.wr j d' e0
   |lk=>cases q
   |sh R=>cases q
 pl:=re.pl
theorem RE.forget (re:RE K P env σ H F){env':En}(hl:env'.length=env.length)(he:∀(i:Nat) (d:D) (t:Tg),env'[i]? = some (some (d,t))->env[i]? = some (some (d,t))) :
  RE K P env' σ H (fun i=>match env'[i]? with | some (some _)=>F i | _=>[]) where
 len:=hl.trans re.len
 val:=fun i d t e=>by rw[e];exact re.val i d t (he i d t e)
 emp:=fun i h=>by
  split
  ·rename_i p q;exact absurd q (h p.1 p.2)
  ·rfl
 one:=fun i d t e o=>by
  rw[e];obtain⟨a,b,c⟩:=re.one i d t (he i d t e) o;refine⟨a,b,fun x hx k d2 t2 e2 m=>?_⟩;rw[e2] at m;exact c x hx k d2 t2 (he k d2 t2 e2) m
 wr:=fun i d e=>by rw[e];exact re.wr i d (he i d _ e)
 pl:=re.pl
end
theorem cF (R:List Nat)(env:En):(kill R env).length=env.length:=by simp[kill]
theorem bT {R:List Nat}{env:En}{i:Nat}{d:D}{t:Tg}(e:(kill R env)[i]? = some (some (d,t))):env[i]? = some (some (d,t))/\i∉R/\∀ q∈R,q∉aT i t:=by
 unfold kill at e;rw[List.getElem?_mapIdx] at e;cases q:env[i]? with
 |none=>rw[q] at e;cases e
 |some s =>
  rw[q] at e;cases s with
  |none=>cases e
  |some p =>
   obtain⟨a,b⟩:=p;simp only[Option.map_some,Option.some.injEq] at e;by_cases h:(R.contains i || fV R b)=true
   ·rw[if_pos h] at e;cases e
   ·rw[if_neg h] at e;cases e;rw[fh,not_or] at h;have h1:i∉R:=fun z=>h.1 (by simpa using z)
    refine⟨rfl,h1,fun r hq z=>?_⟩;cases t with
    |own=>simp only[aT,List.mem_singleton] at z;subst z;exact h1 hq
    |lk=>simp only[aT,List.mem_singleton] at z;subst z;exact h1 hq
    |sh Q =>
     apply h.2;simp only[fV,List.any_eq_true];exact⟨r,z,by simpa using hq⟩
section
variable {K:Frag}{P:Addr->Prop}{env:En}{σ:L2.St}{H:Hp}{F:Nat->List Addr}
theorem gX {p b:Addr}{ws vs:List V}{o:HO}(hp:H p=some (.lst ws))(h:je K H b vs):je K (upd H p o) b vs:=by
 rcases h with h | h
 ·exact .inl (by rw[aG];exact h;intro z;subst z;rw[hp] at h;cases h)
 ·exact .inr h
theorem rO {p b:Addr}{ws:ML}{vs:List V}{o:HO}(hp:H p=some ws.o)(h:je K H b vs):je K (upd H p o) b vs:=by
 rcases h with h | h
 ·exact .inl (by rw[aG];exact h;intro z;subst z;rw[hp] at h;cases ws<;>cases h)
 ·exact .inr h
theorem yG {p b:Addr}{o o':HO}(hne:b≠p)(h:Rd H b o):Rd (upd H p o') b o:=by
 rcases h with h | ⟨u,h⟩
 ·exact .inl (by rw[aG hne];exact h)
 ·exact .inr ⟨u,by rw[aG hne];exact h⟩
theorem iK {H:Hp}{p:Addr}{ws:ML}{o:HO}(hp:H p=some ws.o):Be H (L2.upd H p o):=fun b ob u h=>by
 rw[aG fun e=>?_]
 ·exact h
 ·subst e;rw[hp] at h;cases ws<;>cases h
theorem Rep.upd {p:Addr}{ws:List V}{o:HO}{d:D}{v:V}{G:List Addr}(hp:H p=some (.lst ws))(h:Rep K H d v G)(hn:p∉G):Rep K (upd H p o) d v G :=
 h.keep (fun _ _=>gX hp) (iK (ws:=.l _) hp) fun b hb _ h=>(aG (fun (z:b=p)=>hn (z ▸ hb))).trans h
theorem Rep.updM {p:Addr}{ws:ML}{o:HO}{d:D}{v:V}{G:List Addr}(hp:H p=some ws.o)(h:Rep K H d v G)(hn:p∉G):Rep K (L2.upd H p o) d v G :=
 h.keep (fun _ _=>rO hp) (iK hp) fun b hb _ h=>(aG (fun (z:b=p)=>hn (z ▸ hb))).trans h
theorem aD.upd {p:Addr}{ws:List V}{o:HO}{d:List D}{v:List V}{G:List Addr}(hp:H p=some (.lst ws))(h:aD K H d v G)(hn:p∉G):aD K (upd H p o) d v G :=
 h.keep (fun _ _=>gX hp) (iK (ws:=.l _) hp) fun b hb _ h=>(aG (fun (z:b=p)=>hn (z ▸ hb))).trans h
noncomputable def mJ (F:Nat->List Addr)(env:En)(x:Nat)(R:List Nat)(G:List Addr):Nat->List Addr:=fun j=>if j=x then G else match (kill (x::R) env)[j]? with
 | some (some _)=>F j
 |_=>[]
theorem RE.mutateM (re:RE K P env σ H F){x:Nat}{d d':D}{v:V}{p:Addr}{vs:ML}{R:List Nat}{N G:List Addr}(hx:env[x]? = some (some (d,.own)))(hv:σ[x]? = some (some v))(hp:p∈F x)
  (rp:Rep K (upd H p vs.o) d' v G) (nd:G.Nodup) (sub:∀ a∈G,a∈F x\/a∈N)
  (hN:∀ a∈N,(∃ vs:ML,H a=some vs.o)/\¬ P a/\∀(j:Nat) (d:D) (t:Tg),env[j]? = some (some (d,t))->a∈F j->∃ q∈x::R,q∈aT j t) :
  RE K P ((kill (x::R) env).set x (some (d',.own))) σ (upd H p vs.o) (mJ F env x R G):=by
 obtain⟨ndx,lsx,onx⟩:=re.one x d .own hx rfl;obtain⟨ws,hpl⟩:=lsx p hp;have hxl:x<(kill (x::R) env).length:=by
  rw[cF];exact (List.getElem?_eq_some_iff.mp hx).1
 have other:∀{j:Nat}{d2:D}{t2:Tg},j≠x->((kill (x::R) env).set x (some (d',.own)))[j]? = some (some (d2,t2))->(kill (x::R) env)[j]? = some (some (d2,t2)):=fun {j d2 t2} hj e=>by
  rw[List.getElem?_set_ne (dh hj)] at e;exact e
 have live:∀ a,(∃ vs:ML,H a=some vs.o)->∃ ws:ML,upd H p vs.o a=some ws.o:=fun a ⟨ws,h⟩=>by
  by_cases z:a=p
  ·subst z;exact⟨vs,aJ⟩
  ·exact⟨ws,by rw[aG z];exact h⟩
 have apart:∀{j:Nat}{d2:D}{t2:Tg},j≠x->(kill (x::R) env)[j]? = some (some (d2,t2))->∀ a∈F x,a∉F j:=fun {j d2 t2} hj e a ha hb=>by
  obtain⟨e0,_,h3⟩:=bT e;exact h3 x ao (onx a ha j d2 t2 e0 hb)
 have fj:∀{j:Nat}{d2:D}{t2:Tg},j≠x->(kill (x::R) env)[j]? = some (some (d2,t2))->mJ F env x R G j=F j:=fun {j d2 t2} hj e=>by
  unfold mJ;rw[if_neg hj,e]
 have fx:mJ F env x R G x=G:=if_pos rfl;refine⟨?_,fun j d2 t2 e=>?_,fun j h=>?_,fun j d2 t2 e o=>?_,fun j d2 e=>?_,fun a h=>?_⟩
 ·rw[dn,cF];exact re.len
 ·by_cases hj:j=x
  ·subst hj;rw[List.getElem?_set_self hxl] at e;cases e;exact⟨v,hv,by rw[fx];exact rp⟩
  ·have e1:=other hj e;obtain⟨e0,_,_⟩:=bT e1;obtain⟨u,h1,h2⟩:=re.val j d2 t2 e0;exact⟨u,h1,by rw[fj hj e1];exact h2.updM hpl (apart hj e1 p hp)⟩
 ·by_cases hj:j=x
  ·subst hj;exact absurd (List.getElem?_set_self hxl) (h d' .own)
  ·unfold mJ;rw[if_neg hj];split
   ·rename_i q e;exact absurd (by rw[List.getElem?_set_ne (dh hj)];exact e) (h q.1 q.2)
   ·rfl
 ·by_cases hj:j=x
  ·subst hj;rw[List.getElem?_set_self hxl] at e;cases e;rw[fx];refine⟨nd,fun a ha=>live a ?_,fun a ha k d3 t3 e3 m=>?_⟩
   ·rcases sub a ha with q | q
    ·exact lsx a q
    ·exact (hN a q).1
   ·by_cases hk:k=j
    ·subst hk;rw[List.getElem?_set_self hxl] at e3;cases e3;simp[aT]
    ·have e4:=other hk e3;rw[fj hk e4] at m;rcases sub a ha with q | q
     ·exact absurd m (apart hk e4 a q)
     ·obtain⟨e0,_,h3⟩:=bT e4;obtain⟨r,r1,r2⟩:=(hN a q).2.2 k d3 t3 e0 m;exact absurd r2 (h3 r r1)
  ·have e1:=other hj e;obtain⟨e0,_,_⟩:=bT e1;obtain⟨a,b,c⟩:=re.one j d2 t2 e0 o;rw[fj hj e1];refine⟨a,fun y hy=>live y (b y hy),fun y hy k d3 t3 e3 m=>?_⟩;by_cases hk:k=x
   ·subst hk;rw[List.getElem?_set_self hxl] at e3;cases e3;rw[fx] at m;rcases sub y m with q | q
    ·exact absurd hy (apart hj e1 y q)
    ·obtain⟨_,_,h3⟩:=bT e1;obtain⟨r,r1,r2⟩:=(hN y q).2.2 j d2 t2 e0 hy;exact absurd r2 (h3 r r1)
   ·have e4:=other hk e3;rw[fj hk e4] at m;exact c y hy k d3 t3 (bT e4).1 m
 ·by_cases hj:j=x
  ·subst hj;rw[fx];intro a ha;rcases sub a ha with q | q
   ·exact re.wr j d hx a q
   ·exact (hN a q).2.1
  ·have e1:=other hj e;rw[fj hj e1];exact re.wr j d2 (bT e1).1
 ·intro z;by_cases q:a=p
  ·subst q;rw[aJ] at z;cases z
  ·rw[aG q] at z;exact re.pl a h z
theorem RE.mutate (re:RE K P env σ H F){x:Nat}{d d':D}{v:V}{p:Addr}{vs:List V}{R:List Nat}{N G:List Addr}(hx:env[x]? = some (some (d,.own)))(hv:σ[x]? = some (some v))(hp:p∈F x)
  (rp:Rep K (upd H p (.lst vs)) d' v G) (nd:G.Nodup) (sub:∀ a∈G,a∈F x\/a∈N)
  (hN:∀ a∈N,(∃ vs:ML,H a=some vs.o)/\¬ P a/\∀(j:Nat) (d:D) (t:Tg),env[j]? = some (some (d,t))->a∈F j->∃ q∈x::R,q∈aT j t) :
  RE K P ((kill (x::R) env).set x (some (d',.own))) σ (upd H p (.lst vs)) (mJ F env x R G):=re.mutateM (vs:=.l vs) hx hv hp rp nd sub hN
inductive PV (K:Frag) (H:Hp):V->Option Int->Addr->Prop where
 | top (p:Addr):PV K H (.ref p) none p
 | item {q p:Addr}{ws:List V}{i:Int}{j:Nat}(h:Rd H q (.lst ws)\/gH K H q ws) (hj:gE ws.length i=some j) (e:ws[j]? = some (.ref p)):PV K H (.ref q) (some i) p
theorem zo {n:Nat}{i:Int}{j:Nat}(h:gE n i=some j):j<n:=by
 unfold gE at h;split at h
 ·split at h
  ·cases h;omega
  ·cases h
 ·split at h
  ·cases h;omega
  ·cases h
theorem Rep.lst_inv {ds:List D}{v:V}{G:List Addr}(h:Rep K H (.lst ds) v G):∃ p vs G',v = .ref p/\G=p::G'/\Rd H p (.lst vs)/\aD K H ds vs G':=by
 cases h with
 |lst a b=>exact⟨_,_,_,rfl,rfl,a,b⟩
theorem rB {d:D}{v:V}{G:List Addr}{path:Option Int}{xs:List D}(rp:Rep K H d v G)(nd:G.Nodup)(h:d.at1 path=some xs):∃ p,PV K H v path p/\∀ H',aE H H'->(∀ a∈G,∃ vs:ML,H' a=some vs.o) ->
  ∃ vs Gx,H' p=some (.lst vs)/\aD K H' xs vs Gx/\p∈G/\(∀ a∈Gx,a∈G)/\Gx.Nodup/\p∉Gx /\
   ∀ ys us Gy,aD K (upd H' p (.lst us)) ys us Gy->Gy.Nodup->p∉Gy->(∀ a∈Gy,a∈Gx\/a∉G)->∃ G',Rep K (upd H' p (.lst us)) (d.set1 path ys) v G'/\G'.Nodup/\∀ a∈G',a∈G\/a∈Gy:=by
 have rdl:∀{H':Hp}{p:Addr}{vs:List V},(∀ a∈G,∃ vs:ML,H' a=some vs.o)->p∈G->Rd H' p (.lst vs)->H' p=some (.lst vs):=fun {H' p vs} hl hp r=>by
  obtain⟨ws,q⟩:=hl p hp;rcases r with r | ⟨o,r⟩
  ·exact r
  ·rw[q] at r;cases ws<;>cases r
 cases path with
 |none =>
  cases rp with
  |lst hr r =>
   rename_i p vs ds G0;simp only[D.at1,Option.some.injEq] at h;subst h;obtain⟨n1,n2⟩:=List.nodup_cons.mp nd;refine⟨p,.top p,fun H' e hl=>⟨vs,G0,rdl hl ao (aE.rd e hr),r.same e,ao,fun a ha=>ae _ ha,n2,n1,fun ys us Gy ry ny hy hs=>?_⟩⟩;exact⟨p::Gy,.lst (.inl aJ) ry,List.nodup_cons.mpr ⟨hy,ny⟩,fun a ha=>(List.mem_cons.mp ha).imp (fun z=>by simp[z]) id⟩
  |_=>simp[D.at1] at h
 |some i =>
  have core:∀{ds:List D}{vs:List V}{G0:List Addr}{j:Nat}{q:Addr},aD K H ds vs G0->(∀ a∈G0,a∈G)->G0.Nodup->(Rd H q (.lst vs)\/gH K H q vs)->v = .ref q->gE ds.length i=some j->ds[j]? = some (.lst xs) ->
    ∃ p,PV K H v (some i) p/\∀ H',aE H H'->(∀ a∈G,∃ vs:ML,H' a=some vs.o)->∃ ws Gx,H' p=some (.lst ws)/\aD K H' xs ws Gx/\p∈G0/\(∀ a∈Gx,a∈G0)/\Gx.Nodup/\p∉Gx /\
     ∀ ys us Gy,aD K (upd H' p (.lst us)) ys us Gy->Gy.Nodup->p∉Gy->(∀ a∈Gy,a∈Gx\/a∉G) ->
      ∃ G1,aD K (upd H' p (.lst us)) (ds.set j (.lst ys)) vs G1/\G1.Nodup/\(∀ a∈G1,a∈G0\/a∈Gy):=by
   intro ds vs G0 j q r hs n0 hq hv hj he;obtain⟨w0,g0,e0,r0,_⟩:=r.get he;have hlen:=r.len;obtain⟨p,ws0,Gx0,rfl,_,_,_⟩:=r0.lst_inv
   ·refine⟨p,by rw[hv];exact .item hq (by rw[<-hlen];exact hj) e0,fun H' e hl=>?_⟩;obtain⟨w,A,B,C,e1,e2,r1,f⟩:=(r.same e).split he;rw[e0] at e1;cases e1;subst e2;obtain⟨p',ws,Gx,ep,rfl,hr,r2⟩:=r1.lst_inv;cases ep
    ·have hpG:p∈A++(p::Gx++C):=by simp
     rw[dw] at n0;obtain⟨nA,nB,nAB⟩:=n0;rw[dw] at nB;obtain⟨nB1,nC,nBC⟩:=nB;obtain⟨np,nx⟩:=List.nodup_cons.mp nB1;have hpl:=rdl hl (hs p hpG) hr;refine⟨ws,Gx,hpl,r2,hpG,fun a ha=>by simp[ha],nx,np,fun ys us Gy ry ny hy hsy=>?_⟩;have hA:p∉A:=fun z=>nAB p z p (by simp) rfl
     have hC:p∉C:=fun z=>nBC p (by simp) p z rfl
     have e3:=f (upd H' p (.lst us)) (.lst ys) (.ref p) (p::Gy) (fun _ _=>gX hpl) (iK (ws:=.l _) hpl) (fun b hb _ h=>(aG fun (z:b=p)=>by
      subst z;rcases dm.mp hb with hb | hb
      ·exact hA hb
      ·exact hC hb).trans h) (.lst (.inl aJ) ry)
     have bQ:vs.set j (.ref p)=vs:=by
      obtain⟨hj',ej⟩:=List.getElem?_eq_some_iff.mp e0;rw[<-ej,List.set_getElem_self]
     rw[bQ] at e3;refine⟨_,e3,?_,fun a ha=>?_⟩
     ·rw[dw];refine⟨nA,?_,fun a ha b hb z=>?_⟩
      ·rw[dw];refine⟨List.nodup_cons.mpr ⟨hy,ny⟩,nC,fun a ha b hb z=>?_⟩;subst z;rcases ft.mp ha with rfl | ha
       ·exact hC hb
       ·rcases hsy a ha with q | q
        ·exact nBC a (by simp[q]) a hb rfl
        ·exact q (hs a (by simp[hb]))
      ·subst z;rcases dm.mp hb with hb | hb
       ·rcases ft.mp hb with rfl | hb
        ·exact hA ha
        ·rcases hsy a hb with q | q
         ·exact nAB a ha a (by simp[q]) rfl
         ·exact q (hs a (by simp[ha]))
       ·exact nAB a ha a (by simp[hb]) rfl
     ·simp only[List.mem_append,List.mem_cons,List.cons_append] at ha ⊢;rcases ha with ha | ha | ha | ha
      ·exact .inl (.inl ha)
      ·exact .inl (.inr (.inl ha))
      ·exact .inr ha
      ·exact .inl (.inr (.inr (.inr ha)))
  cases rp with
  |lst hr r =>
   rename_i q vs ds G0;simp only[D.at1,Option.bind_eq_some_iff] at h;obtain⟨j,hj,h⟩:=h;have he:ds[j]? = some (.lst xs):=by
    split at h
    ·rename_i ys e;cases h;exact e
    ·cases h
   obtain⟨n1,n2⟩:=List.nodup_cons.mp nd;obtain⟨p,a1,ff⟩:=core r (fun a ha=>ae _ ha) n2 (.inl hr) rfl hj he;refine⟨p,a1,fun H' e hl=>?_⟩;obtain⟨ws,Gx,a2,a3,a4,a5,a6,a7,f⟩:=ff H' e hl;have hqp:q≠p:=fun z=>n1 (by rw[z];exact a4)
   refine⟨ws,Gx,a2,a3,ae _ a4,fun a ha=>ae _ (a5 a ha),a6,a7,fun ys us Gy ry ny hy hs=>?_⟩;obtain⟨G1,b1,b2,b3⟩:=f ys us Gy ry ny hy hs;have es:D.set1 (.lst ds) (some i) ys = .lst (ds.set j (.lst ys)):=by simp[D.set1,hj]
   rw[es];refine⟨q::G1,.lst (yG hqp (aE.rd e hr)) b1,List.nodup_cons.mpr ⟨fun z=>?_,b2⟩,fun a ha=>?_⟩
   ·rcases b3 q z with z | z
    ·exact n1 z
    ·rcases hs q z with z | z
     ·exact n1 (a5 q z)
     ·exact z ao
   ·rcases ft.mp ha with rfl | ha
    ·exact .inl ao
    ·exact (b3 a ha).imp (ae _) id
  |tup hr r =>
   rename_i q vs ds;simp only[D.at1,Option.bind_eq_some_iff] at h;obtain⟨j,hj,h⟩:=h;have he:ds[j]? = some (.lst xs):=by
    split at h
    ·rename_i ys e;cases h;exact e
    ·cases h
   obtain⟨p,a1,ff⟩:=core r (fun a ha=>ha) nd (.inr hr.sq) rfl hj he;refine⟨p,a1,fun H' e hl=>?_⟩;obtain⟨ws,Gx,a2,a3,a4,a5,a6,a7,f⟩:=ff H' e hl;refine⟨ws,Gx,a2,a3,a4,a5,a6,a7,fun ys us Gy ry ny hy hs=>?_⟩;obtain⟨G1,b1,b2,b3⟩:=f ys us Gy ry ny hy hs;have es:D.set1 (.tup ds) (some i) ys = .tup (ds.set j (.lst ys)):=by simp[D.set1,hj]
   rw[es];exact⟨G1,.tup (gX a2 (aE.tqT e hr)) b1,b2,b3⟩
  |_=>simp[D.at1] at h
end
end Pc
end
section
namespace Pc
open PySem PySem.Spec PyProof.Rows L2
theorem Rs.bind_ok {α β:Type}{x:Rs α}{f:α->Rs β}{b:β}(h:x.bind f = .ok b):∃ a,x = .ok a/\f a = .ok b:=by
 cases x with
 |ok a=>exact⟨a,rfl,h⟩
 |exc e=>cases h
 |bad=>cases h
theorem cC {α:Type}{o:Option α}{a:α}(h:gT o = .ok a):o=some a:=by
 cases o with
 |none=>cases h
 |some b=>cases h;rfl
theorem aE.new {H:Hp}{p:Addr}{o:HO}(h:H p=none):aE H (upd H p o):=fun b u e=>by
 rw[aG];exact e;intro z;subst z;rw[h] at e;cases e
theorem rY:lim<=sizeLine:=by decide
theorem dN {n:Nat}(h:n<=lim):n<=sizeLine:=bh h rY
inductive Args (K:Frag) (env:En) (F:Nat->List Addr):Hp->Hp->List (D×Rt)->List V->List Addr->Prop where
 | nil {H H':Hp}(e:aE H H'):Args K env F H H' [] [] []
 | cons {H H1 H':Hp}{p:D×Rt}{v:V}{G G':List Addr}{l:List (D×Rt)}{vs:List V}(e:aE H H1) (r:Rep K H1 p.1 v G) (t:bB env F H p.2 H1 G) (s:Args K env F H1 H' l vs G'):Args K env F H H' (p::l) (v::vs) (G++G')
section
variable {K:Frag}{env:En}{F:Nat->List Addr}
theorem Args.same:∀{H H':Hp}{l:List (D×Rt)}{vs:List V}{G:List Addr},Args K env F H H' l vs G->aE H H'
 |_,_,_,_,_,.nil e=>e
 |_,_,_,_,_,.cons e _ _ s=>e.trans s.same
theorem Args.reps:∀{H H':Hp}{l:List (D×Rt)}{vs:List V}{G:List Addr},Args K env F H H' l vs G->aD K H' (l.map (·.1)) vs G
 |_,_,_,_,_,.nil _=>.nil
 |_,_,_,_,_,.cons _ r _ s=>.cons (r.same s.same) s.reps
theorem Args.cont:∀{H H':Hp}{l:List (D×Rt)}{vs:List V}{G:List Addr},Args K env F H H' l vs G->∀ a∈G,H a=none\/∃ i d t,a∈F i/\env[i]? = some (some (d,t))/\∀ q∈aT i t,q∈aO (l.map (·.2))
 |_,_,_,_,_,.nil _,a,h=>by cases h
 | _,_,_,_,_,.cons (p:=p) (l:=l) e r t s,a,h=>by
  have e1:aO ((p::l).map (·.2))=p.2.roots++aO (l.map (·.2)):=by simp[aO]
  rw[e1];rcases dm.mp h with h | h
  ·exact (t.cont a h).imp id fun ⟨i,d,t,x,y,z⟩=>⟨i,d,t,x,y,fun q hq=>bf _ (z q hq)⟩
  ·exact (s.cont a h).imp (aE.no e) fun ⟨i,d,t,x,y,z⟩=>⟨i,d,t,x,y,fun q hq=>aq _ (z q hq)⟩
theorem Args.two {H H':Hp}{p q:D×Rt}{x y:V}{G:List Addr}(ar:Args K env F H H' [p,q] [x,y] G) :
  ∃ H1 G1 G2,G=G1++G2/\aE H H1/\Rep K H1 p.1 x G1/\bB env F H p.2 H1 G1/\aE H1 H'/\Rep K H' q.1 y G2:=by
 cases ar with
 |cons e r t s =>
  cases s with
  |cons e' r' t' s' =>
   cases s' with
   |nil e''=>exact⟨_,_,_,by rw[ax],e,r,t,e'.trans e'',r'.same e''⟩
theorem Args.mv {P:Addr->Prop}{σ:L2.St}:∀{H H':Hp}{l:List (D×Rt)}{vs:List V}{G:List Addr}{R:List Nat},RE K P env σ H F->Args K env F H H' l vs G->cN (l.map (·.2))=some R->R.Nodup ->
  G.Nodup/\(∀ a∈G,∃ vs:ML,H' a=some vs.o)/\∀ a∈G,H a=none\/∃ i d t,i∈R/\a∈F i/\env[i]? = some (some (d,t))/\aV t=true
 |_,_,_,_,_,_,_,.nil _,_,_=>⟨bw,fun _ h=>(nomatch h),fun _ h=>(nomatch h)⟩
 | H,_,_,_,_,_,re,.cons (p:=p) (l:=l) (G:=G) (G':=G') e r t s,hm,nd=>by
  obtain⟨d,rt⟩:=p;cases rt with
  |sh Q=>simp[cN] at hm
  |mv R1 =>
   simp only[List.map_cons,cN,Option.map_eq_some_iff] at hm;obtain⟨R2,h2,rfl⟩:=hm;obtain⟨n1,n2,n12⟩:=dw.mp nd;obtain⟨a1,b1,c1⟩:=t.mv R1 rfl;obtain⟨a2,b2,c2⟩:=Args.mv (re.same e) s h2 n2;refine⟨dw.mpr ⟨a1,a2,fun x hx y hy z=>?_⟩,fun x hx=>?_,fun x hx=>?_⟩
   ·subst z;rcases c2 x hy with q | ⟨i2,d2,t2,m2,f2,e2,o2⟩
    ·exact r.nn hx q
    ·rcases c1 x hx with q | ⟨i1,d1,t1,m1,f1,e1,o1⟩
     ·obtain⟨v,_,rp⟩:=re.val i2 d2 t2 e2;exact rp.nn f2 q
     ·have q:=(re.one i1 d1 t1 e1 o1).2.2 x f1 i2 d2 t2 e2 f2;have q':i1=i2:=by cases t2<;>simp_all [aT,aV]
      exact n12 i1 m1 i2 m2 q'
   ·rcases dm.mp hx with hx | hx
    ·obtain⟨vs,q⟩:=b1 x hx;exact⟨vs,s.same _ _ q⟩
    ·exact b2 x hx
   ·rcases dm.mp hx with hx | hx
    ·exact (c1 x hx).imp id fun ⟨i,d,t,m,z⟩=>⟨i,d,t,bf _ m,z⟩
    ·exact (c2 x hx).imp (aE.no e) fun ⟨i,d,t,m,z⟩=>⟨i,d,t,aq _ m,z⟩
theorem Args.comb {P:Addr->Prop}{σ:L2.St}{H H':Hp}{l:List (D×Rt)}{vs:List V}{G:List Addr}(re:RE K P env σ H F)(ar:Args K env F H H' l vs G):bB env F H (lU (l.map (·.2))) H' G:=by
 unfold lU;cases hm:cN (l.map (·.2)) with
 |none=>exact⟨ar.cont,fun R e=>by cases e⟩
 |some R =>
  have er:∀(l:List Rt) (R:List Nat),cN l=some R->aO l=R:=by
   intro l
   induction l with
   |nil=>intro R h;simp[cN] at h;subst h;rfl
   |cons x r ih =>
    intro R h;cases x with
    |sh Q=>simp[cN] at h
    |mv Q =>
     simp only[cN,Option.map_eq_some_iff] at h;obtain⟨R2,h2,rfl⟩:=h;have:=ih R2 h2;simp only[aO,List.map_cons,List.flatten_cons,Rt.roots] at this ⊢;rw[this]
  have er:=er _ R hm;by_cases nd:R.Nodup
  ·simp only[nd,if_true];obtain⟨a,b,c⟩:=ar.mv re hm nd;refine⟨fun x hx=>?_,fun R' e=>by cases e;exact⟨a,b,c⟩⟩;rcases c x hx with q | ⟨i,d,t,m,f,e,o⟩
   ·exact .inl q
   ·exact .inr ⟨i,d,t,f,e,fun q hq=>by cases t<;>simp_all [aT,aV,Rt.roots]⟩
  ·simp only[nd,if_false];exact⟨fun x hx=>by have:=ar.cont x hx;rw[er] at this;exact this,fun R' e=>by cases e⟩
end
structure fJ (H H':Hp)(G0:List Addr)(d:D)(G:List Addr):Prop where
 same:aE H H'
 sub:∀ a∈G,H a=none\/a∈G0
 new:d.inner=true->G.Nodup/\∀ a∈G,H a=none/\∃ vs:ML,H' a=some vs.o
section
variable {K:Frag}{H:Hp}{G0:List Addr}
theorem fJ.nil {d:D}:fJ H H G0 d []:=⟨aE.refl _,fun _ h=>(nomatch h),fun _=>⟨bw,fun _ h=>(nomatch h)⟩⟩
theorem fT {ds:List D}{vs:List V}{G:List Addr}{p:Addr}(r:aD K H ds vs G)(hs:∀ a∈G,a∈G0)(hp:H p=none) :
  Rep K (upd H p (.lst vs)) (.lst ds) (.ref p) (p::G)/\fJ H (upd H p (.lst vs)) G0 (.lst ds) (p::G):=by
 have e:=aE.new (o:=.lst vs) hp;refine⟨.lst (.inl aJ) (r.same e),e,fun a ha=>?_,fun f=>?_⟩
 ·rcases ft.mp ha with rfl | ha
  ·exact .inl hp
  ·exact .inr (hs a ha)
 ·have:G=[]:=r.flat f;subst this;exact⟨by simp,fun a ha=>by
   have:a=p:=by simpa using ha
   subst this;exact⟨hp,.l _,aJ⟩⟩
theorem r6 {ds:List D}{vs:List V}{G:List Addr}{p:Addr}(r:aD K H ds vs G)(hs:∀ a∈G,a∈G0)(hp:H p=none) :
  Rep K (upd H p (.tup vs)) (.tup ds) (.ref p) G/\fJ H (upd H p (.tup vs)) G0 (.tup ds) G:=by
 have e:=aE.new (o:=.tup vs) hp;refine⟨.tup (.inl aJ) (r.same e),e,fun a ha=>.inr (hs a ha),fun f=>?_⟩;have:G=[]:=r.flat f;subst this;exact⟨by simp,fun a ha=>(nomatch ha)⟩
theorem bB.new {env:En}{F:Nat->List Addr}{H1 H':Hp}{l:List (D×Rt)}{vs:List V}{G:List Addr}{d:D}{R:List Nat}(ar:Args K env F H H1 l vs G0)(nv:fJ H1 H' G0 d G)(hR:∀ q∈aO (l.map (·.2)),q∈R):bB env F H (ip d R) H' G:=by
 unfold ip;cases hi:d.inner with
 |true =>
  obtain⟨a,b⟩:=nv.new hi;have c:∀ x∈G,H x=none:=fun x hx=>aE.no ar.same (b x hx).1
  exact⟨fun x hx=>.inl (c x hx),fun R' e=>⟨a,fun x hx=>(b x hx).2,fun x hx=>.inl (c x hx)⟩⟩
 |false =>
  refine⟨fun x hx=>?_,fun R' e=>by cases e⟩;rcases nv.sub x hx with q | q
  ·exact .inl (aE.no ar.same q)
  ·exact (ar.cont x q).imp id fun ⟨i,d,t,f,e,z⟩=>⟨i,d,t,f,e,fun q hq=>hR q (z q hq)⟩
end
section
variable {X:Cx}
theorem aZ {e:Expr}{t t':TE}(h:PE X e t)(k:∀ σ H Q,t' σ H Q->t σ H Q):PE X e t':=fun pins s σ H Q I q=>h pins s σ H Q I (k σ H Q q)
theorem oP {e:Expr}{t t':TT}(h:PT X e t)(k:∀ σ H Q,t' σ H Q->t σ H Q):PT X e t':=fun pins s σ H Q I q=>h pins s σ H Q I (k σ H Q q)
theorem sj {e:List Expr}{t t':TA}(h:PA X e t)(k:∀ σ H Q,t' σ H Q->t σ H Q):PA X e t':=fun pos pins s σ H Q I q=>h pos pins s σ H Q I (k σ H Q q)
theorem cB {e:Stmt}{t t':TS}(h:PS X e t)(k:∀ D σ H,t' D σ H->t D σ H):PS X e t':=fun pins s σ H D I q=>h pins s σ H D I (k D σ H q)
theorem qk {e:List Stmt}{t t':TS}(h:kI X e t)(k:∀ D σ H,t' D σ H->t D σ H):kI X e t':=fun pins s σ H D I q=>h pins s σ H D I (k D σ H q)
end
def tE (K:Frag)(T:Tb)(c:Ex):TE:=fun σ H Q=>∃ P env F,RE K P env σ H F/\∃ p,ev T c env = .ok p/\∀ v H' G,aE H H'->Rep K H' p.1 v G->bB env F H p.2 H' G->Q v H'
def ue (K:Frag)(T:Tb)(cs:j5):TA:=fun σ H Q=>∃ P env F,RE K P env σ H F/\∃ l,bQ T cs env = .ok l/\∀ vs H' G,Args K env F H H' l vs G->Q vs H'
def lR (K:Frag)(T:Tb)(c:Ex):TT:=fun σ H Q=>∃ P env F,RE K P env σ H F/\∃ p b,ev T c env = .ok p/\truth p.1=some b/\∀ H',aE H H'->Q b H'
section
variable {K:Frag}{T:Tb}{P:Addr->Prop}{env:En}{F:Nat->List Addr}{σ:L2.St}{H:Hp}
theorem two {ca cb:Ex}{r:R2}{Q:VK}{p q:D×Rt}(re:RE K P env σ H F)(h1:ev T ca env = .ok p)(h2:ev T cb env = .ok q)(k:∀ x y H2 G,Args K env F H H2 [p,q] [x,y] G->r x y H2 Q):AU r (tE K T ca) (tE K T cb) σ H Q :=
 ⟨P,env,F,re,p,h1,fun v1 H1 G1 s1 rp1 rt1=>⟨P,env,F,re.same s1,q,h2,fun v2 H2 G2 s2 rp2 rt2=>k v1 v2 H2 _ (.cons s1 rp1 rt1 (.cons s2 rp2 rt2 (.nil (aE.refl _))))⟩⟩
end
noncomputable def vh (K:Frag)(f:D->D->Option D):R2:=fun x y H Q=>∃ d1 d2 d G,aD K H [d1,d2] [x,y] G/\f d1 d2=some d/\∀ v H' G',Rep K H' d v G'->fJ H H' G d G'->Q v H'
noncomputable def Cc (K:Frag):R2:=fun x y H Q=>∃ d1 d2 d G,aD K H [d1,d2] [x,y] G/\AR d1 d2=some d/\∀ v G',Rep K H d v G'->G'.Sublist G->Q v H
section
variable {X:Cx}{T:Tb}{a b c:Expr}{ca cb cc:Ex}{pos:Pos}
theorem yD {op:Operator}(ho:eO X (binaryOp op) (vh X.K (rg op)))(ha:PE X a (tE X.K T ca))(hb:PE X b (tE X.K T cb)):PE X (.BinOp a op b pos) (tE X.K T (.bin op ca cb)):=by
 refine aZ (xG ho ha hb) fun σ H Q ⟨P,env,F,re,p0,hev,k⟩=>?_
 unfold ev at hev;obtain⟨p,h1,hev⟩:=Rs.bind_ok hev;obtain⟨q,h2,hev⟩:=Rs.bind_ok hev;obtain⟨d,h3,hev⟩:=Rs.bind_ok hev;have h3:=cC h3;cases hev;refine two re h1 h2 fun x y H2 G ar=>⟨p.1,q.1,d,G,ar.reps,h3,fun v H' G' rp nv=>k v H' G' (ar.same.trans nv.same) rp (bB.new ar nv fun z hz=>by simpa[aO] using hz)⟩
theorem Aw {op:CmpOp}(ho:eO X (compareOp op) (vh X.K fun x y=>(mq op x y).map .bl))(ha:PE X a (tE X.K T ca))(hb:PE X b (tE X.K T cb))(hm:behindInMarks op b=false):PE X (.Compare a [op] [b] pos) (tE X.K T (.cmp op ca cb)):=by
 refine aZ (vZ ho ha hb hm) fun σ H Q ⟨P,env,F,re,p0,hev,k⟩=>?_
 unfold ev at hev;obtain⟨p,h1,hev⟩:=Rs.bind_ok hev;obtain⟨q,h2,hev⟩:=Rs.bind_ok hev;obtain⟨d,h3,hev⟩:=Rs.bind_ok hev;have h3:=cC h3;cases hev;refine two re h1 h2 fun x y H2 G ar=>⟨p.1,q.1,.bl d,G,ar.reps,by simp[h3],fun v H' G' rp nv=>k v H' G' (ar.same.trans nv.same) rp ?_⟩
 have:G'=[]:=rp.flat rfl;subst this;exact bB.nil
theorem BA (ho:u0 X (Cc X.K))(ha:PE X a (tE X.K T ca))(hb:PE X b (tE X.K T cb))(hs:jj b):PE X (.Subscript a b pos) (tE X.K T (.ix ca cb)):=by
 refine aZ (x5 ho ha hb hs) fun σ H Q ⟨P,env,F,re,p0,hev,k⟩=>?_
 unfold ev at hev;obtain⟨p,h1,hev⟩:=Rs.bind_ok hev;obtain⟨q,h2,hev⟩:=Rs.bind_ok hev;obtain⟨d,h3,hev⟩:=Rs.bind_ok hev;have h3:=cC h3;cases hev;refine two re h1 h2 fun x y H2 G ar=>⟨p.1,q.1,d,G,ar.reps,h3,fun v G' rp sl=>k v H2 G' ar.same rp ?_⟩
 unfold uk;cases hf:d.flat with
 |true =>
  have:G'=[]:=rp.flat hf;subst this;exact bB.nil
 |false =>
  obtain⟨H1,g1,g2,e1,s1,_,rt1,s2,rp2⟩:=ar.two;have hq:q.1.flat=true:=by
   revert h3;intro h3;cases hq:q.1 with
   |int _=>rfl
   |str _=>rfl
   |_=>rw[hq] at h3;revert h3;cases p.1<;>exact fun h3=>nomatch h3
  have rp2:=rp2.flat hq;have rp1:=rt1.later s2;subst rp2;rw[ax] at e1;subst e1;refine⟨fun z hz=>?_,fun R e=>by cases e⟩;exact rp1.cont z (sl.subset hz)
end
end Pc
end
section
namespace Pc
open PySem L2
structure iJ (P:Addr->Prop)(H H':Hp):Prop where
 keep:∀ a,P a->H' a=H a
 tup:∀ b xs,H b=some (.tup xs)->H' b=some (.tup xs)
 fz:Be H H'
theorem iJ.refl {P:Addr->Prop}(H:Hp):iJ P H H:=⟨fun _ _=>rfl,fun _ _ h=>h,fun _ _ _ h=>h⟩
theorem iJ.trans {P:Addr->Prop}{H H1 H2:Hp}(a:iJ P H H1)(b:iJ P H1 H2):iJ P H H2:=⟨fun x h=>(b.keep x h).trans (a.keep x h),fun x xs h=>b.tup x xs (a.tup x xs h),fun x o u h=>b.fz x o u (a.fz x o u h)⟩
theorem iJ.of_same {P:Addr->Prop}{H H':Hp}(pl:∀ a,P a->H a≠none)(e:aE H H'):iJ P H H':=⟨fun a h=>by
 cases q:H a with
 |none=>exact absurd q (pl a h)
 |some o=>exact e _ _ q,fun _ _=>e _ _,fun _ _ _ h=>e _ _ h⟩
theorem iJ.weak {P P':Addr->Prop}{H H':Hp}(h:∀ a,P a->P' a)(e:iJ P' H H'):iJ P H H':=⟨fun a x=>e.keep a (h a x),e.tup,e.fz⟩
theorem iJ.tqT {K:Frag}{P:Addr->Prop}{H H':Hp}(e:iJ P H H'){b:Addr}{vs:List V}(h:je K H b vs):je K H' b vs:=by
 rcases h with h | h
 ·exact .inl (e.tup b vs h)
 ·exact .inr h
theorem iJ.reps {K:Frag}{P:Addr->Prop}{H H':Hp}(e:iJ P H H'){ds:List D}{vs:List V}{G:List Addr}(h:aD K H ds vs G)(hp:∀ a∈G,P a):aD K H' ds vs G :=
 h.keep (fun _ _=>e.tqT) e.fz fun b hb _ r=>(e.keep b (hp b hb)).trans r
def nV (env:En)(F:Nat->List Addr)(env':En)(F':Nat->List Addr):Prop:=∀(i:Nat) (d:D),env'[i]? = some (some (d,.lk))->env[i]? = some (some (d,.lk))/\F' i=F i
theorem nV.refl (env:En)(F:Nat->List Addr):nV env F env F:=fun _ _ h=>⟨h,rfl⟩
theorem nV.trans {e1 e2 e3:En}{F1 F2 F3:Nat->List Addr}(a:nV e1 F1 e2 F2)(b:nV e2 F2 e3 F3):nV e1 F1 e3 F3:=fun i d h=>by
 obtain⟨h1,h2⟩:=b i d h;obtain⟨h3,h4⟩:=a i d h1;exact⟨h3,h2.trans h4⟩
structure After (K:Frag)(P Z:Addr->Prop)(env:En)(F:Nat->List Addr)(H:Hp)(env':En)(σ':L2.St)(H':Hp)(F':Nat->List Addr):Prop where
 re:RE K P env' σ' H' F'
 z:∀ i,∀ a∈F' i,Z a
 ev:iJ P H H'
 lk:nV env F env' F'
theorem After.trans {K:Frag}{P Z:Addr->Prop}{e1 e2 e3:En}{F1 F2 F3:Nat->List Addr}{H1 H2 H3:Hp}{σ2 σ3:L2.St}(a:After K P Z e1 F1 H1 e2 σ2 H2 F2)(b:After K P Z e2 F2 H2 e3 σ3 H3 F3):After K P Z e1 F1 H1 e3 σ3 H3 F3 :=
 ⟨b.re,b.z,a.ev.trans b.ev,a.lk.trans b.lk⟩
noncomputable def post (K:Frag)(P Z:Addr->Prop)(env:En)(F:Nat->List Addr)(H:Hp)(D:Ends):Fl->Prop
 |.nx env'=>∀ σ' H' F',After K P Z env F H env' σ' H' F'->D.nx σ' H'
 |.bk env'=>∀ σ' H' F',After K P Z env F H env' σ' H' F'->D.bk σ' H'
 |.ct env'=>∀ σ' H' F',After K P Z env F H env' σ' H' F'->D.ct σ' H'
 |.rt d fr=>∀ v H' G,Rep K H' d v G->iJ P H H'->(∀ a∈G,Z a)->(fr=true->G.Nodup/\∀ a∈G,¬ P a/\∃ vs:ML,H' a=some vs.o)->D.rt v H'
 |.xc _ _=>False
 |.bad=>False
theorem post.trans {K:Frag}{P Z:Addr->Prop}{e1 e2:En}{F1 F2:Nat->List Addr}{H1 H2:Hp}{σ2:L2.St}{D:Ends}(a:After K P Z e1 F1 H1 e2 σ2 H2 F2):∀{f:Fl},post K P Z e1 F1 H1 D f->post K P Z e2 F2 H2 D f
 |.nx _,h=>fun σ' H' F' b=>h σ' H' F' (a.trans b)
 |.bk _,h=>fun σ' H' F' b=>h σ' H' F' (a.trans b)
 |.ct _,h=>fun σ' H' F' b=>h σ' H' F' (a.trans b)
 |.rt _ _,h=>fun v H' G r e z f=>h v H' G r (a.ev.trans e) z f
 |.xc _ _,h=>h
 |.bad,h=>h
section
variable {K:Frag}{P Z:Addr->Prop}{env:En}{σ:L2.St}{H:Hp}{F:Nat->List Addr}
theorem jD {i:Nat}{d:D}{t:Tg}{G:List Addr}(hi:i<env.length)(ht:t≠.lk):nV env F (put env i d t) (mS F i G):=fun j d' e=>by
 by_cases h:j=i
 ·subst h;rw[cK hi] at e;cases e;exact absurd rfl ht
 ·obtain⟨t0,e0,q⟩:=eP h e;cases t0 with
  |lk=>exact⟨e0,cL h⟩
  |own=>cases q
  |sh R=>cases q
theorem kA {i:Nat}{G:List Addr}(hz:∀ i,∀ a∈F i,Z a)(hg:∀ a∈G,Z a):∀ j,∀ a∈mS F i G j,Z a:=fun j a ha=>by
 by_cases h:j=i
 ·subst h;rw[cP] at ha;exact hg a ha
 ·rw[cL h] at ha;exact hz j a ha
theorem nY {H':Hp}{D:Ends}{i:Nat}{mv:Bool}{p:Pc.D×Rt}{v:V}{G:List Addr}(re:RE K P env σ H F)(hz:∀ i,∀ a∈F i,Z a)(zp:∀ a,¬ P a->Z a)(e:aE H H')(rp:Rep K H' p.1 v G)(rt:bB env F H p.2 H' G)
  (h:post K P Z env F H D (lH (.nm i) mv env p)):D.nx (σ.set i (some v)) H':=by
 have re':=re.same e;have ez:∀ a∈G,Z a:=fun a ha=>by
  rcases rt.cont a ha with q | ⟨j,_,_,f,_⟩
  ·exact zp a fun z=>re.pl a z q
  ·exact hz j a f
 have kf:=iJ.of_same (P:=P) re.pl e;unfold lH at h;by_cases hi:i<env.length
 ·simp only[hi,if_true] at h;have shared:∀ R,p.2.roots=R->post K P Z env F H D (.nx (put env i p.1 (.sh (R.filter (· != i)))))->D.nx (σ.set i (some v)) H':=fun R hR h=>by
   refine h _ H' (mS F i G) ⟨re'.put hi rp (fun o=>by cases o) (fun o=>by cases o) fun a ha j d' t' hj ej o m=>?_,kA hz ez,kf,jD hi (by intro z;cases z)⟩;rcases rt.cont a ha with q | ⟨k,d2,t2,f,e2,s⟩
   ·exact absurd q (re.nn ej m)
   ·have:=s j ((re.one j d' t' ej o).2.2 a m k d2 t2 e2 f);rw[hR] at this;simp only[aT,List.mem_filter];exact⟨this,by simpa using hj⟩
  cases hr:p.2 with
  |sh R=>rw[hr] at h;exact shared R (by rw[hr];rfl) h
  |mv R =>
   rw[hr] at h;obtain⟨m1,m2,m3⟩:=rt.mv R hr;cases R with
   |nil =>
    have fresh:∀ a∈G,H a=none:=fun a ha=>by
     rcases m3 a ha with q | ⟨_,_,_,q,_⟩
     ·exact q
     ·cases q
    refine h _ H' (mS F i G) ⟨re'.put hi rp (fun _=>⟨m1,m2,fun a ha j _ m=>?_⟩) (fun _ a ha z=>re.pl a z (fresh a ha)) fun a ha j d' t' hj ej o m=>?_,kA hz ez,kf,jD hi (by intro z;cases z)⟩
    ·obtain⟨d2,t2,e2⟩:=re.at' m;exact re.nn e2 m (fresh a ha)
    ·exact absurd (fresh a ha) (re.nn ej m)
   |cons r0 R0 =>
    cases mv with
    |false=>exact shared _ (by rw[hr];rfl) h
    |true =>
     simp only[if_true] at h;by_cases ho:eW env (r0::R0)=true
     ·rw[if_pos ho] at h;have fg:=re'.forget (env':=kill (r0::R0) env) (cF _ _) fun j d' t' ej=>(bT ej).1
      have ow:∀ k∈r0::R0,∃ d',env[k]? = some (some (d',.own)):=fun k hk=>by
       have:=dg.mp ho k hk;split at this
       ·rename_i d' q;exact⟨d',q⟩
       ·cases this
      have apart:∀ a∈G,∀ j,j≠i->a∉(match (kill (r0::R0) env)[j]? with | some (some _)=>F j | _=>[]):=fun a ha j hj m=>by
       split at m
       ·rename_i q ej;obtain⟨dj,tj⟩:=q;obtain⟨e0,h1,h2⟩:=bT ej;rcases m3 a ha with q | ⟨k,d2,t2,hk,f,e2,o2⟩
        ·exact re.nn e0 m q
        ·exact h2 k hk ((re.one k d2 t2 e2 o2).2.2 a f j dj tj e0 m)
       ·cases m
      refine h _ H' _ ⟨fg.put (by rw[cF];exact hi) rp (fun _=>⟨m1,m2,apart⟩) (fun _ a ha z=>?_) fun a ha j d' t' hj ej o m=>absurd m (apart a ha j hj),kA (fun j a ha=>?_) ez,kf,fun j d' ej=>?_⟩
      ·rcases m3 a ha with q | ⟨k,d2,t2,hk,f,e2,o2⟩
       ·exact re.pl a z q
       ·obtain⟨d3,e3⟩:=ow k hk;exact re.wr k d3 e3 a f z
      ·split at ha
       ·exact hz j a ha
       ·cases ha
      ·by_cases hj:j=i
       ·subst hj;rw[cK (by rw[cF];exact hi)] at ej;cases ej
       ·obtain⟨t0,e0,q⟩:=eP hj ej;cases t0 with
        |lk =>
         refine⟨(bT e0).1,?_⟩;rw[cL hj,e0]
        |own=>cases q
        |sh R=>cases q
     ·rw[if_neg ho] at h;exact h.elim
 ·simp only[hi,if_false] at h;exact h.elim
noncomputable def setM:List Nat->List V->L2.St->L2.St
 |i::is,v::vs,σ=>setM is vs (σ.set i (some v))
 |_,_,σ=>σ
theorem kF:∀{is:List Nat}{ds:List D}{vs:List V}{G:List Addr}{env env':En}{σ:L2.St}{F:Nat->List Addr},RE K P env σ H F->(∀ i,∀ a∈F i,Z a)->aD K H ds vs G->G.Nodup->(∀ a∈G,∃ vs:ML,H a=some vs.o)->(∀ a∈G,¬ P a)->(∀ a∈G,Z a) ->
  (∀ a∈G,∀ j,a∉F j)->bindM (fun _=>.own) is ds env=some env'->∃ F',RE K P env' (setM is vs σ) H F'/\(∀ i,∀ a∈F' i,Z a)/\nV env F env' F'/\is.length=vs.length
 | [],_,_,_,env,env',σ,F,re,hz,.nil,_,_,_,_,_,h=>by
  simp only[bindM,Option.some.injEq] at h;subst h;exact⟨F,re,hz,nV.refl _ _,rfl⟩
 | i::is,_,_,_,env,env',σ,F,re,hz,.cons (G:=G1) (G':=G2) r rs,nd,ll,np,gz,ap,h=>by
  simp only[bindM] at h;by_cases hi:i<env.length
  ·rw[if_pos hi] at h;obtain⟨n1,n2,n12⟩:=dw.mp nd;have re1:=re.put (t:=.own) hi r (fun _=>⟨n1,fun a ha=>ll a (bf _ ha),fun a ha j _=>ap a (bf _ ha) j⟩) (fun _ a ha=>np a (bf _ ha)) fun a ha j _ _ _ _ _ m=>absurd m (ap a (bf _ ha) j)
   obtain⟨F',a1,a2,a3,a4⟩:=kF re1 (kA hz fun a ha=>gz a (bf _ ha)) rs n2 (fun a ha=>ll a (aq _ ha)) (fun a ha=>np a (aq _ ha)) (fun a ha=>gz a (aq _ ha)) (fun a ha j m=>by
    by_cases hj:j=i
    ·subst hj;rw[cP] at m;exact n12 a m a ha rfl
    ·rw[cL hj] at m;exact ap a (aq _ ha) j m) h
   exact⟨F',a1,a2,(jD hi (by intro z;cases z)).trans a3,by simp[a4]⟩
  ·rw[if_neg hi] at h;cases h
 |[],_,_,_,_,_,_,_,_,_,.cons _ _,_,_,_,_,_,h=>by simp[bindM] at h
 |_::_,_,_,_,_,_,_,_,_,_,.nil,_,_,_,_,_,h=>by simp[bindM] at h
theorem mG {d:D}{R:List Nat}:bZ d R≠.lk:=by unfold bZ;split<;>intro z<;>cases z
theorem pU {i:Nat}{d:D}{v:V}{G:List Addr}{R:List Nat}(re:RE K P env σ H F)(hi:i<env.length)(rp:Rep K H d v G)(hs:∀ a∈G,∀(j:Nat) (d':D) (t':Tg),env[j]? = some (some (d',t'))->aV t'=true->a∈F j->j∈R) :
  RE K P (put env i d (bZ d R)) (σ.set i (some v)) H (mS F i G):=by
 unfold bZ;cases hf:d.flat with
 |true =>
  have:G=[]:=rp.flat hf;subst this;simp only[if_true];exact re.put hi rp (fun _=>⟨bw,fun _ h=>(nomatch h),fun _ h=>(nomatch h)⟩) (fun _ _ h=>(nomatch h)) fun _ h=>(nomatch h)
 |false =>
  simp only[Bool.false_eq_true,if_false];exact re.put hi rp (fun o=>by cases o) (fun o=>by cases o) fun a ha j d' t' hj ej o m=>hs a ha j d' t' ej o m
theorem jW {R:List Nat}:∀{is:List Nat}{ds:List D}{vs:List V}{G:List Addr}{env env':En}{σ:L2.St}{F:Nat->List Addr},RE K P env σ H F->(∀ i,∀ a∈F i,Z a)->aD K H ds vs G->(∀ a∈G,Z a) ->
  (∀ a∈G,∀(j:Nat) (d':D) (t':Tg),env[j]? = some (some (d',t'))->aV t'=true->a∈F j->j∈R)->bindM (fun d=>bZ d R) is ds env=some env'->∃ F',RE K P env' (setM is vs σ) H F'/\(∀ i,∀ a∈F' i,Z a)/\nV env F env' F'/\is.length=vs.length
 | [],_,_,_,env,env',σ,F,re,hz,.nil,_,_,h=>by
  simp only[bindM,Option.some.injEq] at h;subst h;exact⟨F,re,hz,nV.refl _ _,rfl⟩
 | i::is,_,_,_,env,env',σ,F,re,hz,.cons (d:=d) (G:=G1) (G':=G2) r rs,gz,hs,h=>by
  simp only[bindM] at h;by_cases hi:i<env.length
  ·rw[if_pos hi] at h;have re1:=pU re hi r fun a ha=>hs a (bf _ ha)
   obtain⟨F',a1,a2,a3,a4⟩:=jW re1 (kA hz fun a ha=>gz a (bf _ ha)) rs (fun a ha=>gz a (aq _ ha)) (fun a ha j d' t' ej o m=>by
    by_cases hj:j=i
    ·subst hj;rw[cK hi] at ej;simp only[Option.some.injEq,Prod.mk.injEq] at ej;obtain⟨rfl,rfl⟩:=ej;rw[cP] at m;cases hf:d.flat with
     |true=>rw[r.flat hf] at m;cases m
     |false=>simp[bZ,hf,aV] at o
    ·rw[cL hj] at m;obtain⟨t0,e0,rfl⟩:=eP hj ej;rw[i3] at o;exact hs a (aq _ ha) j d' t0 e0 o m) h
   exact⟨F',a1,a2,(jD hi mG).trans a3,by simp[a4]⟩
  ·rw[if_neg hi] at h;cases h
 |[],_,_,_,_,_,_,_,_,_,.cons _ _,_,_,h=>by simp[bindM] at h
 |_::_,_,_,_,_,_,_,_,_,_,.nil,_,_,h=>by simp[bindM] at h
theorem m6 (R:List Nat)(env:En):(lock R env).length=env.length:=by simp[lock]
theorem jB {R:List Nat}{env:En}{i:Nat}{d:D}{t:Tg}(e:(lock R env)[i]? = some (some (d,t))) :
  (env[i]? = some (some (d,t))/\(t = .own->i∉R))\/(t = .lk/\i∈R/\env[i]? = some (some (d,.own))):=by
 unfold lock at e;rw[List.getElem?_mapIdx] at e;cases q:env[i]? with
 |none=>rw[q] at e;cases e
 |some s =>
  rw[q] at e;cases s with
  |none=>cases e
  |some p =>
   obtain⟨a,b⟩:=p;simp only[Option.map_some,Option.some.injEq] at e;cases b with
   |own =>
    simp only at e;by_cases h:R.contains i=true
    ·rw[if_pos h] at e;cases e;exact .inr ⟨rfl,by simpa using h,rfl⟩
    ·rw[if_neg h] at e;cases e;exact .inl ⟨rfl,fun _ z=>h (by simpa using z)⟩
   |lk=>cases e;exact .inl ⟨rfl,fun z=>by cases z⟩
   |sh Q=>cases e;exact .inl ⟨rfl,fun z=>by cases z⟩
theorem uy {R:List Nat}{env:En}{i:Nat}{d:D}{t:Tg}(e:env[i]? = some (some (d,t))):∃ t',(lock R env)[i]? = some (some (d,t'))/\aV t'=aV t/\aT i t'=aT i t:=by
 unfold lock;rw[List.getElem?_mapIdx,e];cases t with
 |own =>
  simp only[Option.map_some];by_cases h:R.contains i=true
  ·exact⟨.lk,by rw[if_pos h],rfl,rfl⟩
  ·exact⟨.own,by rw[if_neg h],rfl,rfl⟩
 |lk=>exact⟨.lk,rfl,rfl,rfl⟩
 |sh Q=>exact⟨.sh Q,rfl,rfl,rfl⟩
theorem dW {R:List Nat}{env:En}{i:Nat}{d:D}{t:Tg}(e:(lock R env)[i]? = some (some (d,t))):∃ t0,env[i]? = some (some (d,t0))/\aV t0=aV t/\aT i t0=aT i t:=by
 rcases jB e with ⟨h,_⟩ | ⟨rfl,_,h⟩
 ·exact⟨t,h,rfl,rfl⟩
 ·exact⟨.own,h,rfl,rfl⟩
theorem RE.locked (re:RE K P env σ H F){R:List Nat}{G:List Addr}(hg:∀ a∈G,H a≠none)(hc:∀ a∈G,∀(i:Nat) (d:D) (t:Tg),env[i]? = some (some (d,t))->aV t=true->a∈F i->i∈R) :
  RE K (fun a=>P a\/a∈G) (lock R env) σ H F where
 len:=(m6 R env).trans re.len
 val:=fun i d t e=>let ⟨t0,e0,_⟩:=dW e;re.val i d t0 e0
 emp:=fun i h=>re.emp i fun d t e=>by
  obtain⟨t',e',_⟩:=uy (R:=R) e;exact h d t' e'
 one:=fun i d t e o=>by
  obtain⟨t0,e0,o0,_⟩:=dW e;obtain⟨a,b,c⟩:=re.one i d t0 e0 (o0.trans o);refine⟨a,b,fun x hx j d' t' ej m=>?_⟩;obtain⟨t1,e1,_,s1⟩:=dW ej;rw[<-s1];exact c x hx j d' t1 e1 m
 wr:=fun i d e a ha z=>by
  rcases jB e with ⟨h,hn⟩ | ⟨q,_⟩
  ·rcases z with z | z
   ·exact re.wr i d h a ha z
   ·exact hn rfl (hc a z i d .own h rfl ha)
  ·cases q
 pl:=fun a h=>h.elim (re.pl a) (hg a)
theorem j9 (R:List Nat)(env0 env:En):(unlock R env0 env).length=env.length:=by simp[unlock]
theorem gO {R:List Nat}{env0 env:En}{i:Nat}{d:D}{t:Tg}(e:(unlock R env0 env)[i]? = some (some (d,t))) :
  (env[i]? = some (some (d,t))/\(t = .lk->¬ (i∈R/\∃ d0,env0[i]? = some (some (d0,.own)))))\/(t = .own/\i∈R/\env[i]? = some (some (d,.lk))/\∃ d0,env0[i]? = some (some (d0,.own))):=by
 unfold unlock at e;rw[List.getElem?_mapIdx] at e;cases q:env[i]? with
 |none=>rw[q] at e;cases e
 |some s =>
  rw[q] at e;cases s with
  |none=>cases e
  |some p =>
   obtain⟨a,b⟩:=p;simp only[Option.map_some,Option.some.injEq] at e;cases b with
   |own=>cases e;exact .inl ⟨rfl,fun z=>by cases z⟩
   |sh Q=>cases e;exact .inl ⟨rfl,fun z=>by cases z⟩
   |lk =>
    simp only at e;split at e
    ·rename_i d0 q0;by_cases h:R.contains i=true
     ·rw[if_pos h] at e;cases e;exact .inr ⟨rfl,by simpa using h,rfl,d0,q0⟩
     ·rw[if_neg h] at e;cases e;exact .inl ⟨rfl,fun _ z=>h (by simpa using z.1)⟩
    ·rename_i nq;cases e;exact .inl ⟨rfl,fun _ ⟨_,d0,q0⟩=>nq d0 q0⟩
theorem eB {R:List Nat}{env0 env:En}{i:Nat}{d:D}{t:Tg}(e:(unlock R env0 env)[i]? = some (some (d,t))):∃ t0,env[i]? = some (some (d,t0))/\aV t0=aV t/\aT i t0=aT i t:=by
 rcases gO e with ⟨h,_⟩ | ⟨rfl,_,h,_⟩
 ·exact⟨t,h,rfl,rfl⟩
 ·exact⟨.lk,h,rfl,rfl⟩
theorem oa {R:List Nat}{env0 env:En}{i:Nat}{d:D}{t:Tg}(e:env[i]? = some (some (d,t))):∃ t',(unlock R env0 env)[i]? = some (some (d,t')):=by
 unfold unlock;rw[List.getElem?_mapIdx,e];cases t with
 |own=>exact⟨.own,rfl⟩
 |sh Q=>exact⟨.sh Q,rfl⟩
 |lk =>
  simp only[Option.map_some];split
  ·by_cases h:R.contains i=true
   ·exact⟨.own,by rw[if_pos h]⟩
   ·exact⟨.lk,by rw[if_neg h]⟩
  ·exact⟨.lk,rfl⟩
theorem After.unlocked {R:List Nat}{G:List Addr}{env':En}{σ':L2.St}{H':Hp}{F':Nat->List Addr}(re:RE K P env σ H F)(a:After K (fun a=>P a\/a∈G) Z (lock R env) F H env' σ' H' F'):After K P Z env F H (unlock R env env') σ' H' F' where
 re:={
  len:=(j9 R env env').trans a.re.len
  val:=fun i d t e=>let ⟨t0,e0,_⟩:=eB e;a.re.val i d t0 e0
  emp:=fun i h=>a.re.emp i fun d t e=>by
   obtain⟨t',e'⟩:=oa (R:=R) (env0:=env) e;exact h d t' e'
  one:=fun i d t e o=>by
   obtain⟨t0,e0,o0,_⟩:=eB e;obtain⟨x,y,c⟩:=a.re.one i d t0 e0 (o0.trans o);refine⟨x,y,fun z hz j d' t' ej m=>?_⟩;obtain⟨t1,e1,_,s1⟩:=eB ej;rw[<-s1];exact c z hz j d' t1 e1 m
  wr:=fun i d e b hb z=>by
   rcases gO e with ⟨h,_⟩ | ⟨_,hR,h,d0,h0⟩
   ·exact a.re.wr i d h b hb (.inl z)
   ·obtain⟨h1,h2⟩:=a.lk i d h;rw[h2] at hb;exact re.wr i d0 h0 b hb z
  pl:=fun b h=>a.re.pl b (.inl h) }
 z:=a.z
 ev:=a.ev.weak fun _ h=>.inl h
 lk:=fun i d e=>by
  rcases gO e with ⟨h,hn⟩ | ⟨q,_⟩
  ·obtain⟨h1,h2⟩:=a.lk i d h;rcases jB h1 with ⟨h3,_⟩ | ⟨_,hR,h3⟩
   ·exact⟨h3,h2⟩
   ·exact absurd ⟨hR,d,h3⟩ (hn rfl)
  ·cases q
end
section
variable {K:Frag}{P Z:Addr->Prop}{env:En}{σ:L2.St}{H:Hp}{F:Nat->List Addr}
theorem eU {x:Nat}{d:D}(h:ownAt env x=some d):env[x]? = some (some (d,.own)):=by
 unfold ownAt at h;split at h
 ·rename_i d' q;cases h;exact q
 ·cases h
theorem kY (re:RE K P env σ H F){x:Nat}{d:D}{path:Option Int}{xs:List D}{v:V}(hx:ownAt env x=some d)(hv:σ[x]? = some (some v))(h:d.at1 path=some xs) :
  ∃ p,PV K H v path p/\∀ H',aE H H'->∃ ws Gx,H' p=some (.lst ws)/\aD K H' xs ws Gx/\p∈F x/\(∀ a∈Gx,a∈F x)/\Gx.Nodup/\p∉Gx /\
   ∀ ys us Gy,aD K (upd H' p (.lst us)) ys us Gy->Gy.Nodup->p∉Gy->(∀ a∈Gy,a∈Gx\/a∉F x)->∃ G',Rep K (upd H' p (.lst us)) (d.set1 path ys) v G'/\G'.Nodup/\∀ a∈G',a∈F x\/a∈Gy:=by
 have hx':=eU hx;obtain⟨u,e,rp⟩:=re.val x d .own hx';rw[hv] at e;cases e;obtain⟨a,b,_⟩:=re.one x d .own hx' rfl;obtain⟨p,pv,f⟩:=rB rp a h;exact⟨p,pv,fun H' e=>f H' e fun y hy=>let ⟨ws,q⟩:=b y hy;⟨ws,e _ _ q⟩⟩
theorem qC {D:Ends}{x:Nat}{d:Pc.D}{path:Option Int}{ys:List Pc.D}{rs:List Rt}(h:post K P Z env F H D (fF x path env d ys rs)):ys.length<=lim:=by
 unfold fF at h;cases hR:cN rs with
 |none=>rw[hR] at h;exact h.elim
 |some R =>
  rw[hR] at h;simp only at h;by_cases hc:(decide R.Nodup&&eW env R && !R.contains x&&decide (ys.length<=lim))=true
  ·simp only[Bool.and_eq_true,decide_eq_true_eq] at hc;exact hc.2
  ·rw[if_neg hc] at h;exact h.elim
theorem nI {H1:Hp}{D:Ends}{x:Nat}{d:Pc.D}{path:Option Int}{ys:List Pc.D}{rs:List Rt}{v:V}{p:Addr}{us:List V}{N:List Addr}
  (re:RE K P env σ H F) (hz:∀ i,∀ a∈F i,Z a) (zp:∀ a,¬ P a->Z a) (e:aE H H1) (hx:ownAt env x=some d) (hv:σ[x]? = some (some v)) (hp:p∈F x)
  (hN:∀ R,cN rs=some R->R.Nodup->N.Nodup/\(∀ a∈N,∃ vs:ML,H1 a=some vs.o)/\∀ a∈N,H a=none\/∃ i d t,i∈R/\a∈F i/\env[i]? = some (some (d,t))/\aV t=true)
  (hset:(∀ a∈N,a∉F x)->N.Nodup->∃ G',Rep K (upd H1 p (.lst us)) (d.set1 path ys) v G'/\G'.Nodup/\∀ a∈G',a∈F x\/a∈N)
  (h:post K P Z env F H D (fF x path env d ys rs)):D.nx σ (upd H1 p (.lst us)):=by
 unfold fF at h;cases hR:cN rs with
 |none=>rw[hR] at h;exact h.elim
 |some R =>
  rw[hR] at h;simp only at h;by_cases hc:(decide R.Nodup&&eW env R && !R.contains x&&decide (ys.length<=lim))=true
  ·rw[if_pos hc] at h;simp only[Bool.and_eq_true,decide_eq_true_eq,Bool.not_eq_true'] at hc;obtain⟨⟨⟨hc1,hc2⟩,hc3⟩,hc4⟩:=hc;have hxR:x∉R:=fun z=>by
    have:R.contains x=true:=by simpa using z
    rw[this] at hc3;cases hc3
   obtain⟨n1,n2,n3⟩:=hN R hR hc1;have hx':=eU hx;have ow:∀ k∈R,∃ d',env[k]? = some (some (d',.own)):=fun k hk=>by
    have:=dg.mp hc2 k hk;split at this
    ·rename_i d' q;exact⟨d',q⟩
    ·cases this
   have notx:∀ a∈N,a∉F x:=fun a ha m=>by
    rcases n3 a ha with q | ⟨i,d2,t2,hi,f,e2,o2⟩
    ·exact re.nn hx' m q
    ·have:=(re.one i d2 t2 e2 o2).2.2 a f x d .own hx' m;simp only[aT,List.mem_singleton] at this;subst this;exact hxR hi
   obtain⟨G',g1,g2,g3⟩:=hset notx n1;have re1:=re.same e;have pP:∀ a∈N,¬ P a:=fun a ha z=>by
    rcases n3 a ha with q | ⟨i,d2,t2,hi,f,e2,o2⟩
    ·exact re.pl a z q
    ·obtain⟨d3,e3⟩:=ow i hi;exact re.wr i d3 e3 a f z
   have re2:=re1.mutate (R:=R) (N:=N) hx' hv hp g1 g2 g3 fun a ha=>⟨n2 a ha,pP a ha,fun j dj tj ej m=>by
    rcases n3 a ha with q | ⟨i,d2,t2,hi,f,e2,o2⟩
    ·exact absurd q (re.nn ej m)
    ·exact⟨i,ae _ hi,(re.one i d2 t2 e2 o2).2.2 a f j dj tj ej m⟩⟩
   obtain⟨_,lsx,_⟩:=re1.one x d .own hx' rfl;obtain⟨ws,hpl⟩:=lsx p hp;have nPp:¬ P p:=re.wr x d hx' p hp;refine h σ _ _ ⟨re2,fun j a ha=>?_,(iJ.of_same re.pl e).trans ⟨fun a z=>aG (fun q=>nPp (q ▸ z)),fun b xs r=>?_,iK hpl⟩,fun j dj ej=>?_⟩
   ·unfold mJ at ha;split at ha
    ·rcases g3 a ha with q | q
     ·exact hz x a q
     ·exact zp a (pP a q)
    ·split at ha
     ·exact hz j a ha
     ·cases ha
   ·refine (aG (fun q=>?_)).trans r;subst q;rw[hpl] at r;cases ws<;>cases r
   ·by_cases hj:j=x
    ·subst hj;rw[List.getElem?_set_self (by rw[cF];exact (List.getElem?_eq_some_iff.mp hx').1)] at ej;cases ej
    ·rw[List.getElem?_set_ne (dh hj)] at ej;refine⟨(bT ej).1,?_⟩;unfold mJ;rw[if_neg hj,ej]
  ·rw[if_neg hc] at h;exact h.elim
end
end Pc
end
section
namespace Pc
open PySem PySem.Spec PyProof.Rows L2
section
variable {K:Frag}{H:Hp}
theorem aD.inv2 {d e:D}{x y:V}{G:List Addr}(h:aD K H [d,e] [x,y] G):∃ G1 G2,Rep K H d x G1/\Rep K H e y G2/\G=G1++G2:=by
 cases h with
 |cons r s =>
  cases s with
  |cons r' s'=>cases s';exact⟨_,_,r,r',by rw[ax]⟩
theorem Rep.int_inv {i:Int}{v:V}{G:List Addr}(h:Rep K H (.int i) v G):v = .int i/\G=[]:=by cases h;exact⟨rfl,rfl⟩
theorem Rep.bl_inv {i:Bool}{v:V}{G:List Addr}(h:Rep K H (.bl i) v G):v = .bl i/\G=[]:=by cases h;exact⟨rfl,rfl⟩
theorem Rep.str_inv {i:Str}{v:V}{G:List Addr}(h:Rep K H (.str i) v G):v = .str i/\G=[]:=by cases h;exact⟨rfl,rfl⟩
theorem Rep.non_inv {v:V}{G:List Addr}(h:Rep K H .non v G):v = .non/\G=[]:=by cases h;exact⟨rfl,rfl⟩
theorem Rep.tup_inv {ds:List D}{v:V}{G:List Addr}(h:Rep K H (.tup ds) v G):∃ p vs,v = .ref p/\gH K H p vs/\aD K H ds vs G:=by
 cases h with
 |tup a b=>exact⟨_,_,rfl,a.sq,b⟩
theorem Rep.tup_invT {ds:List D}{v:V}{G:List Addr}(h:Rep K H (.tup ds) v G):∃ p vs,v = .ref p/\je K H p vs/\aD K H ds vs G:=by
 cases h with
 |tup a b=>exact⟨_,_,rfl,a,b⟩
end
section
variable {X:Cx}
theorem Inv.lstR {pins:List (Addr×Obj)}{σ:L2.St}{H:Hp}{s:Shared}{l:Addr}{xs:List V}(I:Inv X pins σ H s)(hH:Rd H l (.lst xs)):xs.length<=sizeLine/\∃(its:List Value) (n:Nat),aH xs its/\xs.length=its.length/\s.heap.get? l=some { cls:=.type "list",data:=.seq its.toArray n }:=by
 obtain⟨z,its,n,r,e⟩:=hH.ok I.hok;exact⟨z,its,n,r,r.length,e⟩
noncomputable def Cs:R2:=fun x y H Q=>∃ l b xs zs,x = .ref l/\y = .ref b/\Rd H l (.lst xs)/\Rd H b (.lst zs)/\xs.length+zs.length<=sizeLine/\∀ p,H p=none->Q (.ref p) (upd H p (.lst (xs++zs)))
theorem qd:eO X (binaryOp .Add) Cs:=by
 intro pins s σ H x y v u Q I rx ry h;obtain⟨l,b,xs,zs,rfl,rfl,hH,hB,hz,q⟩:=h;cases rx;cases ry;obtain⟨z,its,n,r,hl,e⟩:=Inv.lstR I hH;obtain⟨z2,its2,n2,r2,hl2,e2⟩:=Inv.lstR I hB;refine PySem.P.add_list e e2 ?_ (by rw[ah,ah];omega);have ea:its.toArray++its2.toArray=(its++its2).toArray:=by simp
 rw[ea];exact⟨.ref _,_,I.lnew (t':=s.toks) (r.append r2) (by rw[au];omega),rfl,q _ I.fresh⟩
noncomputable def BH:R2:=fun x y H Q=>∃ l k xs,x = .ref l/\y = .int k/\Rd H l (.lst xs)/\-(2 ^ 63)<=k/\k<2 ^ 63/\xs.length*k.toNat<=sizeLine /\
 ∀ p,H p=none->Q (.ref p) (upd H p (.lst (List.replicate k.toNat xs).flatten))
theorem vb:eO X (binaryOp .Mult) BH:=by
 intro pins s σ H x y v u Q I rx ry h;obtain⟨l,k,xs,rfl,rfl,hH,h1,h2,hz,q⟩:=h;cases rx;obtain⟨t,rfl⟩:=ry;obtain⟨z,its,n,r,hl,e⟩:=Inv.lstR I hH;have hlen:its.toArray.size*k.toNat<=sizeLine:=by rw[ah,<-hl];exact hz
 have hcap:¬ its.toArray.size*k.toNat > (2 ^ 63 - 1) / 8:=by
  have:(sizeLine:Nat)<=(2 ^ 63 - 1) / 8:=by decide
  omega
 have hfit:¬ (!Builtin.List.listFitsIndex k)=true:=by
  rw[fitsIndex_both h1 h2];exact az
 have hlong:¬ Builtin.List.listTooLong (its.toArray.size*k.toNat)=true:=by
  rw[sZ hlen];exact az
 have hnew:List.foldl (fun x1 x2=>x1++x2) #[] (List.replicate (if its.toArray.isEmpty=true then 0 else k.toNat) its.toArray)=(List.replicate k.toNat its).flatten.toArray:=by
  have f0:∀ m:Nat,List.foldl (fun x1 x2=>x1++x2) #[] (List.replicate m its.toArray)=(List.replicate m its).flatten.toArray:=fun m=>by
   have:=foldl_rep its m [];rw[cv] at this;exact this
  rw[f0];cases its with
  |nil=>simp
  |cons a r'=>rw[if_neg (by simp)]
 refine wpAny_binaryOp_repeat_ref (T:="list") (U:="int") (by decide) ⟨_,e,rfl⟩ (fun s'=>typeIs_int s' k t) noFill_list_mul F.fills_int_mul F.slot_int_rmul repeat_list F.slot_int_index.lookup
  (call_meets F.slot_int_rmul (typeIs_int s k t) F.entry_int_rmul (F.args_int_rmul_2 _ _) (int___rmul___int_list k t l its.toArray n)
   ⟨e,rfl,⟨_,e,rfl⟩,call_meets F.slot_list_mul ⟨_,e,rfl⟩ F.entry_list_mul (F.args_list_mul_2 _ _) (AutoListH.list___mul___list_int_3 l its.toArray n k t hfit hcap hlong) ⟨e,?_⟩⟩)
 rw[hnew];exact⟨.ref _,_,I.lnew (t':=s.toks) (r.rep k.toNat) (by rw[len_rep,Nat.mul_comm];exact hz),rfl,q _ I.fresh⟩
theorem aD.rep {K:Frag}{H:Hp}{ds:List D}{vs:List V}(h:aD K H ds vs []):∀ n:Nat,aD K H (List.replicate n ds).flatten (List.replicate n vs).flatten []
 |0=>.nil
 | n+1=>by
  rw[de,de,da,da];exact h.append (h.rep n)
theorem i8 {n:Nat}{d e:D}(h:ck n d=some e):n<=lim/\e=d:=by
 unfold ck at h;split at h
 ·cases h;exact⟨‹_›,rfl⟩
 ·cases h
theorem kK {i:Int}:small i=true↔(-(2 ^ 64)<i/\i<2 ^ 64):=by unfold small;exact decide_eq_true_iff
theorem xf {op:Operator}{i j k:Int}(h:binI op i j=some k):eO X (binaryOp op) (fun x y H Q=>x = .int i/\y = .int j/\Q (.int k) H):=by
 intro pins s σ H x y v u Q I rx ry q;obtain⟨rfl,rfl,q⟩:=q;cases op with
 |Add=>cases h;exact yM pins s σ H _ _ v u Q I rx ry ⟨i,j,rfl,rfl,q⟩
 |Sub=>cases h;exact zd pins s σ H _ _ v u Q I rx ry ⟨i,j,rfl,rfl,q⟩
 |Mult =>
  have h:(if small i || small j then some (i*j) else none)=some k:=h;by_cases hc:(small i || small j)=true
  ·rw[if_pos hc] at h;cases h;refine yL pins s σ H _ _ v u Q I rx ry ⟨i,j,rfl,rfl,?_,q⟩;rw[fh,kK,kK] at hc;exact hc
  ·rw[if_neg hc] at h;cases h
 |FloorDiv =>
  have h:(if 0<j/\j<1073741824 then some (i / j) else none)=some k:=h;by_cases hc:0<j/\j<1073741824
  ·rw[if_pos hc] at h;cases h;exact vm pins s σ H _ _ v u Q I rx ry ⟨i,j,rfl,rfl,hc,q⟩
  ·rw[if_neg hc] at h;cases h
 |Mod =>
  have h:(if 0<j then some (i%j) else none)=some k:=h;by_cases hc:0<j
  ·rw[if_pos hc] at h;cases h;exact yF pins s σ H _ _ v u Q I rx ry ⟨i,j,rfl,rfl,hc,q⟩
  ·rw[if_neg hc] at h;cases h
 |Pow =>
  have h:(if 0<=j/\j<=1000000/\i.natAbs<2 ^ 64 then some (i ^ j.toNat) else none)=some k:=h;by_cases hc:0<=j/\j<=1000000/\i.natAbs<2 ^ 64
  ·rw[if_pos hc] at h;cases h;exact z8 pins s σ H _ _ v u Q I rx ry ⟨i,j,rfl,rfl,hc,q⟩
  ·rw[if_neg hc] at h;cases h
 |LShift =>
  have h:(if 0<=j/\j<=1000000/\i.natAbs<2 ^ 64 then some (i*2 ^ j.toNat) else none)=some k:=h;by_cases hc:0<=j/\j<=1000000/\i.natAbs<2 ^ 64
  ·rw[if_pos hc] at h;cases h;exact zC pins s σ H _ _ v u Q I rx ry ⟨i,j,rfl,rfl,hc,q⟩
  ·rw[if_neg hc] at h;cases h
 |RShift =>
  have h:(if 0<=j then some (i / 2 ^ j.toNat) else none)=some k:=h;by_cases hc:0<=j
  ·rw[if_pos hc] at h;cases h;exact zK pins s σ H _ _ v u Q I rx ry ⟨i,j,rfl,rfl,hc,q⟩
  ·rw[if_neg hc] at h;cases h
 |BitAnd=>cases h;exact zP pins s σ H _ _ v u Q I rx ry ⟨i,j,rfl,rfl,q⟩
 |BitOr=>cases h;exact AZ pins s σ H _ _ v u Q I rx ry ⟨i,j,rfl,rfl,q⟩
 |BitXor=>cases h;exact y4 pins s σ H _ _ v u Q I rx ry ⟨i,j,rfl,rfl,q⟩
 |_=>cases h
theorem kD (c:Array Nat):∀(k:Nat) (acc:Array Nat),((List.replicate k c).foldl (fun x y=>x++y) acc).size=acc.size+c.size*k
 |0,acc=>rfl
 | k+1,acc=>by
  rw[de,List.foldl_cons,kD c k,Array.size_append,Nat.mul_succ];omega
theorem tY (a:Str)(k:Nat):(qp a k).length=a.length*k:=by
 have:=kD a.cps k #[];rw[show (#[]:Array Nat).size=0 from rfl,g9] at this;exact this
theorem n8:eO X (binaryOp .Mult) (fun x y H Q=>∃(a:Str) (n:Int),x = .str a/\y = .int n/\(1<n/\n<=1000/\0<a.length/\a.length<=1000)/\Q (.str (qp a n.toNat)) H):=by
 intro pins s σ H x y v u Q I rx ry h;obtain⟨a,n,rfl,rfl,⟨h1,h2,h3,h4⟩,q⟩:=h;obtain⟨t,rfl⟩:=rx;obtain⟨t',rfl⟩:=ry;have hn1:¬ n<1:=by omega
 have hn2:(n==1 || a.length==0)=false:=by
  rw[Bool.or_eq_false_iff];exact⟨beq_false_of_ne (by omega),beq_false_of_ne (by omega)⟩
 have hm:a.length*n.toNat<=1000000:=bh (Nat.mul_le_mul h4 (show n.toNat<=1000 by omega)) (by decide);refine PySem.P.mul_str (by rw[ay (by omega),ay (by omega)];rfl) (fun _ _=>?_) (fun _ _=>?_) ?_
 ·have:(1000:Int)<=(2 ^ 63 - 1) / n:=by
   rw[Int.le_ediv_iff_mul_le (by omega)];omega
  omega
 ·unfold Builtin.Str.tooLong;rw[ay];rw[sizeLine_eq];omega
 ·rw[if_neg hn1,if_neg (by rw[hn2];exact az)];simp only[Made.post];refine⟨?_,.str (qp a n.toNat),H,I.tok _,⟨_,rfl⟩,q⟩;show (qp a n.toNat).length<=sizeLine;rw[tY,sizeLine_eq];omega
theorem wa (op:Operator):eO X (binaryOp op) (vh X.K (rg op)):=by
 intro pins s σ H x y v u Q I rx ry h;obtain⟨d1,d2,d,G,rs,hd,k⟩:=h;obtain⟨G1,G2,r1,r2,rfl⟩:=rs.inv2;cases d1 with
 |int i =>
  cases d2 with
  |int j =>
   obtain⟨rfl,rfl⟩:=r1.int_inv;obtain⟨rfl,rfl⟩:=r2.int_inv;have:rg op (.int i) (.int j)=(binI op i j).map .int:=rfl;rw[this,aa] at hd;obtain⟨z,hz,rfl⟩:=hd;exact xf hz pins s σ H _ _ v u Q I rx ry ⟨rfl,rfl,k _ H [] (.int z) fJ.nil⟩
  |_=>cases hd
 |str a =>
  cases d2 with
  |str b =>
   cases op with
   |Add =>
    obtain⟨hl,rfl⟩:=i8 hd;obtain⟨rfl,rfl⟩:=r1.str_inv;obtain⟨rfl,rfl⟩:=r2.str_inv;exact oT pins s σ H _ _ v u Q I rx ry ⟨a,b,rfl,rfl,dN hl,k _ H [] (.str _) fJ.nil⟩
   |_=>cases hd
  |int n =>
   cases op with
   |Mult =>
    have hd:(if 1<n/\n<=1000/\0<a.length/\a.length<=1000 then some (D.str (qp a n.toNat)) else none)=some d:=hd;by_cases hc:1<n/\n<=1000/\0<a.length/\a.length<=1000
    ·rw[if_pos hc] at hd;cases hd;obtain⟨rfl,rfl⟩:=r1.str_inv;obtain⟨rfl,rfl⟩:=r2.int_inv;exact n8 pins s σ H _ _ v u Q I rx ry ⟨a,n,rfl,rfl,hc,k _ H [] (.str _) fJ.nil⟩
    ·rw[if_neg hc] at hd;cases hd
   |_=>cases hd
  |_=>cases op<;>cases hd
 |lst a =>
  obtain⟨p,vs,G',rfl,rfl,h1,h2⟩:=r1.lst_inv;cases d2 with
  |lst b =>
   cases op with
   |Add =>
    obtain⟨hl,rfl⟩:=i8 hd;obtain⟨p',vs',G'',rfl,rfl,h1',h2'⟩:=r2.lst_inv;refine qd pins s σ H _ _ v u Q I rx ry ⟨p,p',vs,vs',rfl,rfl,h1,h1',by rw[<-h2.len,<-h2'.len];exact dN hl,fun q hq=>?_⟩;obtain⟨n1,n2⟩:=fT (G0:=p::G'++p'::G'') (h2.append h2') (fun a ha=>by simp at ha ⊢;rcases ha with ha | ha<;>simp[ha]) hq;exact k _ _ _ n1 n2
   |_=>cases hd
  |int n =>
   cases op with
   |Mult =>
    have hd:(if -(2 ^ 63)<=n/\n<2 ^ 63 then (if D.flats a then ck (a.length*n.toNat) (.lst (List.replicate n.toNat a).flatten) else none) else none)=some d:=hd;by_cases hc : -(2 ^ 63)<=n/\n<2 ^ 63
    ·rw[if_pos hc] at hd;by_cases hf:D.flats a=true
     ·rw[if_pos hf] at hd;obtain⟨hl,rfl⟩:=i8 hd;obtain⟨rfl,rfl⟩:=r2.int_inv;have eG:G'=[]:=h2.flat hf;subst eG;refine vb pins s σ H _ _ v u Q I rx ry ⟨p,n,vs,rfl,rfl,h1,hc.1,hc.2,by rw[<-h2.len];exact dN hl,fun q hq=>?_⟩;obtain⟨n1,n2⟩:=fT (G0:=[p] ++ []) (h2.rep n.toNat) (fun a ha=>(nomatch ha)) hq;exact k _ _ _ n1 n2
     ·rw[if_neg hf] at hd;cases hd
    ·rw[if_neg hc] at hd;cases hd
   |_=>cases hd
  |_=>cases op<;>cases hd
 |tup a =>
  obtain⟨p,vs,rfl,h1,h2⟩:=r1.tup_invT;cases d2 with
  |tup b =>
   cases op with
   |Add =>
    have hd:(if a.isEmpty then none else ck (a.length+b.length) (.tup (a++b)))=some d:=hd;by_cases hc:a.isEmpty=true
    ·rw[if_pos hc] at hd;cases hd
    ·rw[if_neg hc] at hd;obtain⟨hl,rfl⟩:=i8 hd;obtain⟨p',vs',rfl,h1',h2'⟩:=r2.tup_inv;refine vW pins s σ H _ _ v u Q I rx ry ⟨p,p',vs,vs',rfl,rfl,h1.sq,h1',?_,by rw[<-h2.len,<-h2'.len];exact dN hl,fun hy=>?_,fun _ q hq=>?_⟩
     ·intro z;have:=h2.len;rw[z] at this;cases a with
      |nil=>exact hc rfl
      |cons _ _=>simp at this
     ·subst hy;cases h2' with
      |nil =>
       simp only[List.append_nil] at k;refine k _ H G1 (.tup h1 h2) ⟨aE.refl _,fun a ha=>.inr ha,fun f=>?_⟩;have:G1=[]:=h2.flat (by simpa[D.inner] using f);subst this;exact⟨bw,fun _ h=>(nomatch h)⟩
     ·obtain⟨n1,n2⟩:=r6 (G0:=G1++G2) (h2.append h2') (fun a ha=>ha) hq;exact k _ _ _ n1 n2
   |_=>cases hd
  |_=>cases op<;>cases hd
 |_=>cases hd
open SeqAt in
theorem fM {f:D->D->Option Bool}:∀{xs ys:List D}{b:Bool},ma f xs ys=some b->xs.length=ys.length/\∃ e:Nat->Bool,(∀ j x y,xs[j]? = some x->ys[j]? = some y->f x y=some (e j))/\b=(List.range xs.length).all e
 |[],[],b,h=>by cases h;exact⟨rfl,fun _=>true,fun j x y hx=>by simp at hx,rfl⟩
 | x::xs,y::ys,b,h=>by
  simp only[ma,Option.bind_eq_some_iff,Option.map_eq_some_iff] at h;obtain⟨a,h1,c,h2,rfl⟩:=h;obtain⟨hl,e,he,rfl⟩:=fM h2;refine⟨by simp[hl],fun j=>match j with | 0=>a | j+1=>e j,fun j x' y' hx hy=>?_,?_⟩
  ·cases j with
   |zero=>simp at hx hy;subst hx;subst hy;exact h1
   |succ j=>exact he j x' y' (by simpa using hx) (by simpa using hy)
  ·rw[av,List.range_succ_eq_map,ef,List.all_map];rfl
 |[],_::_,b,h=>by cases h
 |_::_,[],b,h=>by cases h
theorem hX:∀(n:Nat) (d:D) (b:Bool),D.eqf n d d=some b->b=true
 |0,_,_,h=>by cases h
 |n+1,.non,b,h=>by cases h;rfl
 | n+1,.bl x,b,h=>by
  have h:some (x==x)=some b:=h;rw[en] at h;cases h;rfl
 | n+1,.int x,b,h=>by
  have h:some (x==x)=some b:=h;rw[en] at h;cases h;rfl
 | n+1,.str x,b,h=>by
  have h:some (x==x)=some b:=h;rw[en] at h;cases h;rfl
 | n+1,.lst xs,b,h=>by
  have h:(if xs.length=xs.length then ma (D.eqf n) xs xs else some false)=some b:=h;rw[if_pos rfl] at h;obtain⟨_,e,he,rfl⟩:=fM h;rw[dg];intro j hj;have hj:j<xs.length:=by simpa using hj
  exact hX n xs[j] _ (he j _ _ (by simp[hj]) (by simp[hj]))
 |n+1,.dct _,b,h=>by cases h
 |n+1,.mpi _,b,h=>by cases h
 |n+1,.mpt _,b,h=>by cases h
 |n+1,.mpz _,b,h=>by cases h
 | n+1,.tup xs,b,h=>by
  have h:(if xs.length=xs.length then ma (D.eqf n) xs xs else none)=some b:=h;rw[if_pos rfl] at h;obtain⟨_,e,he,rfl⟩:=fM h;rw[dg];intro j hj;have hj:j<xs.length:=by simpa using hj
  exact hX n xs[j] _ (he j _ _ (by simp[hj]) (by simp[hj]))
section
variable {pins:List (Addr×Obj)}{σ:L2.St}{H:Hp}{s:Shared}
theorem eV.inj:∀{es:List DictEntry}{kvs kvs':List (Key×Option Int)},eV es kvs->eV es kvs'->kvs=kvs'
 |_,_,_,.nil,h=>by cases h;rfl
 | _,_,_,.cons hh hk hv r,h=>by
  cases h with
  |cons hh' hk' hv' r' =>
   rw[hk] at hk';rw[hv] at hv';cases hk';cases hv';rw[eV.inj r r']
  |si hk' hv' r'=>rw[hk] at hk';cases hk'
  |sn hk' hv' r'=>rw[hk] at hk';cases hk'
 | _,_,_,.si hk hv r,h=>by
  cases h with
  |cons hh' hk' hv' r'=>rw[hk] at hk';cases hk'
  |si hk' hv' r' =>
   rw[hk] at hk';rw[hv] at hv';cases hk';cases hv';rw[eV.inj r r']
  |sn hk' hv' r'=>rw[hv] at hv';cases hv'
 | _,_,_,.sn hk hv r,h=>by
  cases h with
  |cons hh' hk' hv' r'=>rw[hk] at hk';cases hk'
  |si hk' hv' r'=>rw[hv] at hv';cases hv'
  |sn hk' hv' r' =>
   rw[hk] at hk';cases hk';rw[eV.inj r r']
theorem n6.inj {K:Frag}{a:Addr}{kvs kvs':List (Key×Option Int)}(h:n6 K a kvs)(h':n6 K a kvs'):kvs=kvs':=by
 obtain⟨o,es,ep,h1,h2,h3,h4,_⟩:=h;obtain⟨o',es',ep',h1',h2',h3',h4',_⟩:=h';rw[h1] at h1';cases h1';rw[h3] at h3';cases h3';exact h4.inj h4'
theorem ja (I:L2.Inv X pins σ H s){a:Addr}{kvs:List (Key×Option Int)}(h:n6 X.K a kvs):∃ o,s.heap.get? a=some o/\o.cls = .type "dict"/\o.ExactDict:=by
 obtain⟨o,es,ep,h1,h2,h3,h4,_⟩:=h;exact⟨o,I.kIn a o h1,h2.1,h2⟩
noncomputable def nf:HO->Bool
 |.frz _ _=>false
 |_=>true
noncomputable def nt:HO->Bool
 |.tup _=>false
 |_=>true
theorem dC {H:Hp}{a:Addr}{u u':HO}(h:Rd H a u)(h':Rd H a u')(hu:nf u=true:=by rfl)(hu':nf u'=true:=by rfl):u=u':=by
 rcases h with h | ⟨o,h⟩<;>rcases h' with h' | ⟨o',h'⟩<;>rw[h] at h'
 ·exact bt h'
 ·rw[bt h'] at hu;cases hu
 ·rw[<-bt h'] at hu';cases hu'
 ·cases h';rfl
theorem jH (I:L2.Inv X pins σ H s){a:Addr}{o:Obj}(h:X.K.lookup a=some o):H a=none:=(I.bs a o (I.ok.mod.kin a o h)).2
theorem ql:∀{a b:List Int},a.map (Sum.inl (β:=Str))=b.map Sum.inl->a=b
 |[],[],_=>rfl
 |[],_::_,h=>by cases h
 |_::_,[],h=>by cases h
 | x::a,y::b,h=>by
  have h:(Sum.inl x:Key)::a.map Sum.inl=Sum.inl y::b.map Sum.inl:=h;injection h with h1 h2
  injection h1 with h1
  rw[h1,ql h2]
theorem pf:∀{a b:List (List Int)},wx a=wx b->a=b
 |[],[],_=>rfl
 |[],_::_,h=>by cases h
 |_::_,[],h=>by cases h
 | x::a,y::b,h=>by
  have h:(x.map Sum.inl,V.bl true)::wx a=(y.map Sum.inl,V.bl true)::wx b:=h;injection h with h1 h2
  injection h1 with h1 _
  rw[ql h1,pf h2]
theorem gH.not_rd (I:L2.Inv X pins σ H s){a:Addr}{vs:List V}{u:HO}(h:gH X.K H a vs)(h':Rd H a u)(hu:nf u=true:=by rfl)(ht:nt u=true:=by rfl):False:=by
 rcases h with h | h
 ·rw[dC h' h hu] at ht;cases ht
 ·obtain⟨o,_,_,h1,_⟩:=h;exact Rd.ne_none h' (jH I h1)
theorem mW:∀{a b:List Int},a.map V.int=b.map V.int->a=b
 |[],[],_=>rfl
 |[],_::_,h=>by cases h
 |_::_,[],h=>by cases h
 | x::a,y::b,h=>by
  injection h with h1 h2
  injection h1 with h1
  rw[h1,mW h2]
theorem nO.inj (I:Inv X pins σ H s):∀{m m':MV}{v:V},nO X.K H m v->nO X.K H m' v->m=m'
 |.tr,.tr,_,_,_=>rfl
 |.int i,.int j,_,h,h'=>by cases h;cases h';rfl
 | .tup a,.tup b,_,⟨p,e,h⟩,⟨p',e',h'⟩=>by
  subst e;cases e';rw[mW (I.tuple_inj h.sq h'.sq)]
 |.tr,.int _,_,h,h'=>by cases h;cases h'
 |.int _,.tr,_,h,h'=>by cases h;cases h'
 |.tr,.tup _,_,h,⟨_,e,_⟩=>by cases h;cases e
 |.tup _,.tr,_,⟨_,e,_⟩,h=>by cases h;cases e
 |.int _,.tup _,_,h,⟨_,e,_⟩=>by cases h;cases e
 |.tup _,.int _,_,⟨_,e,_⟩,h=>by cases h;cases e
theorem gG.inj (I:Inv X pins σ H s):∀{a b:List (Int×MV)}{xs:List (Key×V)},gG X.K H a xs->gG X.K H b xs->a=b
 |[],[],_,_,_=>rfl
 |[],_::_,[],_,h=>h.elim
 |_::_,[],[],h,_=>h.elim
 |[],_::_,_::_,h,_=>h.elim
 |_::_,[],_::_,_,h=>h.elim
 |_::_,_::_,[],h,_=>h.elim
 | (k,m)::a,(k',m')::b,x::xs,⟨h1,h2,h3⟩,⟨g1,g2,g3⟩=>by
  rw[h1] at g1;injection g1 with g1
  have g1:k=k':=g1;rw[g1,show m=m' from nO.inj I h2 g2,gG.inj I h3 g3]
theorem Rep.inj (I:Inv X pins σ H s){d:D}{v:V}{G:List Addr}(h:Rep X.K H d v G):∀{e:D}{G':List Addr},Rep X.K H e v G'->d=e:=by
 refine Rep.rec (motive_1:=fun d v G _=>∀{e:D}{G':List Addr},Rep X.K H e v G'->d=e) (motive_2:=fun ds vs G _=>∀{es:List D}{G':List Addr},aD X.K H es vs G'->ds=es) ?non ?bl ?int ?str ?lst ?tup ?dct ?mpi ?mpt ?mpz ?nil ?cons h
 case non =>
  intro e' G' h;cases h;rfl
 case bl =>
  intro _ e' G' h;cases h;rfl
 case int =>
  intro _ e' G' h;cases h;rfl
 case str =>
  intro _ e' G' h;cases h;rfl
 case mpi =>
  intro p0 ks0 xs0 h r0 e' G' q;cases q with
  |mpi h' r'=>
   rw[h] at h';cases h';rw[gG.inj I r0 r']
  |mpz h' r'=>rw[h] at h';cases h'
  |mpt h'=>exact nomatch dC (.inl h) h'
  |lst h' _=>exact nomatch dC (.inl h) h'
  |tup h' _=>exact (gH.not_rd I h'.sq (.inl h)).elim
  |dct h' =>
   obtain⟨o,_,_,h1,_⟩:=h';exact absurd (jH I h1) (Rd.ne_none (.inl h))
 case mpz =>
  intro p0 ks0 xs0 o0 h r0 e' G' q;cases q with
  |mpz h' r'=>
   rw[h] at h';cases h';rw[gG.inj I r0 r']
  |mpi h' r'=>rw[h] at h';cases h'
  |mpt h'=>exact nomatch dC (.inr ⟨_,h⟩) h'
  |lst h' _=>exact nomatch dC (.inr ⟨_,h⟩) h'
  |tup h' _=>exact (gH.not_rd I h'.sq (.inr ⟨_,h⟩)).elim
  |dct h' =>
   obtain⟨o,_,_,h1,_⟩:=h';exact absurd (jH I h1) (Rd.ne_none (.inr ⟨_,h⟩))
 case mpt =>
  intro p0 ks0 h e' G' q;cases q with
  |mpt h'=>
   have:=dC h h';injection this with this
   rw[pf this]
  |mpi h' _=>exact nomatch dC h (.inl h')
  |mpz h' _=>exact nomatch dC h (.inr ⟨_,h'⟩)
  |lst h' _=>exact nomatch dC h h'
  |tup h' _=>exact (gH.not_rd I h'.sq h).elim
  |dct h' =>
   obtain⟨o,_,_,h1,_⟩:=h';exact absurd (jH I h1) (Rd.ne_none h)
 case lst =>
  intro p0 vs0 ds0 G0 h r ih e' G' q;cases q with
  |mpi h' _=>exact nomatch dC h (.inl h')
  |mpz h' _=>exact nomatch dC h (.inr ⟨_,h'⟩)
  |mpt h'=>exact nomatch dC h h'
  |lst h' r' =>
   have e:=I.list_inj (.inl h) (.inl h');subst e;rw[ih r']
  |dct h' =>
   obtain⟨its,_,pl,_⟩:=I.list (.inl h);obtain⟨o,ho,hc,_⟩:=pl.isList;obtain⟨o',ho',hc',_⟩:=ja I h';rw[ho] at ho';cases ho';rw[hc] at hc';injection hc' with z;exact absurd z (by decide)
  |tup h' r' =>
   obtain⟨its,_,pl,_⟩:=I.list (.inl h);obtain⟨its',_,pt,_⟩:=I.tuple h'.sq;obtain⟨o,ho,hc,_⟩:=pl.isList;obtain⟨o',ho',hc',_⟩:=pt;rw[ho] at ho';cases ho';rw[hc] at hc';injection hc' with z;exact absurd z (by decide)
 case tup =>
  intro p0 vs0 ds0 G0 h r ih e' G' q;cases q with
  |mpi h' _=>exact (gH.not_rd I h.sq (.inl h')).elim
  |mpz h' _=>exact (gH.not_rd I h.sq (.inr ⟨_,h'⟩)).elim
  |mpt h'=>exact (gH.not_rd I h.sq h').elim
  |tup h' r' =>
   have e:=I.tuple_inj h.sq h'.sq;subst e;rw[ih r']
  |dct h' =>
   obtain⟨its',_,pt,_⟩:=I.tuple h.sq;obtain⟨o,ho,hc,_⟩:=pt;obtain⟨o',ho',hc',_⟩:=ja I h';rw[ho] at ho';cases ho';rw[hc] at hc';injection hc' with z;exact absurd z (by decide)
  |lst h' r' =>
   obtain⟨its,_,pl,_⟩:=I.list (.inl h');obtain⟨its',_,pt,_⟩:=I.tuple h.sq;obtain⟨o,ho,hc,_⟩:=pl.isList;obtain⟨o',ho',hc',_⟩:=pt;rw[ho] at ho';cases ho';rw[hc] at hc';injection hc' with z;exact absurd z (by decide)
 case dct =>
  intro p0 ks0 h e' G' q;cases q with
  |mpi h' _ =>
   obtain⟨o,_,_,h1,_⟩:=h;exact absurd (jH I h1) (Rd.ne_none (.inl h'))
  |mpz h' _ =>
   obtain⟨o,_,_,h1,_⟩:=h;exact absurd (jH I h1) (Rd.ne_none (.inr ⟨_,h'⟩))
  |mpt h' =>
   obtain⟨o,_,_,h1,_⟩:=h;exact absurd (jH I h1) (Rd.ne_none h')
  |dct h'=>rw[n6.inj h h']
  |lst h' r' =>
   obtain⟨its,_,pl,_⟩:=I.list (.inl h');obtain⟨o,ho,hc,_⟩:=pl.isList;obtain⟨o',ho',hc',_⟩:=ja I h;rw[ho] at ho';cases ho';rw[hc] at hc';injection hc' with z;exact absurd z (by decide)
  |tup h' r' =>
   obtain⟨its',_,pt,_⟩:=I.tuple h'.sq;obtain⟨o,ho,hc,_⟩:=pt;obtain⟨o',ho',hc',_⟩:=ja I h;rw[ho] at ho';cases ho';rw[hc] at hc';injection hc' with z;exact absurd z (by decide)
 case nil=>intro e' G' h;cases h;rfl
 case cons =>
  intro d0 v0 ds0 vs0 G0 G1 h r i1 i2 e' G' q;cases q with
  |cons h' r'=>rw[i1 h',i2 r']
open SeqAt in
theorem o6 (I:Inv X pins σ H s):∀(n:Nat) (A:Around) (d e:D) (v w:V) (G G':List Addr) (u u':Value) (b:Bool),A.units+n<cLine->Rep X.K H d v G->Rep X.K H e w G'->RelV v u->RelV w u'->D.eqf n d e=some b->RcAt A s u u' b/\EqAt A s u u' b
 |0,_,_,_,_,_,_,_,_,_,_,_,_,_,_,_,h=>by cases h
 | n+1,A,d,e,v,w,G,G',u,u',b,hu,r1,r2,q1,q2,h=>by
  have hu1:A.in1.units+n<cLine:=by show A.units+1+n<cLine;omega
  have hu0:A.units<cLine:=by omega
  have items:∀{xs ys:List D}{vs ws:List V}{G1 G2:List Addr}{its its':List Value}{c:Bool},aD X.K H xs vs G1->aD X.K H ys ws G2->aH vs its->aH ws its'->ma (D.eqf n) xs ys=some c ->
    its.toArray.size=its'.toArray.size/\∃ ee:Nat->Bool,c=(List.range its.toArray.size).all ee/\∀ j (h1:j<its.toArray.size) (h2:j<its'.toArray.size),EqAt A.in1 s its.toArray[j] its'.toArray[j] (ee j):=by
   intro xs ys vs ws G1 G2 its its' c a1 a2 b1 b2 hc;obtain⟨hl,ee,he,rfl⟩:=fM hc;have l1:=a1.len;have l2:=a2.len;have l3:=b1.length;have l4:=b2.length;have sz:its.toArray.size=xs.length:=by rw[ah];omega
   refine⟨by rw[ah,ah];omega,ee,by rw[sz],fun j h1 h2=>?_⟩;have j1:j<xs.length:=by rw[<-sz];exact h1
   have j2:j<ys.length:=by omega
   obtain⟨v1,g1,e1,p1,_⟩:=a1.get (i:=j) (d:=xs[j]) (by simp[j1]);obtain⟨v2,g2,e2,p2,_⟩:=a2.get (i:=j) (d:=ys[j]) (by simp[j2]);obtain⟨u1,f1,t1⟩:=b1.get e1;obtain⟨u2,f2,t2⟩:=b2.get e2;have x1:its.toArray[j]=u1:=by
    have:=List.getElem?_eq_some_iff.mp f1;simpa using this.2
   have x2:its'.toArray[j]=u2:=by
    have:=List.getElem?_eq_some_iff.mp f2;simpa using this.2
   rw[x1,x2];exact (o6 I n A.in1 _ _ _ _ _ _ _ _ _ hu1 p1 p2 t1 t2 (he j _ _ (by simp[j1]) (by simp[j2]))).2
  have refs:∀{l m:Addr}{c:Bool},(l=m->c=true)->RcAt A s (.ref l) (.ref m) c->RcAt A s (.ref l) (.ref m) c/\EqAt A s (.ref l) (.ref m) c:=fun {l m c} hs hr=>⟨hr,by
   by_cases z:l=m
   ·subst z;rw[hs rfl];exact EqAt.same _
   ·exact EqAt.of_refs z hr⟩
  cases d with
  |dct _=>cases h
  |mpi _=>cases e<;>cases h
  |mpt _=>cases e<;>cases h
  |mpz _=>cases e<;>cases h
  |non =>
   obtain⟨rfl,rfl⟩:=r1.non_inv;cases q1;cases e with
   |dct _=>cases h
   |mpi _=>cases h
   |mpt _=>cases h
   |mpz _=>cases h
   |non=>obtain⟨rfl,rfl⟩:=r2.non_inv;cases q2;cases h;exact⟨RcAt.none_none,EqAt.same _⟩
   |bl c=>obtain⟨rfl,rfl⟩:=r2.bl_inv;cases q2;cases h;exact⟨RcAt.none_bool c,EqAt.none_bool c⟩
   |int i=>obtain⟨rfl,rfl⟩:=r2.int_inv;obtain⟨t,rfl⟩:=q2;cases h;exact⟨RcAt.none_int i t,EqAt.none_int i t⟩
   |str x=>obtain⟨rfl,rfl⟩:=r2.str_inv;obtain⟨t,rfl⟩:=q2;cases h;exact⟨RcAt.none_str x t,EqAt.none_str x t⟩
   |lst ys =>
    obtain⟨m,ws,g,rfl,rfl,a1,a2⟩:=r2.lst_inv;cases q2;obtain⟨its,_,pl,_⟩:=I.list (.inl a1);cases h;exact⟨RcAt.none_list pl.isList hu0,EqAt.none_list pl.isList hu0⟩
   |tup ys =>
    obtain⟨m,ws,rfl,a1,a2⟩:=r2.tup_inv;cases q2;obtain⟨its,_,pl,_⟩:=I.tuple a1;cases h;exact⟨RcAt.none_tuple pl hu0,EqAt.none_tuple pl hu0⟩
  |bl a =>
   obtain⟨rfl,rfl⟩:=r1.bl_inv;cases q1;cases e with
   |dct _=>cases h
   |mpi _=>cases h
   |mpt _=>cases h
   |mpz _=>cases h
   |non=>obtain⟨rfl,rfl⟩:=r2.non_inv;cases q2;cases h;exact⟨RcAt.bool_none a,EqAt.bool_none a⟩
   |bl c=>obtain⟨rfl,rfl⟩:=r2.bl_inv;cases q2;cases h;exact⟨RcAt.bool_bool a c,EqAt.bool_bool a c⟩
   |int i=>obtain⟨rfl,rfl⟩:=r2.int_inv;obtain⟨t,rfl⟩:=q2;cases h;exact⟨RcAt.bool_int a i t,EqAt.bool_int a i t⟩
   |str x=>obtain⟨rfl,rfl⟩:=r2.str_inv;obtain⟨t,rfl⟩:=q2;cases h;exact⟨RcAt.bool_str a x t,EqAt.bool_str a x t⟩
   |lst ys =>
    obtain⟨m,ws,g,rfl,rfl,a1,a2⟩:=r2.lst_inv;cases q2;obtain⟨its,_,pl,_⟩:=I.list (.inl a1);cases h;exact⟨RcAt.bool_list a pl.isList hu0,EqAt.bool_list a pl.isList hu0⟩
   |tup ys =>
    obtain⟨m,ws,rfl,a1,a2⟩:=r2.tup_inv;cases q2;obtain⟨its,_,pl,_⟩:=I.tuple a1;cases h;exact⟨RcAt.bool_tuple a pl hu0,EqAt.bool_tuple a pl hu0⟩
  |int a =>
   obtain⟨rfl,rfl⟩:=r1.int_inv;obtain⟨t0,rfl⟩:=q1;cases e with
   |dct _=>cases h
   |mpi _=>cases h
   |mpt _=>cases h
   |mpz _=>cases h
   |non=>obtain⟨rfl,rfl⟩:=r2.non_inv;cases q2;cases h;exact⟨RcAt.int_none a t0,EqAt.int_none a t0⟩
   |bl c=>obtain⟨rfl,rfl⟩:=r2.bl_inv;cases q2;cases h;exact⟨RcAt.int_bool a t0 c,EqAt.int_bool a t0 c⟩
   |int i=>obtain⟨rfl,rfl⟩:=r2.int_inv;obtain⟨t,rfl⟩:=q2;cases h;exact⟨RcAt.int_int a t0 i t,EqAt.int_int a t0 i t⟩
   |str x=>obtain⟨rfl,rfl⟩:=r2.str_inv;obtain⟨t,rfl⟩:=q2;cases h;exact⟨RcAt.int_str a t0 x t,EqAt.int_str a t0 x t⟩
   |lst ys =>
    obtain⟨m,ws,g,rfl,rfl,a1,a2⟩:=r2.lst_inv;cases q2;obtain⟨its,_,pl,_⟩:=I.list (.inl a1);cases h;exact⟨RcAt.int_list a t0 pl.isList hu0,EqAt.int_list a t0 pl.isList hu0⟩
   |tup ys =>
    obtain⟨m,ws,rfl,a1,a2⟩:=r2.tup_inv;cases q2;obtain⟨its,_,pl,_⟩:=I.tuple a1;cases h;exact⟨RcAt.int_tuple a t0 pl hu0,EqAt.int_tuple a t0 pl hu0⟩
  |str a =>
   obtain⟨rfl,rfl⟩:=r1.str_inv;obtain⟨t0,rfl⟩:=q1;cases e with
   |dct _=>cases h
   |mpi _=>cases h
   |mpt _=>cases h
   |mpz _=>cases h
   |non=>obtain⟨rfl,rfl⟩:=r2.non_inv;cases q2;cases h;exact⟨RcAt.str_none a t0,EqAt.str_none a t0⟩
   |int i=>obtain⟨rfl,rfl⟩:=r2.int_inv;obtain⟨t,rfl⟩:=q2;cases h;exact⟨RcAt.str_int a t0 i t,EqAt.str_int a t0 i t⟩
   |str x=>obtain⟨rfl,rfl⟩:=r2.str_inv;obtain⟨t,rfl⟩:=q2;cases h;exact⟨RcAt.str_str a t0 x t,EqAt.str_str a t0 x t⟩
   |bl c=>obtain⟨rfl,rfl⟩:=r2.bl_inv;cases q2;cases h;exact⟨RcAt.str_bool a t0 c,EqAt.str_bool a t0 c⟩
   |lst ys =>
    obtain⟨m,ws,g,rfl,rfl,a1,a2⟩:=r2.lst_inv;cases q2;obtain⟨its,_,pl,_⟩:=I.list (.inl a1);cases h;exact⟨RcAt.str_list a t0 pl.isList hu0,EqAt.str_list a t0 pl.isList hu0⟩
   |tup ys =>
    obtain⟨m,ws,rfl,a1,a2⟩:=r2.tup_inv;cases q2;obtain⟨its,_,pl,_⟩:=I.tuple a1;cases h;exact⟨RcAt.str_tuple a t0 pl hu0,EqAt.str_tuple a t0 pl hu0⟩
  |lst xs =>
   obtain⟨l,vs,g,rfl,rfl,a1,a2⟩:=r1.lst_inv;cases q1;obtain⟨its,rv,pl,_⟩:=I.list (.inl a1);cases e with
   |dct _=>cases h
   |mpi _=>cases h
   |mpt _=>cases h
   |mpz _=>cases h
   |non=>obtain⟨rfl,rfl⟩:=r2.non_inv;cases q2;cases h;exact⟨RcAt.list_none pl.isList hu0,EqAt.list_none pl.isList hu0⟩
   |lst ys =>
    obtain⟨m,ws,g',rfl,rfl,b1,b2⟩:=r2.lst_inv;cases q2;obtain⟨its',rv',pl',_⟩:=I.list (.inl b1);have same:l=m->b=true:=fun z=>by
     subst z;have e0:=Rep.inj I r1 r2;rw[e0] at h;exact hX _ _ _ h
    have h:(if xs.length=ys.length then ma (D.eqf n) xs ys else some false)=some b:=h;by_cases hl:xs.length=ys.length
    ·rw[if_pos hl] at h;obtain⟨hz,ee,rfl,he⟩:=items a2 b2 rv rv' h;exact refs same (RcAt.lists pl.isList pl'.isList hz hu0 he)
    ·rw[if_neg hl] at h;cases h;have hz:(its.toArray.size != its'.toArray.size)=true:=by
      have l1:=a2.len;have l2:=b2.len;have l3:=rv.length;have l4:=rv'.length;simp only[bne_iff_ne,ne_eq,List.size_toArray];omega
     exact refs same (RcAt.lists_lengths pl.isList pl'.isList hz hu0)
   |bl c=>obtain⟨rfl,rfl⟩:=r2.bl_inv;cases q2;cases h;exact⟨RcAt.list_bool c pl.isList hu0,EqAt.list_bool c pl.isList hu0⟩
   |int c=>obtain⟨rfl,rfl⟩:=r2.int_inv;obtain⟨t,rfl⟩:=q2;cases h;exact⟨RcAt.list_int c t pl.isList hu0,EqAt.list_int c t pl.isList hu0⟩
   |str c=>obtain⟨rfl,rfl⟩:=r2.str_inv;obtain⟨t,rfl⟩:=q2;cases h;exact⟨RcAt.list_str c t pl.isList hu0,EqAt.list_str c t pl.isList hu0⟩
   |tup ys =>
    obtain⟨m,ws,rfl,b1,b2⟩:=r2.tup_inv;cases q2;obtain⟨its',rv',pl',_⟩:=I.tuple b1;cases h;exact⟨RcAt.list_tuple pl.isList pl' hu0,EqAt.list_tuple pl.isList pl' hu0⟩
  |tup xs =>
   obtain⟨l,vs,rfl,a1,a2⟩:=r1.tup_inv;cases q1;obtain⟨its,rv,pl,_⟩:=I.tuple a1;cases e with
   |dct _=>cases h
   |mpi _=>cases h
   |mpt _=>cases h
   |mpz _=>cases h
   |tup ys =>
    obtain⟨m,ws,rfl,b1,b2⟩:=r2.tup_inv;cases q2;obtain⟨its',rv',pl',_⟩:=I.tuple b1;have same:l=m->b=true:=fun z=>by
     subst z;have e0:=Rep.inj I r1 r2;rw[e0] at h;exact hX _ _ _ h
    have h:(if xs.length=ys.length then ma (D.eqf n) xs ys else none)=some b:=h;by_cases hl:xs.length=ys.length
    ·rw[if_pos hl] at h;obtain⟨hz,ee,rfl,he⟩:=items a2 b2 rv rv' h;have q:=RcAt.tuples (e:=ee) pl pl' hu0 he;rw[<-hz,Nat.min_self,en,Bool.and_true] at q;exact refs same q
    ·rw[if_neg hl] at h;cases h
   |non=>obtain⟨rfl,rfl⟩:=r2.non_inv;cases q2;cases h;exact⟨RcAt.tuple_none pl hu0,EqAt.tuple_none pl hu0⟩
   |bl c=>obtain⟨rfl,rfl⟩:=r2.bl_inv;cases q2;cases h;exact⟨RcAt.tuple_bool c pl hu0,EqAt.tuple_bool c pl hu0⟩
   |int c=>obtain⟨rfl,rfl⟩:=r2.int_inv;obtain⟨t,rfl⟩:=q2;cases h;exact⟨RcAt.tuple_int c t pl hu0,EqAt.tuple_int c t pl hu0⟩
   |str c=>obtain⟨rfl,rfl⟩:=r2.str_inv;obtain⟨t,rfl⟩:=q2;cases h;exact⟨RcAt.tuple_str c t pl hu0,EqAt.tuple_str c t pl hu0⟩
   |lst ys =>
    obtain⟨m,ws,g',rfl,rfl,b1,b2⟩:=r2.lst_inv;cases q2;obtain⟨its',rv',pl',_⟩:=I.list (.inl b1);cases h;exact⟨RcAt.tuple_list pl pl'.isList hu0,EqAt.tuple_list pl pl'.isList hu0⟩
end
end
section
open PySem.SeqAt
open PySem.AutoSeq1 (wpAny_loadPart')
open PySem.MeetsSeq PySem.MeetsSeq2 PySem.MeetsSeq3
theorem uT (A:Around)(s:Shared)(a:Int)(t:Tok)(c:Int)(u:Tok)(prog:Program)(w:World)(E:Value->Shared->Prop)(Q:Value->Shared->Prop)(h:Q (.bool (decide (a<=c))) s) :
  wpAny (model prog w) A (richCompare .LtE (.int a t) (.int c u)) Q E s :=
 (PyProof.Rows.le_int h:wpAny (model prog w) A (compareOp .LtE (.int a t) (.int c u)) Q E s)
noncomputable def qZ (R:Result->Shared->Prop)(s0:Shared)(z1 z2:Nat)(rest:List (Value×Value)):Prop :=
 ∃(xs ys:List Value) (p q:List Int),rest=xs.zip ys/\IntsAre xs p/\IntsAre ys q/\p.length+z2=q.length+z1/\R (.ok (.ret (.bool (jA p q)))) s0
theorem qZ.turn {R:Result->Shared->Prop}{s0:Shared}{z1 z2:Nat}{y x:Value}{rest:List (Value×Value)}(h:qZ R s0 z1 z2 ((y,x)::rest)):∃ a t c u,y = .int a t/\x = .int c u/\(a=c->qZ R s0 z1 z2 rest)/\(a≠c->R (.ok (.ret (.bool (decide (a<=c))))) s0):=by
 obtain⟨xs,ys,p,q,hz,h1,h2,hl,hR⟩:=h;cases h1 with
 |nil=>rw[List.zip_nil_left] at hz;cases hz
 |cons a t h1'=>cases h2 with
  |nil=>rw[List.zip_nil_right] at hz;cases hz
  |cons c u h2' =>
   rw[List.zip_cons_cons] at hz;injection hz with e1 e2
   injection e1 with e3 e4
   refine⟨a,t,c,u,e3,e4,fun e=>?_,fun e=>?_⟩
   ·refine⟨_,_,_,_,e2,h1',h2',?_,?_⟩
    ·simp only[List.length_cons] at hl;omega
    ·unfold jA at hR;rw[if_pos e] at hR;exact hR
   ·unfold jA at hR;rw[if_neg e] at hR;exact hR
theorem qZ.fin {R:Result->Shared->Prop}{s0:Shared}{z1 z2:Nat}(h:qZ R s0 z1 z2 []):R (.ok (.ret (.bool (decide (z1<=z2))))) s0:=by
 obtain⟨xs,ys,p,q,hz,h1,h2,hl,hR⟩:=h;have e:jA p q=decide (z1<=z2):=by
  cases h1 with
  |nil=>exact (decide_eq_true (by simp only[List.length_nil] at hl;omega)).symm
  |cons a t h1'=>cases h2 with
   |nil=>exact (decide_eq_false (by simp only[List.length_cons,List.length_nil] at hl;omega)).symm
   |cons c u h2'=>rw[List.zip_cons_cons] at hz;cases hz
 rw[<-e];exact hR
theorem le_meets (l b:Addr)(xs ys:Array Value)(n n2:Nat)(dd dd2:Option Addr)(sl sl2:Array (Option Value))(p q:List Int)(hp:IntsAre xs.toList p)(hq:IntsAre ys.toList q) :
  Meets (Builtin.«tuple.__le__» ⟨[.ref l,.ref b],[]⟩) (fun _ R s=>s.heap.get? l=some { cls:=.type "tuple",dict:=dd,data:=.seq xs n,slots:=sl }/\s.heap.get? b=some { cls:=.type "tuple",dict:=dd2,data:=.seq ys n2,slots:=sl2 }/\R (.ok (.ret (.bool (jA p q)))) s) :=
 .of_wp fun prog w A R s h=>by
  obtain⟨hl,hb,h⟩:=h;have f2:=AutoSeq1.sub_tuple_tuple;have z1:xs.size=p.length:=by rw[<-hp.length];simp
  have z2:ys.size=q.length:=by rw[<-hq.length];simp
  obtain⟨hp',g,d,tk,os⟩:=s
  wp_walk using wpAny_loadPart' hl,wpAny_loadPart' hb,wpAny_forIn_list _ (fun rest b s'=>b.1=none/\s'=⟨hp',g,d,tk,os⟩/\qZ R ⟨hp',g,d,tk,os⟩ xs.size ys.size rest) _
  case turn =>
   rintro⟨y,x⟩ rest b s' ⟨hb',rfl,hL⟩;obtain⟨a,t,c,u,rfl,rfl,k1,k2⟩:=hL.turn;obtain⟨e,he,hiff⟩:=HT.rP A.in1 ⟨hp',g,d,tk,os⟩ a t c u;refine wpAny_bind (he prog w _ _ ?_);cases e with
   |true =>
    have k:=k1 (hiff.mp rfl)
    wp_walk
    exact⟨rfl,rfl,k⟩
   |false =>
    have k:=k2 (fun q=>absurd (hiff.mpr q) az);have hri:=uT A.in1 ⟨hp',g,d,tk,os⟩ a t c u prog w
    wp_walk using hri
    exact⟨_,rfl,by simpa using k⟩
  case fin =>
   rintro⟨b1,b2⟩ s' ⟨hb',rfl,hL⟩;simp only at hb';subst hb';have hR:=hL.fin
   wp_walk
   exact⟨_,rfl,by simpa[Builtin.Tuple.tupleCompareSizes] using hR⟩
  case h =>
   exact⟨rfl,rfl,xs.toList,ys.toList,p,q,rfl,hp,hq,by omega,h⟩
end
theorem wV {prog:Program}{w:World}{A:Around}{E:Value->Shared->Prop}{s:Shared}{l b:Addr}{xs ys:Array Value}{p q:List Int}{Q:Value->Shared->Prop}(hl:IsTup s.heap l xs)(hb:IsTup s.heap b ys)(hp:IntsAre xs.toList p)(hq:IntsAre ys.toList q)
  (hu:A.units<cLine) (h:Q (.bool (jA p q)) s):wpAny (model prog w) A (compareOp .LtE (.ref l) (.ref b)) Q E s:=by
 obtain⟨⟨c1,d1,t1,sl1⟩,ho,hc,n,hd⟩:=id hl;obtain⟨⟨c2,d2,t2,sl2⟩,ho2,hc2,n2,hd2⟩:=id hb;cases hc;cases hd;cases hc2;cases hd2;exact richCompare_meets_room (op:=.LtE) ⟨_,ho,rfl⟩ ⟨_,ho2,rfl⟩ PySem.F.slot_tuple_le PySem.F.entry_tuple_le (PySem.F.args_tuple_le_2 _ _) (le_meets l b xs ys n n2 d1 d2 sl1 sl2 p q hp hq)
  ⟨ho,ho2,show Value.bool (jA p q)≠Value.notImplemented/\Q (.bool (jA p q)) s from ⟨(fun x=>nomatch x),h⟩⟩ hu
def me (A:Around)(s:Shared)(y x:Value)(b:Bool):Prop:=∀(prog:Program) (w:World) (E Q:Value->Shared->Prop),Q (.bool b) s->wpAny (model prog w) A (richCompare .Lt y x) Q E s
noncomputable def xC (A:Around)(s:Shared)(z:Bool):List (Value×Value)->Bool->Prop
 |[],b=>b=z
 |p::r,b=>∃ e,SeqAt.EqAt A.in1 s p.1 p.2 e/\(if e=true then xC A s z r b else me A.in1 s p.1 p.2 b)
section
open PySem.SeqAt
open PySem.AutoSeq1 (wpAny_loadPart')
open PySem.MeetsSeq PySem.MeetsSeq2 PySem.MeetsSeq3
theorem qB (l b:Addr)(xs ys:Array Value)(n n2:Nat)(dd dd2:Option Addr)(sl sl2:Array (Option Value))(c:Bool) :
  Meets (Builtin.«tuple.__lt__» ⟨[.ref l,.ref b],[]⟩) (fun A R s=>s.heap.get? l=some { cls:=.type "tuple",dict:=dd,data:=.seq xs n,slots:=sl }/\s.heap.get? b=some { cls:=.type "tuple",dict:=dd2,data:=.seq ys n2,slots:=sl2 }/\xC A s (decide (xs.size<ys.size)) (xs.toList.zip ys.toList) c/\R (.ok (.ret (.bool c))) s) :=
 .of_wp fun prog w A R s h=>by
  obtain⟨hl,hb,hc,h⟩:=h;have f2:=AutoSeq1.sub_tuple_tuple;obtain⟨hp',g,d,tk,os⟩:=s
  wp_walk using wpAny_loadPart' hl,wpAny_loadPart' hb,wpAny_forIn_list _ (fun rest b s'=>b.1=none/\s'=⟨hp',g,d,tk,os⟩/\xC A ⟨hp',g,d,tk,os⟩ (decide (xs.size<ys.size)) rest c) _
  case turn =>
   rintro⟨y,x⟩ rest b s' ⟨hb',rfl,hL⟩;obtain⟨e,he,hr⟩:=hL;refine wpAny_bind (he prog w _ _ ?_);cases e with
   |true =>
    rw[if_pos rfl] at hr
    wp_walk
    exact⟨rfl,rfl,hr⟩
   |false =>
    rw[if_neg az] at hr;have hri:=hr prog w
    wp_walk using hri
    exact⟨_,rfl,h⟩
  case fin =>
   rintro⟨b1,b2⟩ s' ⟨hb',rfl,hL⟩;simp only at hb';subst hb';have hL:c=_:=hL;rw[hL] at h
   wp_walk
   exact⟨_,rfl,by simpa[Builtin.Tuple.tupleCompareSizes] using h⟩
  case h =>
   exact⟨rfl,rfl,hc⟩
theorem vN (l b:Addr)(xs ys:Array Value)(n n2:Nat)(dd dd2:Option Addr)(sl sl2:Array (Option Value))(c:Bool):∀(k i:Nat),min xs.size ys.size - i=k ->
  Meets (Builtin.«list.__eq__.loop» ⟨[.ref l,.ref b,rawInt (i:Int),rawInt 0],[]⟩) (fun A R s=>s.heap.get? l=some { cls:=.type "list",dict:=dd,data:=.seq xs n,slots:=sl }/\s.heap.get? b=some { cls:=.type "list",dict:=dd2,data:=.seq ys n2,slots:=sl2 }/\xC A s (decide (xs.size<ys.size)) ((xs.toList.zip ys.toList).drop i) c/\R (.ok (.ret (.bool c))) s):=by
 intro k
 induction k with
 |zero =>
  intro i hk prog w A R s h;obtain⟨hl,hb,hc,hR⟩:=h;have hz:(xs.toList.zip ys.toList).drop i=[]:=List.drop_eq_nil_of_le (by rw[List.length_zip,bc,bc];omega);rw[hz] at hc;have hc:c=_:=hc;have e12:xs[i]? = none\/ys[i]? = none:=by
   by_cases h1:i<xs.size
   ·right;rw[Array.getElem?_eq_none_iff];omega
   ·left;rw[Array.getElem?_eq_none_iff];omega
  unfold Builtin.«list.__eq__.loop»
  wp_walk using wpAny_loadPart' hl,wpAny_loadPart' hb
  rw[dk];rw[hc] at hR;have fin:∀(f:PySem.Fin) (s':Shared),f = .done (.ret (.bool (decide (xs.size<ys.size))))->s'=s->(match f with
   |.done f=>R (.ok f) s'
   |.again c'=>c'.quiet=true/\codeAny (model prog w) A c' R s'):=fun f s' e1 e2=>by subst e1 e2;exact hR
  rcases e12 with e | e
  ·rw[e]
   wp_walk using wpAny_loadPart' hl,wpAny_loadPart' hb
   exact hR
  ·rw[e];cases xs[i]?<;>(dsimp only;wp_walk using wpAny_loadPart' hl,wpAny_loadPart' hb;exact hR)
 |succ k ih =>
  intro i hk prog w A R s h;obtain⟨hl,hb,hc,hR⟩:=h;have hi1:i<xs.size:=by omega
  have hi2:i<ys.size:=by omega
  have hz:(xs.toList.zip ys.toList).drop i=(xs[i],ys[i])::(xs.toList.zip ys.toList).drop (i+1):=by
   rw[bj (by rw[List.length_zip,bc,bc];omega)];simp
  rw[hz] at hc;obtain⟨e,he,hr⟩:=hc;have e1:xs[i]? = some xs[i]:=by simp[hi1]
  have e2:ys[i]? = some ys[i]:=by simp[hi2]
  unfold Builtin.«list.__eq__.loop»
  wp_walk using wpAny_loadPart' hl,wpAny_loadPart' hb
  rw[dk,e1,e2];dsimp only;refine wpAny_bind (he prog w _ _ ?_);cases e with
  |true =>
   rw[if_pos rfl] at hr;rw[if_pos rfl];refine wpAny_pure ⟨plainId_quiet plain_eq_loop _,codeAny_builtin entry_eq_loop ?_⟩;rw[Around.under_plainId plain_eq_loop _];exact ih (i+1) (by omega) prog w A R s ⟨hl,hb,hr,hR⟩
  |false =>
   rw[if_neg az] at hr;rw[if_neg az];have hri:=hr prog w
   wp_walk using wpAny_loadPart' hl,wpAny_loadPart' hb
   rw[e1,e2];dsimp only
   wp_walk using hri
   exact hR
theorem qJ (l b:Addr)(xs ys:Array Value)(n n2:Nat)(dd dd2:Option Addr)(sl sl2:Array (Option Value))(c:Bool) :
  Meets (Builtin.«list.__lt__» ⟨[.ref l,.ref b],[]⟩) (fun A R s=>s.heap.get? l=some { cls:=.type "list",dict:=dd,data:=.seq xs n,slots:=sl }/\s.heap.get? b=some { cls:=.type "list",dict:=dd2,data:=.seq ys n2,slots:=sl2 }/\xC A s (decide (xs.size<ys.size)) (xs.toList.zip ys.toList) c/\R (.ok (.ret (.bool c))) s):=by
 intro prog w A R s h;have h':=h;obtain⟨hl,hb,hc,hR⟩:=h;have f2:=AutoSeq1.sub_list_list;unfold Builtin.«list.__lt__»
 wp_walk using wpAny_loadPart' hl,wpAny_loadPart' hb
 refine⟨plainId_quiet plain_eq_loop _,codeAny_builtin entry_eq_loop ?_⟩;rw[Around.under_plainId plain_eq_loop _];exact vN l b xs ys n n2 dd dd2 sl sl2 c _ 0 rfl prog w A R s ⟨hl,hb,hc,hR⟩
theorem me.tuples {A:Around}{s:Shared}{l b:Addr}{xs ys:Array Value}{c:Bool}(hl:IsTup s.heap l xs)(hb:IsTup s.heap b ys)(hu:A.units<cLine)(h:xC A s (decide (xs.size<ys.size)) (xs.toList.zip ys.toList) c):me A s (.ref l) (.ref b) c:=by
 intro prog w E Q hQ;obtain⟨⟨c1,d1,t1,sl1⟩,ho,hc,n,hd⟩:=id hl;obtain⟨⟨c2,d2,t2,sl2⟩,ho2,hc2,n2,hd2⟩:=id hb;cases hc;cases hd;cases hc2;cases hd2;exact richCompare_meets_room (op:=.Lt) ⟨_,ho,rfl⟩ ⟨_,ho2,rfl⟩ PySem.F.slot_tuple_lt PySem.F.entry_tuple_lt (PySem.F.args_tuple_lt_2 _ _) (qB l b xs ys n n2 d1 d2 sl1 sl2 c)
  ⟨ho,ho2,h,show Value.bool c≠Value.notImplemented/\Q (.bool c) s from ⟨(fun x=>nomatch x),hQ⟩⟩ hu
theorem me.lists {A:Around}{s:Shared}{l b:Addr}{xs ys:Array Value}{c:Bool}(hl:s.heap.IsList l xs)(hb:s.heap.IsList b ys)(hu:A.units<cLine)(h:xC A s (decide (xs.size<ys.size)) (xs.toList.zip ys.toList) c):me A s (.ref l) (.ref b) c:=by
 intro prog w E Q hQ;obtain⟨⟨c1,d1,t1,sl1⟩,ho,hc,n,hd⟩:=id hl;obtain⟨⟨c2,d2,t2,sl2⟩,ho2,hc2,n2,hd2⟩:=id hb;cases hc;cases hd;cases hc2;cases hd2;exact richCompare_meets_room (op:=.Lt) ⟨_,ho,rfl⟩ ⟨_,ho2,rfl⟩ PySem.F.slot_list_lt PySem.F.entry_list_lt (PySem.F.args_list_lt_2 _ _) (qJ l b xs ys n n2 d1 d2 sl1 sl2 c)
  ⟨ho,ho2,h,show Value.bool c≠Value.notImplemented/\Q (.bool c) s from ⟨(fun x=>nomatch x),hQ⟩⟩ hu
end
section
variable {X:Cx}{pins:List (Addr×Obj)}{σ:L2.St}{H:Hp}{s:Shared}
theorem nR (I:Inv X pins σ H s){n:Nat}{A:Around}(hu1:A.in1.units+n<cLine)(ih:∀(d e:D) (v w:V) (G G':List Addr) (u u':Value) (b:Bool),Rep X.K H d v G->Rep X.K H e w G'->RelV v u->RelV w u'->D.ltf n d e=some b->me A.in1 s u u' b){z1 z2:Nat}{b:Bool} :
  ∀{xs ys:List D}{vs ws:List V}{G1 G2:List Addr}{its its':List Value},aD X.K H xs vs G1->aD X.K H ys ws G2->aH vs its->aH ws its'->xs.length+z2=ys.length+z1->BW (D.eqf n) (D.ltf n) xs ys=some b->xC A s (decide (z1<z2)) (its.zip its') b
 | [],[],_,_,_,_,_,_,a1,a2,b1,b2,hl,h=>by
  cases a1;cases a2;cases b1;cases b2;cases h;exact (decide_eq_false (by simp only[List.length_nil] at hl;omega)).symm
 | [],y::ys,_,_,_,_,_,_,a1,a2,b1,b2,hl,h=>by
  cases a1;cases b1;cases h;rw[List.zip_nil_left];exact (decide_eq_true (by simp only[List.length_nil,List.length_cons] at hl;omega)).symm
 | x::xs,[],_,_,_,_,_,_,a1,a2,b1,b2,hl,h=>by
  cases a2;cases b2;cases h;rw[List.zip_nil_right];exact (decide_eq_false (by simp only[List.length_nil,List.length_cons] at hl;omega)).symm
 | x::xs,y::ys,_,_,_,_,_,_,a1,a2,b1,b2,hl,h=>by
  unfold BW at h;obtain⟨e,h1,h2⟩:=ab.mp h;cases a1 with
  |cons p1 p2=>cases a2 with
   |cons r1 r2=>cases b1 with
    |cons t1 t2=>cases b2 with
     |cons q1 q2 =>
      refine⟨e,(o6 I n A.in1 _ _ _ _ _ _ _ _ _ hu1 p1 r1 t1 q1 h1).2,?_⟩;cases e with
      |true =>
       rw[if_pos rfl] at h2 ⊢;exact nR I hu1 ih p2 r2 t2 q2 (by simp only[List.length_cons] at hl;omega) h2
      |false =>
       rw[if_neg az] at h2 ⊢;exact ih _ _ _ _ _ _ _ _ _ p1 r1 t1 q1 h2
theorem xO (I:Inv X pins σ H s):∀(n:Nat) (A:Around) (d e:D) (v w:V) (G G':List Addr) (u u':Value) (b:Bool),A.units+n<cLine->Rep X.K H d v G->Rep X.K H e w G'->RelV v u->RelV w u'->D.ltf n d e=some b->me A s u u' b
 |0,_,_,_,_,_,_,_,_,_,_,_,_,_,_,_,h=>by cases h
 | n+1,A,d,e,v,w,G,G',u,u',b,hu,r1,r2,q1,q2,h=>by
  have hu1:A.in1.units+n<cLine:=by show A.units+1+n<cLine;omega
  have hu0:A.units<cLine:=by omega
  have ih:=fun d e v w G G' u u' b=>xO I n A.in1 d e v w G G' u u' b hu1
  cases d with
  |int i=>cases e with
   |int j =>
    cases h;obtain⟨rfl,rfl⟩:=r1.int_inv;obtain⟨rfl,rfl⟩:=r2.int_inv;obtain⟨t,rfl⟩:=q1;obtain⟨t',rfl⟩:=q2;exact fun prog w E Q hQ=>HT.tf A s _ t _ t' prog w E Q hQ
   |_=>cases h
  |tup xs=>cases e with
   |tup ys =>
    obtain⟨m,vs,rfl,a1,a2⟩:=r1.tup_inv;obtain⟨m',ws,rfl,c1,c2⟩:=r2.tup_inv;cases q1;cases q2;obtain⟨its,rv,pl,_⟩:=I.tuple a1;obtain⟨its',rv',pl',_⟩:=I.tuple c1;have l1:=a2.len;have l2:=c2.len;have l3:=rv.length;have l4:=rv'.length;exact me.tuples pl pl' hu0 (nR I hu1 ih a2 c2 rv rv' (by rw[ah,ah];omega) h)
   |_=>cases h
  |lst xs=>cases e with
   |lst ys =>
    obtain⟨m,vs,g,rfl,rfl,a1,a2⟩:=r1.lst_inv;obtain⟨m',ws,g',rfl,rfl,c1,c2⟩:=r2.lst_inv;cases q1;cases q2;obtain⟨its,rv,pl,_⟩:=I.list (.inl a1);obtain⟨its',rv',pl',_⟩:=I.list (.inl c1);have l1:=a2.len;have l2:=c2.len;have l3:=rv.length;have l4:=rv'.length;exact me.lists pl.isList pl'.isList hu0 (nR I hu1 ih a2 c2 rv rv' (by rw[ah,ah];omega) h)
   |_=>cases h
  |_=>cases h
end
section
variable {X:Cx}{pins:List (Addr×Obj)}{σ:L2.St}{H:Hp}{s:Shared}
open SeqAt in
theorem A1 (I:Inv X pins σ H s)(n:Nat)(A:Around)(d e:D)(v w:V)(G G':List Addr)(u u':Value)(b:Bool)(hu:A.units+n<cLine)(r1:Rep X.K H d v G)(r2:Rep X.K H e w G')(q1:RelV v u)(q2:RelV w u')(h:D.eqf n d e=some b):RcNeAt A s u u' (!b):=by
 cases n with
 |zero=>cases h
 |succ n =>
  have hu1:A.in1.units+n<cLine:=by show A.units+1+n<cLine;omega
  have hu0:A.units<cLine:=by omega
  have items:∀{xs ys:List D}{vs ws:List V}{G1 G2:List Addr}{its its':List Value}{c:Bool},aD X.K H xs vs G1->aD X.K H ys ws G2->aH vs its->aH ws its'->ma (D.eqf n) xs ys=some c ->
    its.toArray.size=its'.toArray.size/\∃ ee:Nat->Bool,c=(List.range its.toArray.size).all ee/\∀ j (h1:j<its.toArray.size) (h2:j<its'.toArray.size),EqAt A.in1 s its.toArray[j] its'.toArray[j] (ee j):=by
   intro xs ys vs ws G1 G2 its its' c a1 a2 b1 b2 hc;obtain⟨hl,ee,he,rfl⟩:=fM hc;have l1:=a1.len;have l2:=a2.len;have l3:=b1.length;have l4:=b2.length;have sz:its.toArray.size=xs.length:=by rw[ah];omega
   refine⟨by rw[ah,ah];omega,ee,by rw[sz],fun j h1 h2=>?_⟩;have j1:j<xs.length:=by rw[<-sz];exact h1
   have j2:j<ys.length:=by omega
   obtain⟨v1,g1,e1,p1,_⟩:=a1.get (i:=j) (d:=xs[j]) (by simp[j1]);obtain⟨v2,g2,e2,p2,_⟩:=a2.get (i:=j) (d:=ys[j]) (by simp[j2]);obtain⟨u1,f1,t1⟩:=b1.get e1;obtain⟨u2,f2,t2⟩:=b2.get e2;have x1:its.toArray[j]=u1:=by
    have:=List.getElem?_eq_some_iff.mp f1;simpa using this.2
   have x2:its'.toArray[j]=u2:=by
    have:=List.getElem?_eq_some_iff.mp f2;simpa using this.2
   rw[x1,x2];exact (o6 I n A.in1 _ _ _ _ _ _ _ _ _ hu1 p1 p2 t1 t2 (he j _ _ (by simp[j1]) (by simp[j2]))).2
  have lsti:∀{ys:List D}{w:V}{g:List Addr}{u:Value},Rep X.K H (.lst ys) w g->RelV w u->∃ m its vs g',u = .ref m/\s.heap.IsList m its.toArray/\aH vs its/\aD X.K H ys vs g':=fun {ys w g u} r q=>by
   obtain⟨m,ws,g',rfl,rfl,a1,a2⟩:=r.lst_inv;cases q;obtain⟨its,rv,pl,_⟩:=I.list (.inl a1);exact⟨m,its,ws,g',rfl,pl.isList,rv,a2⟩
  have tupi:∀{ys:List D}{w:V}{g:List Addr}{u:Value},Rep X.K H (.tup ys) w g->RelV w u->∃ m its vs,u = .ref m/\s.heap.IsTuple m its.toArray/\aH vs its/\aD X.K H ys vs g:=fun {ys w g u} r q=>by
   obtain⟨m,ws,rfl,a1,a2⟩:=r.tup_inv;cases q;obtain⟨its,rv,pl,_⟩:=I.tuple a1;exact⟨m,its,ws,rfl,pl,rv,a2⟩
  cases d with
  |dct _=>cases h
  |mpi _=>cases e<;>cases h
  |mpt _=>cases e<;>cases h
  |mpz _=>cases e<;>cases h
  |non =>
   obtain⟨rfl,rfl⟩:=r1.non_inv;cases q1;cases e with
   |dct _=>cases h
   |mpi _=>cases h
   |mpt _=>cases h
   |mpz _=>cases h
   |non=>obtain⟨rfl,rfl⟩:=r2.non_inv;cases q2;cases h;exact RcNeAt.none_none
   |bl c=>obtain⟨rfl,rfl⟩:=r2.bl_inv;cases q2;cases h;exact RcNeAt.none_bool c
   |int i=>obtain⟨rfl,rfl⟩:=r2.int_inv;obtain⟨t,rfl⟩:=q2;cases h;exact RcNeAt.none_int i t
   |str x=>obtain⟨rfl,rfl⟩:=r2.str_inv;obtain⟨t,rfl⟩:=q2;cases h;exact RcNeAt.none_str x t
   |lst ys=>obtain⟨m,its,vs,g',rfl,pl,_,_⟩:=lsti r2 q2;cases h;exact RcNeAt.none_list pl hu0
   |tup ys=>obtain⟨m,its,vs,rfl,pl,_,_⟩:=tupi r2 q2;cases h;exact RcNeAt.none_tuple pl hu0
  |bl a =>
   obtain⟨rfl,rfl⟩:=r1.bl_inv;cases q1;cases e with
   |dct _=>cases h
   |mpi _=>cases h
   |mpt _=>cases h
   |mpz _=>cases h
   |non=>obtain⟨rfl,rfl⟩:=r2.non_inv;cases q2;cases h;exact RcNeAt.bool_none a
   |bl c=>obtain⟨rfl,rfl⟩:=r2.bl_inv;cases q2;cases h;exact RcNeAt.bool_bool a c
   |int i=>obtain⟨rfl,rfl⟩:=r2.int_inv;obtain⟨t,rfl⟩:=q2;cases h;exact RcNeAt.bool_int a i t
   |str x=>obtain⟨rfl,rfl⟩:=r2.str_inv;obtain⟨t,rfl⟩:=q2;cases h;exact RcNeAt.bool_str a x t
   |lst ys=>obtain⟨m,its,vs,g',rfl,pl,_,_⟩:=lsti r2 q2;cases h;exact RcNeAt.bool_list a pl hu0
   |tup ys=>obtain⟨m,its,vs,rfl,pl,_,_⟩:=tupi r2 q2;cases h;exact RcNeAt.bool_tuple a pl hu0
  |int a =>
   obtain⟨rfl,rfl⟩:=r1.int_inv;obtain⟨t0,rfl⟩:=q1;cases e with
   |dct _=>cases h
   |mpi _=>cases h
   |mpt _=>cases h
   |mpz _=>cases h
   |non=>obtain⟨rfl,rfl⟩:=r2.non_inv;cases q2;cases h;exact RcNeAt.int_none a t0
   |bl c=>obtain⟨rfl,rfl⟩:=r2.bl_inv;cases q2;cases h;exact RcNeAt.int_bool a t0 c
   |int i=>obtain⟨rfl,rfl⟩:=r2.int_inv;obtain⟨t,rfl⟩:=q2;cases h;exact RcNeAt.int_int a t0 i t
   |str x=>obtain⟨rfl,rfl⟩:=r2.str_inv;obtain⟨t,rfl⟩:=q2;cases h;exact RcNeAt.int_str a t0 x t
   |lst ys=>obtain⟨m,its,vs,g',rfl,pl,_,_⟩:=lsti r2 q2;cases h;exact RcNeAt.int_list a t0 pl hu0
   |tup ys=>obtain⟨m,its,vs,rfl,pl,_,_⟩:=tupi r2 q2;cases h;exact RcNeAt.int_tuple a t0 pl hu0
  |str a =>
   obtain⟨rfl,rfl⟩:=r1.str_inv;obtain⟨t0,rfl⟩:=q1;cases e with
   |dct _=>cases h
   |mpi _=>cases h
   |mpt _=>cases h
   |mpz _=>cases h
   |non=>obtain⟨rfl,rfl⟩:=r2.non_inv;cases q2;cases h;exact RcNeAt.str_none a t0
   |bl c=>obtain⟨rfl,rfl⟩:=r2.bl_inv;cases q2;cases h;exact RcNeAt.str_bool a t0 c
   |int i=>obtain⟨rfl,rfl⟩:=r2.int_inv;obtain⟨t,rfl⟩:=q2;cases h;exact RcNeAt.str_int a t0 i t
   |str x=>obtain⟨rfl,rfl⟩:=r2.str_inv;obtain⟨t,rfl⟩:=q2;cases h;exact RcNeAt.str_str a t0 x t
   |lst ys=>obtain⟨m,its,vs,g',rfl,pl,_,_⟩:=lsti r2 q2;cases h;exact RcNeAt.str_list a t0 pl hu0
   |tup ys=>obtain⟨m,its,vs,rfl,pl,_,_⟩:=tupi r2 q2;cases h;exact RcNeAt.str_tuple a t0 pl hu0
  |lst xs =>
   obtain⟨l,its,vs,g1,rfl,pl,rv,a2⟩:=lsti r1 q1;cases e with
   |dct _=>cases h
   |mpi _=>cases h
   |mpt _=>cases h
   |mpz _=>cases h
   |non=>obtain⟨rfl,rfl⟩:=r2.non_inv;cases q2;cases h;exact RcNeAt.list_none pl hu0
   |bl c=>obtain⟨rfl,rfl⟩:=r2.bl_inv;cases q2;cases h;exact RcNeAt.list_bool c pl hu0
   |int c=>obtain⟨rfl,rfl⟩:=r2.int_inv;obtain⟨t,rfl⟩:=q2;cases h;exact RcNeAt.list_int c t pl hu0
   |str c=>obtain⟨rfl,rfl⟩:=r2.str_inv;obtain⟨t,rfl⟩:=q2;cases h;exact RcNeAt.list_str c t pl hu0
   |lst ys =>
    obtain⟨m,its',ws,g2,rfl,pl',rv',b2⟩:=lsti r2 q2;have h:(if xs.length=ys.length then ma (D.eqf n) xs ys else some false)=some b:=h;by_cases hl:xs.length=ys.length
    ·rw[if_pos hl] at h;obtain⟨hz,ee,rfl,he⟩:=items a2 b2 rv rv' h;exact RcNeAt.lists pl pl' hz hu0 he
    ·rw[if_neg hl] at h;cases h;have hz:(its.toArray.size != its'.toArray.size)=true:=by
      have l1:=a2.len;have l2:=b2.len;have l3:=rv.length;have l4:=rv'.length;simp only[bne_iff_ne,ne_eq,List.size_toArray];omega
     exact RcNeAt.lists_lengths pl pl' hz hu0
   |tup ys=>obtain⟨m,its',ws,rfl,pl',_,_⟩:=tupi r2 q2;cases h;exact RcNeAt.list_tuple pl pl' hu0
  |tup xs =>
   obtain⟨l,its,vs,rfl,pl,rv,a2⟩:=tupi r1 q1;cases e with
   |dct _=>cases h
   |mpi _=>cases h
   |mpt _=>cases h
   |mpz _=>cases h
   |non=>obtain⟨rfl,rfl⟩:=r2.non_inv;cases q2;cases h;exact RcNeAt.tuple_none pl hu0
   |bl c=>obtain⟨rfl,rfl⟩:=r2.bl_inv;cases q2;cases h;exact RcNeAt.tuple_bool c pl hu0
   |int c=>obtain⟨rfl,rfl⟩:=r2.int_inv;obtain⟨t,rfl⟩:=q2;cases h;exact RcNeAt.tuple_int c t pl hu0
   |str c=>obtain⟨rfl,rfl⟩:=r2.str_inv;obtain⟨t,rfl⟩:=q2;cases h;exact RcNeAt.tuple_str c t pl hu0
   |lst ys=>obtain⟨m,its',ws,g2,rfl,pl',_,_⟩:=lsti r2 q2;cases h;exact RcNeAt.tuple_list pl pl' hu0
   |tup ys =>
    obtain⟨m,its',ws,rfl,pl',rv',b2⟩:=tupi r2 q2;have h:(if xs.length=ys.length then ma (D.eqf n) xs ys else none)=some b:=h;by_cases hl:xs.length=ys.length
    ·rw[if_pos hl] at h;obtain⟨hz,ee,rfl,he⟩:=items a2 b2 rv rv' h;have q:=RcNeAt.tuples (e:=ee) pl pl' hu0 he;rw[<-hz,Nat.min_self,en,Bool.and_true] at q;exact q
    ·rw[if_neg hl] at h;cases h
end
section
variable {X:Cx}
theorem fK {K:Frag}{H:Hp}{d:D}{v:V}{G:List Addr}(h:Rep K H d v G)(s:d.cM=true):fN v=true:=by
 cases h<;>simp_all [D.cM,fN]
theorem eN {K:Frag}{H:Hp}:∀{ds:List D}{vs:List V}{G:List Addr},aD K H ds vs G->ds.all D.cM=true->vs.all fN=true
 |_,_,_,.nil,_=>rfl
 | _,_,_,.cons h r,s=>by
  simp only[List.all_cons,Bool.and_eq_true] at s ⊢;exact⟨fK h s.1,eN r s.2⟩
theorem we {K:Frag}{H:Hp}{d e:D}{v w:V}{G G':List Addr}(h:Rep K H d v G)(h':Rep K H e w G')(s:d.cM=true)(s':e.cM=true):uY v w=D.eqs d e:=by
 cases h<;>first | (cases s;done) | (cases h'<;>first | (cases s';done) | rfl | simp[uY,D.eqs])
theorem jo {K:Frag}{H:Hp}{x:D}{w:V}{G0:List Addr}(hx:Rep K H x w G0)(sx:x.cM=true):∀{ds:List D}{vs:List V}{G:List Addr},aD K H ds vs G->ds.all D.cM=true->inV w vs=ds.any fun y=>D.eqs y x
 |_,_,_,.nil,_=>rfl
 | _,_,_,.cons h r,s=>by
  simp only[List.all_cons,Bool.and_eq_true] at s;have ih:=jo hx sx r s.2;unfold inV at ih ⊢;rw[dz,dz,ih,we h hx s.1 sx]
theorem gG.any {K:Frag}{H:Hp}(n:Int):∀{q:List (Int×MV)}{x:List (Key×V)},gG K H q x->(x.any fun kv=>decide (kv.1=Sum.inl n))=q.any fun kv=>decide (kv.1=n)
 |[],[],_=>rfl
 | (k,m)::q,p::x,⟨a,_,c⟩=>by
  rw[dz,dz,c.any n,a];congr 1;exact decide_eq_decide.mpr ⟨fun e=>by injection e,fun e=>by rw[e]⟩
 |[],_::_,h=>h.elim
 |_::_,[],h=>h.elim
theorem gG.val {K:Frag}{H:Hp}(n:Int):∀{q:List (Int×MV)}{x:List (Key×V)}{e:Int×MV},gG K H q x->(q.find? fun kv=>decide (kv.1=n))=some e->∃ v,gL x (.inl n)=some v/\nO K H e.2 v
 |[],[],_,_,h=>by cases h
 | (k,m)::q,p::x,e,⟨a,b,c⟩,h=>by
  by_cases hk:k=n
  ·rw[List.find?_cons_of_pos (by simpa using hk)] at h;cases h;exact⟨p.2,hU (by rw[a,hk]),b⟩
  ·rw[List.find?_cons_of_neg (by simpa using hk)] at h;rw[hV (by rw[a];exact fun z=>hk (by injection z))];exact c.val n h
 |[],_::_,_,h,_=>h.elim
 |_::_,[],_,h,_=>h.elim
theorem iM {K:Frag}{H:Hp}:∀ ks:List Int,aD K H (ks.map D.int) (ks.map V.int) []
 |[]=>.nil
 |k::ks=>.cons (G:=[]) (G':=[]) (.int k) (iM ks)
theorem nO.rep {K:Frag}{H:Hp}:∀{m:MV}{v:V},nO K H m v->Rep K H (Bl m) v []
 |.tr,_,h=>by cases h;exact .bl true
 |.int i,_,h=>by cases h;exact .int i
 |.tup is,_,⟨b,e,h⟩=>by subst e;exact .tup h (iM is)
theorem jV:∀{a b:List Int},(a.map Sum.inl:List Key)=b.map Sum.inl->a=b
 |[],[],_=>rfl
 |[],_::_,e=>by simp at e
 |_::_,[],e=>by simp at e
 | x::xs,y::ys,e=>by
  rw[aw,aw] at e;injection e with e1 e2
  rw[Sum.inl.inj e1,jV e2]
theorem qg (n:List Int):∀ ks:List (List Int),((wx ks).any fun kv=>decide (kv.1=n.map Sum.inl))=ks.contains n
 |[]=>rfl
 | k::ks=>by
  show (decide ((k.map Sum.inl:List Key)=n.map Sum.inl) || (wx ks).any fun kv=>decide (kv.1=n.map Sum.inl))=_;rw[qg n ks,List.contains_cons];congr 1;by_cases e:k=n
  ·subst e;simp
  ·rw[ay (fun z=>e (jV z)),beq_eq_false_iff_ne.mpr (dh e)]
theorem qm {K:Frag}{H:Hp}{i j:Int}{vs:List V}{G:List Addr}(h:aD K H [.int i,.int j] vs G):vs=[.int i,.int j]/\G=[]:=by
 cases h with
 |cons h r=>cases r with
  |cons h' r' =>
   cases r';obtain⟨rfl,rfl⟩:=h.int_inv;obtain⟨rfl,rfl⟩:=h'.int_inv;exact⟨rfl,rfl⟩
theorem tM {pins:List (Addr×Obj)}{σ:L2.St}{H:Hp}{s:Shared}{a:Addr}{ks:List Key}(I:Inv X pins σ H s)(h:gH X.K H a (ks.map kV)):(tupleKind (aI X.prog X.w)).is s.heap ks a:=by
 obtain⟨its,r,⟨o,h1,h2,n,h3⟩,_⟩:=I.tuple h;exact⟨o,its.toArray,n,h1,h2,h3,by simpa using iR r⟩
noncomputable def vV:Option Int->V
 |none=>.non
 |some i=>.int i
theorem o9 {K:Frag}{H:Hp}:∀ z:Option Int,Rep K H (Cz z) (vV z) []
 |none=>.non
 |some i=>.int i
theorem sY (q:Key×Option Int)(kvs:List (Key×Option Int))(k:Key):nN (q::kvs) k=if q.1=k then some q.2 else nN kvs k:=by
 unfold nN;rw[List.find?_cons];by_cases h:q.1=k
 ·rw[bu h,if_pos h];rfl
 ·rw[ay h,if_neg h]
theorem lP (q:Key×Value)(kvs:List (Key×Value))(k:Key):valueAt (q::kvs) k=if q.1=k then some q.2 else valueAt kvs k:=by
 unfold valueAt;rw[List.find?_cons];by_cases h:q.1=k
 ·rw[bu h,if_pos h];rfl
 ·rw[ay h,if_neg h]
theorem eV.pairs {P:Program}{w:World}:∀{es:List DictEntry}{kvs:List (Key×Option Int)},eV es kvs->(∀ e∈es,∀ s t,e.key = .str s t->e.hash=hashStr w s)->∃ vs:List (Key×Value),Pairs (aI P w) es vs/\vs.map (·.1)=kvs.map (·.1) /\
  (∀ k,(∀ z,nN kvs k=some z->∃ u,RelV (vV z) u/\valueAt vs k=some u)/\(valueAt vs k).isSome=(nN kvs k).isSome)/\(∀ e∈es,∃ k,(aI P w).is k e.key=true/\e.hash=(aI P w).hash k):=by
 have step:∀{e:DictEntry}{es:List DictEntry}{k:Key}{z:Option Int}{kvs:List (Key×Option Int)}{u:Value},(aI P w).is k e.key=true->e.hash=(aI P w).hash k->e.val=u->RelV (vV z) u ->
   (∃ vs:List (Key×Value),Pairs (aI P w) es vs/\vs.map (·.1)=kvs.map (·.1)/\(∀ k,(∀ z,nN kvs k=some z->∃ u,RelV (vV z) u/\valueAt vs k=some u)/\(valueAt vs k).isSome=(nN kvs k).isSome)/\(∀ e∈es,∃ k,(aI P w).is k e.key=true/\e.hash=(aI P w).hash k)) ->
   ∃ vs:List (Key×Value),Pairs (aI P w) (e::es) vs/\vs.map (·.1)=((k,z)::kvs).map (·.1)/\(∀ k',(∀ z',nN ((k,z)::kvs) k'=some z'->∃ u,RelV (vV z') u/\valueAt vs k'=some u)/\(valueAt vs k').isSome=(nN ((k,z)::kvs) k').isSome)/\(∀ e'∈e::es,∃ k,(aI P w).is k e'.key=true/\e'.hash=(aI P w).hash k):=by
  intro e es k z kvs u hk hh hv hr ⟨vs,p1,p2,p3,p4⟩;refine⟨(k,u)::vs,.cons hk hv p1,by rw[aw,aw,p2],fun k'=>?_,fun e' he=>?_⟩
  ·rw[sY,lP];by_cases h:k=k'
   ·rw[if_pos h,if_pos h];exact⟨fun z' q=>by cases q;exact⟨u,hr,rfl⟩,rfl⟩
   ·rw[if_neg h,if_neg h];exact p3 k'
  ·rcases ft.mp he with rfl | he
   ·exact⟨k,hk,hh⟩
   ·exact p4 e' he
 intro es kvs h
 induction h with
 |nil=>exact fun _=>⟨[],.nil,rfl,fun k=>⟨fun z h=>(by cases h),rfl⟩,fun _ h=>(nomatch h)⟩
 |@cons e es k v kvs t u hh hk hv r ih=>exact fun hs=>step (by rw[hk];exact cW P w k t) hh hv ⟨u,rfl⟩ (ih fun e he=>hs e (ae _ he))
 |@si e es k v kvs t u hk hv r ih=>exact fun hs=>step (by rw[hk];exact cH P w k t) (hs e ao k t hk) hv ⟨u,rfl⟩ (ih fun e he=>hs e (ae _ he))
 |@sn e es k kvs t hk hv r ih=>exact fun hs=>step (by rw[hk];exact cH P w k t) (hs e ao k t hk) hv (show RelV .non .none from rfl) (ih fun e he=>hs e (ae _ he))
theorem nP {pins:List (Addr×Obj)}{σ:L2.St}{H:Hp}{s:Shared}(hx:uX X.w X.K)(I:Inv X pins σ H s){p:Addr}{kvs:List (Key×Option Int)}(h:n6 X.K p kvs):∃ vs,s.heap.DictOf (aI X.prog X.w) p vs /\
  (∀ k,(∀ z,nN kvs k=some z->∃ u,RelV (vV z) u/\valueAt vs k=some u)/\(valueAt vs k).isSome=(nN kvs k).isSome)/\(∀ z v r,kvs=(.inr z,v)::r->(p==sysModules)=false):=by
 obtain⟨o,es,ep,h1,h2,h3,h4,h5⟩:=h;obtain⟨vs,p1,p2,p3,p4⟩:=h4.pairs (P:=X.prog) (w:=X.w) fun e he s t q=>(hx p o es ep h1 h3 kvs h4 e he s t q).2
 refine⟨vs,⟨o,es,ep,I.kIn _ o h1,h2,h3,fun e he=>p4 e (by simpa using he),p1,by rw[p2];exact h5⟩,p3,fun z v r q=>?_⟩;subst q;cases hl:es.toList with
 |nil=>rw[hl] at h4;cases h4
 |cons e l =>
  have hm:e∈es.toList:=by rw[hl];exact ao
  have hk:∃ t,e.key = .str z t:=by
   rw[hl] at h4;cases h4 with
   |si hk hv r=>exact⟨_,hk⟩
   |sn hk hv r=>exact⟨_,hk⟩
  obtain⟨t,hk⟩:=hk;exact (hx p o es ep h1 h3 _ h4 e hm z t hk).1
theorem ui {A:Around}{E:Value->Shared->Prop}{pins:List (Addr×Obj)}{σ:L2.St}{H:Hp}{s:Shared}{d1:D}{kvs:List (Key×Option Int)}{x y:V}{v u:Value}{G1 G2:List Addr}{b:Bool}{Q:Value->Shared->Prop}(hx:uX X.w X.K)(I:Inv X pins σ H s)(r1:Rep X.K H d1 x G1)(r2:Rep X.K H (.dct kvs) y G2)(rx:RelV x v)(ry:RelV y u)(hb:inD d1 (.dct kvs)=some b) :
  ((∀ s',Inv X pins σ H s'->Q (.bool b) s')->wpAny (model X.prog X.w) A (compareOp .In v u) Q E s)/\((∀ s',Inv X pins σ H s'->Q (.bool (!b)) s')->wpAny (model X.prog X.w) A (compareOp .NotIn v u) Q E s):=by
 cases r2 with
 |@dct p _ hp =>
  match kvs,hb,hp with
  | (.inr z,q)::r,hb,hp =>
   cases d1 with
   |str w =>
    cases hb;obtain⟨rfl,rfl⟩:=r1.str_inv;cases ry;obtain⟨t,rfl⟩:=rx;obtain⟨vs,dd,p3,p5⟩:=nP hx I hp;have e:=(p3 (.inr w)).2;refine⟨fun h=>wpAny_in_of (cH X.prog X.w w t) (p5 z q r rfl) dd.mapOf ?_,fun h=>wpAny_notIn_of (cH X.prog X.w w t) (p5 z q r rfl) dd.mapOf ?_⟩
    ·rw[e];exact h _ (I.tok _)
    ·rw[e];exact h _ (I.tok _)
   |_=>cases hb
noncomputable def isMp:D->Bool
 |.mpi _=>true
 |.mpt _=>true
 |.mpz _=>true
 |_=>false
theorem fW {A:Around}{E:Value->Shared->Prop}{pins:List (Addr×Obj)}{σ:L2.St}{H:Hp}{s:Shared}{d1 d2:D}{x y:V}{v u:Value}{G1 G2:List Addr}{b:Bool}{Q:Value->Shared->Prop}(hu:A.units+1<cLine)(I:Inv X pins σ H s)(r1:Rep X.K H d1 x G1)(r2:Rep X.K H d2 y G2)(rx:RelV x v)(ry:RelV y u)(hm:isMp d2=true)(hb:inD d1 d2=some b) :
  ((∀ s',Inv X pins σ H s'->Q (.bool b) s')->wpAny (model X.prog X.w) A (compareOp .In v u) Q E s)/\((∀ s',Inv X pins σ H s'->Q (.bool (!b)) s')->wpAny (model X.prog X.w) A (compareOp .NotIn v u) Q E s):=by
 cases r2 with
 |@mpi p ks xs hr kr =>
  have inv:(∃ k,d1 = .int k/\b=ks.any fun q=>decide (q.1=k))\/∃ i j,d1 = .tup [.int i,.int j]/\ks=[]/\b=false:=by
   cases d1 with
   |int k=>cases hb;exact .inl ⟨_,rfl,rfl⟩
   |tup ts =>
    obtain⟨i,j,rfl⟩:∃ i j,ts=[.int i,.int j]:=by
     cases ts with
     |nil=>cases hb
     |cons a r=>cases a with
      |int i=>cases r with
       |nil=>cases hb
       |cons c q=>cases c with
        |int j=>cases q with
         |nil=>exact⟨i,j,rfl⟩
         |cons _ _=>cases hb
        |_=>cases hb
      |_=>cases hb
    have hb:(if ks.isEmpty then some false else none)=some b:=hb;by_cases he:ks.isEmpty=true
    ·rw[if_pos he] at hb;cases hb;exact .inr ⟨_,_,rfl,List.isEmpty_iff.mp he,rfl⟩
    ·rw[if_neg he] at hb;cases hb
   |_=>cases hb
  rcases inv with ⟨k,rfl,rfl⟩ | ⟨i,j,rfl,rfl,rfl⟩
  ·obtain⟨rfl,rfl⟩:=r1.int_inv;obtain rfl:u = .ref p:=ry;have g:wg H p (.int k) (gL xs (.inl k)):=.inl ⟨xs,.inl k,.inl hr,rfl,rfl⟩;have e:(gL xs (.inl k)).isSome=ks.any fun q=>decide (q.1=k):=by rw[<-ir,kr.any]
   exact⟨fun h=>Ce hu I g rx (by rw[e];exact h),fun h=>oY hu I g rx (by rw[e];exact h)⟩
  ·obtain⟨q,vs,rfl,a1,a2⟩:=r1.tup_inv;obtain⟨rfl,rfl⟩:=qm a2;obtain rfl:u = .ref p:=ry;obtain rfl:v = .ref q:=rx;cases xs with
   |cons _ _=>exact kr.elim
   |nil =>
   obtain⟨z,hd,vs,rel,o,es,ep,h1,h2,h3,h4,h5,h6⟩:=i0 I.hok (.inl hr);cases rel;have hes:es.toList=[]:=by
    cases q:es.toList with
    |nil=>rfl
    |cons x r=>rw[q] at h5;cases h5
   have dd:s.heap.DictOfH (tupleKind (aI X.prog X.w)) p []:=⟨o,es,ep,h1,h2,h3,hes,fun x hx=>(nomatch hx),bw⟩;have ky:(tupleKind (aI X.prog X.w)).is s.heap ([i,j].map Sum.inl) q:=tM I a1;exact⟨fun h=>wpAny_in_heap (tupleKind_room_in1 hu) ky hd dd (h _ (I.tok _)),fun h=>wpAny_notIn_heap (tupleKind_room_in1 hu) ky hd dd (h _ (I.tok _))⟩
 |@mpz p ks xs ob hr kr =>
  have inv:∃ k,d1 = .int k/\b=ks.any fun q=>decide (q.1=k):=by
   cases d1 with
   |int k=>cases hb;exact⟨_,rfl,rfl⟩
   |_=>cases hb
  obtain⟨k,rfl,rfl⟩:=inv;obtain⟨rfl,rfl⟩:=r1.int_inv;obtain rfl:u = .ref p:=ry;have g:wg H p (.int k) (gL xs (.inl k)):=.inl ⟨xs,.inl k,.inr ⟨_,hr⟩,rfl,rfl⟩;have e:(gL xs (.inl k)).isSome=ks.any fun q=>decide (q.1=k):=by rw[<-ir,kr.any]
  exact⟨fun h=>Ce hu I g rx (by rw[e];exact h),fun h=>oY hu I g rx (by rw[e];exact h)⟩
 |@mpt p ks hr =>
  have inv:∃ i j,d1 = .tup [.int i,.int j]/\b=ks.contains [i,j]:=by
   cases d1 with
   |tup ts=>cases ts with
     |nil=>cases hb
     |cons a r=>cases a with
      |int i=>cases r with
       |nil=>cases hb
       |cons c q=>cases c with
        |int j=>cases q with
         |nil=>cases hb;exact⟨i,j,rfl,rfl⟩
         |cons _ _=>cases hb
        |_=>cases hb
      |_=>cases hb
   |_=>cases hb
  obtain⟨i,j,rfl,rfl⟩:=inv;obtain⟨q,vs,rfl,a1,a2⟩:=r1.tup_inv;obtain⟨rfl,rfl⟩:=qm a2;obtain rfl:u = .ref p:=ry;obtain rfl:v = .ref q:=rx;obtain⟨z,hd,xs,rel,dd⟩:=p7 I.hok hr;have ky:(tupleKind (aI X.prog X.w)).is s.heap ([i,j].map Sum.inl) q:=tM I a1;have e:ks.contains [i,j]=((atKey xs ([i,j].map Sum.inl))).isSome:=by
   have e1:=(rel.val ([i,j].map Sum.inl)).isSome_eq;rw[Option.isSome_map] at e1;rw[<-e1,<-ir,qg]
  refine⟨fun h=>wpAny_in_heap (tupleKind_room_in1 hu) ky hd dd ?_,fun h=>wpAny_notIn_heap (tupleKind_room_in1 hu) ky hd dd ?_⟩
  ·rw[<-e];exact h _ (I.tok _)
  ·rw[<-e];exact h _ (I.tok _)
 |_=>cases hm
theorem fY:∀{xs:List D}{k:List Int},dR xs=some k->xs=k.map D.int
 |[],k,h=>by cases h;rfl
 | .int i::r,k,h=>by
  have h:(dR r).map (i :: ·)=some k:=h;rw[aa] at h;obtain⟨k',h1,rfl⟩:=h;rw[fY h1];rfl
theorem jk {K:Frag}{H:Hp}:∀{ns:List Int}{vs:List V}{G:List Addr}{us:List Value},aD K H (ns.map D.int) vs G->aH vs us->IntsAre us ns
 |[],_,_,_,.nil,.nil=>.nil
 | n::ns,_,_,_,.cons h r,.cons x y=>by
  obtain⟨rfl,_⟩:=h.int_inv;obtain⟨t,rfl⟩:=x;exact .cons _ _ (jk r y)
theorem pO (op:CmpOp)(hx:X.A.units+40<cLine/\uX X.w X.K):eO X (compareOp op) (vh X.K fun x y=>(mq op x y).map .bl):=by
 have hu:=hx.1;intro pins s σ H x y v u Q I rx ry h;obtain⟨d1,d2,d,G,rs,hd,k⟩:=h;obtain⟨G1,G2,r1,r2,rfl⟩:=rs.inv2;rw[aa] at hd;obtain⟨b,hb,rfl⟩:=hd;have fin:Q (.bl b) H:=k _ H [] (.bl b) fJ.nil;have ep:∀ c,c=b->EP X pins σ Q (.bool c) s:=fun c e=>⟨.bl b,H,I,by rw[e];rfl,fin⟩
 have onInts:∀{f:Int->Int->Bool},(∀ i j,mq op (.int i) (.int j)=some (f i j))->(∀ d1 d2,(∀ i j,¬ (d1 = .int i/\d2 = .int j))->mq op d1 d2=none)->eO X (compareOp op) (oZ fun i j=>.bl (f i j))->wpAny (model X.prog X.w) X.A (compareOp op v u) (EP X pins σ Q) X.xe s:=by
  intro f h1 h2 ho;by_cases hi:∃ i j,d1 = .int i/\d2 = .int j
  ·obtain⟨i,j,rfl,rfl⟩:=hi;rw[h1] at hb;cases hb;obtain⟨rfl,rfl⟩:=r1.int_inv;obtain⟨rfl,rfl⟩:=r2.int_inv;exact ho pins s σ H _ _ v u Q I rx ry ⟨i,j,rfl,rfl,fin⟩
  ·rw[h2 d1 d2 fun i j z=>hi ⟨i,j,z⟩] at hb;cases hb
 have nope:∀(op:CmpOp),(op = .Gt\/op = .GtE)->∀ d1 d2:D,(∀ i j,¬ (d1 = .int i/\d2 = .int j))->mq op d1 d2=none:=by
  intro op ho d1 d2 hn;cases d1 with
  |int i =>
   cases d2 with
   |int j=>exact absurd ⟨rfl,rfl⟩ (hn i j)
   |_=>rcases ho with rfl | rfl<;>rfl
  |_=>rcases ho with rfl | rfl<;>rfl
 cases op with
 |Lt =>
  cases d1 with
  |int i =>
   cases d2 with
   |int j =>
    cases hb;obtain⟨rfl,rfl⟩:=r1.int_inv;obtain⟨rfl,rfl⟩:=r2.int_inv;exact Bf pins s σ H _ _ v u Q I rx ry ⟨i,j,rfl,rfl,fin⟩
   |_=>cases hb
  |tup xs =>
   cases d2 with
   |tup ys=>exact xO I 39 X.A _ _ _ _ _ _ _ _ _ (by omega) r1 r2 rx ry hb _ _ _ _ (ep _ rfl)
   |_=>cases hb
  |_=>cases hb
 |LtE =>
  cases d1 with
  |int i =>
   cases d2 with
   |int j =>
    cases hb;obtain⟨rfl,rfl⟩:=r1.int_inv;obtain⟨rfl,rfl⟩:=r2.int_inv;exact Cq pins s σ H _ _ v u Q I rx ry ⟨i,j,rfl,rfl,fin⟩
   |_=>cases hb
  |tup xs =>
   cases d2 with
   |tup ys =>
    have hb:((dR xs).bind fun a=>(dR ys).map fun b=>jA a b)=some b:=hb;rw[ab] at hb;obtain⟨ks,h1,hb⟩:=hb;rw[aa] at hb;obtain⟨ls,h2,rfl⟩:=hb;obtain rfl:=fY h1;obtain rfl:=fY h2;obtain⟨p,vs,rfl,a1,a2⟩:=r1.tup_inv;obtain⟨q,ws,rfl,b1,b2⟩:=r2.tup_inv;cases rx;cases ry;obtain⟨its,rv,p1,_⟩:=I.tuple a1;obtain⟨its2,rv2,p2,_⟩:=I.tuple b1;exact wV p1 p2 (jk a2 (by simpa using rv)) (jk b2 (by simpa using rv2)) (by omega) (ep _ rfl)
   |_=>cases hb
  |_=>cases hb
 |Gt=>exact onInts (fun _ _=>rfl) (nope .Gt (.inl rfl)) A5
 |GtE=>exact onInts (fun _ _=>rfl) (nope .GtE (.inr rfl)) A7
 |Eq =>
  have hb:D.eqf 40 d1 d2=some b:=hb;exact (o6 I 40 X.A d1 d2 x y G1 G2 v u b hu r1 r2 rx ry hb).1 _ _ _ _ (ep b rfl)
 |NotEq =>
  have hb:(D.eqf 40 d1 d2).map (!·)=some b:=hb;rw[aa] at hb;obtain⟨c,hc,rfl⟩:=hb;exact A1 I 40 X.A d1 d2 x y G1 G2 v u c hu r1 r2 rx ry hc _ _ _ _ (ep _ rfl)
 |Is =>
  cases d2 with
  |non =>
   obtain⟨rfl,rfl⟩:=r2.non_inv;refine Ai pins s σ H _ _ v u Q I rx ry ⟨rfl,?_⟩;have hb:some (kN d1)=some b:=hb;cases hb;have:decide (x=V.non)=kN d1:=by
    cases r1<;>rfl
   rw[this];exact fin
  |bl c =>
   cases d1 with
   |bl a =>
    cases hb;obtain⟨rfl,rfl⟩:=r1.bl_inv;obtain⟨rfl,rfl⟩:=r2.bl_inv;cases rx;cases ry;exact wpAny_is_plain rfl (ep _ (by cases a<;>cases c<;>rfl))
   |_=>cases hb
  |_=>cases hb
 |IsNot =>
  cases d2 with
  |non =>
   obtain⟨rfl,rfl⟩:=r2.non_inv;refine wq pins s σ H _ _ v u Q I rx ry ⟨rfl,?_⟩;have hb:some (!kN d1)=some b:=hb;cases hb;have:(!decide (x=V.non)) = !kN d1:=by
    cases r1<;>rfl
   rw[this];exact fin
  |bl c =>
   cases d1 with
   |bl a =>
    cases hb;obtain⟨rfl,rfl⟩:=r1.bl_inv;obtain⟨rfl,rfl⟩:=r2.bl_inv;cases rx;cases ry;exact wpAny_isNot_plain rfl (ep _ (by cases a<;>cases c<;>rfl))
   |_=>cases hb
  |_=>cases hb
 |In =>
  have hb:inD d1 d2=some b:=hb;cases d2 with
  |lst ys =>
   have hb:(if d1.cM&&ys.all D.cM then some (ys.any fun y=>D.eqs y d1) else none)=some b:=hb;by_cases hc:(d1.cM&&ys.all D.cM)=true
   ·rw[if_pos hc] at hb;cases hb;rw[aj] at hc;obtain⟨p,vs,g,rfl,rfl,a1,a2⟩:=r2.lst_inv;refine kq pins s σ H _ _ v u Q I rx ry ⟨p,vs,rfl,.inl (.inl a1),fK r1 hc.1,eN a2 hc.2,?_⟩;rw[jo r1 hc.1 a2 hc.2];exact fin
   ·rw[if_neg hc] at hb;cases hb
  |tup ys =>
   have hb:(if d1.cM&&ys.all D.cM then some (ys.any fun y=>D.eqs y d1) else none)=some b:=hb;by_cases hc:(d1.cM&&ys.all D.cM)=true
   ·rw[if_pos hc] at hb;cases hb;rw[aj] at hc;obtain⟨p,vs,rfl,a1,a2⟩:=r2.tup_inv;refine kq pins s σ H _ _ v u Q I rx ry ⟨p,vs,rfl,.inr a1,fK r1 hc.1,eN a2 hc.2,?_⟩;rw[jo r1 hc.1 a2 hc.2];exact fin
   ·rw[if_neg hc] at hb;cases hb
  |str z =>
   cases d1 with
   |str w =>
    cases hb;obtain⟨rfl,rfl⟩:=r1.str_inv;obtain⟨rfl,rfl⟩:=r2.str_inv;exact qV pins s σ H _ _ v u Q I rx ry ⟨w,z,rfl,rfl,fin⟩
   |_=>cases hb
  |mpi ks=>exact (fW (by omega) I r1 r2 rx ry rfl hb).1 fun s' I'=>⟨.bl b,H,I',rfl,fin⟩
  |dct kvs=>exact (ui hx.2 I r1 r2 rx ry hb).1 fun s' I'=>⟨.bl b,H,I',rfl,fin⟩
  |mpt ks=>exact (fW (by omega) I r1 r2 rx ry rfl hb).1 fun s' I'=>⟨.bl b,H,I',rfl,fin⟩
  |mpz ks=>exact (fW (by omega) I r1 r2 rx ry rfl hb).1 fun s' I'=>⟨.bl b,H,I',rfl,fin⟩
  |_=>cases hb
 |NotIn =>
  have hb:(inD d1 d2).map (!·)=some b:=hb;rw[aa] at hb;obtain⟨c,hi,rfl⟩:=hb;clear hb;cases d2 with
  |lst ys =>
   have hi:(if d1.cM&&ys.all D.cM then some (ys.any fun y=>D.eqs y d1) else none)=some c:=hi;by_cases hc:(d1.cM&&ys.all D.cM)=true
   ·rw[if_pos hc] at hi;cases hi;rw[aj] at hc;obtain⟨p,vs,g,rfl,rfl,a1,a2⟩:=r2.lst_inv;refine iq pins s σ H _ _ v u Q I rx ry ⟨p,vs,rfl,.inl (.inl a1),fK r1 hc.1,eN a2 hc.2,?_⟩;rw[jo r1 hc.1 a2 hc.2];exact fin
   ·rw[if_neg hc] at hi;cases hi
  |tup ys =>
   have hi:(if d1.cM&&ys.all D.cM then some (ys.any fun y=>D.eqs y d1) else none)=some c:=hi;by_cases hc:(d1.cM&&ys.all D.cM)=true
   ·rw[if_pos hc] at hi;cases hi;rw[aj] at hc;obtain⟨p,vs,rfl,a1,a2⟩:=r2.tup_inv;refine iq pins s σ H _ _ v u Q I rx ry ⟨p,vs,rfl,.inr a1,fK r1 hc.1,eN a2 hc.2,?_⟩;rw[jo r1 hc.1 a2 hc.2];exact fin
   ·rw[if_neg hc] at hi;cases hi
  |str z =>
   cases d1 with
   |str w =>
    cases hi;obtain⟨rfl,rfl⟩:=r1.str_inv;obtain⟨rfl,rfl⟩:=r2.str_inv;exact lK pins s σ H _ _ v u Q I rx ry ⟨w,z,rfl,rfl,fin⟩
   |_=>cases hi
  |mpi ks=>exact (fW (by omega) I r1 r2 rx ry rfl hi).2 fun s' I'=>⟨.bl _,H,I',rfl,fin⟩
  |dct kvs=>exact (ui hx.2 I r1 r2 rx ry hi).2 fun s' I'=>⟨.bl _,H,I',rfl,fin⟩
  |mpt ks=>exact (fW (by omega) I r1 r2 rx ry rfl hi).2 fun s' I'=>⟨.bl _,H,I',rfl,fin⟩
  |mpz ks=>exact (fW (by omega) I r1 r2 rx ry rfl hi).2 fun s' I'=>⟨.bl _,H,I',rfl,fin⟩
  |_=>cases hi
theorem rV (n:Nat)(i:Int):Pc.gE n i=L2.gE n i:=rfl
theorem vE (hx:uX X.w X.K):u0 X (Cc X.K):=by
 intro value slice pins s σ H x y v u Q I rx ry h hs;obtain⟨d1,d2,d,G,rs,hd,k⟩:=h;obtain⟨G1,G2,r1,r2,rfl⟩:=rs.inv2;cases d2 with
 |int i =>
  obtain⟨rfl,rfl⟩:=r2.int_inv;rw[ax] at k;have seq:∀{xs:List D}{vs:List V}{g:List Addr},aD X.K H xs vs g->((gE xs.length i).bind fun j=>xs[j]?)=some d->∃ w g',vT vs i=some w/\Rep X.K H d w g'/\g'.Sublist g:=fun {xs vs g} r e=>by
   rw[ab] at e;obtain⟨j,e1,e2⟩:=e;obtain⟨w,g',a,b,c⟩:=r.get e2;refine⟨w,g',?_,b,c⟩;unfold vT;rw[<-r.len,<-rV,e1];exact a
  cases d1 with
  |lst xs =>
   obtain⟨p,vs,g,rfl,rfl,a1,a2⟩:=r1.lst_inv;obtain⟨w,g',e1,e2,e3⟩:=seq a2 hd;exact qa value slice pins s σ H _ _ v u Q I rx ry ⟨p,vs,i,w,rfl,rfl,.inl a1,e1,k w g' e2 (e3.trans (List.sublist_cons_self _ _))⟩ hs
  |tup xs =>
   obtain⟨p,vs,rfl,a1,a2⟩:=r1.tup_inv;obtain⟨w,g',e1,e2,e3⟩:=seq a2 hd;exact rG value slice pins s σ H _ _ v u Q I rx ry ⟨p,vs,i,w,rfl,rfl,a1,e1,k w g' e2 e3⟩ hs
  |str z =>
   obtain⟨rfl,rfl⟩:=r1.str_inv;have hd:(if z.length<=lim then ((Pc.gE z.cps.toList.length i).bind fun j=>z.cps.toList[j]?).map (fun c=>D.str ⟨#[c]⟩) else none)=some d:=hd;by_cases hl:z.length<=lim
   ·rw[if_pos hl,aa] at hd;obtain⟨c,hc,rfl⟩:=hd;exact yY value slice pins s σ H _ _ v u Q I rx ry ⟨z,i,c,rfl,rfl,dN hl,hc,k _ [] (.str _) (gj _)⟩ hs
   ·rw[if_neg hl] at hd;cases hd
  |dct kvs =>
   cases r1 with
   |dct hp =>
    have hd:(nN kvs (Sum.inl i)).map Cz=some d:=hd;rw[aa] at hd;obtain⟨z,hz,rfl⟩:=hd;cases rx;obtain⟨t,rfl⟩:=ry;obtain⟨vs,dd,p3,_⟩:=nP hx I hp;obtain⟨u',ru,hu⟩:=(p3 (.inl i)).1 z hz;have fin:EP X pins σ Q u' { s with toks:=s.toks+1 }:=⟨vV z,H,I.tok _,ru,k _ [] (o9 z) (gj _)⟩;exact subscriptTail_builtinR (x:=u') dd.mapOf.typeIs slot_dict_getitem.lookup (wpAny_getItem_of (Q:=fun r s'=>r=u'/\EP X pins σ Q r s') (cW X.prog X.w i t) dd.mapOf hu ⟨rfl,fin⟩) hs
  |mpi ks =>
   cases r1 with
   |@mpi p _ xs hr kr =>
    have hd:(ks.find? fun q=>decide (q.1=i)).map (fun q=>Bl q.2)=some d:=hd;rw[aa] at hd;obtain⟨e,he,rfl⟩:=hd;obtain⟨v',hv',mr⟩:=kr.val i he;cases rx;obtain⟨t,rfl⟩:=ry;obtain⟨z,lo,vs,rel,dd⟩:=i0 I.hok (.inl hr);obtain⟨u',hu,ru⟩:∃ u',valueAt vs (.inl i)=some u'/\RelV v' u':=by
     have:=rel.val (.inl i);rw[hv'] at this;cases q:valueAt vs (.inl i) with
     |none=>rw[q] at this;exact this.elim
     |some u'=>rw[q] at this;exact⟨u',rfl,this⟩
    have fin:EP X pins σ Q u' { s with toks:=s.toks+1 }:=⟨v',H,I.tok _,ru,k _ [] mr.rep (gj _)⟩;exact subscriptTail_builtinR (x:=u') dd.mapOf.typeIs slot_dict_getitem.lookup (wpAny_getItem_of (Q:=fun r s'=>r=u'/\EP X pins σ Q r s') (cW X.prog X.w i t) dd.mapOf hu ⟨rfl,fin⟩) hs
  |mpz ks =>
   cases r1 with
   |@mpz p _ xs ob hr kr =>
    have hd:(ks.find? fun q=>decide (q.1=i)).map (fun q=>Bl q.2)=some d:=hd;rw[aa] at hd;obtain⟨e,he,rfl⟩:=hd;obtain⟨v',hv',mr⟩:=kr.val i he;cases rx;obtain⟨t,rfl⟩:=ry;obtain⟨z,lo,vs,rel,dd⟩:=i0 I.hok (.inr ⟨_,hr⟩);obtain⟨u',hu,ru⟩:∃ u',valueAt vs (.inl i)=some u'/\RelV v' u':=by
     have:=rel.val (.inl i);rw[hv'] at this;cases q:valueAt vs (.inl i) with
     |none=>rw[q] at this;exact this.elim
     |some u'=>rw[q] at this;exact⟨u',rfl,this⟩
    have fin:EP X pins σ Q u' { s with toks:=s.toks+1 }:=⟨v',H,I.tok _,ru,k _ [] mr.rep (gj _)⟩;exact subscriptTail_builtinR (x:=u') dd.mapOf.typeIs slot_dict_getitem.lookup (wpAny_getItem_of (Q:=fun r s'=>r=u'/\EP X pins σ Q r s') (cW X.prog X.w i t) dd.mapOf hu ⟨rfl,fin⟩) hs
  |_=>cases hd
 |str i =>
  obtain⟨rfl,rfl⟩:=r2.str_inv;rw[ax] at k;cases d1 with
  |dct kvs =>
   cases r1 with
   |dct hp =>
    have hd:(nN kvs (Sum.inr i)).map Cz=some d:=hd;rw[aa] at hd;obtain⟨z,hz,rfl⟩:=hd;cases rx;obtain⟨t,rfl⟩:=ry;obtain⟨vs,dd,p3,_⟩:=nP hx I hp;obtain⟨u',ru,hu⟩:=(p3 (.inr i)).1 z hz;have fin:EP X pins σ Q u' { s with toks:=s.toks+1 }:=⟨vV z,H,I.tok _,ru,k _ [] (o9 z) (gj _)⟩;exact subscriptTail_builtinR (x:=u') dd.mapOf.typeIs slot_dict_getitem.lookup (wpAny_getItem_of (Q:=fun r s'=>r=u'/\EP X pins σ Q r s') (cH X.prog X.w i t) dd.mapOf hu ⟨rfl,fin⟩) hs
  |_=>cases hd
 |_=>cases d1<;>cases hd
end
section
variable {X:Cx}{T:Tb}{a b c:Expr}{ca cb cc:Ex}{pos:Pos}
theorem yQ {i:Nat}{x:Str}(hN:X.N[i]? = some x)(hv:vI X.env.scope x)(hd:(x==("__debug__" : Str))=false) (hcd:(x==("__classdict__" : Str))=false):PE X (.Name x pos) (tE X.K T (.var i)):=by
 refine aZ (n5 hN hv hd hcd) fun σ H Q ⟨P,env,F,re,p,hev,k⟩=>?_
 unfold ev at hev;cases hs:env[i]? with
 |none=>rw[hs] at hev;cases hev
 |some o =>
  cases o with
  |none=>rw[hs] at hev;cases hev
  |some q =>
   obtain⟨d,t⟩:=q;rw[hs] at hev;simp only[Rs.ok.injEq] at hev;subst hev;obtain⟨v,e1,rp⟩:=re.val i d t hs;refine⟨v,e1,k v H (F i) (aE.refl _) rp ?_⟩;cases hf:d.flat with
   |true =>
    rw[rp.flat hf];exact bB.nil
   |false =>
    simp only[Bool.false_eq_true,if_false];have ow:aV t=true->bB env F H (.mv [i]) H (F i):=fun o=>by
     obtain⟨n1,n2,n3⟩:=re.one i d t hs o;refine⟨fun a ha=>.inr ⟨i,d,t,ha,hs,fun q hq=>by cases t<;>simp_all [aT,aV,Rt.roots]⟩,fun R e=>?_⟩;cases e;exact⟨n1,n2,fun a ha=>.inr ⟨i,d,t,by simp,ha,hs,o⟩⟩
    cases t with
    |own=>exact ow rfl
    |lk=>exact ow rfl
    |sh R=>exact⟨fun a ha=>.inr ⟨i,d,.sh R,ha,hs,fun q hq=>hq⟩,fun R' e=>by cases e⟩
theorem fQ {e:Expr}{d:D}{v:V}(h:PE X e (tC v))(hr:∀ H,Rep X.K H d v []):PE X e (tE X.K T (.cst d)):=by
 refine aZ h fun σ H Q ⟨P,env,F,re,p,hev,k⟩=>?_
 unfold ev at hev;cases hev;exact k v H [] (aE.refl _) (hr H) bB.nil
theorem yV {e:Expr}{i:Nat}{v:V}(h:PE X e (tC v))(hr:∀ H,Rep X.K H (T.gl i) v []):PE X e (tE X.K T (.glb i)):=by
 refine aZ h fun σ H Q ⟨P,env,F,re,p,hev,k⟩=>?_
 unfold ev at hev;cases hev;exact k v H [] (aE.refl _) (hr H) bB.nil
theorem Ad (ha:PE X a (tE X.K T ca)):PE X (.UnaryOp .USub a pos) (tE X.K T (.neg ca)):=by
 refine aZ (AY AK ha) fun σ H Q ⟨P,env,F,re,p,hev,k⟩=>?_
 unfold ev at hev;obtain⟨q,h1,hev⟩:=Rs.bind_ok hev;refine⟨P,env,F,re,q,h1,fun v H1 G s rp rt=>?_⟩;cases hq:q.1 with
 |int i =>
  rw[hq] at hev rp;cases hev;obtain⟨rfl,rfl⟩:=rp.int_inv;exact⟨i,rfl,k _ H1 [] s (.int _) bB.nil⟩
 |_=>rw[hq] at hev;cases hev
theorem zU {op:CmpOp}(hu:X.A.units+40<cLine/\uX X.w X.K)(ha:PE X a (tE X.K T ca))(hb:PE X b (tE X.K T cb))(hm:behindInMarks op b=false):PT X (.Compare a [op] [b] pos) (lR X.K T (.cmp op ca cb)):=by
 refine oP (vw (pO op hu) ha hb hm) fun σ H Q ⟨P,env,F,re,p0,bb,hev,ht,k⟩=>?_
 unfold ev at hev;obtain⟨p,h1,hev⟩:=Rs.bind_ok hev;obtain⟨q,h2,hev⟩:=Rs.bind_ok hev;obtain⟨d,h3,hev⟩:=Rs.bind_ok hev;have h3:=cC h3;cases hev;obtain rfl:d=bb:=bt ht;refine two re h1 h2 fun x y H2 G ar=>⟨p.1,q.1,.bl d,G,ar.reps,by simp[h3],fun v H' G' rp nv=>?_⟩
 obtain⟨rfl,_⟩:=rp.bl_inv;exact⟨d,rfl,k H' (ar.same.trans nv.same)⟩
variable {rest:List Expr}
theorem zA (ha:PE X a (tE X.K T ca))(hb:PE X (.BoolOp .And (b::rest) pos) (tE X.K T cb)):PE X (.BoolOp .And (a::b::rest) pos) (tE X.K T (.and ca cb)):=by
 refine aZ (Ah ha hb) fun σ H Q ⟨P,env,F,re,p,hev,k⟩=>?_
 unfold ev at hev;obtain⟨q,h1,hev⟩:=Rs.bind_ok hev;refine⟨P,env,F,re,q,h1,fun v H1 G s rp rt=>?_⟩;cases hq:q.1 with
 |bl kb =>
  rw[hq] at hev rp;obtain⟨rfl,rfl⟩:=rp.bl_inv;cases kb with
  |true=>exact⟨true,rfl,by rw[if_pos rfl];exact⟨P,env,F,re.same s,p,hev,fun v H' G s' rp' rt'=>k v H' G (s.trans s') rp' (rt'.back s)⟩⟩
  |false =>
   cases hev;exact⟨false,rfl,by rw[if_neg az];exact k _ H1 [] s (.bl _) bB.nil⟩
 |_=>rw[hq] at hev;cases hev
theorem BV (ha:PE X a (tE X.K T ca))(hb:PE X (.BoolOp .Or (b::rest) pos) (tE X.K T cb)):PE X (.BoolOp .Or (a::b::rest) pos) (tE X.K T (.or ca cb)):=by
 refine aZ (Bm ha hb) fun σ H Q ⟨P,env,F,re,p,hev,k⟩=>?_
 unfold ev at hev;obtain⟨q,h1,hev⟩:=Rs.bind_ok hev;refine⟨P,env,F,re,q,h1,fun v H1 G s rp rt=>?_⟩;cases hq:q.1 with
 |bl kb =>
  rw[hq] at hev rp;obtain⟨rfl,rfl⟩:=rp.bl_inv;cases kb with
  |false=>exact⟨false,rfl,by rw[if_neg az];exact⟨P,env,F,re.same s,p,hev,fun v H' G s' rp' rt'=>k v H' G (s.trans s') rp' (rt'.back s)⟩⟩
  |true =>
   cases hev;exact⟨true,rfl,by rw[if_pos rfl];exact k _ H1 [] s (.bl _) bB.nil⟩
 |_=>rw[hq] at hev;cases hev
theorem Aa (ha:PE X a (tE X.K T ca)):PE X (.UnaryOp .Not a pos) (tE X.K T (.not ca)):=by
 refine aZ (y9 ha) fun σ H Q ⟨P,env,F,re,p,hev,k⟩=>?_
 unfold ev at hev;obtain⟨q,h1,hev⟩:=Rs.bind_ok hev;refine⟨P,env,F,re,q,h1,fun v H1 G s rp rt=>?_⟩;cases hq:q.1 with
 |bl kb =>
  rw[hq] at hev rp;obtain⟨rfl,rfl⟩:=rp.bl_inv;cases hev;exact⟨kb,rfl,k _ H1 [] s (.bl _) bB.nil⟩
 |_=>rw[hq] at hev;cases hev
theorem As (ha:PT X a (lR X.K T ca))(hb:PW X (.BoolOp .And (b::rest) pos) (lR X.K T cb)):PW X (.BoolOp .And (a::b::rest) pos) (lR X.K T (.and ca cb)):=by
 intro wh pins s σ H Q I h;refine Ak ha hb wh pins s σ H Q I ?_;obtain⟨P,env,F,re,p,bb,hev,ht,k⟩:=h;unfold ev at hev;obtain⟨q,h1,hev⟩:=Rs.bind_ok hev;cases hq:q.1 with
 |bl kb =>
  rw[hq] at hev;cases kb with
  |true=>exact⟨P,env,F,re,q,true,h1,by rw[hq];rfl,fun H' s=>by show if true=true then _ else _;rw[if_pos rfl];exact⟨P,env,F,re.same s,p,bb,hev,ht,fun H2 s2=>k H2 (s.trans s2)⟩⟩
  |false =>
   cases hev;cases ht;exact⟨P,env,F,re,q,false,h1,by rw[hq];rfl,fun H' s=>by show if false=true then _ else _;rw[if_neg az];exact k H' s⟩
 |_=>rw[hq] at hev;cases hev
theorem Bw (ha:PT X a (lR X.K T ca))(hb:PW X (.BoolOp .Or (b::rest) pos) (lR X.K T cb)):PW X (.BoolOp .Or (a::b::rest) pos) (lR X.K T (.or ca cb)):=by
 intro wh pins s σ H Q I h;refine BM ha hb wh pins s σ H Q I ?_;obtain⟨P,env,F,re,p,bb,hev,ht,k⟩:=h;unfold ev at hev;obtain⟨q,h1,hev⟩:=Rs.bind_ok hev;cases hq:q.1 with
 |bl kb =>
  rw[hq] at hev;cases kb with
  |false=>exact⟨P,env,F,re,q,false,h1,by rw[hq];rfl,fun H' s=>by show if false=true then _ else _;rw[if_neg az];exact⟨P,env,F,re.same s,p,bb,hev,ht,fun H2 s2=>k H2 (s.trans s2)⟩⟩
  |true =>
   cases hev;cases ht;exact⟨P,env,F,re,q,true,h1,by rw[hq];rfl,fun H' s=>by show if true=true then _ else _;rw[if_pos rfl];exact k H' s⟩
 |_=>rw[hq] at hev;cases hev
theorem zu (ha:PT X a (lR X.K T ca)):PT X (.UnaryOp .Not a pos) (lR X.K T (.not ca)):=by
 refine oP (yq ha) fun σ H Q ⟨P,env,F,re,p,bb,hev,ht,k⟩=>?_
 unfold ev at hev;obtain⟨q,h1,hev⟩:=Rs.bind_ok hev;cases hq:q.1 with
 |bl kb =>
  rw[hq] at hev;cases hev;cases ht;exact⟨P,env,F,re,q,kb,h1,by rw[hq];rfl,fun H' s=>k H' s⟩
 |_=>rw[hq] at hev;cases hev
theorem wK {K:Frag}{H:Hp}{d:D}{v:V}{G:List Addr}{b:Bool}(rp:Rep K H d v G)(h:truth d=some b):z7 K v H b:=by
 cases rp with
 |dct _=>cases h
 |mpi _=>cases h
 |mpt _=>cases h
 |mpz _=>cases h
 |non=>cases h;rfl
 |bl c=>cases h;rfl
 |int i=>cases h;rfl
 |str z =>
  simp only[truth] at h;by_cases hl:z.length<=lim
  ·rw[if_pos hl] at h;cases h;exact⟨dN hl,rfl⟩
  ·rw[if_neg hl] at h;cases h
 |lst a r =>
  rename_i vs ds g;cases h;refine .inl ⟨vs,.inl a,?_⟩;have:=r.len;cases ds<;>cases vs<;>simp_all
 |tup a r =>
  rename_i vs ds;cases h;refine .inr (.inl ⟨vs,a.sq,?_⟩);have:=r.len;cases ds<;>cases vs<;>simp_all
theorem bR {e:Expr}(h:PE X e (tE X.K T ca))(he:∀ whole,isTrue e X.env whole=(do let v <- whole;standAt e.pos;holding [v] (truthy v))):PT X e (lR X.K T ca):=by
 refine oP (tw h he) fun σ H Q ⟨P,env,F,re,p,bb,hev,ht,k⟩=>?_
 exact⟨P,env,F,re,p,hev,fun v H' G s rp rt=>⟨bb,wK rp ht,k H' s⟩⟩
theorem zl (hc:PT X c (lR X.K T cc))(ha:PE X a (tE X.K T ca))(hb:PE X b (tE X.K T cb)):PE X (.IfExp c a b pos) (tE X.K T (.ite cc ca cb)):=by
 refine aZ (tu hc ha hb) fun σ H Q ⟨P,env,F,re,p,hev,k⟩=>?_
 unfold ev at hev;obtain⟨q,h1,hev⟩:=Rs.bind_ok hev;obtain⟨kb,h2,hev⟩:=Rs.bind_ok hev;refine⟨P,env,F,re,q,kb,h1,cC h2,fun H' s=>?_⟩;cases kb with
 |true=>rw[if_pos rfl];exact⟨P,env,F,re.same s,p,hev,fun v H2 G s' rp' rt'=>k v H2 G (s.trans s') rp' (rt'.back s)⟩
 |false=>rw[if_neg az];exact⟨P,env,F,re.same s,p,hev,fun v H2 G s' rp' rt'=>k v H2 G (s.trans s') rp' (rt'.back s)⟩
variable {es:List Expr}{cs:j5}
theorem uP:PA X [] (ue X.K T .nil):=by
 refine sj oF fun σ H Q ⟨P,env,F,re,l,hev,k⟩=>?_
 unfold bQ at hev;cases hev;exact k [] H [] (.nil (aE.refl _))
theorem o4 (ha:PE X a (tE X.K T ca))(hr:PA X es (ue X.K T cs))(hs:starEach (a::es) X.env=(false,eval a X.env)::starEach es X.env):PA X (a::es) (ue X.K T (.cons ca cs)):=by
 refine sj (i7 ha hr hs) fun σ H Q ⟨P,env,F,re,l,hev,k⟩=>?_
 unfold bQ at hev;obtain⟨p,h1,hev⟩:=Rs.bind_ok hev;obtain⟨q,h2,hev⟩:=Rs.bind_ok hev;cases hev;exact⟨P,env,F,re,p,h1,fun v H1 G s rp rt=>⟨P,env,F,re.same s,q,h2,fun vs H2 G' ar=>k (v::vs) H2 _ (.cons s rp rt ar)⟩⟩
theorem bB.addNew {env:En}{F:Nat->List Addr}{H H1:Hp}{r:Rt}{G:List Addr}{p:Addr}{vs:List V}(h:bB env F H r H1 G)(e:aE H H1)(hp:H1 p=none)(hl:∀ a∈G,H1 a≠none):bB env F H r (upd H1 p (.lst vs)) (p::G) where
 cont:=fun a ha=>by
  rcases ft.mp ha with rfl | ha
  ·exact .inl (aE.no e hp)
  ·exact h.cont a ha
 mv:=fun R hr=>by
  obtain⟨a,b,c⟩:=h.mv R hr;refine⟨List.nodup_cons.mpr ⟨fun z=>hl p z hp,a⟩,fun x hx=>?_,fun x hx=>?_⟩
  ·rcases ft.mp hx with rfl | hx
   ·exact⟨.l _,aJ⟩
   ·obtain⟨ws,q⟩:=b x hx;exact⟨ws,aE.new hp _ _ q⟩
  ·rcases ft.mp hx with rfl | hx
   ·exact .inl (aE.no e hp)
   ·exact c x hx
theorem Ay (h:PA X es (ue X.K T cs)):PE X (.List es pos) (tE X.K T (.lst cs)):=by
 refine aZ (tL h) fun σ H Q ⟨P,env,F,re,p,hev,k⟩=>?_
 unfold ev at hev;obtain⟨l,h1,hev⟩:=Rs.bind_ok hev;by_cases hl:l.length<=lim
 ·rw[if_pos hl] at hev;cases hev;refine⟨P,env,F,re,l,h1,fun vs H1 G ar=>?_⟩;have rs:=ar.reps;have hlen:=rs.len;rw[ak] at hlen;refine⟨by rw[<-hlen];exact dN hl,fun q hq=>?_⟩;have e:=aE.new (o:=.lst vs) hq;exact k _ _ (q::G) (ar.same.trans e) (.lst (.inl aJ) (rs.same e)) ((ar.comb re).addNew ar.same hq fun a ha=>rs.nn ha)
 ·rw[if_neg hl] at hev;cases hev
theorem Aj {x1:Nat}(h:PA X es (ue X.K T cs)):PE X (.Tuple es x1 pos) (tE X.K T (.tup cs)):=by
 refine aZ (zi h) fun σ H Q ⟨P,env,F,re,p,hev,k⟩=>?_
 unfold ev at hev;obtain⟨l,h1,hev⟩:=Rs.bind_ok hev;by_cases hl:l.length<=lim
 ·rw[if_pos hl] at hev;cases hev;refine⟨P,env,F,re,l,h1,fun vs H1 G ar=>?_⟩;have rs:=ar.reps;have hlen:=rs.len;rw[ak] at hlen;refine⟨by rw[<-hlen];exact dN hl,fun q hq=>?_⟩;have e:=aE.new (o:=.tup vs) hq;exact k _ _ G (ar.same.trans e) (.tup (.inl aJ) (rs.same e)) ((ar.comb re).later e)
 ·rw[if_neg hl] at hev;cases hev
def An (K:Frag)(n:Nat)(f:List D->Rs (D×Bool)):Sp:=fun vs H Q E=>∃ ds G,ds.length=n/\aD K H ds vs G/\∃ r,f ds = .ok r/\∀ v H' G',aE H H'->Rep K H' r.1 v G'->(∀ a∈G',H a=none\/a∈G)->(r.2=true->G'.Nodup/\∀ a∈G',H a=none/\∃ vs:ML,H' a=some vs.o)->Q v H'
theorem o8 {K:Frag}{n:Nat}{f:List D->Rs (D×Bool)}{vs:List V}{H:Hp}{Q:VK}{E:XK}(h:An K n f vs H Q E):vs.length=n:=by
 obtain⟨ds,G,h1,h2,_⟩:=h;rw[<-h1,h2.len]
theorem lp {f:Nat}{n:Nat}{σ:L2.St}{H:Hp}{Q:VK}(hn:∀ ds r,T.cl f ds = .ok r->ds.length=n)(h:tE X.K T (.call f cs) σ H Q):uo (An X.K n (T.cl f)) [] E0 (ue X.K T cs) σ H Q:=by
 obtain⟨P,env,F,re,p,hev,k⟩:=h;unfold ev at hev;obtain⟨l,h1,hev⟩:=Rs.bind_ok hev;obtain⟨r,h2,hev⟩:=Rs.bind_ok hev;cases hev;refine⟨P,env,F,re,l,h1,fun vs H1 G ar=>?_⟩;show An X.K n (T.cl f) (vs ++ []) H1 Q E0;rw[ax];refine⟨l.map (·.1),G,hn _ _ h2,ar.reps,r,h2,fun v H' G' s rp sub fr=>k v H' G' (ar.same.trans s) rp ?_⟩;cases hr:r.2 with
 |true =>
  obtain⟨a,b⟩:=fr hr;have c:∀ x∈G',H x=none:=fun x hx=>aE.no ar.same (b x hx).1
  exact⟨fun x hx=>.inl (c x hx),fun R e=>⟨a,fun x hx=>(b x hx).2,fun x hx=>.inl (c x hx)⟩⟩
 |false =>
  refine⟨fun x hx=>?_,fun R e=>by cases e⟩;rcases sub x hx with q | q
  ·exact .inl (aE.no ar.same q)
  ·exact ar.cont x q
end
def oj (K:Frag)(b:yl):List V->Hp->VK->Prop:=fun xs H Q=>∃ ds d G,aD K H ds xs G/\jx b ds=some d/\∀ v H' G',Rep K H' d v G'->fJ H H' G d G'->Q v H'
section
variable {X:Cx}{T:Tb}
theorem m7 {b:yl}{cs:j5}{σ:L2.St}{H:Hp}{Q:VK}(h:tE X.K T (.blt b cs) σ H Q):tCB (oj X.K b) (ue X.K T cs) σ H Q:=by
 obtain⟨P,env,F,re,p,hev,k⟩:=h;unfold ev at hev;obtain⟨l,h1,hev⟩:=Rs.bind_ok hev;obtain⟨d,h2,hev⟩:=Rs.bind_ok hev;cases hev;exact⟨P,env,F,re,l,h1,fun vs H1 G ar=>⟨l.map (·.1),d,G,ar.reps,cC h2,fun v H' G' rp nv=>k v H' G' (ar.same.trans nv.same) rp (bB.new ar nv fun _ z=>z)⟩⟩
theorem aD.of1 {K:Frag}{H:Hp}{d:D}{xs:List V}{G:List Addr}(h:aD K H [d] xs G):∃ x,xs=[x]/\Rep K H d x G:=by
 cases h with
 |cons r s=>cases s;exact⟨_,rfl,by rw[ax];exact r⟩
theorem AI {prog:Program}{w:World}(d:Addr)(hd:(d==sysModules)=false):MeetsIn prog w (Builtin.«dict.__len__» ⟨[.ref d],[]⟩) (fun _ R s=>∃ o es ep,s.heap.get? d=some o/\o.ExactDict/\o.data = .dict es ep/\R (.ok (.ret (.int es.size s.toks))) { s with toks:=s.toks+1 }):=by
 intro A R s h;obtain⟨o,es,ep,h1,h2,h3,h⟩:=h;unfold Builtin.«dict.__len__»
 wp_walk
 rw[h3];unfold Builtin.Dict.pendingCount;rw[hd]
 wp_walk
 simpa using h
theorem rf:fE X (.builtin "len") (oj X.K .len):=by
 intro pins s σ H xs us Q I r h;obtain⟨ds,d,G,rs,hd,k⟩:=h
 match ds,hd with
 |[.lst ys],hd =>
  cases hd;obtain⟨x,rfl,rp⟩:=rs.of1;obtain⟨p,vs,g,rfl,rfl,a1,a2⟩:=rp.lst_inv;exact ik pins s σ H _ us Q I r ⟨p,vs,rfl,.inl (.inl a1),by rw[<-a2.len];exact k _ H [] (.int _) fJ.nil⟩
 |[.tup ys],hd =>
  cases hd;obtain⟨x,rfl,rp⟩:=rs.of1;obtain⟨p,vs,rfl,a1,a2⟩:=rp.tup_inv;exact ik pins s σ H _ us Q I r ⟨p,vs,rfl,.inr a1,by rw[<-a2.len];exact k _ H [] (.int _) fJ.nil⟩
 |[.str z],hd =>
  have hd:(if z.length<=lim then some (D.int (z.length:Int)) else none)=some d:=hd;by_cases hl:z.length<=lim
  ·rw[if_pos hl] at hd;cases hd;obtain⟨x,rfl,rp⟩:=rs.of1;obtain⟨rfl,rfl⟩:=rp.str_inv;exact l9 pins s σ H _ us Q I r ⟨z,rfl,dN hl,k _ H [] (.int _) fJ.nil⟩
  ·rw[if_neg hl] at hd;cases hd
 |[.mpt ks],hd =>
  cases hd;obtain⟨x,rfl,rp⟩:=rs.of1;obtain⟨u,rfl,rx⟩:=r.one;cases rp with
  |@mpt p _ hr =>
   obtain rfl:u = .ref p:=rx;obtain⟨z,lo,xs,rel,dd⟩:=p7 I.hok hr;have hty:=dd.typeIs;obtain⟨o,es,ep,h1,h2,h3,h4,_,_⟩:=dd;have hl:ks.length=es.size:=by
    have e1:=Paired.length rel;have e2:=gx List.length h4;unfold wx at e1;rw[ak] at e1 e2;rw[e1,<-e2,bc]
   have hz:ks.length<=sizeLine:=by
    unfold wx at z
    rwa [ak] at z
   rw[sizeLine_eq] at hz;refine call_len_slot (n:=(ks.length:Int)) hty PySem.F.slot_dict_len (fun Q' hQ'=>call_meetsIn PySem.F.slot_dict_len hty PySem.F.entry_dict_len (PySem.F.args_dict_len_1 _) (AI p lo) ⟨o,es,ep,h1,h2,h3,?_⟩) (by omega) (by omega) ⟨.int _,H,(I.tok _).tok _,⟨_,rfl⟩,k _ H [] (.int _) fJ.nil⟩;rw[<-hl];exact hQ'
theorem nu {pins:List (Addr×Obj)}{s:Shared}{σ:L2.St}{H:Hp}{xs:List V}{us:List Value}{Q:VK}(I:Inv X pins σ H s)(r:aH xs us){ds:List D}{d:D}{G:List Addr}(rs:aD X.K H ds xs G)(hd:jx .list ds=some d)(k:∀ v H' G',Rep X.K H' d v G'->fJ H H' G d G'->Q v H')(hn:∀ ks,ds≠[.mpi ks]):wpAny (model X.prog X.w) X.A (call (.type "list") us) (EP X pins σ Q) X.xe s:=by
 match ds,hd with
 |[.mpi ks],hd=>exact absurd rfl (hn ks)
 |[.lst ys],hd =>
  cases hd;obtain⟨x,rfl,rp⟩:=rs.of1;obtain⟨p,vs,g,rfl,rfl,a1,a2⟩:=rp.lst_inv;refine iC pins s σ H _ us Q I r ⟨p,vs,rfl,.inl (.inl a1),fun l hl=>?_⟩;obtain⟨n1,n2⟩:=fT (G0:=p::g) a2 (fun a ha=>ae _ ha) hl;exact k _ _ _ n1 n2
 |[.tup ys],hd =>
  cases hd;obtain⟨x,rfl,rp⟩:=rs.of1;obtain⟨p,vs,rfl,a1,a2⟩:=rp.tup_inv;refine iC pins s σ H _ us Q I r ⟨p,vs,rfl,.inr a1,fun l hl=>?_⟩;obtain⟨n1,n2⟩:=fT (G0:=G) a2 (fun a ha=>ha) hl;exact k _ _ _ n1 n2
end
def gQ (K:Frag)(P:Addr->Prop)(H0:Hp)(J:It)(ds:List D)(G:List Addr):Prop:=∀ H,iJ P H0 H->(∀(i:Nat) (d:D),ds[i]? = some d->J.go i H/\∀ x H',J.yld i H x H'->aE H H'/\∃ G',Rep K H' d x G'/\∀ a∈G',a∈G)/\J.stop ds.length H
noncomputable def tI (K:Frag)(T:Tb)(it:qK):TI:=fun σ H R=>∃ P env F,RE K P env σ H F/\∃ p,fU T it env = .ok p/\∀ J H' G,aE H H'->bB env F H (.sh p.2) H' G->(∀ a∈G,H' a≠none)->(∀ P',(∀ a∈G,P' a)->gQ K P' H' J p.1 G)->R J H'
theorem qD {K:Frag}{P:Addr->Prop}{H0:Hp}{p:Addr}{vs:List V}{ds:List D}{G:List Addr}(h1:Rd H0 p (.lst vs))(h2:aD K H0 ds vs G)(hp:∀ a∈p::G,P a):gQ K P H0 (Itl K p) ds (p::G):=fun H e=>by
 have ep:=e.keep p (hp p ao);have h1':Rd H p (.lst vs):=by
  rcases h1 with q | ⟨o,q⟩
  ·exact .inl (ep.trans q)
  ·exact .inr ⟨o,ep.trans q⟩
 have h2':=e.reps h2 fun a ha=>hp a (ae _ ha)
 refine⟨fun i d hd=>?_,⟨vs,.inl h1',by rw[h2.len];exact ai _⟩⟩;obtain⟨v,G',a,b,c⟩:=h2'.get hd;refine⟨⟨vs,v,.inl h1',a⟩,fun x H' ⟨e1,e2⟩=>?_⟩;subst e1;have:=e2 vs (.inl h1');rw[a] at this;cases this;exact⟨aE.refl _,G',b,fun z hz=>ae _ (c.subset hz)⟩
theorem tF {K:Frag}{P:Addr->Prop}{H0:Hp}{p:Addr}{vs:List V}{ds:List D}{G:List Addr}(h1:je K H0 p vs)(h2:aD K H0 ds vs G)(hp:∀ a∈G,P a):gQ K P H0 (Itt K p) ds G:=fun H e=>by
 have h1':=e.tqT h1;have h2':=e.reps h2 hp;refine⟨fun i d hd=>?_,⟨vs,h1'.sq,by rw[h2.len];exact ai _⟩⟩;obtain⟨v,G',a,b,c⟩:=h2'.get hd;refine⟨⟨vs,v,h1'.sq,a⟩,fun x H' ⟨e1,e2⟩=>?_⟩;subst e1;have:=e2 vs h1'.sq;rw[a] at this;cases this;exact⟨aE.refl _,G',b,fun z hz=>c.subset hz⟩
noncomputable def Cw (xs:List V):It:=⟨fun i _=>i<xs.length,fun i H x H'=>H'=H/\xs[i]? = some x,fun i _=>xs.length<=i⟩
theorem kL {K:Frag}{P:Addr->Prop}{H0:Hp}{vs:List V}{ds:List D}(hr:∀ H,aD K H ds vs []):gQ K P H0 (Cw vs) ds []:=fun H e=>by
 have hl:=(hr H).len;refine⟨fun i d hd=>?_,by show vs.length<=ds.length;omega⟩;obtain⟨v,G',a,b,c⟩:=(hr H).get hd;refine⟨by show i<vs.length;rw[<-hl];exact (List.getElem?_eq_some_iff.mp hd).1,fun x H' ⟨e1,e2⟩=>?_⟩;subst e1;rw[a] at e2;cases e2;exact⟨aE.refl _,G',b,fun z hz=>c.subset hz⟩
theorem ki {P:Program}{w:World}{K:Frag}{tg:Expr}{it:Addr}{xs:List V}{Pv:Nat->Value->Prop}{St:Nat->Heap->Prop}(W:∀ A:Around,A.handled=none->Walks P w A it [it] [it] xs.length Pv St)(hP:∀ i v,Pv i v->∃ x,xs[i]? = some x/\RelV x v)
  (ob:∀ i h,St i h->∃ o n vs,h.get? it=some o/\o.cls = .type n/\o.data = .fields vs/\["enumerate","zip","dict_itemiterator","dict_reverseitemiterator","odict_iterator","itertools.zip_longest","itertools.pairwise"].contains n=false)
  (fr:∀ i h h',St i h->(∀ o,h.get? it=some o->h'.get? it=some o)->St i h') (le:∀ i h,St i h->i<=xs.length) (slf:∀(A:Around) (i:Nat) (s:Shared) (Q E:Value->Shared->Prop),St i s.heap->Q (.ref it) s->wpAny (model P w) A (pyIter (.ref it)) Q E s):Turn P w K tg (Cw xs) [it] it St where
 mem:=by simp
 obj:=fun i h st b hb=>by
  have e:b=it:=by simpa using hb
  subst e;obtain⟨o,n,vs,h1,h2,h3,_⟩:=ob i h st;exact⟨o,h1,fun v z=>by rw[h3] at z;cases z⟩
 keep:=fun i h h' st k=>fr i h h' st fun o e=>k it (by simp) o e
 item:=by
  intro X hp hw hK hc i pins s σ H E I hf st hg;subst hp hw hK;obtain⟨f0,f1,f2,f3,f4,f5⟩:=hf it (by simp);refine (W X.A (I.ok.hd hc)).item i s _ _ hg st fun v h' tk hv st' kk=>?_
  obtain⟨x,ex,rx⟩:=hP i v hv;have I1:Inv X pins σ H { s with heap:=h',toks:=tk }:=I.turned (fun b o hb e=>kk b o (by simpa using hb) e) f0 f1 f3 f4 f5;obtain⟨o,n,vs,h1,h2,h3,h4⟩:=ob (i+1) h' st';exact⟨v,rfl,pB (s:={ s with heap:=h',toks:=tk }) (n:=n) h1 h2 h3 h4 ⟨x,H,I1,rx,⟨rfl,ex⟩,st',fun b hb=>(hf b hb).1⟩⟩
 done:=by
  intro X hp hw hK hc i pins s σ H E I hf st hg;subst hp hw hK;obtain⟨f0,f1,f2,f3,f4,f5⟩:=hf it (by simp);have hi:i=xs.length:=Nat.le_antisymm (le i _ st) hg;subst hi;exact (W X.A (I.ok.hd hc)).done s _ _ st fun h' tk kk=>⟨rfl,I.turned (fun b o hb e=>kk b o (by simpa using hb) e) f0 f1 f3 f4 f5⟩
 self:=fun A i s Q E st h=>slf A i s Q E st h
noncomputable def eT (a c:Int)(n:Nat):List V:=(List.range n).map fun (i:Nat)=>.int (a+(i:Int)*c)
theorem jy (a c:Int)(n:Nat):(eT a c n).length=n:=by simp[eT]
theorem jq {K:Frag}{H:Hp}(c:Int):∀(n:Nat) (a:Int),aD K H (aQ a c n) (eT a c n) []
 |0,a=>.nil
 | n+1,a=>by
  have e:eT a c (n+1) = .int a::eT (a+c) c n:=by
   unfold eT;rw[List.range_succ_eq_map,aw,cg];congr 1
   ·simp
   ·refine eg fun i _=>?_
    simp only[Function.comp_apply,V.int.injEq,Nat.succ_eq_add_one]
    push_cast
    rw[Int.add_mul];omega
  rw[e];show aD K H (.int a::aQ (a+c) c n) _ ([] ++ []);exact .cons (.int a) (jq c n (a+c))
theorem hJ (a b c:Int)(hc:c≠0):0<=Builtin.Range.rangeSize a b c:=by
 unfold Builtin.Range.rangeSize;split
 ·rename_i h;split
  ·have:0<=(b - a - 1) / c:=Int.ediv_nonneg (by omega) (by omega);omega
  ·omega
 ·split
  ·have:0<=(a - b - 1) / (-c):=Int.ediv_nonneg (by omega) (by omega);omega
  ·omega
theorem mL {a b c:Int}(ha:fI a=true)(hb:fI b=true)(hc:c≠0)(hs:c.natAbs<1073741824):Builtin.Range.small a b c=true:=by
 unfold fI at ha hb;have ha:=of_decide_eq_true ha;have hb:=of_decide_eq_true hb;have hn:=hJ a b c hc;have hu:Builtin.Range.rangeSize a b c<2 ^ 63:=by
  unfold Builtin.Range.rangeSize;split
  ·split
   ·have:=Int.ediv_le_self (b:=c) (a:=b - a - 1) (by omega);omega
   ·decide
  ·split
   ·have:=Int.ediv_le_self (b:=-c) (a:=a - b - 1) (by omega);omega
   ·decide
 unfold Builtin.Range.small;simp only[Builtin.Range.rangeFitsLong,Bool.and_eq_true,Bool.or_eq_true,decide_eq_true_eq,beq_iff_eq];refine⟨⟨⟨⟨⟨by omega,by omega⟩,by omega,by omega⟩,by omega,by omega⟩,by omega,hu⟩,.inr ?_⟩;split<;>simp only[Bool.and_eq_true,decide_eq_true_eq]<;>omega
section
variable {X:Cx}{tg:Expr}
theorem iG {pins:List (Addr×Obj)}{σ:L2.St}{H:Hp}{s:Shared}{R:It->Hp->Prop}{E:Value->Shared->Prop}{lo hi c:Int}{t u v:Tok}{tk:Nat}(I:Inv X pins σ H s)(h1:fI lo=true)(h2:fI hi=true)(h3:c≠0)(h4:c.natAbs<1073741824)
  (q:R (Cw (eT lo c (Builtin.Range.rangeSize lo hi c).toNat)) H):wpAny (model X.prog X.w) X.A (pyIter (.ref s.heap.objs.size)) (AD X pins σ tg R) E { s with heap:=s.heap.push { cls:=.type "range",data:=.fields #[.int lo t,.int hi u,.int c v] },toks:=tk }:=by
 refine wpAny_pyIter_range (IsRange.new ..) (mL h1 h2 h3 h4) ?_;have I1:Inv X pins σ H { s with heap:=s.heap.push { cls:=.type "range",data:=.fields #[.int lo t,.int hi u,.int c v] },toks:=tk }:=I.kept fun b o e=>Heap.get?_push_of_some _ e
 have hn:=hJ lo hi c h3;let n:=(Builtin.Range.rangeSize lo hi c).toNat;refine⟨(s.heap.push { cls:=.type "range",data:=.fields #[.int lo t,.int hi u,.int c v] }).objs.size,[(s.heap.push { cls:=.type "range",data:=.fields #[.int lo t,.int hi u,.int c v] }).objs.size],
  (fun i h=>i<=n/\IsRangeIter h (s.heap.push { cls:=.type "range",data:=.fields #[.int lo t,.int hi u,.int c v] }).objs.size (lo+(i:Nat)*c) ((n:Int) - (i:Nat)) c),_,H,rfl,
  I1.kept (t':=tk) fun b o e=>Heap.get?_push_of_some _ e,ki (Pv:=fun i v=>i<n/\∃ t,v = .int (lo+i*c) t) (fun A hA=>?_) (fun i v hv=>?_) (fun i h st=>?_) (fun i h h' st k=>⟨st.1,k _ st.2⟩) (fun i h st=>by rw[jy];exact st.1) (fun A i s Q E st h=>wpAny_pyIter_rangeiter st.2 h),?_,fun b hb=>?_,q⟩
 ·rw[jy];have W:=Walks.range (prog:=X.prog) (w:=X.w) hA (s.heap.push { cls:=.type "range",data:=.fields #[.int lo t,.int hi u,.int c v] }).objs.size lo c n;exact⟨W.sub,fun i h h' st k=>⟨st.1,W.frame i h h' st.2 k⟩,fun i s Q E hi st hQ=>W.item i s Q E hi st.2 fun v h' tk hv st' kk=>hQ v h' tk ⟨hi,hv⟩ ⟨hi,st'⟩ kk,fun s Q E st hQ=>W.done s Q E st.2 hQ,fun i s Q E st h=>W.self i s Q E st.2 h⟩
 ·obtain⟨hi',t',rfl⟩:=hv;exact⟨.int (lo+i*c),by unfold eT;rw[List.getElem?_map,List.getElem?_range hi'];rfl,t',rfl⟩
 ·exact⟨_,_,_,st.2,rfl,rfl,by decide⟩
 ·refine⟨cn _,?_⟩;have e1:lo+((0:Nat):Int)*c=lo:=by simp
  have e2:((n:Nat):Int) - ((0:Nat):Int)=Builtin.Range.rangeSize lo hi c:=by omega
  rw[e1,e2];exact Heap.get?_push_size _ rfl
 ·have e:b=(s.heap.push { cls:=.type "range",data:=.fields #[.int lo t,.int hi u,.int c v] }).objs.size:=by simpa using hb
  subst e;exact I1.fpOk (ai _) (I1.hok.fresh (ai _))
end
section
variable {X:Cx}{tg:Expr}{T:Tb}{pins:List (Addr×Obj)}{σ:L2.St}{H:Hp}{s:Shared}{R:It->Hp->Prop}{E:Value->Shared->Prop}
theorem vx {a:Addr}{xs:List V}(I:Inv X pins σ H s)(hq:j6 X.K H a xs)(q:R (Itl X.K a) H):wpAny (model X.prog X.w) X.A (pyIter (.ref a)) (AD X pins σ tg R) E s:=by
 obtain⟨its,rv,p,hz⟩:=I.list hq;refine wpAny_pyIter_list p.isList ?_;refine⟨s.heap.objs.size,[s.heap.objs.size],_,_,H,rfl,I.kept (t':=s.toks) fun b o e=>Heap.get?_push_of_some _ e,qq a _,⟨_,Heap.get?_push_size _ rfl,rfl,rfl⟩,fun b hb=>?_,q⟩;have e:b=s.heap.objs.size:=by simpa using hb
 subst e;exact I.fpOk (ai _) (I.hok.fresh (ai _))
theorem rZ {a:Addr}{xs:List V}(I:Inv X pins σ H s)(hq:gH X.K H a xs)(q:R (Itt X.K a) H):wpAny (model X.prog X.w) X.A (pyIter (.ref a)) (AD X pins σ tg R) E s:=by
 obtain⟨its,rv,p,hz⟩:=I.tuple hq;refine wpAny_pyIter_tuple (show s.heap.IsTuple a its.toArray from p) ?_;refine⟨s.heap.objs.size,[s.heap.objs.size],_,_,H,rfl,I.kept (t':=s.toks) fun b o e=>Heap.get?_push_of_some _ e,oN a _,⟨_,Heap.get?_push_size _ rfl,rfl,rfl⟩,fun b hb=>?_,q⟩;have e:b=s.heap.objs.size:=by simpa using hb
 subst e;exact I.fpOk (ai _) (I.hok.fresh (ai _))
noncomputable def ItZ (d:Addr)(o:Obj)(xs:List (Key×V)):It:=⟨fun i H=>H d=some (.frz o (.dK xs))/\i<xs.length,fun i H x H'=>H'=H/\∃ kv,xs[i]? = some kv/\x=kV kv.1,fun i H=>H d=some (.frz o (.dK xs))/\xs.length<=i⟩
theorem qR {P:Program}{w:World}{K:Frag}{tg:Expr}{it d:Addr}{o:Obj}{xs:List (Key×V)}{vs:List (Key×Value)}{ep:Nat}(hne:d≠it)(rel:KV xs vs)(hat:∀ h:Heap,h.get? d=some o->h.DictAt (aI P w) d vs ep):Turn P w K tg (ItZ d o xs) [it] it (fun i h=>i<=vs.length/\h.IsKeyIter it d i vs.length ep) where
 mem:=by simp
 obj:=fun i h st b hb=>by
  have e:b=it:=by simpa using hb
  subst e;obtain⟨_,o',h1,h2,h3⟩:=st;exact⟨o',h1,fun v z=>by rw[h3] at z;cases z⟩
 keep:=fun i h h' st k=>⟨st.1,st.2.at fun o e=>k it (by simp) o e⟩
 item:=by
  intro X hp hw hK hc i pins s σ H E I hf st hg;subst hp hw hK;obtain⟨f0,f1,f2,f3,f4,f5⟩:=hf it (by simp);obtain⟨hz,hlt⟩:=hg;have ho:s.heap.get? d=some o:=(I.hok d _ hz).1;have hl:=rel.length;refine (Walks.dictKeys (I.ok.hd hc) it d hne vs ep).item i s _ _ (by omega) ⟨st.2,hat _ ho⟩ fun v h' tk hv st' kk=>?_
  obtain⟨k,x,hx,hk⟩:=hv;have I1:Inv X pins σ H { s with heap:=h',toks:=tk }:=I.turned (fun b o hb e=>kk b o (by simpa using hb) e) f0 f1 f3 f4 f5;obtain⟨oi,h1,h2,h3⟩:=st'.1;obtain⟨kv,e1⟩:∃ kv,xs[i]? = some kv:=⟨xs[i],List.getElem?_eq_getElem hlt⟩;have ek:kv.1=k:=by
   have:=gx (fun l:List Key=>l[i]?) rel.keys;simp only[List.getElem?_map,e1,hx,Option.map_some,Option.some.injEq] at this;exact this
  have rx:RelV (kV kv.1) v:=by
   rw[ek];rcases aU (show iZ k v=true from hk) with ⟨i,t,rfl,rfl⟩ | ⟨x,t,rfl,rfl⟩
   ·exact⟨t,rfl⟩
   ·exact⟨t,rfl⟩
  exact⟨v,rfl,pB (s:={ s with heap:=h',toks:=tk }) (n:="dict_keyiterator") h1 h2 h3 (by decide) ⟨kV kv.1,H,I1,rx,⟨rfl,kv,e1,rfl⟩,⟨by omega,st'.1⟩,fun b hb=>(hf b hb).1⟩⟩
 done:=by
  intro X hp hw hK hc i pins s σ H E I hf st hg;subst hp hw hK;obtain⟨f0,f1,f2,f3,f4,f5⟩:=hf it (by simp);obtain⟨hz,hge⟩:=hg;have ho:s.heap.get? d=some o:=(I.hok d _ hz).1;have hl:=rel.length;have hi:i=vs.length:=by have:=st.1;omega
  subst hi;exact (Walks.dictKeys (I.ok.hd hc) it d hne vs ep).done s _ _ ⟨st.2,hat _ ho⟩ fun h' tk kk=>⟨rfl,I.turned (fun b o hb e=>kk b o (by simpa using hb) e) f0 f1 f3 f4 f5⟩
 self:=fun A i s Q E st h=>wpAny_pyIter_keyiter st.2 h
theorem wB {a:Addr}{o:Obj}{xs:List (Key×V)}(I:Inv X pins σ H s)(hq:H a=some (.frz o (.dK xs)))(q:R (ItZ a o xs) H):wpAny (model X.prog X.w) X.A (pyIter (.ref a)) (AD X pins σ tg R) E s:=by
 have ho:s.heap.get? a=some o:=(I.hok a _ hq).1;obtain⟨z,lo,vs,rel,dd⟩:=i0 I.hok (.inr ⟨_,hq⟩);obtain⟨ep,o',es,h1,h2⟩:=dd.dictAt;rw[ho] at h1;cases h1;refine wpAny_pyIter_dict lo ⟨o,es,ho,h2⟩ ?_;refine⟨s.heap.objs.size,[s.heap.objs.size],_,_,H,rfl,I.kept (t':=s.toks) fun b o e=>Heap.get?_push_of_some _ e,qR (vs:=vs) (ep:=ep) (bg (Heap.lt_size ho)) rel (fun h e=>⟨o,es,e,h2⟩),⟨cn _,⟨_,Heap.get?_push_size _ rfl,rfl,rfl⟩⟩,fun b hb=>?_,q⟩;have e:b=s.heap.objs.size:=by simpa using hb
 subst e;exact I.fpOk (ai _) (I.hok.fresh (ai _))
theorem qu {K:Frag}{P:Addr->Prop}{H0:Hp}{p:Addr}{o:Obj}{xs:List (Key×V)}{ks:List (Int×MV)}(h1:H0 p=some (.frz o (.dK xs)))(h2:gG K H0 ks xs):gQ K P H0 (ItZ p o xs) (ks.map fun q=>.int q.1) []:=fun H e=>by
 have h1':=e.fz _ _ _ h1;have hl:=h2.len;refine⟨fun i d hd=>?_,⟨h1',by rw[ak];omega⟩⟩;have hi:i<ks.length:=by have:=(List.getElem?_eq_some_iff.mp hd).1;rwa [ak] at this
 refine⟨⟨h1',by omega⟩,fun x H' ⟨e1,kv,e2,e3⟩=>?_⟩;subst e1 e3;refine⟨aE.refl _,[],?_,fun a ha=>nomatch ha⟩;rw[List.getElem?_map] at hd;have key:∀{ks:List (Int×MV)}{xs:List (Key×V)}{i:Nat}{kv:Key×V}{q:Int×MV},gG K H0 ks xs->xs[i]? = some kv->ks[i]? = some q->kv.1 = .inl q.1:=by
  intro ks
  induction ks with
  |nil=>intro xs i kv q _ _ h;cases h
  |cons a r ih =>
   intro xs i kv q h e1 e2;cases xs with
   |nil=>cases e1
   |cons x xs =>
    cases i with
    |zero=>cases e1;cases e2;exact h.1
    |succ i=>exact ih h.2.2 e1 e2
 cases hq:ks[i]? with
 |none=>rw[hq] at hd;cases hd
 |some q =>
  rw[hq] at hd;cases hd;rw[key h2 e2 hq];exact .int q.1
noncomputable def lE (z:Str):List V:=z.cps.toList.map fun c=>.str ⟨#[c]⟩
theorem Az {z:Str}{t:Tok}(I:Inv X pins σ H s)(q:R (Cw (lE z)) H):wpAny (model X.prog X.w) X.A (pyIter (.str z t)) (AD X pins σ tg R) E s:=by
 have hlen:(lE z).length=z.cps.size:=by simp[lE]
 have core:∀(nm:String) (hn:["enumerate","zip","dict_itemiterator","dict_reverseitemiterator","odict_iterator","itertools.zip_longest","itertools.pairwise"].contains nm=false)
   (W:∀ A:Around,A.handled=none->Walks X.prog X.w A s.heap.objs.size [s.heap.objs.size] [s.heap.objs.size] z.cps.size (SignAt z) (fun i h=>h.IsStrIter s.heap.objs.size nm z t i))
   (slf:∀(A:Around) (i:Nat) (s':Shared) (Q E:Value->Shared->Prop),s'.heap.IsStrIter s.heap.objs.size nm z t i->Q (.ref s.heap.objs.size) s'->wpAny (model X.prog X.w) A (pyIter (.ref s.heap.objs.size)) Q E s'),
   AD X pins σ tg R (.ref s.heap.objs.size) { s with heap:=s.heap.push { cls:=.type nm,data:=.fields #[.str z t,.int 0 0] } }:=by
  intro nm hn W slf;refine⟨s.heap.objs.size,[s.heap.objs.size],(fun i h=>i<=z.cps.size/\h.IsStrIter s.heap.objs.size nm z t i),_,H,rfl,I.kept (t':=s.toks) fun b o e=>Heap.get?_push_of_some _ e,
   ki (Pv:=SignAt z) (fun A hA=>?_) (fun i v hv=>?_) (fun i h st=>?_) (fun i h h' st k=>⟨st.1,let ⟨o,ho,r⟩:=st.2;⟨o,k o ho,r⟩⟩) (fun i h st=>by rw[hlen];exact st.1) (fun A i s Q E st h=>slf A i s Q E st.2 h),⟨cn _,⟨_,Heap.get?_push_size _ rfl,rfl,rfl⟩⟩,fun b hb=>?_,q⟩
  ·rw[hlen];have W:=W A hA;exact⟨W.sub,fun i h h' st k=>⟨st.1,W.frame i h h' st.2 k⟩,fun i s Q E hi st hQ=>W.item i s Q E hi st.2 fun v h' tk hv st' kk=>hQ v h' tk hv ⟨hi,st'⟩ kk,fun s Q E st hQ=>W.done s Q E st.2 hQ,fun i s Q E st h=>W.self i s Q E st.2 h⟩
  ·obtain⟨c,u,e,rfl⟩:=hv;exact⟨.str ⟨#[c]⟩,by simp[lE];exact e,u,rfl⟩
  ·obtain⟨o,ho,hc,hd⟩:=st.2;exact⟨o,nm,_,ho,hc,hd,hn⟩
  ·have e:b=s.heap.objs.size:=by simpa using hb
   subst e;exact I.fpOk (ai _) (I.hok.fresh (ai _))
 cases ha:z.cps.all (· < 128)
 ·exact wpAny_pyIter_wide ha (core "str_iterator" (by decide) (fun A' hA=>Walks.strWide hA _ z t) fun A i s' Q E st h=>wpAny_pyIter_striter_wide st h)
 ·exact wpAny_pyIter_ascii ha (core "str_ascii_iterator" (by decide) (fun A' hA=>Walks.strAscii hA _ z t) fun A i s' Q E st h=>wpAny_pyIter_striter_ascii st h)
theorem jY {K:Frag}{H:Hp}:∀(cs:List Nat),aD K H (cs.map fun c=>D.str ⟨#[c]⟩) (cs.map fun c=>V.str ⟨#[c]⟩) []
 |[]=>.nil
 | c::cs=>by
  show aD K H (_::_) (_::_) ([] ++ []);exact .cons (.str _) (jY cs)
theorem uG {e:Expr}{c:Ex}(h:PE X e (tE X.K T c)):PI X tg e (tI X.K T (.seq c)):=by
 intro pins s σ H R I hq;obtain⟨P,env,F,re,p,hev,k⟩:=hq;unfold fU at hev;obtain⟨q,h1,hev⟩:=Rs.bind_ok hev;obtain⟨l,h2,hev⟩:=Rs.bind_ok hev;have h2:=cC h2;cases hev;refine bW (h pins s σ H (fun v H'=>∃ G,aE H H'/\Rep X.K H' q.1 v G/\bB env F H q.2 H' G) I ⟨P,env,F,re,q,h1,fun v H' G s rp rt=>⟨G,s,rp,rt⟩⟩) fun u s1 ⟨v,H1,I1,r1,G,e,rp,rt⟩=>?_
 have rt':bB env F H (.sh q.2.roots) H1 G:=rt.part (fun _ h=>h) (fun _ h=>h) fun R e=>by cases e
 cases hd:q.1 with
 |lst xs =>
  rw[hd] at rp h2;cases h2;obtain⟨a,vs,g,rfl,rfl,a1,a2⟩:=rp.lst_inv;cases r1;exact vx I1 (.inl a1) (k _ H1 (a::g) e rt' (fun b hb=>rp.nn hb) fun P' hP=>qD a1 a2 hP)
 |tup xs =>
  rw[hd] at rp h2;cases h2;obtain⟨a,vs,rfl,a1,a2⟩:=rp.tup_invT;cases r1;exact rZ I1 a1.sq (k _ H1 G e rt' (fun b hb=>rp.nn hb) fun P' hP=>tF a1 a2 hP)
 |str z =>
  rw[hd] at rp h2;simp only[sQ] at h2;by_cases hl:z.length<=lim
  ·rw[if_pos hl] at h2;cases h2;obtain⟨rfl,rfl⟩:=rp.str_inv;obtain⟨t,rfl⟩:=r1;exact Az I1 (k _ H1 [] e bB.nil (fun _ h=>(nomatch h)) fun P' hP=>kL fun H=>jY _)
  ·rw[if_neg hl] at h2;cases h2
 |mpz ks =>
  rw[hd] at rp h2;cases h2;cases rp with
  |@mpz a _ xs o hz kr =>
   cases r1;exact wB I1 hz (k _ H1 [] e rt' (fun _ h=>(nomatch h)) fun P' hP=>qu hz kr)
 |_=>rw[hd] at h2;cases h2
theorem iV (a b:Int):(Builtin.Range.rangeSize a b 1).toNat=(b - a).toNat:=by
 rw[rangeSize_one];split<;>omega
theorem zS {es:List Expr}{cs:j5}{it:qK}{p pos:Pos}{e0:Expr}{rest:List Expr}(hes:es=e0::rest)(hg:Gl X "range") (hm:X.mg "range" = none) (ha:PA X es (ue X.K T cs)) (hs:starEach es X.env=(false,eval e0 X.env)::starEach rest X.env) (hpl:(backTo pos (starEach rest X.env)).any (·.1)=false)
  (hit:∀ env p,fU T it env = .ok p->p.2=[]/\∃ l,bQ T cs env = .ok l/\((∃ j,l.map (·.1)=[.int j]/\fI j=true/\p.1=aQ 0 1 j.toNat)\/(∃ i j,l.map (·.1)=[.int i,.int j]/\fI i=true/\fI j=true/\p.1=aQ i 1 (j - i).toNat) \/
   ∃ i j k,l.map (·.1)=[.int i,.int j,.int k]/\fI i=true/\fI j=true/\k≠0/\k.natAbs<1073741824/\p.1=aQ i k (Builtin.Range.rangeSize i j k).toNat)) :
  PI X tg (.Call (.Name "range" p) es [] pos) (tI X.K T it):=by
 subst hes;intro pins s σ H R I hq;obtain⟨P,env,F,re,q,hev,k⟩:=hq;obtain⟨hq2,l,hl,hc⟩:=hit env q hev;refine Call_ (iO I hg hm boot_range (gp (bW (ha pos pins s σ H (fun vs H'=>∃ G,Args X.K env F H H' l vs G) I ⟨P,env,F,re,l,hl,fun vs H' G ar=>⟨G,ar⟩⟩) fun us s1 ⟨vs,H1,I1,r1,G,ar⟩=>?_) hs hpl));have rs:=ar.reps;have fin:∀(a c:Int) (n:Nat),q.1=aQ a c n->R (Cw (eT a c n)) H1:=fun a c n e=>by
  refine k _ H1 [] ar.same bB.nil (fun _ h=>(nomatch h)) fun P' _=>?_
  rw[e];exact kL fun H=>jq c n a
 have one:∀{d:D}{ds:List D}{vs:List V}{us:List Value}{G:List Addr},aD X.K H1 (d::ds) vs G->aH vs us->∀ i,d = .int i->∃ t us' vs' G',us = .int i t::us'/\vs = .int i::vs'/\aD X.K H1 ds vs' G'/\aH vs' us':=by
  intro d ds vs us G r rv i e;subst e;cases r with
  |cons r rr =>
   obtain⟨rfl,rfl⟩:=r.int_inv;cases rv with
   |cons x y =>
    obtain⟨t,rfl⟩:=x;exact⟨t,_,_,_,rfl,rfl,rr,y⟩
 have nil:∀{vs:List V}{us:List Value}{G:List Addr},aD X.K H1 [] vs G->aH vs us->us=[]:=by
  intro vs us G r rv;cases r;cases rv;rfl
 rcases hc with ⟨j,e1,e2,e3⟩ | ⟨i,j,e1,e2,e3,e4⟩ | ⟨i,j,c,e1,e2,e3,e4,e5,e6⟩
 ·rw[e1] at rs;obtain⟨t,us',vs',G',rfl,_,rs,r1⟩:=one rs r1 j rfl;obtain rfl:=nil rs r1;refine call_range_1 (iG (c:=1) I1 (by decide) e2 (by decide) (by decide) ?_);refine fin _ _ _ ?_;rw[e3,iV];simp
 ·rw[e1] at rs;obtain⟨t,us',vs',G',rfl,_,rs,r1⟩:=one rs r1 i rfl;obtain⟨t',us'',vs'',G'',rfl,_,rs,r1⟩:=one rs r1 j rfl;obtain rfl:=nil rs r1;refine call_range_2 (iG (c:=1) I1 e2 e3 (by decide) (by decide) ?_);refine fin _ _ _ ?_;rw[e4,iV]
 ·rw[e1] at rs;obtain⟨t,us',vs',G',rfl,_,rs,r1⟩:=one rs r1 i rfl;obtain⟨t',us'',vs'',G'',rfl,_,rs,r1⟩:=one rs r1 j rfl;obtain⟨t3,us3,vs3,G3,rfl,_,rs,r1⟩:=one rs r1 c rfl;obtain rfl:=nil rs r1;refine call_range_3 e4 (iG (c:=c) I1 e2 e3 e4 e5 ?_) (.inl (PyProof.noPylong_small e5));exact fin _ _ _ e6
end
theorem uv {h:Heap}{o o':Obj}{b:Addr}(e:(h.push o).get? b=some o'):(b=h.objs.size/\o'=o)\/h.get? b=some o':=by
 obtain⟨e1,e2⟩:=Heap.get?_some_iff.mp e;by_cases hb:b=h.objs.size
 ·left;subst hb;refine⟨rfl,?_⟩;have:(h.push o).objs[h.objs.size]? = some o:=by cases h;simp[Heap.push]
  rw[this] at e1;exact (bt e1).symm
 ·right;refine Heap.get?_some_iff.mpr ⟨?_,e2⟩;cases h;simpa[Heap.push,Array.getElem?_push,hb] using e1
theorem Au (n b:Nat)(h:b=n+1\/b=n):n<=b:=by omega
section
variable {X:Cx}{pins:List (Addr×Obj)}{σ:L2.St}{H:Hp}{s:Shared}
theorem hZ {h':Heap}{t':Nat}{ch:List Addr}(I:Inv X pins σ H s)(k:∀ b o,b∉ch->s.heap.get? b=some o->h'.get? b=some o)(hf:∀ b∈ch,gC X pins H b):Inv X pins σ H { s with heap:=h',toks:=t' }:=by
 have nit:∀ b u,H b=some u->b∉ch:=fun b u e z=>by
  have:=(hf b z).1;rw[this] at e;cases e
 refine I.step (g':=s.gens) (d':=s.drawn) (ch:=ch) (fun b hb=>?_) (fun b o _ _ hc e _=>k b o hc e) (fun b o _ _ hc e _=>⟨o.slots,k b o hc e⟩) (fun _ _ _ _ n=>n)
  (fun b o hc e=>⟨o,k b o hc e⟩) (fun _ _ e=>e) (fun _ _ _ e=>e) (fun b ps e=>⟨#[],by rw[e];simp⟩) (fun m hm=>?_) (fun b u e=>?_) I.bare
 ·obtain⟨f0,f1,f2,f3,f4,f5⟩:=hf b hb;exact⟨f3,f1,f4,f5⟩
 ·obtain⟨o,es,ep,ho,r⟩:=hm;exact⟨o,es,ep,k _ o (fun z=>(hf _ z).2.1 rfl) ho,r⟩
 ·refine (I.hok b u e).stay (fun c v hc q=>k c v ?_ q) (fun _ q=>q) fun _ _ q=>q
  rcases hc with z | z
  ·rw[z];exact nit b u e
  ·exact nit c _ z
theorem paired {h':Heap}{t':Nat}{ch:List Addr}{x y:V}{u v:Value}(I:Inv X pins σ H s)(hu:RelV x u)(hv:RelV y v)(hT:h'.get? s.heap.objs.size=some { cls:=.type "tuple",data:=.seq #[u,v] })
  (k:∀ b o,b∉ch->s.heap.get? b=some o->h'.get? b=some o) (hf:∀ b∈ch,gC X pins H b) (hl:∀ b∈ch,b<s.heap.objs.size):Inv X pins σ (upd H s.heap.objs.size (.tup [x,y])) { s with heap:=h',toks:=t' }:=by
 have I1:Inv X pins σ (upd H s.heap.objs.size (.tup [x,y])) { s with heap:=s.heap.push { cls:=.type "tuple",data:=.seq #[u,v] },toks:=t' } :=
  I.laid (fun _ _ q=>Heap.get?_push_of_some _ q) (ai _) ⟨by show 2<=sizeLine;decide,[u,v],.cons hu (.cons hv .nil),⟨_,Heap.get?_push_size _ rfl,rfl,_,rfl⟩⟩
 refine hZ (s:={ s with heap:=s.heap.push { cls:=.type "tuple",data:=.seq #[u,v] },toks:=t' }) (ch:=ch) I1 (fun b o hb q=>?_) fun b hb=>?_
 ·rcases uv q with ⟨rfl,rfl⟩ | q
  ·exact hT
  ·exact k b o hb q
 ·obtain⟨f0,f⟩:=hf b hb;exact⟨by rw[aG (bg (hl b hb))];exact f0,f⟩
end
noncomputable def Ite (K:Frag)(l:Addr):It:=⟨fun i H=>∃ xs x,j6 K H l xs/\xs[i]? = some x,fun i H v H'=>∃ T x,v = .ref T/\H T=none/\(∀ xs,j6 K H l xs->xs[i]? = some x)/\H'=upd H T (.tup [.int i,x]),fun i H=>∃ xs,j6 K H l xs/\xs.length<=i⟩
theorem qT {P:Program}{w:World}{K:Frag}{elts:List Expr}{x1:Nat}{pos:Pos}(l e it:Addr)(hne:e≠it):Turn P w K (.Tuple elts x1 pos) (Ite K l) [e,it] e (fun i h=>(∃ old,IsEnum h e it (i:Nat) old)/\h.IsListIter it l i) where
 mem:=by simp
 obj:=fun i h st b hb=>by
  obtain⟨⟨old,he⟩,hit⟩:=st;have hb:b=e\/b=it:=by simpa using hb
  rcases hb with rfl | rfl
  ·exact⟨_,he,fun v z=>by cases z⟩
  ·obtain⟨o,e,c,d⟩:=hit;exact⟨o,e,fun v z=>by rw[d] at z;cases z⟩
 keep:=fun i h h' st k=>⟨let ⟨old,he⟩:=st.1;⟨old,k e (by simp) _ he⟩,st.2.at fun o z=>k it (by simp) o z⟩
 item:=by
  intro X hP hw hK hc i pins s σ H E I hf st hg;subst hP hw hK;obtain⟨xs,x,hq,hx⟩:=hg;obtain⟨its,rv,p,hz⟩:=I.list hq;obtain⟨u,hu,ru⟩:=rv.get hx;obtain⟨⟨old,he⟩,hit⟩:=st;have lts:∀ b∈[e,it],b<s.heap.objs.size:=fun b hb=>by
   have hb:b=e\/b=it:=by simpa using hb
   rcases hb with rfl | rfl
   ·exact Heap.lt_size he
   ·obtain⟨o,e,_⟩:=hit;exact Heap.lt_size e
  refine wpAny_pyNext_enum_item he hit p.isList (x:=u) (by simpa using hu) hne fun h' ho hit' hT hsz hk=>?_
  have I2:Inv X pins σ (upd H s.heap.objs.size (.tup [.int i,x])) { s with heap:=h',toks:=s.toks+1 } :=
   paired (ch:=[e,it]) I ⟨s.toks,rfl⟩ ru hT (fun b o hb q=>hk b o (fun z=>hb (by simp[z])) (fun z=>hb (by simp[z])) q) hf lts
  have f2:∀ b∈[e,it],gC X pins (upd H s.heap.objs.size (.tup [.int i,x])) b:=fun b hb=>by
   obtain⟨f0,f⟩:=hf b hb;exact⟨by rw[aG (bg (lts b hb))];exact f0,f⟩
  refine⟨_,rfl,wpAny_letOwnedTupleGo_enum (s:={ s with heap:=h',toks:=s.toks+1 }) ho fun h2 he2 hs2=>?_⟩;refine⟨.ref s.heap.objs.size,_,hZ (ch:=[e]) I2 (fun b o hb q=>hs2.extBut b o (fun z=>hb (by simp[z])) q) (fun b hb=>f2 b (by simp at hb;simp[hb])),rfl,⟨_,x,rfl,I.fresh,fun ys hy=>by rw[I.list_inj hy hq];exact hx,rfl⟩,⟨⟨_,by simpa using he2⟩,hit'.at fun o z=>hs2.extBut it o (Ne.symm hne) z⟩,fun b hb=>(f2 b hb).1⟩
 done:=by
  intro X hP hw hK hc i pins s σ H E I hf st hg;subst hP hw hK;obtain⟨xs,hq,hx⟩:=hg;obtain⟨its,rv,p,hz⟩:=I.list hq;obtain⟨⟨old,he⟩,hit⟩:=st;have hl:=rv.length;exact wpAny_pyNext_enum_end (I.ok.hd hc) he hit p.isList (by simp;omega) fun h' eb=>⟨rfl,hZ (t':=s.toks) (ch:=[it]) I (fun b o hb q=>eb b o (fun z=>hb (by simp[z])) q) fun b hb=>hf b (by simp at hb;simp[hb])⟩
 self:=fun A i s Q E st h=>by
  obtain⟨⟨old,he⟩,_⟩:=st;exact wpAny_pyIter_enum he h
theorem qr {K:Frag}{P:Addr->Prop}{H0:Hp}{p:Addr}{vs:List V}{ds:List D}{G:List Addr}(h1:Rd H0 p (.lst vs))(h2:aD K H0 ds vs G)(hp:∀ a∈p::G,P a):gQ K P H0 (Ite K p) (ds.zipIdx.map fun q=>.tup [.int q.2,q.1]) (p::G):=fun H e=>by
 have ep:=e.keep p (hp p ao);have h1':Rd H p (.lst vs):=by
  rcases h1 with q | ⟨o,q⟩
  ·exact .inl (ep.trans q)
  ·exact .inr ⟨o,ep.trans q⟩
 have h2':=e.reps h2 fun a ha=>hp a (ae _ ha)
 refine⟨fun i d hd=>?_,⟨vs,.inl h1',by rw[ak,List.length_zipIdx,h2.len];exact ai _⟩⟩;have hd:∃ d',ds[i]? = some d'/\d = .tup [.int i,d']:=by
  rw[List.getElem?_map,List.getElem?_zipIdx] at hd;cases q:ds[i]? with
  |none=>rw[q] at hd;cases hd
  |some d'=>rw[q] at hd;simp at hd;exact⟨d',rfl,hd.symm⟩
 obtain⟨d',hd',rfl⟩:=hd;obtain⟨v,G',a,b,c⟩:=h2'.get hd';refine⟨⟨vs,v,.inl h1',a⟩,fun x H' ⟨T,x',e1,e2,e3,e4⟩=>?_⟩;subst e1 e4;have:=e3 vs (.inl h1');rw[a] at this;cases this;have sm:aE H (upd H T (.tup [.int i,v])):=aE.new e2;refine⟨sm,G',.tup (.inl aJ) ?_,fun z hz=>ae _ (c.subset hz)⟩;have r:=aD.cons (Rep.int (K:=K) (H:=upd H T (.tup [.int i,v])) (i:Int)) (aD.cons (b.same sm) .nil);rw[ax,cv] at r;exact r
section
variable {X:Cx}{T:Tb}
theorem lb {env:En}{F:Nat->List Addr}{H H':Hp}{l:List (D×Rt)}{vs:List V}{G:List Addr}{R:List Nat}(ar:Args X.K env F H H' l vs G)(h:∀ q,q∈aO (l.map (·.2))->q∈R):bB env F H (.sh R) H' G where
 cont:=fun a ha=>(ar.cont a ha).imp id fun ⟨i,d,t,x,y,z⟩=>⟨i,d,t,x,y,fun q hq=>h q (z q hq)⟩
 mv:=fun R e=>by cases e
end
def tS (K:Frag)(T:Tb)(c:St):TS:=fun D σ H=>∃ P Z env F,RE K P env σ H F/\(∀ i,∀ a∈F i,Z a)/\(∀ a,¬ P a->Z a)/\post K P Z env F H D (bL T c env)
def AF (K:Frag)(T:Tb)(c:cX):TS:=fun D σ H=>∃ P Z env F,RE K P env σ H F/\(∀ i,∀ a∈F i,Z a)/\(∀ a,¬ P a->Z a)/\post K P Z env F H D (aF T c env)
section
variable {K:Frag}{P Z:Addr->Prop}{env:En}{σ:L2.St}{H:Hp}{F:Nat->List Addr}{D:Ends}
theorem bX {α:Type}{x:Rs α}{k:α->Fl}(h:post K P Z env F H D (fD env x k)):∃ a,x = .ok a/\post K P Z env F H D (k a):=by
 cases x with
 |ok a=>exact⟨a,rfl,h⟩
 |exc e=>exact h.elim
 |bad=>exact h.elim
theorem After.same {H':Hp}(re:RE K P env σ H F)(hz:∀ i,∀ a∈F i,Z a)(e:aE H H'):After K P Z env F H env σ H' F:=⟨re.same e,hz,iJ.of_same re.pl e,nV.refl _ _⟩
theorem Ax {H':Hp}{r:Rt}{G:List Addr}(re:RE K P env σ H F)(hz:∀ i,∀ a∈F i,Z a)(zp:∀ a,¬ P a->Z a)(rt:bB env F H r H' G):∀ a∈G,Z a:=fun a ha=>by
 rcases rt.cont a ha with q | ⟨j,_,_,f,_⟩
 ·exact zp a fun z=>re.pl a z q
 ·exact hz j a f
end
section
variable {X:Cx}{T:Tb}{pos:Pos}{e:Expr}{c:Ex}
theorem vX:kI X [] (AF X.K T .nil):=by
 refine qk wz fun D σ H ⟨P,Z,env,F,re,hz,zp,h⟩=>?_
 unfold aF at h;exact h σ H F (After.same re hz (aE.refl _))
theorem sV {st:Stmt}{rest:List Stmt}{cs:St}{cr:cX}(h1:PS X st (tS X.K T cs))(h2:kI X rest (AF X.K T cr)):kI X (st::rest) (AF X.K T (.cons cs cr)):=by
 refine qk (tP h1 h2) fun D σ H ⟨P,Z,env,F,re,hz,zp,h⟩=>⟨P,Z,env,F,re,hz,zp,?_⟩
 unfold aF at h;cases hs:bL T cs env with
 |nx env' =>
  rw[hs] at h;exact fun σ' H' F' af=>⟨P,Z,env',F',af.re,af.z,zp,post.trans af h⟩
 |bk env'=>rw[hs] at h;exact h
 |ct env'=>rw[hs] at h;exact h
 |rt d fr=>rw[hs] at h;exact h
 |xc e env'=>rw[hs] at h;exact h
 |bad=>rw[hs] at h;exact h
theorem wD:PS X (.Pass pos) (tS X.K T .pass):=by
 refine cB vA fun D σ H ⟨P,Z,env,F,re,hz,zp,h⟩=>?_
 unfold bL at h;exact h σ H F (After.same re hz (aE.refl _))
theorem yy {x:Str}{j:Nat}{pos':Pos}:PS X (.Expr (.Constant (.str x) j pos) pos') (tS X.K T .pass):=by
 refine cB zk fun D σ H ⟨P,Z,env,F,re,hz,zp,h⟩=>?_
 unfold bL at h;exact h σ H F (After.same re hz (aE.refl _))
theorem vi:PS X (.Return none pos) (tS X.K T .retN):=by
 refine cB vy fun D σ H ⟨P,Z,env,F,re,hz,zp,h⟩=>?_
 unfold bL at h;exact h .non H [] .non (iJ.refl _) (fun _ h=>(nomatch h)) fun _=>⟨bw,fun _ h=>(nomatch h)⟩
theorem zD (he:PE X e (tE X.K T c)):PS X (.Return (some e) pos) (tS X.K T (.ret c)):=by
 refine cB (Ar he) fun D σ H ⟨P,Z,env,F,re,hz,zp,h⟩=>?_
 unfold bL at h;obtain⟨p,hp,h⟩:=bX h;refine⟨P,env,F,re,p,hp,fun v H' G s rp rt=>h v H' G rp (iJ.of_same re.pl s) (Ax re hz zp rt) fun fr=>?_⟩;cases hr:p.2 with
 |sh R=>rw[hr] at fr;cases fr
 |mv R =>
  rw[hr] at fr;obtain⟨a,b,d⟩:=rt.mv R hr;refine⟨a,fun x hx=>⟨fun z=>?_,b x hx⟩⟩;rcases d x hx with q | ⟨i,d2,t2,hi,f,e2,o2⟩
  ·exact re.pl x z q
  ·have:=dg.mp fr i hi;split at this
   ·rename_i d' q;exact re.wr i d' q x f z
   ·cases this
theorem u3 (he:PE X e (tE X.K T c))(hs:swapsWith e none pos.line X.env=pure false):PS X (.Expr e pos) (tS X.K T (.expr c)):=by
 refine cB (jb he hs) fun D σ H ⟨P,Z,env,F,re,hz,zp,h⟩=>?_
 unfold bL at h;obtain⟨p,hp,h⟩:=bX h;exact⟨P,env,F,re,p,hp,fun v H' G s rp rt=>h σ H' F (After.same re hz s)⟩
theorem zQ {a b:List Stmt}{ca cb:cX}(hc:PT X e (lR X.K T c))(ha:kI X a (AF X.K T ca))(hb:kI X b (AF X.K T cb)):PS X (.If e a b pos) (tS X.K T (.ite c ca cb)):=by
 refine cB (B8 hc ha hb) fun D σ H ⟨P,Z,env,F,re,hz,zp,h⟩=>?_
 unfold bL at h;obtain⟨p,hp,h⟩:=bX h;cases ht:truth p.1 with
 |none=>rw[ht] at h;exact h.elim
 |some k =>
  rw[ht] at h;refine⟨P,env,F,re,p,k,hp,ht,fun H' s=>?_⟩;have af:=After.same (Z:=Z) re hz s;cases k with
  |true=>show if true=true then _ else _;rw[if_pos rfl];exact⟨P,Z,env,F,af.re,hz,zp,post.trans af h⟩
  |false=>show if false=true then _ else _;rw[if_neg az];exact⟨P,Z,env,F,af.re,hz,zp,post.trans af h⟩
theorem rK {i:Nat}{x:Str}{pos':Pos}{mv:Bool}(hN:X.N.Nodup)(hi:X.N[i]? = some x)(hx:Loc X.env.scope x)(he:PE X e (tE X.K T c))(hs:swapsWith e (some (.Name x pos')) pos.line X.env=pure false)(hf:X.fn x=true\/X.env.scope.names.lookup x=some .local) :
  PS X (.Assign [.Name x pos'] e pos) (tS X.K T (.asg (.nm i) c mv)):=by
 refine cB (yB hN hi hx he hs hf) fun D σ H ⟨P,Z,env,F,re,hz,zp,h⟩=>?_
 unfold bL at h;obtain⟨p,hp,h⟩:=bX h;exact⟨P,env,F,re,p,hp,fun v H' G s rp rt=>nY re hz zp s rp rt h⟩
theorem zq {i:Nat}{x:Str}{pos':Pos}{op:Operator}(hN:X.N.Nodup)(hi:X.N[i]? = some x)(hx:Loc X.env.scope x)(he:PE X e (tE X.K T c))(hf:X.fn x=true\/X.env.scope.names.lookup x=some .local)(ho:op = .Add\/op = .Sub) :
  PS X (.AugAssign (.Name x pos') op e pos) (tS X.K T (.aug i op c)):=by
 have hop:PIp X op (fun x y H Q=>∃ a b k,x = .int a/\y = .int b/\zL op a b=some k/\Q (.int k) H):=by
  intro pins s σ H x y v u Q I rx ry h;obtain⟨a,b,k,rfl,rfl,hk,q⟩:=h;rcases ho with rfl | rfl
  ·cases hk;exact xm pins s σ H _ _ v u Q I rx ry ⟨a,b,rfl,rfl,q⟩
  ·cases hk;exact vc pins s σ H _ _ v u Q I rx ry ⟨a,b,rfl,rfl,q⟩
 refine cB (z0 hN hi hx he hop hf) fun D σ H ⟨P,Z,env,F,re,hz,zp,h⟩=>?_
 unfold bL at h;cases ha:intAt env i with
 |none=>rw[ha] at h;exact h.elim
 |some a =>
  rw[ha] at h;obtain⟨p,hp,h⟩:=bX h;have hai:∃ t,env[i]? = some (some (.int a,t)):=by
   unfold intAt at ha;split at ha
   ·rename_i q;cases ha;exact⟨_,q⟩
   ·cases ha
  obtain⟨t,hai⟩:=hai;obtain⟨v,hv,rv⟩:=re.val i _ _ hai;obtain⟨rfl,_⟩:=rv.int_inv;refine⟨_,hv,P,env,F,re,p,hp,fun v H' G s rp rt=>?_⟩;unfold Bb at h;cases hq:p.1 with
  |int b =>
   rw[hq] at h rp;obtain⟨rfl,_⟩:=rp.int_inv;dsimp only at h;cases hk:zL op a b with
   |none=>rw[hk] at h;exact h.elim
   |some k =>
    rw[hk] at h;exact⟨a,b,k,rfl,rfl,hk,nY re hz zp s (.int k) bB.nil h⟩
  |_=>rw[hq] at h;exact h.elim
noncomputable def eY:List Nat->xU
 |[]=>Ct
 |i::is=>xq (kW i) (eY is)
theorem gM:∀{is:List Nat}{vs:List V}{σ:L2.St}{H:Hp}{Q:L2.St->Hp->Prop},is.length=vs.length->Q (setM is vs σ) H->eY is vs σ H Q
 |[],[],_,_,_,_,q=>⟨rfl,q⟩
 |i::is,v::vs,σ,H,Q,hl,q=>⟨v,vs,rfl,gM (is:=is) (vs:=vs) (by simpa using hl) q⟩
 |[],_::_,_,_,_,hl,_=>by simp at hl
 |_::_,[],_,_,_,hl,_=>by simp at hl
theorem vq {tg:Expr}{is:List Nat}{mv:Bool}(hg:PG X tg (sU X.K is.length (eY is)))(he:PE X e (tE X.K T c))(hs:swapsWithSole [tg] e pos.line X.env=pure false)(hw:swappedStores [tg] e X.env=pure none)(h1:(assignEach [tg] X.env).map (·.2)=[assign tg X.env]) :
  PS X (.Assign [tg] e pos) (tS X.K T (.asg (.tp is) c mv)):=by
 refine cB (sW he hg hs hw h1) fun D σ H ⟨P,Z,env,F,re,hz,zp,h⟩=>?_
 unfold bL at h;obtain⟨p,hp,h⟩:=bX h;refine⟨P,env,F,re,p,hp,fun v H' G s rp rt=>?_⟩;have re':=re.same s;have ez:=Ax re hz zp rt;have kf:=iJ.of_same (P:=P) re.pl s;unfold lH at h;cases hd:p.1 with
 |tup ds =>
  rw[hd] at h rp;obtain⟨a,vs,rfl,a1,a2⟩:=rp.tup_inv;have fin:∀{o:Option En},post X.K P Z env F H D (wA o)->(∀ env',o=some env'->∃ F',RE X.K P env' (setM is vs σ) H' F'/\(∀ i,∀ a∈F' i,Z a)/\nV env F env' F'/\is.length=vs.length)->sU X.K is.length (eY is) (.ref a) σ H' D.nx:=fun {o} h q=>by
   cases o with
   |none=>exact h.elim
   |some env' =>
    obtain⟨F',b1,b2,b3,b4⟩:=q env' rfl;exact⟨a,vs,rfl,a1,b4.symm,gM b4 (h _ H' F' ⟨b1,b2,kf,b3⟩)⟩
  have shared:post X.K P Z env F H D (if is.all (fun i=>!p.2.roots.contains i) then wA (bindM (fun d=>bZ d p.2.roots) is ds env) else .bad)->sU X.K is.length (eY is) (.ref a) σ H' D.nx:=fun h=>by
   by_cases hc:is.all (fun i=>!p.2.roots.contains i)=true
   ·rw[if_pos hc] at h;refine fin h fun env' he'=>jW re' hz a2 ez (fun x hx j d' t' ej o m=>?_) he'
    rcases rt.cont x hx with q | ⟨k,d2,t2,f,e2,sr⟩
    ·exact absurd q (re.nn ej m)
    ·exact sr j ((re.one j d' t' ej o).2.2 x m k d2 t2 e2 f)
   ·rw[if_neg hc] at h;exact h.elim
  cases hr:p.2 with
  |sh R=>rw[hr] at h shared;exact shared h
  |mv R =>
   cases R with
   |cons r0 R0=>rw[hr] at h shared;exact shared h
   |nil =>
    rw[hr] at h;obtain⟨m1,m2,m3⟩:=rt.mv [] hr;have fresh:∀ a∈G,H a=none:=fun a ha=>by
     rcases m3 a ha with q | ⟨_,_,_,q,_⟩
     ·exact q
     ·cases q
    exact fin h fun env' he'=>kF re' hz a2 m1 m2 (fun x hx z=>re.pl x z (fresh x hx)) ez (fun x hx j m=>by
     obtain⟨d2,t2,e2⟩:=re.at' m;exact re.nn e2 m (fresh x hx)) he'
 |_=>rw[hd] at h;exact h.elim
noncomputable def oA (K:Frag):jd->TG
 |.nm i=>kW i
 |.tp is=>sU K is.length (eY is)
theorem mn {K:Frag}{P Z:Addr->Prop}{env env':En}{σ:L2.St}{H:Hp}{F:Nat->List Addr}{t:jd}{d:Pc.D}{v:V}{G:List Addr}{R:List Nat}{Q:L2.St->Hp->Prop}(re:RE K P env σ H F)(hz:∀ i,∀ a∈F i,Z a)(rp:Rep K H d v G)(gz:∀ a∈G,Z a)
  (hs:∀ a∈G,∀(j:Nat) (d':Pc.D) (t':Tg),env[j]? = some (some (d',t'))->aV t'=true->a∈F j->j∈R) (hb:bI R t d env=some env') (hQ:∀ σ' F',RE K P env' σ' H F'->(∀ i,∀ a∈F' i,Z a)->nV env F env' F'->Q σ' H):oA K t v σ H Q:=by
 cases t with
 |nm i =>
  simp only[bI] at hb;by_cases hi:i<env.length
  ·rw[if_pos hi] at hb;cases hb;exact hQ _ _ (pU re hi rp hs) (kA hz gz) (jD hi mG)
  ·rw[if_neg hi] at hb;cases hb
 |tp is =>
  cases d with
  |tup ds =>
   simp only[bI] at hb;obtain⟨a,vs,rfl,a1,a2⟩:=rp.tup_inv;obtain⟨F',b1,b2,b3,b4⟩:=jW re hz a2 gz hs hb;exact⟨a,vs,rfl,a1,b4.symm,gM b4 (hQ _ F' b1 b2 b3)⟩
  |_=>cases hb
theorem gW {t:jd}{R:List Nat}{b:En->Fl}:∀(ds:List Pc.D) (env:En),(∀ e,bP t R b ds env≠.bk e)/\∀ e,bP t R b ds env≠.ct e
 |[],env=>⟨fun e z=>(by cases z),fun e z=>(by cases z)⟩
 | d::ds,env=>by
  unfold bP;cases bI R t d env with
  |none=>exact⟨fun e z=>(by cases z),fun e z=>(by cases z)⟩
  |some env' =>
   simp only;cases b env' with
   |nx e'=>exact gW ds e'
   |ct e'=>exact gW ds e'
   |bk e'=>exact⟨fun e z=>(by cases z),fun e z=>(by cases z)⟩
   |rt d fr=>exact⟨fun e z=>(by cases z),fun e z=>(by cases z)⟩
   |xc x e'=>exact⟨fun e z=>(by cases z),fun e z=>(by cases z)⟩
   |bad=>exact⟨fun e z=>(by cases z),fun e z=>(by cases z)⟩
theorem zH {tg iter:Expr}{t:jd}{it:qK}{b:List Stmt}{cb:cX}(hp:PassesOwn (model X.prog X.w) X.A X.env X.xe)(hc:X.calm=true)(hi:PI X tg iter (tI X.K T it))(hg:PG X tg (oA X.K t))(hb:kI X b (AF X.K T cb))(hs:∀ x,foldedSetIterable iter X.env x=pure x) :
  PS X (.For tg iter b [] pos) (tS X.K T (.forr t it cb)):=by
 refine cB (z6 hp hc hi hg hb hs) fun D σ H ⟨P,Z,env,F,re,hz,zp,h⟩=>?_
 unfold bL at h;obtain⟨p,hp,h⟩:=bX h;refine⟨P,env,F,re,p,hp,fun J H1 G s1 rt nn wk=>?_⟩;have af1:=After.same (Z:=Z) re hz s1;have h:=post.trans af1 h;let P':Addr->Prop:=fun a=>P a\/a∈G
 have wk:=wk P' fun a ha=>.inr ha
 have seen:∀ a∈G,∀(i:Nat) (d:Pc.D) (t:Tg),env[i]? = some (some (d,t))->aV t=true->a∈F i->i∈p.2:=fun a ha i d t e o m=>by
  rcases rt.cont a ha with q | ⟨k,d2,t2,f,e2,sr⟩
  ·exact absurd q (re.nn e m)
  ·exact sr i ((re.one i d t e o).2.2 a m k d2 t2 e2 f)
 have reL:RE X.K P' (lock p.2 env) σ H1 F:=af1.re.locked nn seen;have gz:∀ a∈G,Z a:=Ax re hz zp rt;let E':Ends:={ D with nx:=fun σ' H'=>∀ env' F',After X.K P' Z (lock p.2 env) F H1 env' σ' H' F'->D.nx σ' H' };have stepP:∀{f:Fl},(∀ e,f≠.bk e)->(∀ e,f≠.ct e)->post X.K P Z env F H1 D (match f with | .nx e=>.nx (unlock p.2 env e) | x=>x)->post X.K P' Z (lock p.2 env) F H1 D f:=fun {f} nb nc h=>by
  cases f with
  |nx e=>exact fun σ' H' F' af=>h σ' H' F' (af.unlocked af1.re)
  |bk e=>exact absurd rfl (nb e)
  |ct e=>exact absurd rfl (nc e)
  |rt d fr=>exact fun v H' G' rp ev z f=>h v H' G' rp (ev.weak fun _ q=>.inl q) z fun w=>⟨(f w).1,fun a ha=>⟨fun q=>((f w).2 a ha).1 (.inl q),((f w).2 a ha).2⟩⟩
  |xc x e=>exact h
  |bad=>exact h
 have h:=stepP (gW _ _).1 (gW _ _).2 h;have zpL:∀ a,¬ P' a->Z a:=fun a ha=>zp a fun q=>ha (.inl q)
 refine⟨fun i m σ' H'=>m=p.1.length - i/\i<=p.1.length/\∃ env' F',After X.K P' Z (lock p.2 env) F H1 env' σ' H' F'/\post X.K P' Z env' F' H' D (bP t p.2 (aF T cb) (p.1.drop i) env'),⟨p.1.length,by simp,Nat.zero_le _,lock p.2 env,F,After.same reL hz (aE.refl _),by simpa using h⟩,?_⟩;rintro i m σ2 H2 ⟨rfl,hi,env2,F2,af2,h2⟩;obtain⟨w1,w2⟩:=wk H2 af2.ev;by_cases hlt:i<p.1.length
 ·right;have hd:p.1[i]? = some p.1[i]:=by simp[hlt]
  obtain⟨g1,g2⟩:=w1 i _ hd;refine⟨g1,fun σ' H'=>∃ env' F',After X.K P' Z (lock p.2 env) F H1 env' σ' H' F'/\post X.K P' Z env' F' H' D (bP t p.2 (aF T cb) (p.1.drop (i+1)) env'),fun σ' H' q=>⟨p.1.length - (i+1),by omega,rfl,hlt,q⟩,fun x H3 y=>?_⟩;obtain⟨s3,G3,rp3,sub3⟩:=g2 x H3 y;have af3:=After.same (Z:=Z) af2.re af2.z s3;have h2:=post.trans af3 h2;rw[bj hlt] at h2;unfold bP at h2;cases hb:bI p.2 t p.1[i] env2 with
  |none=>rw[hb] at h2;exact h2.elim
  |some env4 =>
   rw[hb] at h2;refine mn af3.re af2.z rp3 (fun a ha=>gz a (sub3 a ha)) (fun a ha j d' t' ej o m=>?_) hb fun σ4 F4 re4 z4 lk4=>?_
   ·cases t' with
    |own=>exact absurd (.inr (sub3 a ha)) (af2.re.wr j d' ej a m)
    |lk =>
     obtain⟨e5,e6⟩:=af2.lk j d' ej;rw[e6] at m;obtain⟨t0,e0,o0,_⟩:=dW e5;exact seen a (sub3 a ha) j d' t0 e0 (o0.trans o) m
    |sh Q=>cases o
   ·have af4:After X.K P' Z env2 F2 H3 env4 σ4 H3 F4:=⟨re4,z4,iJ.refl _,lk4⟩;refine⟨P',Z,env4,F4,re4,z4,zpL,?_⟩;have h2:=post.trans af4 h2;have all:=(af2.trans af3).trans af4;cases hs:aF T cb env4 with
    |nx e'=>simp only[hs] at h2;exact fun σ' H' F' af5=>⟨e',F',all.trans af5,post.trans af5 h2⟩
    |ct e'=>simp only[hs] at h2;exact fun σ' H' F' af5=>⟨e',F',all.trans af5,post.trans af5 h2⟩
    |bk e'=>simp only[hs] at h2;exact h2
    |rt d fr=>simp only[hs] at h2;exact h2
    |xc x e'=>simp only[hs] at h2;exact h2
    |bad=>simp only[hs] at h2;exact h2
 ·left;have e:i=p.1.length:=by omega
  subst e;rw[List.drop_length] at h2;exact⟨w2,h2 σ2 H2 F2 (After.same af2.re af2.z (aE.refl _))⟩
end
noncomputable def eL (cells:List (Str×Addr)):List (Str×NameKind)->List (Str×Addr)->List (Str×Addr)
 |[],acc=>acc
 | (n,k)::r,acc=>eL cells r (if k == .free then (match cells.lookup n with | some c=>(n,c)::acc | none=>acc) else acc)
theorem oB {scope:Scope}{env:Env}(h:∀ x,(x,NameKind.free)∈scope.names->∃ c,env.cells.lookup x=some c):closureFor scope env=pure (eL env.cells scope.names []):=by
 unfold closureFor;have gen:∀(names:List (Str×NameKind)) (acc:List (Str×Addr)),(∀ x,(x,NameKind.free)∈names->∃ c,env.cells.lookup x=some c) ->
   (forIn names acc fun (p:Str×NameKind) (cs:List (Str×Addr))=>(match p with
    | (name,kind)=>if (kind == .free)=true then (do let c <- cellOf env name;pure (ForInStep.yield ((name,c)::cs))) else pure (ForInStep.yield cs):Sem (ForInStep (List (Str×Addr)))))=(pure (eL env.cells names acc):Sem (List (Str×Addr))):=by
  intro names
  induction names with
  |nil=>intro acc _;rfl
  |cons x r ih =>
   intro acc hx;obtain⟨n,k⟩:=x;rw[List.forIn_cons];simp only[eL];have hr:∀ x,(x,NameKind.free)∈r->∃ c,env.cells.lookup x=some c:=fun x hm=>hx x (ae _ hm)
   by_cases hk:(k==NameKind.free)=true
   ·have e:k = .free:=by simpa using hk
    subst e;obtain⟨c,hc⟩:=hx n ao;simp only[hk,if_true,cellOf,hc];exact ih ((n,c)::acc) hr
   ·simp only[hk,if_false];exact ih acc hr
 have:=gen scope.names [] h;simpa using this
theorem kO {cells:List (Str×Addr)}{x:Str}{c:Addr}:∀{names:List (Str×NameKind)}{acc:List (Str×Addr)},(∀ y d,acc.lookup y=some d->cells.lookup y=some d)->(eL cells names acc).lookup x=some c->cells.lookup x=some c
 |[],acc,ha,h=>ha x c h
 | (n,k)::r,acc,ha,h=>by
  simp only[eL] at h;refine kO (names:=r) (fun y d q=>?_) h;by_cases hk:(k==NameKind.free)=true
  ·rw[if_pos hk] at q;cases hc:cells.lookup n with
   |none=>rw[hc] at q;exact ha y d q
   |some e =>
    rw[hc] at q;simp only[List.lookup_cons] at q;cases hy:y==n with
    |true =>
     rw[hy] at q;have:=eq_of_beq hy;subst this;rw[hc];exact q
    |false=>rw[hy] at q;exact ha y d q
  ·rw[if_neg hk] at q;exact ha y d q
theorem kz {cells:List (Str×Addr)}{x:Str}:∀{names:List (Str×NameKind)}{acc:List (Str×Addr)},(∃ c,acc.lookup x=some c)->∃ c,(eL cells names acc).lookup x=some c
 |[],acc,h=>h
 | (n,k)::r,acc,h=>by
  simp only[eL];refine kz (names:=r) ?_;by_cases hk:(k==NameKind.free)=true
  ·rw[if_pos hk];cases hc:cells.lookup n with
   |none=>exact h
   |some e =>
    simp only[List.lookup_cons];cases hy:x==n with
    |true=>exact⟨e,rfl⟩
    |false=>exact h
  ·rw[if_neg hk];exact h
theorem j0 {cells:List (Str×Addr)}{x:Str}{c:Addr}(hc:cells.lookup x=some c):∀{names:List (Str×NameKind)}{acc:List (Str×Addr)},(x,NameKind.free)∈names->∃ c,(eL cells names acc).lookup x=some c
 |[],acc,h=>by cases h
 | (n,k)::r,acc,h=>by
  simp only[eL];rcases ft.mp h with e | h
  ·cases e;refine kz (names:=r) ?_;simp only[beq_self_eq_true,if_true,hc,List.lookup_cons];exact⟨c,rfl⟩
  ·exact j0 hc (names:=r) h
noncomputable def inner (X:Cx)(scope:Scope)(N':List Str)(C:Addr)(s0:Shared)(H0:Hp)(ex:List Addr):Cx :=
 { X with N:=N',s₀:=s0,H₀:=H0,env:=compEnvC scope (cellsFrom (C+1) scope.names (eL X.env.cells scope.names [])) C X.env,outer:=X.stack,stack:=X.stack,ex:=ex,fn:=fun x=>scope.names.lookup x==some .cell,pn:=[],xe:=fun _ _=>False }
structure cT (X:Cx)(scope:Scope)(N':List Str)(pick:List (Option Nat)):Prop where
 kind:scope.kind = .function
 cells:∀ y∈scope.names,y.2 = .cell->scope.names.lookup y.1=some .cell
 names:∀ y∈scope.names,y.2 = .local->scope.names.lookup y.1=some .local
 len:pick.length=N'.length
 outer:∀ x,scope.names.lookup x=some .free->(X.env.kindOf x=some .cell\/X.env.kindOf x=some .free)
 free:∀ x,(x,NameKind.free)∈scope.names->scope.names.lookup x=some .free
 pick:∀(i j:Nat) (x:Str),pick[i]? = some (some j)->N'[i]? = some x->scope.names.lookup x=some .free/\X.N[j]? = some x
noncomputable def dU (σ:L2.St)(pick:List (Option Nat)):L2.St:=pick.map fun o=>o.bind fun j=>(σ[j]?).join
theorem dE {env:Env}:∀{names:List (Str×NameKind)}{x:Str}{k:NameKind},(names.map fun (n,k)=>if (k==NameKind.free&&env.scope.kind == .function&&env.kindOf n==some .cell) then (n,NameKind.cell) else (n,k)).lookup x=some k ->
  ∃ k0,names.lookup x=some k0/\(k=k0\/(k0 = .free/\k = .cell))
 |[],_,_,h=>by simp at h
 | (n,k0)::r,x,k,h=>by
  rw[aw] at h;by_cases hc:(k0==NameKind.free&&env.scope.kind == .function&&env.kindOf n==some .cell)=true
  ·simp only[hc,if_true,List.lookup_cons] at h;simp only[List.lookup_cons];cases hx:x==n with
   |true =>
    rw[hx] at h;cases h;rw[aj,aj] at hc;exact⟨k0,rfl,.inr ⟨by simpa using hc.1.1,rfl⟩⟩
   |false=>rw[hx] at h;exact dE h
  ·have hc:(k0==NameKind.free&&env.scope.kind == .function&&env.kindOf n==some .cell)=false:=by simpa using hc
   simp only[hc,Bool.false_eq_true,if_false,List.lookup_cons] at h;simp only[List.lookup_cons];cases hx:x==n with
   |true=>rw[hx] at h;cases h;exact⟨k0,rfl,.inl rfl⟩
   |false=>rw[hx] at h;exact dE h
theorem dM {env:Env}:∀{names:List (Str×NameKind)}{x:Str},names.lookup x=some .free ->
  (names.map fun (n,k)=>if (k==NameKind.free&&env.scope.kind == .function&&env.kindOf n==some .cell) then (n,NameKind.cell) else (n,k)).lookup x=some .cell \/
  (names.map fun (n,k)=>if (k==NameKind.free&&env.scope.kind == .function&&env.kindOf n==some .cell) then (n,NameKind.cell) else (n,k)).lookup x=some .free
 |[],_,h=>by simp at h
 | (n,k0)::r,x,h=>by
  rw[aw];by_cases hc:(k0==NameKind.free&&env.scope.kind == .function&&env.kindOf n==some .cell)=true
  ·simp only[hc,if_true,List.lookup_cons] at h ⊢;cases hx:x==n with
   |true=>left;rfl
   |false=>rw[hx] at h;exact dM h
  ·have hc:(k0==NameKind.free&&env.scope.kind == .function&&env.kindOf n==some .cell)=false:=by simpa using hc
   simp only[hc,Bool.false_eq_true,if_false,List.lookup_cons] at h ⊢;cases hx:x==n with
   |true=>rw[hx] at h;cases h;right;rfl
   |false=>rw[hx] at h;exact dM h
theorem eS:∀(names:List (Str×NameKind)) (n:Nat) (acc:List (Str×Addr)),cellsFrom n names acc=cellsFrom n names []++acc
 |[],_,_=>rfl
 | (nm,k)::r,n,acc=>by
  unfold cellsFrom;split
  ·rw[eS r (n+1) ((nm,n)::acc),eS r (n+1) [(nm,n)],ag];rfl
  ·exact eS r n acc
theorem oD:∀(names:List (Str×NameKind)) (n:Nat) {x:Str}{c:Addr},(x,c)∈cellsFrom n names []->(x,NameKind.cell)∈names
 |[],_,_,_,h=>by cases h
 | (nm,k)::r,n,x,c,h=>by
  unfold cellsFrom at h;split at h
  ·rename_i hk;rw[eS] at h;rcases dm.mp h with h | h
   ·exact ae _ (oD r _ h)
   ·have e:(x,c)=(nm,n):=by simpa using h
    cases e;rw[show k = .cell by simpa using hk];exact ao
  ·exact ae _ (oD r _ h)
theorem l0:∀(names:List (Str×NameKind)) (n:Nat) {x:Str},(x,NameKind.cell)∈names->∃ c,(cellsFrom n names []).lookup x=some c
 | (nm,k)::r,n,x,h=>by
  unfold cellsFrom;rcases ft.mp h with e | h
  ·cases e;rw[if_pos (by decide),eS,fu];cases (cellsFrom (n+1) r []).lookup nm with
   |some c=>exact⟨c,rfl⟩
   |none=>exact⟨n,by simp⟩
  ·split
   ·obtain⟨c,hc⟩:=l0 r (n+1) h;rw[eS,fu,hc];exact⟨c,rfl⟩
   ·exact l0 r n h
theorem nfe {M:Model}{A:Around}{E:Value->Shared->Prop}{s:Shared}{scope:Scope}{globals:Addr}{cl:List (Str×Addr)}{qual:Str}{env:Env}{Q:Env->Shared->Prop}
  (h:Q { scope:=scope,locals:=s.heap.objs.size,globals:=globals,cells:=cellsFrom (s.heap.objs.size+1) scope.names cl,qual:=qual,func:=none,code:=env.code,frame:=env.frame,builtins:=env.builtins } { s with heap:=pushCells (s.heap.push { cls:=.type "dict",data:=.dict #[] }) scope.names }) :
  wpAny M A (newFunctionEnv scope globals cl [] qual none .none (some env)) Q E s:=by
 simp only[newFunctionEnv,Option.isSome_some,if_true];refine wpAny_bind (wpAny_alloc (wpAny_bind (wpAny_layCells _ (fun name kind cells=>by cases hkc:kind==NameKind.cell<;>simp[hkc]) _ _ _ _ ?_)));rw[show ({ s with heap:=s.heap.push { cls:=.type "dict",data:=.dict #[] } }:Shared).heap.objs.size=s.heap.objs.size+1 from Heap.size_push ..];exact wpAny_pure h
section
variable {X:Cx}{scope:Scope}{N':List Str}{pick:List (Option Nat)}{pins:List (Addr×Obj)}{σ:L2.St}{H:Hp}{s:Shared}
theorem mO (S:cT X scope N' pick)(I:Inv X pins σ H s){fp:List Addr}(hf:∀ b∈fp,gC X pins H b)(hl:∀ b∈fp,b<s.heap.objs.size) :
  Inv (inner X scope N' s.heap.objs.size s H fp) [] (dU σ pick) H { s with heap:=pushCells (s.heap.push { cls:=.type "dict",data:=.dict #[] }) scope.names }:=by
 have old:∀ x c,(eL X.env.cells scope.names []).lookup x=some c->X.env.cells.lookup x=some c:=fun x c h=>kO (acc:=[]) (fun y d q=>by simp at q) h
 have hk:∀ b o,s.heap.get? b=some o->(pushCells (s.heap.push { cls:=.type "dict",data:=.dict #[] }) scope.names).get? b=some o:=fun b o e=>pushCells_keeps _ _ b o (Heap.get?_push_of_some _ e)
 have hn:(pushCells (s.heap.push { cls:=.type "dict",data:=.dict #[] }) scope.names).Ns s.heap.objs.size (fun _=>none):=(Heap.Ns.new s.heap (.type "dict")).keeps (pushCells_keeps _ _);have ok:=cellsFrom_ok scope.names (s.heap.push { cls:=.type "dict",data:=.dict #[] }) (s.heap.objs.size+1) [] ⟨fun _ _ hm=>(nomatch hm),List.Pairwise.nil⟩ (by rw[Heap.size_push];exact ai _);rw[Heap.size_push] at ok;generalize hh:pushCells (s.heap.push { cls:=.type "dict",data:=.dict #[] }) scope.names=h' at *;have oldlt:∀ x c,X.env.cells.lookup x=some c->c<s.heap.objs.size:=fun x c h=>by
  obtain⟨v,hv⟩:=I.cell x c h;exact hv.lt
 have look:∀ x c,(cellsFrom (s.heap.objs.size+1) scope.names (eL X.env.cells scope.names [])).lookup x=some c->((x,c)∈cellsFrom (s.heap.objs.size+1) scope.names []/\s.heap.objs.size+1<=c)\/((x,NameKind.cell)∉scope.names/\X.env.cells.lookup x=some c):=fun x c h=>by
  rw[eS,fu] at h;cases q:(cellsFrom (s.heap.objs.size+1) scope.names []).lookup x with
  |some c' =>
   rw[q] at h;cases h;have hm:=bp q;exact .inl ⟨hm,(ok.empty _ _ hm).2⟩
  |none =>
   rw[q] at h;refine .inr ⟨fun z=>?_,old x c h⟩;obtain⟨c',hc'⟩:=l0 scope.names (s.heap.objs.size+1) z;rw[q] at hc';cases hc'
 have sees:∀ x c,scope.names.lookup x=some .free->(eL X.env.cells scope.names []).lookup x=some c->(cellsFrom (s.heap.objs.size+1) scope.names (eL X.env.cells scope.names [])).lookup x=some c:=fun x c hx h=>by
  rw[eS,fu];cases q:(cellsFrom (s.heap.objs.size+1) scope.names []).lookup x with
  |some c' =>
   have:=S.cells _ (oD _ _ (bp q)) rfl;rw[hx] at this;cases this
  |none=>rw[h];rfl
 refine⟨⟨I.ok.mod,S.kind,I.ok.glob,I.ok.blt,ai _,fun x y c h1 h2=>?inj,fun x hx=>?_,fun x c hx h=>?cab,I.ok.hd,I.ok.frames,.inl rfl,fun b hb=>?_,I.bs,bh I.ok.bsz I.sz,fun b o e hb=>?_,fun b hb hb'=>?_,I.stack,I.stkFree⟩,
  rfl,I.bare,Un.kept hk,⟨_,hn,fun i x v h1 h2 h3=>?_⟩,fun x c h=>?_,I.hok.fresh (Nat.le_refl _),fun x c h=>?frc,fun p hp=>absurd (show p∈([]:List (Addr×Obj)) from hp) (by simp),I.hok.kept hk,?_⟩
 case inj =>
  rcases look x c h1 with ⟨m1,l1⟩ | ⟨_,o1⟩<;>rcases look y c h2 with ⟨m2,l2⟩ | ⟨_,o2⟩
  ·exact name_of_addr ok.apart m1 m2
  ·exact absurd (ba (oldlt y c o2) (Nat.le_of_succ_le l1)) (cx _)
  ·exact absurd (ba (oldlt x c o1) (Nat.le_of_succ_le l2)) (cx _)
  ·exact I.ok.inj x y c o1 o2
 case cab =>
  have hx:scope.names.lookup x=some .cell:=by simpa[inner] using hx
  rcases look x c h with ⟨_,l1⟩ | ⟨n1,_⟩
  ·exact bh (Nat.le_succ _) l1
  ·exact absurd (bp hx) n1
 case frc =>
  rcases look x c h with ⟨_,l1⟩ | ⟨_,o1⟩
  ·exact I.hok.fresh (bh (Nat.le_succ _) l1)
  ·exact I.freeC x c o1
 ·have hx:(relabel scope X.env).names.lookup x=some .cell\/(relabel scope X.env).names.lookup x=some .free:=hx;have hfree:scope.names.lookup x=some .free\/scope.names.lookup x=some .cell:=by
   rcases hx with hx | hx
   ·obtain⟨k0,h1,h2 | ⟨h2,_⟩⟩:=dE hx
    ·subst h2;exact .inr h1
    ·rw[h2] at h1;exact .inl h1
   ·obtain⟨k0,h1,h2 | ⟨h2,h3⟩⟩:=dE hx
    ·subst h2;exact .inl h1
    ·cases h3
  rcases hfree with hfree | hfree
  ·obtain⟨c,hc⟩:=I.ok.has x (S.outer x hfree);obtain⟨c',hc'⟩:=j0 (acc:=[]) hc (bp hfree);exact⟨c',sees x c' hfree hc'⟩
  ·obtain⟨c,hc⟩:=l0 scope.names (s.heap.objs.size+1) (bp hfree);refine⟨c,?_⟩;show (cellsFrom (s.heap.objs.size+1) scope.names (eL X.env.cells scope.names [])).lookup x=some c;rw[eS,fu,hc];rfl
 ·refine⟨bg (hl b hb),fun x c h=>?_⟩;rcases look x c h with ⟨_,l1⟩ | ⟨_,o1⟩
  ·exact fun e=>cx _ (ba (hl b hb) (e ▸ Nat.le_of_succ_le l1))
  ·exact (hf b hb).2.2.2.2.1 x c o1
 ·obtain⟨f0,f1,f2,f3,f4,f5⟩:=hf b hb;rcases f3 with f3 | f3
  ·exact I.ok.noex b o e f3
  ·exact absurd (ba (Heap.lt_size e) (bh I.ok.bsz f3)) (cx _)
 ·obtain⟨f0,f1,f2,f3,f4,f5⟩:=hf b hb;exact (ft.mp (I.stkSub b hb')).elim f1 f2
 ·
  have h2':(pick.map fun o=>o.bind fun j=>(σ[j]?).join)[i]? = some (some v):=h2;rw[List.getElem?_map] at h2';cases hp:pick[i]? with
  |none=>rw[hp] at h2';cases h2'
  |some o =>
   rw[hp] at h2';cases o with
   |none=>simp at h2'
   |some j =>
    simp only[Option.map_some,Option.bind_some,Option.some.injEq] at h2';have hj:σ[j]? = some (some v):=by
     cases q:σ[j]? with
     |none=>rw[q] at h2';cases h2'
     |some o=>rw[q] at h2';cases o with
      |none=>cases h2'
      |some w=>simp at h2';rw[h2']
    obtain⟨k1,k2⟩:=S.pick i j x hp h1;obtain⟨m0,hn0,hl0⟩:=I.loc;have vis:vI X.env.scope x:=by
     rcases S.outer x k1 with q | q
     ·exact .inr (.inl q)
     ·exact .inr (.inr q)
    obtain⟨u,r,lk⟩:=hl0 j x v k2 hj vis;refine⟨u,r,?_⟩;rcases lk with ⟨z,_⟩ | ⟨_,c,hc,hcell⟩
    ·rcases S.outer x k1 with q | q<;>· rw[z] at q;cases q
    ·obtain⟨c',hc'⟩:=j0 (names:=scope.names) (acc:=[]) hc (bp k1);have:=old x c' hc';rw[hc] at this;cases this;refine .inr ⟨dM k1,c,sees x c k1 hc',?_⟩;obtain⟨o,ho,hd⟩:=hcell;exact⟨o,hk c o ho,hd⟩
 ·rcases look x c h with ⟨m1,_⟩ | ⟨_,o1⟩
  ·exact⟨none,(ok.empty _ _ m1).1⟩
  ·obtain⟨v,o,ho,hd⟩:=I.cell x c o1;exact⟨v,o,hk c o ho,hd⟩
 ·show (pick.map _).length=N'.length;rw[ak,S.len]
end
noncomputable abbrev pz (ifs:List Expr)(env:Env):Sem Bool:=forIn ifs true fun c r=>if r=true then do let ok <- isTrue c env (eval c env);pure (ForInStep.yield ok) else pure (ForInStep.yield r)
noncomputable def AQ (X:Cx)(ifs:List Expr)(t:TT):Prop :=
 ∀(pins:List (Addr×Obj)) (s:Shared) (σ:L2.St) (H:Hp) (Q:Bool->Hp->Prop),Inv X pins σ H s->t σ H Q->wpAny (model X.prog X.w) X.A (pz ifs X.env) (TP X pins σ Q) X.xe s
theorem wj {X:Cx}:AQ X [] (fun _ H Q=>Q true H):=fun _ _ _ H Q I h=>wpAny_tests_nil ⟨H,I,h⟩
theorem vL {X:Cx}{c:Expr}{t:TT}(h:PT X c t):AQ X [c] t:=fun pins s σ H Q I q=>wpAny_tests_one (h pins s σ H Q I q)
section
variable {prog:Program}{w:World}{A:Around}{R:Result->Shared->Prop}{s:Shared}
theorem mE {elt target iter:Expr}{ifs:List Expr}{scope:Scope}{pos:Pos}{it acc:Value}{env:Env}(I:Nat->Shared->Prop)
  (turn:∀ n s,I n s->wpAny (model prog w) A (pyNext it) (fun r s₁=>match r with
   |none=>R (.ok .next) s₁
   |some v=>wpAny (model prog w) A (letOwnedTupleGo target it v) (fun _ s₀=>wpAny (model prog w) A (assign target env v) (fun _ s₂ =>
     wpAny (model prog w) A (pz ifs env) (fun ok s₃ =>
      if ok=true then wpAny (model prog w) A (eval elt env) (fun x s₄ =>
       wpAny (model prog w) A (call (.builtin "list.append") [acc,x]) (fun _ s₅=>∃ m,m<n/\I m s₅) (fun _ _=>False) s₄) (fun _ _=>False) s₃
      else ∃ m,m<n/\I m s₃) (fun _ _=>False) s₂) (fun _ _=>False) s₀) (fun _ _=>False) s₁) (fun _ _=>False) s)
  (n:Nat) (h:I n s):codeAny (model prog w) A (.compLoop (.ListComp elt [⟨target,iter,ifs,0⟩] scope pos) 0 it acc env) R s:=by
 refine codeAny_loop rfl I (fun n s hI=>?_) n h;show wpAny _ A ((compTurn (.ListComp elt [⟨target,iter,ifs,0⟩] scope pos) 0 it acc env).onRaise (fun x=>do noteFrame x env;theTreesLotGoes x)) _ _ s;refine wpAny_noted ?_;rw[compTurn_list];refine wpAny_bind (wpAny_standAt (wpAny_bind (wpAny_mono (turn n s hI) (fun r s₁ h₁=>?_) fun _ _ h'=>h'.elim)));cases r with
 |none=>exact wpAny_pure h₁
 |some v =>
  refine wpAny_bind (wpAny_mono h₁ (fun _ s₀ h₀=>?_) fun _ _ h'=>h'.elim);refine wpAny_bind (wpAny_mono h₀ (fun _ s₂ h₂=>wpAny_bind (wpAny_mono h₂ (fun ok s₃ h₃=>?_) fun _ _ h'=>h'.elim)) fun _ _ h'=>h'.elim);cases ok with
  |false=>exact wpAny_pure ⟨rfl,h₃⟩
  |true =>
   exact wpAny_bind (wpAny_bind (wpAny_mono h₃ (fun x s₄ h₄=>wpAny_bind (wpAny_mono h₄ (fun _ s₅ h₅=>wpAny_pure (wpAny_pure ⟨rfl,h₅⟩)) fun _ _ h'=>h'.elim)) fun _ _ h'=>h'.elim))
end
def uO (pick:List (Option Nat))(wi:TI)(g:TG)(tt:TT)(te:TE):TE:=fun σ H Q=>wi σ H fun J H1=>∀ l,H1 l=none->∃ W:Nat->Nat->Hp->Prop,(∃ m,W 0 m (upd H1 l (.lst [])))/\∀ i m H,W i m H ->
 (J.stop i H/\Q (.ref l) H)\/(J.go i H/\∃ N:Hp->Prop,(∀ H',N H'->∃ m',m'<m/\W (i+1) m' H')/\∀ x H',J.yld i H x H'->g x (dU σ pick) H' fun σ2 H2 =>
  tt σ2 H2 fun b H3=>if b=true then te σ2 H3 fun y H4=>∃ xs,H4 l=some (.lst xs)/\xs.length<sizeLine/\N (upd H4 l (.lst (xs ++ [y]))) else N H3)
section
variable {X:Cx}{scope:Scope}{N':List Str}{pick:List (Option Nat)}{tg iter elt:Expr}{ifs:List Expr}{pos:Pos}{wi:TI}{g:TG}{tt:TT}{te:TE}
theorem jQ (S:cT X scope N' pick)(hc:X.calm=true)(hin:∀ C s0 H0 ex,PG (inner X scope N' C s0 H0 ex) tg g/\AQ (inner X scope N' C s0 H0 ex) ifs tt/\PE (inner X scope N' C s0 H0 ex) elt te)
  (gk:∀(v:V) (σ:L2.St) (H:Hp) (Q:L2.St->Hp->Prop),g v σ H Q->g v σ H fun σ' H'=>Q σ' H'/\σ'.length=σ.length/\∀(i:Nat) u,pick[i]?≠some none->σ[i]? = some u->σ'[i]? = some u)
  {pins:List (Addr×Obj)}{σ:L2.St}{H:Hp}{s:Shared}{it:Addr}{fp:List Addr}{tn:Nat->Heap->Prop}{J:It}{E:Value->Shared->Prop}{RR:Value->Addr->Result->Shared->Prop}(I:Inv X pins σ H s) (T:Turn X.prog X.w X.K tg J fp it tn) (st:tn 0 s.heap) (hf:∀ b∈fp,gC X pins H b)
  (Q:VK) (h:∀ l,H l=none->∃ W:Nat->Nat->Hp->Prop,(∃ m,W 0 m (upd H l (.lst [])))/\∀ i m H,W i m H ->
   (J.stop i H/\Q (.ref l) H)\/(J.go i H/\∃ N:Hp->Prop,(∀ H',N H'->∃ m',m'<m/\W (i+1) m' H')/\∀ x H',J.yld i H x H'->g x (dU σ pick) H' fun σ2 H2 =>
    tt σ2 H2 fun b H3=>if b=true then te σ2 H3 fun y H4=>∃ xs,H4 l=some (.lst xs)/\xs.length<sizeLine/\N (upd H4 l (.lst (xs ++ [y]))) else N H3))
  (hR:∀(l C:Addr) (s':Shared) (H':Hp) (m:Str->Option Value),s'.heap.Ns C m->gC X pins H' C->Q (.ref l) H'->Inv X pins σ H' s'->RR (.ref l) C (.ok .next) s') :
  wpAny (model X.prog X.w) X.A (newList []) (fun acc s₃=>wpAny (model X.prog X.w) X.A (newFunctionEnv scope X.env.globals (eL X.env.cells scope.names []) [] X.env.qual none .none (some X.env)) (fun cenv s₄ =>
   codeAny (model X.prog X.w) X.A (.compStart (.ListComp elt [⟨tg,iter,ifs,0⟩] scope pos) 0 (.ref it) acc { cenv with scope:=relabel scope X.env }) (RR acc cenv.locals) s₄) E s₃) E s:=by
 have hltI:∀ b∈fp,b<s.heap.objs.size:=fun b hb=>let ⟨o,e,_⟩:=T.obj 0 _ st b hb;Heap.lt_size e
 refine wpAny_newObj_type (nfe ?_);dsimp only;have I3:Inv X pins σ (upd H s.heap.objs.size (.lst [])) { s with heap:=s.heap.push { cls:=.type "list",data:=.seq ([]:List Value).toArray } }:=I.lnew (ys:=[]) (its:=[]) (t':=s.toks) .nil (cn _);obtain⟨W,⟨m0,w0⟩,turn⟩:=h s.heap.objs.size I.fresh;have hC:(s.heap.push { cls:=.type "list",dict:=none,data:=.seq ([]:List Value).toArray }).objs.size=s.heap.objs.size+1:=Heap.size_push ..;have hf3:∀ b∈fp,gC X pins (upd H s.heap.objs.size (.lst [])) b:=fun b hb=>⟨by rw[aG (bg (hltI b hb))];exact (hf b hb).1,(hf b hb).2⟩
 have keep3:∀ b o,(s.heap.push { cls:=.type "list",dict:=none,data:=.seq ([]:List Value).toArray }).get? b=some o->(pushCells ((s.heap.push { cls:=.type "list",dict:=none,data:=.seq ([]:List Value).toArray }).push { cls:=.type "dict",data:=.dict #[] }) scope.names).get? b=some o:=fun b o e=>pushCells_keeps _ _ b o (Heap.get?_push_of_some _ e)
 have I4:=mO (s:={ s with heap:=s.heap.push { cls:=.type "list",dict:=none,data:=.seq ([]:List Value).toArray } }) S I3 hf3 (fun b hb=>by show b<(s.heap.push _).objs.size;rw[hC];exact cz (hltI b hb));dsimp only at I4;generalize hh₁:pushCells ((s.heap.push { cls:=.type "list",dict:=none,data:=.seq ([]:List Value).toArray }).push { cls:=.type "dict",data:=.dict #[] }) scope.names=h₁ at *;have st4:tn 0 h₁:=T.keep 0 _ _ st fun b hb o e=>keep3 b o (Heap.get?_push_of_some _ e)
 generalize hY:inner X scope N' (s.heap.push { cls:=.type "list",dict:=none,data:=.seq ([]:List Value).toArray }).objs.size { s with heap:=s.heap.push { cls:=.type "list",dict:=none,data:=.seq ([]:List Value).toArray } } (upd H s.heap.objs.size (.lst [])) fp=Y at I4;have hYin:=hin (s.heap.push { cls:=.type "list",dict:=none,data:=.seq ([]:List Value).toArray }).objs.size { s with heap:=s.heap.push { cls:=.type "list",dict:=none,data:=.seq ([]:List Value).toArray } } (upd H s.heap.objs.size (.lst [])) fp;rw[hY] at hYin;obtain⟨yg,yt,ye⟩:=hYin;have yE:Y.env=compEnvC scope (cellsFrom ((s.heap.push { cls:=.type "list",dict:=none,data:=.seq ([]:List Value).toArray }).objs.size+1) scope.names (eL X.env.cells scope.names [])) (s.heap.push { cls:=.type "list",dict:=none,data:=.seq ([]:List Value).toArray }).objs.size X.env:=by rw[<-hY];rfl
 have hCL:(s.heap.push { cls:=.type "list",dict:=none,data:=.seq ([]:List Value).toArray }).objs.size≠X.env.locals:=by
  rw[hC];exact Nat.ne_of_gt (cz I.lt)
 have back:∀{H5:Hp}{s5:Shared},Inv Y [] (dU σ pick) H5 s5->Q (.ref s.heap.objs.size) H5->RR (.ref s.heap.objs.size) (s.heap.push { cls:=.type "list",dict:=none,data:=.seq ([]:List Value).toArray }).objs.size (.ok .next) s5:=fun {H5 s5} I5 q=>by
  subst hY;obtain⟨m,hn,_⟩:=I5.loc;have J5:Inv X pins σ H5 s5:=Inv.call' I3 I5.os I5.base I5.hok I5.bare fun b hb=>by
   obtain⟨f0,f1,f2,f3,f4,f5⟩:=hf b hb;exact⟨f3,f1,f4,f5⟩
  have lt3:∀{b:Addr}{o:Obj},s.heap.get? b=some o->b≠(s.heap.push { cls:=.type "list",dict:=none,data:=.seq ([]:List Value).toArray }).objs.size:=fun e=>by rw[hC];exact bg (cz (Heap.lt_size e))
  refine hR _ _ s5 H5 m hn ⟨I5.free,hCL,I.nofs (by rw[hC];exact Nat.le_succ _),.inr (by rw[hC];exact f6 I.sz),fun x c e z=>?_,fun p hp z=>?_⟩ q J5
  ·obtain⟨v,o,ho,_⟩:=I.cell x c e;exact lt3 ho z
  ·exact lt3 (I.pin p hp).1 z
 have yP:Y.prog=X.prog:=by rw[<-hY];rfl
 have yw:Y.w=X.w:=by rw[<-hY];rfl
 have yK:Y.K=X.K:=by rw[<-hY];rfl
 have yA:Y.A=X.A:=by rw[<-hY];rfl
 have yc:Y.calm=true:=by rw[<-hY];exact hc
 have yx:Y.xe=fun _ _=>False:=by rw[<-hY];rfl
 have yp:Y.pn=[]:=by rw[<-hY];rfl
 have yex:Y.ex=fp:=by rw[<-hY];rfl
 have stat:∀{H':Hp},(∀ b∈fp,H' b=none)->∀ b∈fp,gC Y [] H' b:=fun {H'} hn b hb=>by
  have hb':b∈Y.ex:=by rw[yex];exact hb
  obtain⟨x1,x2⟩:=I4.ok.exf b hb';exact⟨hn b hb,x1,I4.ok.exfs b hb',.inl hb',x2,fun p hp=>by rw[yp] at hp;cases hp⟩
 rw[<-yP,<-yw,<-yA];have loop:codeAny (model Y.prog Y.w) Y.A (.compLoop (.ListComp elt [⟨tg,iter,ifs,0⟩] scope pos) 0 (.ref it) (.ref s.heap.objs.size) Y.env) (RR (.ref s.heap.objs.size) (s.heap.push { cls:=.type "list",dict:=none,data:=.seq ([]:List Value).toArray }).objs.size) { s with heap:=h₁ }:=by
  refine mE (fun n s5=>∃ i H5,Inv Y [] (dU σ pick) H5 s5/\tn i s5.heap/\(∀ b∈fp,H5 b=none)/\W i n H5) ?_ m0 ⟨0,_,I4,st4,fun b hb=>(hf3 b hb).1,w0⟩;rintro n s5 ⟨i,H5,I5,st5,fr5,w5⟩;rcases turn i n H5 w5 with ⟨stop,qn⟩ | ⟨go,N,hN,step⟩
  ·have d:=T.done Y yP yw yK yc i [] s5 (dU σ pick) H5 (fun _ _=>False) I5 (stat fr5) st5 stop;rw[<-yP,<-yw] at d;refine bW d fun r s6 ⟨hr,I6⟩=>?_
   subst hr;exact back I6 qn
  ·have d:=T.item Y yP yw yK yc i [] s5 (dU σ pick) H5 (fun _ _=>False) I5 (stat fr5) st5 go;rw[<-yP,<-yw] at d;refine bW d fun r s6 ⟨u,hr,h6⟩=>?_
   subst hr;refine bW h6 fun _ s7 ⟨x,H7,I7,r7,y7,st7,fr7⟩=>?_
   have I7':=I7.pinned (stat fr7) (T.obj _ _ st7);have yg':=yg _ s7 (dU σ pick) H7 x u _ I7' r7 (gk _ _ _ _ (step x H7 y7));rw[yx] at yg';refine bW yg' fun _ s8 ⟨σ8,H8,I8,q8,l8,k8⟩=>?_
   have yt':=yt _ s8 σ8 H8 _ I8 q8;rw[yx] at yt';refine bW yt' fun b s9 ⟨H9,I9,q9⟩=>?_
   have again:∀{σ':L2.St}{H':Hp}{s':Shared},Inv Y ([]++jZ fp s7.heap) σ' H' s'->σ'=σ8->N H'->∃ m,m<n/\∃ i H5,Inv Y [] (dU σ pick) H5 s'/\tn i s'.heap/\(∀ b∈fp,H5 b=none)/\W i m H5:=fun {σ' H' s'} J e nn=>by
    subst e;obtain⟨m',hm,w'⟩:=hN H' nn;refine⟨m',hm,i+1,H',(J.unpinned).weak (l8.symm) (fun j v e=>?_),T.keep _ _ _ st7 fun b hb o e=>(J.pin (b,o) (aq _ (aq _ (dP hb e)))).1,fun b hb=>?_,w'⟩
    ·refine k8 j _ (fun z=>?_) e;unfold dU at e;rw[List.getElem?_map,z] at e;simp at e
    ·obtain⟨o,e,_⟩:=T.obj _ _ st7 b hb;exact (J.pin (b,o) (aq _ (aq _ (dP hb e)))).2.1
   cases b with
   |false =>
    rw[if_neg az];exact again I9 rfl q9
   |true =>
    rw[if_pos rfl];have q9:te σ8 H9 fun y H4=>∃ xs,H4 s.heap.objs.size=some (.lst xs)/\xs.length<sizeLine/\N (upd H4 s.heap.objs.size (.lst (xs ++ [y]))):=q9
    have ye':=ye _ s9 σ8 H9 _ I9 q9;rw[yx] at ye';refine bW ye' fun v s10 ⟨y,H10,I10,r10,xs,e10,z10,n10⟩=>?_
    have ap:=kB _ s10 σ8 H10 (.ref s.heap.objs.size) [y] (.ref s.heap.objs.size) [v] (fun _ H'=>N H') I10 rfl (.cons r10 .nil) ⟨s.heap.objs.size,xs,y,rfl,rfl,e10,z10,n10⟩;rw[yx] at ap;exact bW ap fun _ s11 ⟨_,H11,I11,_,n11⟩=>again I11 rfl n11
 show codeAny (model Y.prog Y.w) Y.A (.compStart (.ListComp elt [⟨tg,iter,ifs,0⟩] scope pos) 0 (.ref it) (.ref s.heap.objs.size) (compEnvC scope (cellsFrom ((s.heap.push { cls:=.type "list",dict:=none,data:=.seq ([]:List Value).toArray }).objs.size+1) scope.names (eL X.env.cells scope.names [])) (s.heap.push { cls:=.type "list",dict:=none,data:=.seq ([]:List Value).toArray }).objs.size X.env))
  (RR (.ref s.heap.objs.size) (s.heap.push { cls:=.type "list",dict:=none,data:=.seq ([]:List Value).toArray }).objs.size) { s with heap:=h₁ }
 rw[<-yE];refine codeAny_compStart_list loop ?_;have l2:=loop;rw[yP,yw] at l2 ⊢;exact T.self Y.A 0 _ _ _ st4 l2
theorem eA (S:cT X scope N' pick)(hh:∀ x,(X.env.kindOf x=some .cell\/X.env.kindOf x=some .free)->∃ c,X.env.cells.lookup x=some c):closureFor scope X.env=pure (eL X.env.cells scope.names []) :=
 oB fun x hx=>hh x (S.outer x (S.free x hx))
theorem u9 (S:cT X scope N' pick)(hc:X.calm=true)(hi:PI X tg iter wi)(hin:∀ C s0 H0 ex,PG (inner X scope N' C s0 H0 ex) tg g/\AQ (inner X scope N' C s0 H0 ex) ifs tt/\PE (inner X scope N' C s0 H0 ex) elt te)
  (gk:∀(v:V) (σ:L2.St) (H:Hp) (Q:L2.St->Hp->Prop),g v σ H Q->g v σ H fun σ' H'=>Q σ' H'/\σ'.length=σ.length/\∀(i:Nat) u,pick[i]?≠some none->σ[i]? = some u->σ'[i]? = some u) (hs:∀ x,foldedSetIterable iter X.env x=pure x) :
  PE X (.ListComp elt [⟨tg,iter,ifs,0⟩] scope pos) (uO pick wi g tt te):=by
 intro pins s σ H Q I h;rw[eval_ListComp];refine wpAny_comprehension_free (use:=none) rfl hs (eA S I.ok.has) S.kind S.names (bW (hi pins s σ H _ I h) fun v s1 h1=>bW h1 fun itv s2 h2=>?_);obtain⟨it,fp,tn,J,H2,e,I2,T,st2,f2,q⟩:=h2;subst e;refine jQ (RR:=fun acc C=>compPost (model X.prog X.w) X.A X.xe none (EP X pins σ Q) acc C) S hc hin gk I2 T st2 f2 Q q fun l C s' H' m hn fc hq J0=>?_
 obtain⟨f0,f1,f2,f3,f4,f5⟩:=fc;exact⟨m,hn,fun h' sb=>⟨.ref l,H',J0.turned (t':=s'.toks) (fun b o hb e=>sb.extBut b o hb e) f0 f1 f3 f4 f5,rfl,hq⟩⟩
theorem nQ {i:Nat}{x:Str}{pos' spos:Pos}(S:cT X scope N' pick)(hc:X.calm=true)(hi:PI X tg iter wi)(hin:∀ C s0 H0 ex,PG (inner X scope N' C s0 H0 ex) tg g/\AQ (inner X scope N' C s0 H0 ex) ifs tt/\PE (inner X scope N' C s0 H0 ex) elt te)
  (gk:∀(v:V) (σ:L2.St) (H:Hp) (Q:L2.St->Hp->Prop),g v σ H Q->g v σ H fun σ' H'=>Q σ' H'/\σ'.length=σ.length/\∀(i:Nat) u,pick[i]?≠some none->σ[i]? = some u->σ'[i]? = some u) (hs:∀ x,foldedSetIterable iter X.env x=pure x)
  (hN:X.N.Nodup) (hx:X.N[i]? = some x) (hl:Loc X.env.scope x) (hf:X.fn x=true\/X.env.scope.names.lookup x=some .local) (hsw:swapsWith (.ListComp elt [⟨tg,iter,ifs,0⟩] scope pos) (some (.Name x pos')) spos.line X.env=pure true) :
  PS X (.Assign [.Name x pos'] (.ListComp elt [⟨tg,iter,ifs,0⟩] scope pos) spos) (wM (uO pick wi g tt te) (kW i)):=by
 intro pins s σ H D I h;rw[exec_Assign_Name_used _ _ _ _ hsw];refine wpAny_bind (wpAny_standAt (wpAny_bind ?_));show wpAny _ X.A (do let _ <- comprehension (.ListComp elt [⟨tg,iter,ifs,0⟩] scope pos) scope X.env _ (newList []) false (eval iter X.env) (some (assign (.Name x pos') X.env))) _ _ s;refine wpAny_bind (wpAny_mono (wpAny_comprehension_free (use:=some (assign (.Name x pos') X.env)) (Q:=fun _ s'=>SP X pins D .next s') rfl hs (eA S I.ok.has) S.kind S.names
  (bW (hi pins s σ H _ I h) fun v s1 h1=>bW h1 fun itv s2 h2=>?_)) (fun _ s' hq=>wpAny_pure (wpAny_pure hq)) fun _ _ e=>e)
 obtain⟨it,fp,tn,J,H2,e,I2,T,st2,f2,q⟩:=h2;subst e;refine jQ (RR:=fun acc C=>compPost (model X.prog X.w) X.A X.xe (some (assign (.Name x pos') X.env)) (fun _ s'=>SP X pins D .next s') acc C) S hc hin gk I2 T st2 f2 (fun x H1=>kW i x σ H1 D.nx) q fun l C s' H' m hn fc hq J0=>?_
 obtain⟨o,es,ep,ho,hd,hr⟩:=id hn;have J1:=J0.pinned (fp:=[C]) (fun b hb=>by rw[List.mem_singleton.mp hb];exact fc) fun b hb=>by rw[List.mem_singleton.mp hb];exact⟨o,ho,fun v z=>by rw[hd] at z;cases z⟩
 show wpAny (model X.prog X.w) X.A (assign (.Name x pos') X.env (.ref l)) _ _ s';refine wpAny_assign_Name (iu J1 hN hx hl (v:=.ref l) rfl (fun s2 I2=>?_) hf);have hC2:=(I2.pin (C,o) (List.mem_append_right _ (List.mem_append_right _ (dP (by simp) ho)))).1;obtain⟨f0,f1,f2,f3,f4,f5⟩:=fc;refine⟨m,⟨o,es,ep,hC2,hd,hr⟩,fun h' sb=>?_⟩;exact⟨_,H',I2.unpinned.turned (t':=s2.toks) (fun b o hb e=>sb.extBut b o hb e) f0 f1 f3 f4 f5,hq⟩
end
noncomputable def cV (own:Nat)(pick:List Nat):List (Option Nat):=List.replicate own none++pick.map some
theorem lZ (σ:L2.St)(pk:List (Option Nat)):(dU σ pk).length=pk.length:=by simp[dU]
theorem ke (env:En)(own:Nat)(pick:List Nat):(cR env own pick).length=own+pick.length:=by simp[cR]
noncomputable def kU (F:Nat->List Addr)(env:En)(own:Nat)(pick:List Nat):Nat->List Addr:=fun i=>match (cR env own pick)[i]? with
 | some (some _)=>match pick[i - own]? with
  |some j=>F j
  |none=>[]
 |_=>[]
theorem dO {env:En}{own:Nat}{pick:List Nat}{i:Nat}{d:D}{t:Tg}(h:(cR env own pick)[i]? = some (some (d,t))):t = .sh []/\own<=i/\∃ j t0,pick[i - own]? = some j/\env[j]? = some (some (d,t0)):=by
 unfold cR at h;by_cases hi:i<own
 ·rw[List.getElem?_append_left (by simpa using hi),List.getElem?_replicate] at h;split at h<;>cases h
 ·have hi:own<=i:=g6 hi;rw[List.getElem?_append_right (by simpa using hi),List.length_replicate,List.getElem?_map] at h;cases hp:pick[i - own]? with
  |none=>rw[hp] at h;cases h
  |some j =>
   rw[hp] at h;simp only[Option.map_some,Option.some.injEq] at h;split at h
   ·rename_i d0 t0 q;cases h;exact⟨rfl,hi,j,t0,rfl,q⟩
   ·cases h
section
variable {K:Frag}{P:Addr->Prop}{env:En}{σ:L2.St}{H:Hp}{F:Nat->List Addr}
theorem RE.picked (re:RE K P env σ H F)(own:Nat)(pick:List Nat):RE K (fun _=>False) (cR env own pick) (dU σ (cV own pick)) H (kU F env own pick) where
 len:=by rw[ke,lZ];simp[cV]
 val:=fun i d t h=>by
  obtain⟨rfl,hi,j,t0,hp,he⟩:=dO h;obtain⟨v,e,r⟩:=re.val j d t0 he;refine⟨v,?_,?_⟩
  ·unfold dU cV;rw[List.getElem?_map,List.getElem?_append_right (by simpa using hi),List.length_replicate,List.getElem?_map,hp];simp[e]
  ·unfold kU;rw[h,hp];exact r
 emp:=fun i h=>by
  unfold kU;split
  ·rename_i p q;exact absurd q (h p.1 p.2)
  ·rfl
 one:=fun i d t h o=>by
  obtain⟨rfl,_⟩:=dO h;cases o
 wr:=fun i d h=>by
  obtain⟨q,_⟩:=dO h;cases q
 pl:=fun _ h=>h.elim
theorem qH {own:Nat}{pick:List Nat}{i:Nat}{a:Addr}(re:RE K P env σ H F)(h:a∈kU F env own pick i):∃ j∈pick,∃ d t,a∈F j/\env[j]? = some (some (d,t)):=by
 unfold kU at h;split at h
 ·rename_i p q;obtain⟨_,hi,j,t0,hp,he⟩:=dO (d:=p.1) (t:=p.2) q;rw[hp] at h;exact⟨j,List.mem_of_getElem? hp,p.1,t0,h,he⟩
 ·cases h
end
noncomputable def z9 (K:Frag)(T:Tb):j7->TT
 |.none=>fun _ H Q=>Q true H
 |.some c=>lR K T c
section
variable {X:Cx}{T:Tb}{scope:Scope}{N':List Str}{own:Nat}{pick:List Nat}{t:jd}{it:qK}{c:j7}{e:Ex}
theorem yo {σ:L2.St}{H:Hp}{Q:Bool->Hp->Prop}{P:Addr->Prop}{env:En}{F:Nat->List Addr}{k:Bool}(re:RE X.K P env σ H F)(hk:wY T c env = .ok k)(q:∀ H',aE H H'->Q k H'):z9 X.K T c σ H Q:=by
 cases c with
 |none =>
  unfold wY at hk;cases hk;exact q H (aE.refl _)
 |some c =>
  unfold wY at hk;obtain⟨p,h1,h2⟩:=Rs.bind_ok hk;exact⟨P,env,F,re,p,k,h1,cC h2,q⟩
theorem k4 {σ:L2.St}{H:Hp}{Q:VK}(h:tE X.K T (.comp own pick t it c e) σ H Q):uO (cV own pick) (tI X.K T it) (oA X.K t) (z9 X.K T c) (tE X.K T e) σ H Q:=by
 obtain⟨P,env,F,re,p0,hev,k⟩:=h;unfold ev at hev;obtain⟨p,h1,hev⟩:=Rs.bind_ok hev;obtain⟨tot,h2,hev⟩:=Rs.bind_ok hev;have hlim:p.1.length<=lim:=Decidable.byContradiction fun hn=>by rw[if_neg hn] at hev;cases hev
 rw[if_pos hlim] at hev;cases hev;refine⟨P,env,F,re,p,h1,fun J H1 Gs s1 rt nn wk l hl=>?_⟩;have re1:=re.same s1;have wk:=wk (fun a=>a∈Gs) fun a ha=>ha
 let S0:Addr->Prop:=fun a=>a∈Gs\/∃ j∈pick,∃ d t,a∈F j/\env[j]? = some (some (d,t))
 have S0n:∀ a,S0 a->H1 a≠none:=fun a ha=>by
  rcases ha with ha | ⟨j,_,d,t,m,ej⟩
  ·exact nn a ha
  ·exact re1.nn ej m
 have lS:¬ S0 l:=fun z=>S0n l z hl
 refine⟨fun i m H2=>m=p.1.length - i/\i<=p.1.length/\∃(acc rest:List (D×Rt)) (vs:List V) (G:List Addr),eF (fun d=>dQ (bI [] t d (cR env own pick)) (wY T c) (ev T e)) (p.1.drop i) = .ok rest/\tot=acc++rest/\acc.length<=i/\H2 l=some (.lst vs)/\aD X.K H2 (acc.map (·.1)) vs G/\aE H1 H2/\l∉G /\
  (∀ a∈G,H1 a=none\/S0 a)/\(acc.all (fun q=>q.1.flat || fZ q.2)=true->G.Nodup/\∀ a∈G,H1 a=none/\∃ ws:ML,H2 a=some ws.o),?_,?_⟩
 ·refine⟨p.1.length,by simp,Nat.zero_le _,[],tot,[],[],by simpa using h2,rfl,Nat.le_refl _,aJ,.nil,aE.new hl,by simp,fun _ h=>(nomatch h),fun _=>⟨List.nodup_nil,fun _ h=>(nomatch h)⟩⟩
 ·rintro i m H2 ⟨rfl,hi,acc,rest,vs,G,hgo,htot,hacc,hl2,rs,s2,hlG,hG,hfr⟩;obtain⟨w1,w2⟩:=wk H2 (iJ.of_same (fun a ha=>nn a ha) s2);by_cases hlt:i<p.1.length
  ·right;have hd:p.1[i]? = some p.1[i]:=by simp[hlt]
   obtain⟨g1,g2⟩:=w1 i _ hd;refine⟨g1,fun H3=>i+1<=p.1.length/\∃(acc rest:List (D×Rt)) (vs:List V) (G:List Addr),eF (fun d=>dQ (bI [] t d (cR env own pick)) (wY T c) (ev T e)) (p.1.drop (i+1)) = .ok rest/\tot=acc++rest/\acc.length<=i+1/\H3 l=some (.lst vs)/\aD X.K H3 (acc.map (·.1)) vs G/\aE H1 H3/\l∉G /\
    (∀ a∈G,H1 a=none\/S0 a)/\(acc.all (fun q=>q.1.flat || fZ q.2)=true->G.Nodup/\∀ a∈G,H1 a=none/\∃ ws:ML,H3 a=some ws.o),fun H3 q=>⟨p.1.length - (i+1),by omega,rfl,q⟩,fun x H3 y=>?_⟩
   obtain⟨s3,G3,rp3,sub3⟩:=g2 x H3 y;rw[bj hlt] at hgo;unfold eF at hgo;obtain⟨o,hstep,hgo⟩:=Rs.bind_ok hgo;obtain⟨rest',hrest,hgo⟩:=Rs.bind_ok hgo;cases hb:bI [] t p.1[i] (cR env own pick) with
   |none=>rw[hb] at hstep;cases hstep
   |some env4 =>
    rw[hb] at hstep;unfold dQ at hstep;obtain⟨kc,hkc,hstep⟩:=Rs.bind_ok hstep;have rep:=(re1.same (s2.trans s3)).picked own pick;let Z:Addr->Prop:=fun a=>S0 a
    have zF:∀ i,∀ a∈kU F env own pick i,Z a:=fun i a ha=>by
     obtain⟨j,hj,d,t,m,ej⟩:=qH (re1.same (s2.trans s3)) ha;exact .inr ⟨j,hj,d,t,m,ej⟩
    refine mn (Z:=Z) rep zF rp3 (fun a ha=>.inl (sub3 a ha)) (fun a ha j d' t' ej o m=>?_) hb fun σ4 F4 re4 z4 _=>?_
    ·obtain⟨rfl,_⟩:=dO ej;cases o
    ·refine yo re4 hkc fun H5 s5=>?_
     have base5:=s2.trans (s3.trans s5);have l5:H5 l=some (.lst vs):=s5 _ _ (s3 _ _ hl2);cases kc with
     |false =>
      show if false=true then _ else _
      rw[if_neg az];simp only[Bool.false_eq_true,if_false] at hstep;cases hstep;cases hgo;refine⟨hlt,acc,rest',vs,G,hrest,htot,f6 hacc,l5,rs.same (s3.trans s5),base5,hlG,hG,fun f=>?_⟩;obtain⟨n1,n2⟩:=hfr f;exact⟨n1,fun a ha=>⟨(n2 a ha).1,let ⟨ws,q⟩:=(n2 a ha).2;⟨ws,s5 _ _ (s3 _ _ q)⟩⟩⟩
     |true =>
      show if true=true then _ else _
      rw[if_pos rfl];simp only[if_true] at hstep;obtain⟨q,hq,hstep⟩:=Rs.bind_ok hstep;cases hstep;cases hgo;refine⟨_,env4,F4,re4.same s5,q,hq,fun yv H6 Gy s6 rpy rty=>?_⟩;have l6:H6 l=some (.lst vs):=s6 _ _ l5;have base6:=base5.trans s6;have old6:=s3.trans (s5.trans s6);have yS:∀ a∈Gy,H5 a=none\/S0 a:=fun a ha=>(rty.cont a ha).imp id fun ⟨i,d,t,m,_⟩=>z4 i a m
      have ly:l∉Gy:=fun z=>by
       rcases yS l z with q | q
       ·rw[l5] at q;cases q
       ·exact lS q
      have len6:vs.length=acc.length:=by have:=rs.len;rw[ak] at this;exact this.symm
      refine⟨vs,l6,Nat.lt_of_le_of_lt (Nat.le_trans (Nat.le_of_eq len6) (Nat.le_trans hacc (Nat.le_of_lt (Nat.lt_of_lt_of_le hlt hlim)))) (by decide),hlt,acc ++ [q],rest',vs ++ [yv],G++(Gy ++ []),hrest,by rw[htot];simp,by simp;exact hacc,aJ,?_,?_,?_,?_,?_⟩
      ·rw[cw];exact (aD.append (rs.same old6) (.cons rpy .nil)).upd l6 (by simp;exact⟨hlG,ly⟩)
      ·intro b o e;rw[aG (fun z=>by subst z;rw[hl] at e;cases e)];exact base6 _ _ e
      ·simp;exact⟨hlG,ly⟩
      ·intro a ha;rw[ax] at ha;rcases dm.mp ha with ha | ha
       ·exact hG a ha
       ·exact (yS a ha).imp (aE.no base5) id
      ·intro f;rw[List.all_append,aj] at f;obtain⟨n1,n2⟩:=hfr f.1;have fy:Gy.Nodup/\∀ a∈Gy,H5 a=none/\∃ ws:ML,H6 a=some ws.o:=by
        have f2:q.1.flat=true\/fZ q.2=true:=by simpa using f.2
        rcases f2 with f2 | f2
        ·rw[rpy.flat f2];exact⟨bw,fun _ h=>(nomatch h)⟩
        ·have:q.2 = .mv []:=by
          cases hr:q.2 with
          |sh R=>rw[hr] at f2;cases f2
          |mv R=>cases R with
           |nil=>rfl
           |cons a b=>rw[hr] at f2;cases f2
         obtain⟨m1,m2,m3⟩:=rty.mv [] this;refine⟨m1,fun a ha=>⟨?_,m2 a ha⟩⟩;rcases m3 a ha with z | ⟨_,_,_,z,_⟩
         ·exact z
         ·cases z
       rw[ax];refine⟨dw.mpr ⟨n1,fy.1,fun a ha b hb z=>?_⟩,fun a ha=>?_⟩
       ·subst z;obtain⟨_,ws,w⟩:=n2 a ha;have:=s5 _ _ (s3 _ _ w);rw[(fy.2 a hb).1] at this;cases this
       ·have ne:a≠l:=fun z=>by
         subst z;rcases dm.mp ha with ha | ha
         ·exact hlG ha
         ·exact ly ha
        rcases dm.mp ha with ha | ha
        ·obtain⟨u1,ws,w⟩:=n2 a ha;exact⟨u1,ws,by rw[aG ne];exact old6 _ _ w⟩
        ·obtain⟨u1,ws,w⟩:=fy.2 a ha;exact⟨aE.no base5 u1,ws,by rw[aG ne];exact w⟩
  ·left;have ei:i=p.1.length:=by omega
   subst ei;refine⟨w2,?_⟩;rw[List.drop_length] at hgo;unfold eF at hgo;cases hgo;rw[ax] at htot;subst htot;refine k _ H2 (l::G) (s1.trans s2) (.lst (.inl hl2) rs) ?_;have hl0:=aE.no s1 hl;cases hf:tot.all (fun q=>q.1.flat || fZ q.2) with
   |true =>
    obtain⟨n1,n2⟩:=hfr hf;have new:∀ a∈l::G,H a=none:=fun a ha=>by
     rcases ft.mp ha with rfl | ha
     ·exact hl0
     ·exact aE.no s1 (n2 a ha).1
    refine⟨fun a ha=>.inl (new a ha),fun R e=>⟨List.nodup_cons.mpr ⟨hlG,n1⟩,fun a ha=>?_,fun a ha=>.inl (new a ha)⟩⟩;rcases ft.mp ha with rfl | ha
    ·exact⟨.l _,hl2⟩
    ·exact (n2 a ha).2
   |false =>
    refine⟨fun a ha=>?_,fun R e=>by cases e⟩;rcases ft.mp ha with rfl | ha
    ·exact .inl hl0
    ·rcases hG a ha with q | q | ⟨j,hj,d,t,m,ej⟩
     ·exact .inl (aE.no s1 q)
     ·exact (rt.cont a q).imp id fun ⟨i,d,t,x,y,z⟩=>⟨i,d,t,x,y,fun r hr=>bf _ (z r hr)⟩
     ·refine .inr ⟨j,d,t,m,ej,fun r hr=>aq _ ?_⟩;unfold kE;rw[List.mem_flatten];exact⟨aT j t,List.mem_map.mpr ⟨j,hj,by rw[ej]⟩,hr⟩
theorem kG {K:Frag}{t:jd}{pk:List (Option Nat)}(ht:∀ i,(t = .nm i\/∃ is,t = .tp is/\i∈is)->pk[i]? = some none)(v:V)(σ:L2.St)(H:Hp)(Q:L2.St->Hp->Prop)(h:oA K t v σ H Q) :
  oA K t v σ H fun σ' H'=>Q σ' H'/\σ'.length=σ.length/\∀(i:Nat) u,pk[i]?≠some none->σ[i]? = some u->σ'[i]? = some u:=by
 cases t with
 |nm i=>exact⟨h,by simp,fun j u hj e=>by rw[List.getElem?_set_ne];exact e;rintro rfl;exact hj (ht i (.inl rfl))⟩
 |tp is =>
  obtain⟨a,xs,e1,e2,e3,h⟩:=h;refine⟨a,xs,e1,e2,e3,?_⟩;have gen:∀(is:List Nat) (xs:List V) (σ1:L2.St),(∀ i∈is,pk[i]? = some none)->σ1.length=σ.length->(∀(i:Nat) u,pk[i]?≠some none->σ[i]? = some u->σ1[i]? = some u)->eY is xs σ1 H Q->eY is xs σ1 H fun σ' H'=>Q σ' H'/\σ'.length=σ.length/\∀(i:Nat) u,pk[i]?≠some none->σ[i]? = some u->σ'[i]? = some u:=by
   intro is
   induction is with
   |nil=>intro xs σ1 _ hl hk h;exact⟨h.1,h.2,hl,hk⟩
   |cons j js ih =>
    intro xs σ1 hi hl hk h;obtain⟨v,r,e,h⟩:=h;refine⟨v,r,e,ih r (σ1.set j (some v)) (fun i hm=>hi i (List.mem_cons_of_mem _ hm)) (by simp[hl]) (fun i u hi' e'=>?_) h⟩;rw[List.getElem?_set_ne];exact hk i u hi' e';rintro rfl;exact hi' (hi j ao)
  exact gen is xs σ (fun i hm=>ht i (.inr ⟨is,rfl,hm⟩)) rfl (fun _ _ _ e=>e) h
end
def kJ (K:Frag)(T:Tb)(x:Nat)(path:j7):TE:=fun σ H Q=>∃ P env F po v p,RE K P env σ H F/\kf T path env = .ok po/\σ[x]? = some (some v)/\PV K H v po p/\∀ H',aE H H'->Q (.ref p) H'
section
variable {X:Cx}{T:Tb}{pos:Pos}{i:Nat}{x:Str}
theorem yN (hN:X.N[i]? = some x)(hv:vI X.env.scope x)(hd:(x==("__debug__" : Str))=false) (hcd:(x==("__classdict__" : Str))=false):PE X (.Name x pos) (kJ X.K T i .none):=by
 refine aZ (n5 hN hv hd hcd) fun σ H Q ⟨P,env,F,po,v,p,re,hpo,hv,pv,k⟩=>?_
 unfold kf at hpo;cases hpo;cases pv;exact⟨_,hv,k H (aE.refl _)⟩
theorem w4 {e:Expr}{c:Ex}{pos':Pos}(hN:X.N[i]? = some x)(hv:vI X.env.scope x)(hd:(x==("__debug__" : Str))=false) (hcd:(x==("__classdict__" : Str))=false) (he:PE X e (tE X.K T c)) (hs:jj e):PE X (.Subscript (.Name x pos') e pos) (kJ X.K T i (.some c)):=by
 refine aZ (x5 (qa.or rG) (n5 hN hv hd hcd) he hs) fun σ H Q ⟨P,env,F,po,v,p,re,hpo,hv,pv,k⟩=>?_
 unfold kf at hpo;obtain⟨q,h1,hpo⟩:=Rs.bind_ok hpo;cases hq:q.1 with
 |int j =>
  rw[hq] at hpo;cases hpo;refine⟨v,hv,P,env,F,re,q,h1,fun w H1 G s rpi rti=>?_⟩;rw[hq] at rpi;obtain⟨rfl,_⟩:=rpi.int_inv;cases pv with
  |item h hj e =>
   rename_i r ws n;have hat:vT ws j=some (.ref p):=by
    unfold vT;rw[<-rV,hj];exact e
   rcases h with h | h
   ·exact .inl ⟨r,ws,j,.ref p,rfl,rfl,.inl (aE.rd s h),hat,k H1 s⟩
   ·exact .inr ⟨r,ws,j,.ref p,rfl,rfl,aE.sqT s h,hat,k H1 s⟩
 |_=>rw[hq] at hpo;cases hpo
end
def uC (K:Frag)(m:mZ):V->List V->Hp->VK->Prop:=fun x vs H Q=>∃ l ws xs ds Gx G ys,x = .ref l/\H l=some (.lst ws)/\aD K H xs ws Gx/\aD K H ds vs G/\uu m xs ds=some ys/\ys.length<=lim/\l∉Gx/\l∉G/\Gx.Nodup /\
 ∀ us Gy v,aD K (upd H l (.lst us)) ys us Gy->(∀ a∈Gy,a∈Gx\/(m.copies=false/\a∈G))->((∀ a∈Gx,a∉G)->G.Nodup\/m.copies=true->Gy.Nodup)->Q v (upd H l (.lst us))
section
variable {X:Cx}
theorem oK:MtM X "list.append" (uC X.K .append):=by
 intro pins s σ H x vs v us Q I rx rv h;obtain⟨l,ws,xs,ds,Gx,G,ys,rfl,hl,r1,r2,hm,hlen,n1,n2,nd,k⟩:=h
 match ds,hm with
 |[d],hm =>
  cases hm;obtain⟨y,rfl,rp⟩:=r2.of1;refine kB pins s σ H _ _ v us Q I rx rv ⟨l,ws,y,rfl,rfl,hl,?_,k (ws ++ [y]) (Gx++(G ++ [])) _ ?_ (fun a ha=>?_) fun dj o=>?_⟩
  ·rw[<-r1.len];simp only[List.length_append,List.length_singleton] at hlen;exact ba (ba (Nat.lt_succ_self _) hlen) rY
  ·exact (r1.append (.cons rp .nil)).upd hl (by simp;exact⟨n1,n2⟩)
  ·simp at ha;exact ha.imp id fun z=>⟨rfl,z⟩
  ·rcases o with o | o
   ·rw[ax];exact dw.mpr ⟨nd,o,fun a ha b hb z=>by subst z;exact dj a ha hb⟩
   ·cases o
theorem jO {T:Tb}{i:Nat}{path:j7}{m:mZ}{cs:j5}{D:Ends}{σ:L2.St}{H:Hp}(h:tS X.K T (.mut i path m cs) D σ H):uH (tBM X.K "list" (uC X.K m) (kJ X.K T i path) (ue X.K T cs)) D σ H:=by
 obtain⟨P,Z,env,F,re,hz,zp,h⟩:=h;unfold bL at h;cases hx:ownAt env i with
 |none=>rw[hx] at h;exact h.elim
 |some d =>
  rw[hx] at h;obtain⟨po,hpo,h⟩:=bX h;cases hat:d.at1 po with
  |none=>rw[hat] at h;exact h.elim
  |some xs =>
   rw[hat] at h;obtain⟨l,hl,h⟩:=bX h;cases hm:uu m xs (l.map (·.1)) with
   |none=>rw[hm] at h;exact h.elim
   |some ys =>
    rw[hm] at h;have hx':=eU hx;obtain⟨v,hv,_⟩:=re.val i d .own hx';obtain⟨p,pv,f⟩:=kY re hx hv hat;refine⟨P,env,F,po,v,p,re,hpo,hv,pv,fun H1 s1=>?_⟩;obtain⟨ws1,g1,e1,_⟩:=f H1 s1;refine⟨.inl ⟨rfl,ws1,.inl (.inl e1)⟩,P,env,F,re.same s1,l,hl,fun vs H2 G ar=>?_⟩;have s2:=s1.trans ar.same;obtain⟨ws,Gx,a1,a2,a3,a4,a5,a6,fs⟩:=f H2 s2;by_cases hroot:(aO (l.map (·.2))).contains i=true
    ·simp only[hroot,if_true] at h;exact h.elim
    simp only[hroot,if_false] at h;have disj:∀ a∈F i,a∉G:=fun a ha hg=>by
     rcases ar.cont a hg with q | ⟨j,d2,t2,m2,e2,sr⟩
     ·exact (re.same s1).nn hx' ha q
     ·exact hroot (by simpa using sr i ((re.one i d .own hx' rfl).2.2 a ha j d2 t2 e2 m2))
    have nG:=disj p a3;refine⟨p,ws,xs,l.map (·.1),Gx,G,ys,rfl,a1,a2,ar.reps,hm,qC h,a6,nG,a5,fun us Gy w rs sub nd=>?_⟩;refine nI (N:=if m.copies then [] else G) re hz zp s2 hx hv a3 (fun R hR ndR=>?_) (fun hN hNd=>?_) h
    ·cases hc:m.copies with
     |true=>exact⟨bw,fun _ h=>(nomatch h),fun _ h=>(nomatch h)⟩
     |false =>
      rw[hc] at hR;obtain⟨n1,n2,n3⟩:=Args.mv (re.same s1) ar hR ndR;exact⟨n1,n2,fun a ha=>(n3 a ha).imp (aE.no s1) id⟩
    ·have ngy:Gy.Nodup:=nd (fun a ha=>disj a (a4 a ha)) (by
      cases hc:m.copies with
      |true=>exact .inr rfl
      |false=>rw[hc] at hNd;exact .inl hNd)
     obtain⟨G',b1,b2,b3⟩:=fs ys us Gy rs ngy (fun z=>(sub p z).elim a6 fun q=>nG q.2) fun a ha=>(sub a ha).imp id fun q z=>disj a z q.2
     refine⟨G',b1,b2,fun a ha=>?_⟩;rcases b3 a ha with q | q
     ·exact .inl q
     ·rcases sub a q with z | ⟨z1,z2⟩
      ·exact .inl (a4 a z)
      ·rw[z1];exact .inr z2
theorem qw {T:Tb}{i:Nat}{path:j7}{m:mZ}{D:Ends}{σ:L2.St}{H:Hp}(h:tS X.K T (.mut i path m .nil) D σ H):uH (A4 X.K "list" (uC X.K m) (kJ X.K T i path)) D σ H:=by
 obtain⟨P,env,F,po,v,p,re,hpo,hv,pv,k⟩:=jO h;refine⟨P,env,F,po,v,p,re,hpo,hv,pv,fun H' s=>?_⟩;obtain⟨ty,P',env',F',re',l,hl,f⟩:=k H' s;unfold bQ at hl;cases hl;exact⟨ty,f [] H' [] (.nil (aE.refl _))⟩
theorem uB {T:Tb}{i:Nat}{path:j7}{c e:Ex}{D:Ends}{σ:L2.St}{H:Hp}(h:tS X.K T (.setix i path c e) D σ H):wM (tE X.K T e) (Bh (kJ X.K T i path) (tE X.K T c) xX) D σ H:=by
 obtain⟨P,Z,env,F,re,hz,zp,h⟩:=h;unfold bL at h;cases hx:ownAt env i with
 |none=>rw[hx] at h;exact h.elim
 |some d =>
  rw[hx] at h;obtain⟨q,hq,h⟩:=bX h;obtain⟨po,hpo,h⟩:=bX h;cases hat:d.at1 po with
  |none=>rw[hat] at h;exact h.elim
  |some xs =>
   rw[hat] at h;obtain⟨qi,hqi,h⟩:=bX h;cases hqq:qi.1 with
   |int n =>
    rw[hqq] at h;cases hj:gE xs.length n with
    |none=>simp only[hj] at h;exact h.elim
    |some j =>
     simp only[hj] at h;have hx':=eU hx;obtain⟨v,hv,_⟩:=re.val i d .own hx';refine⟨P,env,F,re,q,hq,fun w H1 G s1 rp rt=>?_⟩;have re1:=re.same s1;obtain⟨p,pv,f⟩:=kY re1 hx hv hat;refine⟨P,env,F,po,v,p,re1,hpo,hv,pv,fun H2 s2=>⟨P,env,F,re1.same s2,qi,hqi,fun wi H3 Gi s3 rpi rti=>?_⟩⟩;rw[hqq] at rpi;obtain⟨rfl,_⟩:=rpi.int_inv;obtain⟨ws,Gx,a1,a2,a3,a4,a5,a6,fs⟩:=f H3 (s2.trans s3);have jl:=zo hj;refine⟨p,ws,n,j,rfl,rfl,a1,by rw[<-a2.len];exact hj,?_⟩;have hroots:∀ R,q.2 = .mv R->i∉R->∀ a∈F i,a∉G:=fun R hr hiR a ha hg=>by
      rcases rt.cont a hg with z | ⟨k,d2,t2,m2,e2,sr⟩
      ·exact re.nn hx' ha z
      ·have:=sr i ((re.one i d .own hx' rfl).2.2 a ha k d2 t2 e2 m2);rw[hr] at this;exact hiR this
     have s13:=s2.trans s3;refine nI (N:=G) re hz zp (s1.trans s13) hx hv a3 (fun R hR ndR=>?_) (fun hN hNd=>?_) h
     ·have hr:q.2 = .mv R:=by
       cases hr:q.2 with
       |sh Q=>rw[hr] at hR;cases hR
       |mv Q=>rw[hr] at hR;simp[cN] at hR;rw[hR]
      obtain⟨n1,n2,n3⟩:=rt.mv R hr;exact⟨n1,fun a ha=>let ⟨ws,z⟩:=n2 a ha;⟨ws,s13 _ _ z⟩,n3⟩
     ·obtain⟨u,A,B,C,e1,e2,r1,g⟩:=a2.split (i:=j) (d:=xs[j]) (List.getElem?_eq_getElem jl);subst e2;have hpG:p∉G:=fun z=>hN p z a3
      have pAC:∀ b∈A++C,b≠p:=fun b hb z=>by
       rw[z] at hb;refine a6 ?_;rcases dm.mp hb with hb | hb
       ·exact bf _ hb
       ·exact aq _ (aq _ hb)
      have rs:=g (upd H3 p (.lst (ws.set j w))) q.1 w G (fun _ _=>gX a1) (iK (ws:=.l _) a1) (fun b hb _ h=>(aG (pAC b hb)).trans h) ((rp.same s13).upd a1 hpG);have gsub:∀ a∈A++(G++C),a∈A++(B++C)\/a∈G:=fun a ha=>by
       simp only[List.mem_append] at ha ⊢;rcases ha with ha | ha | ha
       ·exact .inl (.inl ha)
       ·exact .inr ha
       ·exact .inl (.inr (.inr ha))
      have ng:(A++(G++C)).Nodup:=by
       rw[dw] at a5;obtain⟨nA,nB,nAB⟩:=a5;rw[dw] at nB;obtain⟨_,nC,_⟩:=nB;rw[dw];refine⟨nA,dw.mpr ⟨hNd,nC,fun a ha b hb z=>?_⟩,fun a ha b hb z=>?_⟩
       ·subst z;exact hN a ha (a4 a (by simp[hb]))
       ·subst z;rcases dm.mp hb with hb | hb
        ·exact hN a hb (a4 a (by simp[ha]))
        ·exact nAB a ha a (by simp[hb]) rfl
      obtain⟨G',b1,b2,b3⟩:=fs (xs.set j q.1) (ws.set j w) _ rs ng (fun z=>(gsub p z).elim a6 hpG) fun a ha=>(gsub a ha).imp id fun z y=>hN a z y
      refine⟨G',b1,b2,fun a ha=>?_⟩;rcases b3 a ha with z | z
      ·exact .inl z
      ·exact (gsub a z).imp (a4 a) id
   |_=>rw[hqq] at h;exact h.elim
end
section
variable {X:Cx}
noncomputable def fX:List String:=["int","bool","str","list","tuple"]
theorem ty_type {T:String}(h:T∈fX):typeOf (.type T)=pure (.type "type"):=by
 simp only[fX,List.mem_cons,List.not_mem_nil,or_false] at h;rcases h with rfl | rfl | rfl | rfl | rfl<;>kernel_rfl
def BK (K:Frag):List V->Hp->VK->Prop:=fun xs H Q=>∃ x T d G,xs=[x,.ty T]/\T∈fX/\((∀ kvs,d≠.dct kvs)/\(∀ ks,d≠.mpi ks)/\(∀ ks,d≠.mpt ks)/\∀ ks,d≠.mpz ks)/\Rep K H d x G/\Q (.bl (sT T d)) H
theorem qx:fE X (.builtin "isinstance") (BK X.K):=by
 intro pins s σ H xs us Q I r h;obtain⟨x,T,d,G,rfl,hT,hnd,rp,q⟩:=h;obtain⟨u,w,rfl,rx,rt⟩:=r.two;obtain rfl:w=Value.type T:=rt;have hty:=ty_type hT;have yes:∀{Tx:String},s.TypeIs u Tx->isSubtype (.type Tx) (.type T)=pure true->sT T d=true->wpAny (model X.prog X.w) X.A (call (.builtin "isinstance") [u,.type T]) (EP X pins σ Q) X.xe s:=fun h1 h2 h3 =>
  call_isinstance (isinstance_true hty h2) ⟨h1,⟨.bl true,H,I,rfl,by rw[h3] at q;exact q⟩⟩
 have no:sT T d=false->EP X pins σ Q (.bool false) { s with toks:=s.toks+1 }:=fun h=>⟨.bl false,H,I.tok _,rfl,by rw[h] at q;exact q⟩
 simp only[fX,List.mem_cons,List.not_mem_nil,or_false] at hT;cases d with
 |dct kvs=>exact absurd rfl (hnd.1 kvs)
 |mpi ks=>exact absurd rfl (hnd.2.1 ks)
 |mpt ks=>exact absurd rfl (hnd.2.2.1 ks)
 |mpz ks=>exact absurd rfl (hnd.2.2.2 ks)
 |non =>
  obtain⟨rfl,_⟩:=rp.non_inv;cases rx;rcases hT with rfl | rfl | rfl | rfl | rfl
  ·exact call_isinstance (isinstance_false_none (by decide) hty F.sub_NoneType_int) (no rfl)
  ·exact call_isinstance (isinstance_false_none (by decide) hty F.sub_NoneType_bool) (no rfl)
  ·exact call_isinstance (isinstance_false_none (by decide) hty F.sub_NoneType_str) (no rfl)
  ·exact call_isinstance (isinstance_false_none (by decide) hty F.sub_NoneType_list) (no rfl)
  ·exact call_isinstance (isinstance_false_none (by decide) hty F.sub_NoneType_tuple) (no rfl)
 |bl b =>
  obtain⟨rfl,_⟩:=rp.bl_inv;cases rx;rcases hT with rfl | rfl | rfl | rfl | rfl
  ·exact yes (PySem.typeIs_bool s b) F.sub_bool_int rfl
  ·exact yes (PySem.typeIs_bool s b) F.sub_bool_bool rfl
  ·exact call_isinstance (isinstance_false_bool (by decide) hty F.sub_bool_str) (no rfl)
  ·exact call_isinstance (isinstance_false_bool (by decide) hty F.sub_bool_list) (no rfl)
  ·exact call_isinstance (isinstance_false_bool (by decide) hty F.sub_bool_tuple) (no rfl)
 |int i =>
  obtain⟨rfl,_⟩:=rp.int_inv;obtain⟨t,rfl⟩:=rx;rcases hT with rfl | rfl | rfl | rfl | rfl
  ·exact yes (typeIs_int s i t) F.sub_int_int rfl
  ·exact call_isinstance (isinstance_false_int (by decide) hty F.sub_int_bool) (no rfl)
  ·exact call_isinstance (isinstance_false_int (by decide) hty F.sub_int_str) (no rfl)
  ·exact call_isinstance (isinstance_false_int (by decide) hty F.sub_int_list) (no rfl)
  ·exact call_isinstance (isinstance_false_int (by decide) hty F.sub_int_tuple) (no rfl)
 |str z =>
  obtain⟨rfl,_⟩:=rp.str_inv;obtain⟨t,rfl⟩:=rx;rcases hT with rfl | rfl | rfl | rfl | rfl
  ·exact call_isinstance (isinstance_false_str (by decide) hty F.sub_str_int) (no rfl)
  ·exact call_isinstance (isinstance_false_str (by decide) hty F.sub_str_bool) (no rfl)
  ·exact yes (typeIs_str s z t) F.sub_str_str rfl
  ·exact call_isinstance (isinstance_false_str (by decide) hty F.sub_str_list) (no rfl)
  ·exact call_isinstance (isinstance_false_str (by decide) hty F.sub_str_tuple) (no rfl)
 |lst ds =>
  obtain⟨p,vs,g,rfl,_,a1,_⟩:=rp.lst_inv;cases rx;obtain⟨its,_,pl,_⟩:=I.list (.inl a1);obtain⟨o,ho,hc,_⟩:=pl.isList;rcases hT with rfl | rfl | rfl | rfl | rfl
  ·exact call_isinstance (isinstance_false_list (by decide) hty F.sub_list_int) ⟨⟨o,ho,hc⟩,no rfl⟩
  ·exact call_isinstance (isinstance_false_list (by decide) hty F.sub_list_bool) ⟨⟨o,ho,hc⟩,no rfl⟩
  ·exact call_isinstance (isinstance_false_list (by decide) hty F.sub_list_str) ⟨⟨o,ho,hc⟩,no rfl⟩
  ·exact yes ⟨o,ho,hc⟩ F.sub_list_list rfl
  ·exact call_isinstance (isinstance_false_list (by decide) hty F.sub_list_tuple) ⟨⟨o,ho,hc⟩,no rfl⟩
 |tup ds =>
  obtain⟨p,vs,rfl,a1,_⟩:=rp.tup_inv;cases rx;obtain⟨its,_,pl,_⟩:=I.tuple a1;obtain⟨o,ho,hc,_⟩:=pl;rcases hT with rfl | rfl | rfl | rfl | rfl
  ·exact call_isinstance (isinstance_false_tuple (by decide) hty F.sub_tuple_int) ⟨⟨o,ho,hc⟩,no rfl⟩
  ·exact call_isinstance (isinstance_false_tuple (by decide) hty F.sub_tuple_bool) ⟨⟨o,ho,hc⟩,no rfl⟩
  ·exact call_isinstance (isinstance_false_tuple (by decide) hty F.sub_tuple_str) ⟨⟨o,ho,hc⟩,no rfl⟩
  ·exact call_isinstance (isinstance_false_tuple (by decide) hty F.sub_tuple_list) ⟨⟨o,ho,hc⟩,no rfl⟩
  ·exact yes ⟨o,ho,hc⟩ F.sub_tuple_tuple rfl
theorem rQ {T:Tb}{b:String}{c:Ex}{σ:L2.St}{H:Hp}{Q:VK}(hb:b∈fX)(h:tE X.K T (.blt (.isi b) (.cons c .nil)) σ H Q):tCB (BK X.K) (uj (tE X.K T c) (uj (tC (.ty b)) AB)) σ H Q:=by
 obtain⟨P,env,F,re,p,hev,k⟩:=h;unfold ev bQ bQ at hev;obtain⟨l,h1,hev⟩:=Rs.bind_ok hev;obtain⟨q,h2,h1⟩:=Rs.bind_ok h1;cases h1;obtain⟨d',h3,hev⟩:=Rs.bind_ok hev;have h3:jx (.isi b) [q.1]=some d':=cC h3;have hnd:(∀ kvs,q.1≠.dct kvs)/\(∀ ks,q.1≠.mpi ks)/\(∀ ks,q.1≠.mpt ks)/\∀ ks,q.1≠.mpz ks:=⟨fun kvs e=>(by rw[e] at h3;cases h3),fun kvs e=>(by rw[e] at h3;cases h3),fun kvs e=>(by rw[e] at h3;cases h3),fun kvs e=>(by rw[e] at h3;cases h3)⟩;have hd:d' = .bl (sT b q.1):=by
  cases hq:q.1 with
  |dct kvs=>exact absurd hq (hnd.1 kvs)
  |mpi ks=>exact absurd hq (hnd.2.1 ks)
  |mpt ks=>exact absurd hq (hnd.2.2.1 ks)
  |mpz ks=>exact absurd hq (hnd.2.2.2 ks)
  |_=>rw[hq] at h3;cases h3;rfl
 subst hd;cases hev;exact⟨P,env,F,re,q,h2,fun v H1 G s rp rt=>⟨v,b,q.1,G,rfl,hb,hnd,rp,k _ H1 [] s (.bl _) bB.nil⟩⟩
theorem kj:∀{ds:List D}{a r:Int},oS a ds=some r->∃ ns:List Int,ds=ns.map D.int/\r=a+ns.sum
 |[],a,r,h=>by cases h;exact⟨[],rfl,by simp⟩
 | .int i::ds,a,r,h=>by
  obtain⟨ns,rfl,rfl⟩:=kj (ds:=ds) (a:=a+i) h;exact⟨i::ns,rfl,by rw[fq];omega⟩
 |.non::_,_,_,h=>by cases h
 |.bl _::_,_,_,h=>by cases h
 |.str _::_,_,_,h=>by cases h
 |.lst _::_,_,_,h=>by cases h
 |.tup _::_,_,_,h=>by cases h
theorem gR {K:Frag}{H:Hp}:∀{ns:List Int}{vs:List V}{G:List Addr}{us:List Value},aD K H (ns.map D.int) vs G->aH vs us->us.length=ns.length/\∀ i u,us[i]? = some u->∃ t,u=Value.int (ns.getD i 0) t
 |[],_,_,_,.nil,.nil=>⟨rfl,fun i u h=>by simp at h⟩
 | n::ns,_,_,_,.cons h r,.cons x y=>by
  obtain⟨rfl,_⟩:=h.int_inv;obtain⟨t,rfl⟩:=x;obtain⟨a,b⟩:=gR r y;refine⟨by simp[a],fun i u h=>?_⟩;cases i with
  |zero=>simp at h;exact⟨t,by simp[<-h]⟩
  |succ i =>
   obtain⟨t',e⟩:=b i u (by simpa using h);exact⟨t',by simpa using e⟩
theorem rn (hc:X.calm=true):fE X (.builtin "sum") (oj X.K .sum):=by
 intro pins s σ H xs us Q I r h;obtain⟨ds,d,G,rs,hd,k⟩:=h
 match ds,hd with
 |[.lst ys],hd =>
  simp only[jx,xS] at hd;rw[aa] at hd;obtain⟨b,hb',rfl⟩:=hd;obtain⟨ns,rfl,rfl⟩:=kj hb';obtain⟨x,rfl,rp⟩:=rs.of1;obtain⟨p,vs,g,rfl,rfl,a1,a2⟩:=rp.lst_inv;obtain⟨u,rfl,ru⟩:=r.one;cases ru;obtain⟨its,rv,pl,_⟩:=I.list (.inl a1);obtain⟨hl,hv⟩:=gR a2 rv;have hlt:p<s.heap.objs.size:=by
   obtain⟨o,ho,_⟩:=pl.isList;exact Heap.lt_size ho
  refine call_sum_walkG (wpAny_pyIter_list pl.isList ⟨s.heap.objs.size,[s.heap.objs.size,p],[s.heap.objs.size],its.toArray.size,_,_,fun i=>ns.getD i 0,rfl,Walks.list (A:=X.A.in1) (show X.A.in1.handled=none from I.ok.hd hc) s.heap.objs.size p (bg hlt) its.toArray,⟨⟨_,Heap.get?_push_size _ rfl,rfl,rfl⟩,pl.isList.at fun o e=>Heap.get?_push_of_some _ e⟩,fun b hb=>?_,fun i v hP=>?_,fun h' tk t' hk=>?_⟩)
  ·simp only[List.mem_cons,List.not_mem_nil,or_false] at hb;rw[Heap.size_push];rcases hb with rfl | rfl
   ·exact Nat.lt_succ_self _
   ·exact cz hlt
  ·have hP:its.toArray[i]? = some v:=hP;rw[List.getElem?_toArray] at hP;exact hv i v hP
  ·rw[preSum_getD,ah,hl,List.take_length];refine⟨.int ns.sum,H,?_,⟨_,rfl⟩,by have:=k (.int (0+ns.sum)) H [] (.int _) fJ.nil;rwa [Int.zero_add] at this⟩;have I1:Inv X pins σ H { s with heap:=s.heap.push { cls:=.type "list_iterator",data:=.fields #[.ref p,.int 0 0] } }:=I.kept (t':=s.toks) fun b o e=>Heap.get?_push_of_some _ e
   obtain⟨f0,f1,f2,f3,f4,f5⟩:=I.fpOk (b:=s.heap.objs.size) (ai _) (I.hok.fresh (ai _));exact I1.turned (t':=tk) (fun b o hb e=>hk b o (by simpa using hb) e) f0 f1 f3 f4 f5
end
section
variable {X:Cx}{T:Tb}
theorem gG.map {K:Frag}{H:Hp}(k:Int){m:MV}{v:V}(hm:nO K H m v):∀{q:List (Int×MV)}{x:List (Key×V)},gG K H q x->gG K H (q.map fun z=>if z.1=k then (z.1,m) else z) (x.map fun z=>if z.1=Sum.inl k then (z.1,v) else z)
 |[],[],_=>trivial
 | (j,n)::q,p::x,⟨a,b,c⟩=>by
  refine⟨?_,?_,c.map k hm⟩
  ·show (if p.1=Sum.inl k then (p.1,v) else p).1=Sum.inl (if j=k then (j,m) else (j,n)).1;rw[show (if p.1=Sum.inl k then (p.1,v) else p).1=p.1 by split<;>rfl,show (if j=k then (j,m) else (j,n)).1=j by split<;>rfl];exact a
  ·show nO K H (if j=k then (j,m) else (j,n)).2 (if p.1=Sum.inl k then (p.1,v) else p).2;by_cases e:j=k
   ·rw[if_pos e,if_pos (by rw[a,<-e])];exact hm
   ·rw[if_neg e,if_neg (by rw[a];exact fun z=>e (by injection z))];exact b
 |[],_::_,h=>h.elim
 |_::_,[],h=>h.elim
theorem gG.snoc {K:Frag}{H:Hp}(k:Int){m:MV}{v:V}(hm:nO K H m v):∀{q:List (Int×MV)}{x:List (Key×V)},gG K H q x->gG K H (q ++ [(k,m)]) (x ++ [(.inl k,v)])
 |[],[],_=>⟨rfl,hm,trivial⟩
 |_::_,_::_,⟨a,b,c⟩=>⟨a,b,c.snoc k hm⟩
 |[],_::_,h=>h.elim
 |_::_,[],h=>h.elim
theorem gG.put {K:Frag}{H:Hp}(k:Int){m:MV}{v:V}(hm:nO K H m v){q:List (Int×MV)}{x:List (Key×V)}(h:gG K H q x):gG K H (wd q k m) (putK x (.inl k) v):=by
 unfold wd putK;rw[h.any k];split
 ·exact h.map k hm
 ·exact h.snoc k hm
theorem kP {K:Frag}{H:Hp}:∀{xs:List D}{k:List Int}{vs:List V}{G:List Addr},dR xs=some k->aD K H xs vs G->vs=k.map V.int
 |[],k,vs,G,h,r=>by cases h;cases r;rfl
 | .int i::xs,k,vs,G,h,r=>by
  have h:(dR xs).map (i :: ·)=some k:=h;rw[aa] at h;obtain⟨k',h1,rfl⟩:=h;cases r with
  |cons r1 r2 =>
   obtain⟨rfl,_⟩:=r1.int_inv;rw[kP h1 r2];rfl
 |.non::_,_,_,_,h,_=>by cases h
 |.bl _::_,_,_,_,h,_=>by cases h
 |.str _::_,_,_,_,h,_=>by cases h
 |.lst _::_,_,_,_,h,_=>by cases h
 |.tup _::_,_,_,_,h,_=>by cases h
 |.dct _::_,_,_,_,h,_=>by cases h
 |.mpi _::_,_,_,_,h,_=>by cases h
 |.mpt _::_,_,_,_,h,_=>by cases h
 |.mpz _::_,_,_,_,h,_=>by cases h
theorem kS {K:Frag}{H:Hp}:∀ ks:List (Int×MV),aD K H (ks.map fun q=>D.int q.1) (ks.map fun q=>V.int q.1) []
 |[]=>.nil
 |k::ks=>.cons (G:=[]) (G':=[]) (.int k.1) (kS ks)
theorem lj {P:Program}{w:World}{K:Frag}{H:Hp}:∀{ks:List (Int×MV)}{xs:List (Key×V)}{vs:List (Key×Value)}{us:List Value},gG K H ks xs->KV xs vs->us.length=vs.length->(∀(j:Nat) u,us[j]? = some u->∃ k x,vs[j]? = some (k,x)/\(aI P w).is k u=true)->aH (ks.map fun q=>V.int q.1) us
 | [],[],_,us,_,r,hl,_=>by
  cases r;rw[List.length_eq_zero_iff.mp hl];exact .nil
 |[],_::_,_,_,h,_,_,_=>h.elim
 |_::_,[],_,_,h,_,_,_=>h.elim
 | (k,m)::ks,x::xs,_,us,⟨hk0,_,kr⟩,r,hl,h=>by
  have r:Paired _ (x::xs) _:=r;cases r with
  |@cons _ q _ qs h1 t =>
   cases us with
   |nil=>cases hl
   |cons u us =>
    obtain⟨k',y,e,hk⟩:=h 0 u rfl;have e:some q=some (k',y):=e;cases e;have h1:x.1=k':=h1.1;rw[hk0] at h1;have h1:(Sum.inl k:Key)=k':=h1;subst h1;obtain⟨i,t',e1,e2⟩ | ⟨x',t',e1,_⟩:=aU (show iZ (.inl k) u=true from hk)
    ·cases e1;exact .cons ⟨t',e2⟩ (lj kr t (Nat.succ.inj hl) fun j u hu=>h (j+1) u hu)
    ·cases e1
theorem oW (hc:X.calm=true):fE X (.type "list") (oj X.K .list):=by
 intro pins s σ H xs us Q I r h;obtain⟨ds,d,G,rs,hd,k⟩:=h;by_cases hm:∃ ks,ds=[.mpi ks]
 ·obtain⟨ks,rfl⟩:=hm;have hd:(if ks.length<=lim then some (D.lst (ks.map fun q=>D.int q.1)) else none)=some d:=hd;by_cases hl:ks.length<=lim
  ·rw[if_pos hl] at hd;cases hd;obtain⟨x,rfl,rp⟩:=rs.of1;obtain⟨u,rfl,rx⟩:=r.one;cases rp with
   |@mpi p _ xs hr kr =>
    obtain rfl:u = .ref p:=rx;obtain⟨z,lo,vs,rel,dd⟩:=i0 I.hok (.inl hr);obtain⟨ep,hat⟩:=dd.dictAt;have hlen:vs.length=ks.length:=by rw[<-rel.length,kr.len]
    refine PySem.W.kdl_call (PySem.W.kdl_dict (knd:=aI X.prog X.w) (kvs:=vs) (ep:=ep) lo) (I.ok.hd hc) hat (by rw[hlen,sizeLine_eq];unfold lim at hl;omega) fun h' tk acc c hk hD hacc=>?_
    have hv:aH (ks.map fun q=>V.int q.1) acc.toList:=lj kr rel (by rw[bc];exact hacc.1) fun j u hu=>hacc.2 j u (by rw[<-Array.getElem?_toList];exact hu)
    refine⟨.ref s.heap.objs.size,upd H s.heap.objs.size (.lst (ks.map fun q=>V.int q.1)),I.laid hk (ai _) ⟨by rw[ak,sizeLine_eq];unfold lim at hl;omega,acc.toList,c,hv,by rw[hD,Array.toArray_toList]⟩,rfl,?_⟩;obtain⟨n1,n2⟩:=fT (G0:=[p]) (kS (K:=X.K) (H:=H) ks) (fun a ha=>nomatch ha) I.fresh;exact k _ _ _ n1 n2
  ·rw[if_neg hl] at hd;cases hd
 ·exact nu I r rs hd k fun ks e=>hm ⟨ks,e⟩
end
end Pc
end
section
namespace Tm
open PySem PyProof.Rows
variable {s:Shared}{A:Around}{M:Model}{E:Value->Shared->Prop}
structure Cm (M:Model)(A:Around)(E:Value->Shared->Prop)(s:Shared)(κ:SortKind)(P:Keyed->Prop)(rk:Keyed->Int):Prop where
 lt:∀{x y:Keyed}{st:SortSt}{Q:Option Bool->SortSt->Prop},P x->P y->kindOf st=κ->Q (some (decide (rk x<rk y))) st->wpS M A E s (lt' x y) Q st
theorem bA {xs:Array Keyed}{i:Nat}{p:Keyed}{st:SortSt}{Q:Keyed->SortSt->Prop}(h:xs[i]? = some p)(q:Q p st):wpS M A E s (elem' xs i) Q st:=by
 rw[elem'_eq,h];exact wpS_pure q
theorem iT {x:String}{st:SortSt}{Q:Unit->SortSt->Prop}(q:Q () st):wpS M A E s (liftM (rule x):StateT SortSt Sem Unit) Q st:=wpS_lift (wpAny_rule ⟨rfl,q⟩)
noncomputable def bY:Bool->Keyed->Array Keyed->Nat->Nat->Nat->StateT SortSt Sem (Option Nat):=sortPriv% PySem.Builtin.gallop
noncomputable def gal (yb:Nat->StateT SortSt Sem (Option Bool))(n hint:Nat):StateT SortSt Sem (Option Nat):=do
 let mut l:=0;let mut o:=1;let mut a:=0;let mut b:=0
 let some r <- yb hint | return none
 if r then
  let m:=n - hint
  for _ in [0:n] do
   if o ≥ m then break
   let some c <- yb (hint+o) | return none
   if !c then break
   l:=o
   o:=2*o+1
  a:=hint+l+1
  b:=hint+min o m
 else
  let m:=hint+1
  for _ in [0:n] do
   if o ≥ m then break
   let some c <- yb (hint - o) | return none
   if c then break
   l:=o
   o:=2*o+1
  a:=hint+1 - min o m
  b:=hint - l
 for _ in [0:n] do
  if a ≥ b then break
  let m:=a+(b - a) / 2
  let some c <- yb m | return none
  if c then a:=m+1 else b:=m
 return some b
noncomputable def yb (left:Bool)(key:Keyed)(arr:Array Keyed)(base:Nat)(i:Nat):StateT SortSt Sem (Option Bool):=do
  let x <- elem' arr (base+i)
  if left then lt' x key else return (<- lt' key x).map (!·)
theorem jG (left:Bool)(key:Keyed)(arr:Array Keyed)(base n hint:Nat):bY left key arr base n hint=gal (yb left key arr base) n hint:=rfl
noncomputable def Bn (yb:Nat->StateT SortSt Sem (Option Bool))(n a b:Nat):StateT SortSt Sem (Option Nat):=do
 let mut a:=a;let mut b:=b
 for _ in [0:n] do
  if a ≥ b then break
  let m:=a+(b - a) / 2
  let some c <- yb m | return none
  if c then a:=m+1 else b:=m
 return some b
section
variable {by':Nat->StateT SortSt Sem (Option Bool)}{f:Nat->Bool}{n:Nat}{st:SortSt}
theorem xV (hb:∀ i Q,i<n->Q (some (f i)) st->wpS M A E s (by' i) Q st)(mono:∀ i j,i<=j->j<n->f j=true->f i=true){Q:Option Nat->SortSt->Prop}{a b:Nat}(hab:a<=b)(hbn:b<=n)
  (ha:∀ i,i<a->f i=true) (hf:∀ i,b<=i->i<n->f i=false) (h:∀ k,k<=n->(∀ i,i<k->f i=true)->(∀ i,k<=i->i<n->f i=false)->Q (some k) st):wpS M A E s (Bn by' n a b) Q st:=by
 unfold Bn;refine wpS_bind (wpS_mono (wpS_forRange (I:=fun x (c:Option (Option Nat)×Nat×Nat) st'=>st'=st/\c.1=none/\c.2.1<=c.2.2/\c.2.2<=n/\c.2.2 - c.2.1<=n - x/\(∀ i,i<c.2.1->f i=true)/\(∀ i,c.2.2<=i->i<n->f i=false))
  (Q:=fun (c:Option (Option Nat)×Nat×Nat) st'=>st'=st/\c.1=none/\c.2.1=c.2.2/\c.2.2<=n/\(∀ i,i<c.2.1->f i=true)/\(∀ i,c.2.2<=i->i<n->f i=false)) ?step ?fin ⟨rfl,rfl,hab,hbn,by dsimp only;omega,ha,hf⟩) ?post)
 case post =>
  rintro⟨c,a',b'⟩ st' ⟨rfl,rfl,e,l,h1,h2⟩;dsimp only at *;subst e;exact wpS_pure (h _ l h1 h2)
 case fin =>
  rintro⟨c,a',b'⟩ st' ⟨rfl,rfl,e,l,h0,h1,h2⟩;dsimp only at *;exact⟨rfl,rfl,by omega,l,h1,h2⟩
 case step =>
  rintro x ⟨c,a',b'⟩ st' _ hx ⟨rfl,rfl,e,l,h0,h1,h2⟩;dsimp only at *;by_cases hge:a' ≥ b'
  ·rw[if_pos hge];exact wpS_pure ⟨rfl,rfl,by dsimp only;omega,l,h1,h2⟩
  ·rw[if_neg hge];refine wpS_bind (hb _ _ (by omega) ?_);cases hc:f (a'+(b' - a') / 2) with
   |true=>exact wpS_pure ⟨rfl,rfl,by dsimp only;omega,l,by dsimp only;omega,fun i hi=>mono i _ (by dsimp only at hi;omega) (by omega) hc,h2⟩
   |false =>
    refine wpS_pure ⟨rfl,rfl,by dsimp only;omega,by dsimp only;omega,by dsimp only;omega,h1,fun i hi hn=>?_⟩;dsimp only at hi;cases hh:f i with
    |false=>rfl
    |true=>rw[mono _ i hi hn hh] at hc;cases hc
theorem xD (hb:∀ i Q,i<n->Q (some (f i)) st->wpS M A E s (by' i) Q st)(mono:∀ i j,i<=j->j<n->f j=true->f i=true){Q:Option Nat->SortSt->Prop}{hint:Nat}(hh:hint<n)
  (h:∀ k,k<=n->(∀ i,i<k->f i=true)->(∀ i,k<=i->i<n->f i=false)->Q (some k) st):wpS M A E s (gal by' n hint) Q st:=by
 unfold gal;refine wpS_bind (hb _ _ hh ?_);cases hr:f hint with
 |true =>
  dsimp only;rw[if_pos rfl];refine wpS_bind (wpS_mono (wpS_forRange (I:=fun x (c:Option (Option Nat)×Nat×Nat) st'=>st'=st/\c.1=none/\c.2.1<c.2.2/\c.2.1<n - hint/\x<c.2.2/\f (hint+c.2.1)=true)
   (Q:=fun (c:Option (Option Nat)×Nat×Nat) st'=>st'=st/\c.1=none/\c.2.1<c.2.2/\c.2.1<n - hint/\f (hint+c.2.1)=true/\(c.2.2<n - hint->f (hint+c.2.2)=false)) ?step ?fin ⟨rfl,rfl,by dsimp only;omega,by dsimp only;omega,by dsimp only;omega,hr⟩) ?post)
  case post =>
   rintro⟨c,l,o⟩ st' ⟨rfl,rfl,h1,h2,h3,h4⟩;dsimp only at *;refine xV hb mono (by omega) (by omega) (fun i hi=>mono i _ (by omega) (by omega) h3) (fun i hi hn=>?_) h;cases hf:f i with
   |false=>rfl
   |true =>
    have:=h4 (by omega);rw[mono (hint+o) i (by omega) hn hf] at this;cases this
  case fin =>
   rintro⟨c,l,o⟩ st' ⟨rfl,rfl,h1,h2,h3,h4⟩;dsimp only at *;exact⟨rfl,rfl,h1,h2,h4,fun _=>by omega⟩
  case step =>
   rintro x ⟨c,l,o⟩ st' _ hx ⟨rfl,rfl,h1,h2,h3,h4⟩;dsimp only at *;by_cases hge:o ≥ n - hint
   ·rw[if_pos hge];exact wpS_pure ⟨rfl,rfl,h1,h2,h4,fun _=>by dsimp only at *;omega⟩
   ·rw[if_neg hge];refine wpS_bind (hb _ _ (by omega) ?_);cases hc:f (hint+o) with
    |true=>exact wpS_pure ⟨rfl,rfl,by dsimp only;omega,by dsimp only;omega,by dsimp only;omega,hc⟩
    |false=>exact wpS_pure ⟨rfl,rfl,h1,h2,h4,fun _=>hc⟩
 |false =>
  dsimp only;rw[if_neg (by simp)];refine wpS_bind (wpS_mono (wpS_forRange (I:=fun x (c:Option (Option Nat)×Nat×Nat) st'=>st'=st/\c.1=none/\c.2.1<c.2.2/\c.2.1<hint+1/\x<c.2.2/\f (hint - c.2.1)=false)
   (Q:=fun (c:Option (Option Nat)×Nat×Nat) st'=>st'=st/\c.1=none/\c.2.1<c.2.2/\c.2.1<hint+1/\f (hint - c.2.1)=false/\(c.2.2<hint+1->f (hint - c.2.2)=true)) ?step ?fin ⟨rfl,rfl,by dsimp only;omega,by dsimp only;omega,by dsimp only;omega,hr⟩) ?post)
  case post =>
   rintro⟨c,l,o⟩ st' ⟨rfl,rfl,h1,h2,h3,h4⟩;dsimp only at *;refine xV hb mono (by omega) (by omega) (fun i hi=>mono i (hint - o) (by omega) (by omega) (h4 (by omega))) (fun i hi hn=>?_) h;cases hf:f i with
   |false=>rfl
   |true=>rw[mono _ i hi hn hf] at h3;cases h3
  case fin =>
   rintro⟨c,l,o⟩ st' ⟨rfl,rfl,h1,h2,h3,h4⟩;dsimp only at *;exact⟨rfl,rfl,h1,h2,h4,fun _=>by omega⟩
  case step =>
   rintro x ⟨c,l,o⟩ st' _ hx ⟨rfl,rfl,h1,h2,h3,h4⟩;dsimp only at *;by_cases hge:o ≥ hint+1
   ·rw[if_pos hge];exact wpS_pure ⟨rfl,rfl,h1,h2,h4,fun _=>by dsimp only at *;omega⟩
   ·rw[if_neg hge];refine wpS_bind (hb _ _ (by omega) ?_);cases hc:f (hint - o) with
    |false=>exact wpS_pure ⟨rfl,rfl,by dsimp only;omega,by dsimp only;omega,by dsimp only;omega,hc⟩
    |true=>exact wpS_pure ⟨rfl,rfl,h1,h2,h4,fun _=>hc⟩
end
variable {M:Model}{A:Around}{E:Value->Shared->Prop}{s:Shared}{κ:SortKind}{P:Keyed->Prop}{rk:Keyed->Int}
noncomputable abbrev d0:Keyed:=(Value.none,Value.none)
noncomputable abbrev R (rk:Keyed->Int)(xs:Array Keyed)(i:Nat):Int:=rk (xs.getD i d0)
noncomputable abbrev S (rk:Keyed->Int)(l:List Keyed):Prop:=l.Pairwise fun x y=>rk x<=rk y
noncomputable def gJ (rk:Keyed->Int)(xs:Array Keyed)(lo hi:Nat):Prop:=∀ i j,lo<=i->i<=j->j<hi->R rk xs i<=R rk xs j
theorem dH {xs:Array Keyed}{i:Nat}(h:i<xs.size):xs[i]? = some (xs.getD i d0):=by simp[h]
theorem dJ {xs:Array Keyed}{i:Nat}(h:i<xs.size):xs.getD i d0∈xs.toList:=by simp[h]
theorem iy {xs:Array Keyed}{i:Nat}{y:Keyed}(h:y∈xs.toList.drop i):∃ t,i<=t/\t<xs.size/\y=xs.getD t d0:=by
 obtain⟨t,ht,e⟩:=List.getElem_of_mem h;rw[et,bc] at ht;refine⟨i+t,by omega,by omega,?_⟩;rw[<-e];have:i+t<xs.size:=by omega
 simp[this]
theorem eK {xs:Array Keyed}{i k:Nat}{y:Keyed}(h:y∈(xs.toList.drop i).take k):∃ t,i<=t/\t<xs.size/\t<i+k/\y=xs.getD t d0:=by
 obtain⟨t,ht,e⟩:=List.getElem_of_mem h;rw[eo,et,bc] at ht;refine⟨i+t,by omega,by omega,by omega,?_⟩;rw[<-e];have:i+t<xs.size:=by omega
 simp[this]
theorem drop_one {xs:Array Keyed}{i:Nat}(h:i<xs.size):xs.toList.drop i=xs.getD i d0::xs.toList.drop (i+1):=by
 rw[List.drop_eq_getElem_cons (by simpa using h)];simp[h]
theorem A8 {xs:Array Keyed}(h:S rk xs.toList):gJ rk xs 0 xs.size:=by
 intro i j _ hij hj;unfold R;have hi:i<xs.size:=by omega
 have e1:xs.getD i d0=xs[i]:=by simp[hi]
 have e2:xs.getD j d0=xs[j]:=by simp[hj]
 rw[e1,e2];rcases Nat.lt_or_ge i j with h' | h'
 ·have:=List.pairwise_iff_getElem.mp h i j (by simpa using hi) (by simpa using hj) h';simpa using this
 ·have:i=j:=by omega
  subst this;exact fv _
theorem mB {xs:Array Keyed}(h:gJ rk xs 0 xs.size):S rk xs.toList:=by
 refine List.pairwise_iff_getElem.mpr fun i j hi hj hij=>?_
 have hi':i<xs.size:=(by simpa using hi);have hj':j<xs.size:=(by simpa using hj);have:=h i j (cn _) (fm hij) hj';unfold R at this;have e1:xs.getD i d0=xs[i]:=by simp[hi']
 have e2:xs.getD j d0=xs[j]:=by simp[hj']
 rw[e1,e2] at this;simpa using this
theorem lJ (C:Cm M A E s κ P rk){key:Keyed}{xs:Array Keyed}{base n hint:Nat}{st:SortSt}(hk:kindOf st=κ)(pk:P key)(px:∀ x∈xs.toList,P x)(hz:base+n<=xs.size)(so:gJ rk xs base (base+n))(hh:hint<n){Q:Option Nat->SortSt->Prop}
  (h:∀ k,k<=n->(∀ t,base<=t->t<base+k->R rk xs t<=rk key)->(∀ t,base+k<=t->t<base+n->rk key<R rk xs t)->Q (some k) st):wpS M A E s (bY false key xs base n hint) Q st:=by
 rw[jG];refine xD (f:=fun i=>!(decide (rk key<R rk xs (base+i)))) (fun i Q hi q=>?_) (fun i j hij hj hf=>?_) hh fun k hkn h1 h2=>h k hkn (fun t a b=>?_) fun t a b=>?_
 ·have hb:base+i<xs.size:=by omega
  refine wpS_bind (bA (dH hb) ?_);rw[if_neg (by simp)];exact wpS_bind (C.lt pk (px _ (dJ hb)) hk (wpS_pure q))
 ·have:=so (base+i) (base+j) (by omega) (by omega) (by omega);simp only[Bool.not_eq_true',decide_eq_false_iff_not] at hf ⊢;omega
 ·have:=h1 (t - base) (by omega);rw[show base+(t - base)=t by omega] at this;simp only[Bool.not_eq_true',decide_eq_false_iff_not] at this;omega
 ·have:=h2 (t - base) (by omega) (by omega);rw[show base+(t - base)=t by omega] at this;simpa using this
theorem mf (C:Cm M A E s κ P rk){key:Keyed}{xs:Array Keyed}{base n hint:Nat}{st:SortSt}(hk:kindOf st=κ)(pk:P key)(px:∀ x∈xs.toList,P x)(hz:base+n<=xs.size)(so:gJ rk xs base (base+n))(hh:hint<n){Q:Option Nat->SortSt->Prop}
  (h:∀ k,k<=n->(∀ t,base<=t->t<base+k->R rk xs t<rk key)->(∀ t,base+k<=t->t<base+n->rk key<=R rk xs t)->Q (some k) st):wpS M A E s (bY true key xs base n hint) Q st:=by
 rw[jG];refine xD (f:=fun i=>decide (R rk xs (base+i)<rk key)) (fun i Q hi q=>?_) (fun i j hij hj hf=>?_) hh fun k hkn h1 h2=>h k hkn (fun t a b=>?_) fun t a b=>?_
 ·have hb:base+i<xs.size:=by omega
  refine wpS_bind (bA (dH hb) ?_);rw[if_pos rfl];exact C.lt (px _ (dJ hb)) pk hk q
 ·have:=so (base+i) (base+j) (by omega) (by omega) (by omega);simp only[decide_eq_true_eq] at hf ⊢;omega
 ·have:=h1 (t - base) (by omega);rw[show base+(t - base)=t by omega] at this;simpa using this
 ·have:=h2 (t - base) (by omega) (by omega);rw[show base+(t - base)=t by omega] at this;simp only[decide_eq_false_iff_not] at this;omega
noncomputable def Sm (st st':SortSt):Prop:=kindOf st'=kindOf st/\arrOf st'=arrOf st/\pendingOf st'=pendingOf st/\failedOf st'=failedOf st
theorem Sm.refl (st:SortSt):Sm st st:=⟨rfl,rfl,rfl,rfl⟩
noncomputable def mC:Nat->StateT SortSt Sem Unit:=sortPriv% PySem.Builtin.setMinGallop
theorem iU {g:Nat}{st0 st:SortSt}(h:Sm st0 st){Q:Unit->SortSt->Prop}(q:∀ st',Sm st0 st'->Q () st'):wpS M A E s (mC g) Q st :=
 wpS_modify (q _ ⟨h.1,h.2.1,h.2.2.1,h.2.2.2⟩)
theorem mv {o p q r:List Keyed}(h1:S rk (o++(p++q)))(h2:S rk (o++r))(h:∀ y∈p,∀ x∈r,rk y<=rk x):S rk ((o++p)++q)/\S rk ((o++p)++r):=by
 refine⟨by rw[ag];exact h1,?_⟩;rw[<-ag] at h1;have a:=List.pairwise_append.mp (List.pairwise_append.mp h1).1;have b:=List.pairwise_append.mp h2;refine List.pairwise_append.mpr ⟨List.pairwise_append.mpr a,b.2.1,fun x hx y hy=>?_⟩;rcases (dm.mp hx) with hx | hx
 ·exact b.2.2 x hx y hy
 ·exact h x hx y hy
variable {M:Model}{A:Around}{E:Value->Shared->Prop}{s:Shared}{κ:SortKind}{P:Keyed->Prop}{rk:Keyed->Int}
noncomputable def nH:Array Keyed->Array Keyed->StateT SortSt Sem (Array Keyed):=sortPriv% PySem.Builtin.mergeLo
noncomputable abbrev fA (a b u:Array Keyed)(i j:Nat):Array Keyed:=u++a.extract i a.size++b.extract j b.size
noncomputable abbrev fB (a b u:Array Keyed)(i j:Nat):Array Keyed:=u++b.extract j b.size++a.extract i a.size
noncomputable def mlo (a b:Array Keyed):StateT SortSt Sem (Array Keyed):=do
 liftM (rule "list.sort.merge-lo")
 let mut u:Array Keyed:=#[<-elem' b 0];let mut i:=0;let mut j:=1
 if j==b.size then return fA a b u i j
 if i+1==a.size then return fB a b u i j
 let mut g:=gallopOf (<- get)
 for _ in [0:a.size+b.size] do
  let mut ca:=0;let mut cb:=0
  for _ in [0:a.size+b.size] do
   let some w <- lt' (<- elem' b j) (<- elem' a i) | return fA a b u i j
   if w then
    u:=u.push (<- elem' b j);j:=j+1;cb:=cb+1;ca:=0
    if j==b.size then return fA a b u i j
    if cb ≥ g then break
   else
    u:=u.push (<- elem' a i);i:=i+1;ca:=ca+1;cb:=0
    if i+1==a.size then return fB a b u i j
    if ca ≥ g then break
  liftM (rule "list.sort.gallop")
  g:=g+1
  for _ in [0:a.size+b.size] do
   if g > 1 then g:=g - 1
   mC g
   let some k <- bY false (<- elem' b j) a i (a.size - i) 0 | return fA a b u i j
   ca:=k
   if k > 0 then
    u:=u++a.extract i (i+k);i:=i+k
    if i+1==a.size then return fB a b u i j
    if i==a.size then return fA a b u i j
   u:=u.push (<- elem' b j);j:=j+1
   if j==b.size then return fA a b u i j
   let some k <- bY true (<- elem' a i) b j (b.size - j) 0 | return fA a b u i j
   cb:=k
   if k > 0 then
    u:=u++b.extract j (j+k);j:=j+k
    if j==b.size then return fA a b u i j
   u:=u.push (<- elem' a i);i:=i+1
   if i+1==a.size then return fB a b u i j
   if ca<7&&cb<7 then break
  g:=g+1
  mC g
 unsupported ("internal:list.sort.merge-bound")
theorem mF (a b:Array Keyed):nH a b=mlo a b:=rfl
noncomputable abbrev St2:=Option (Array Keyed)×Array Keyed×Nat×Nat×Nat×Nat
noncomputable abbrev St3:=Option (Array Keyed)×Array Keyed×Nat×Nat×Nat×Nat×Nat
noncomputable abbrev St1:=Option (Array Keyed)×Array Keyed×Nat×Nat×Nat
noncomputable abbrev Sp:=StateT SortSt Sem (ForInStep St3)
noncomputable def pq (a b u:Array Keyed)(i j g ca cb:Nat):Sp:=do
 let x <- elem' a i
 if i+1+1==a.size then pure (.done (some (fB a b (u.push x) (i+1) j),u.push x,i+1,j,g,ca,cb))
 else if ca<7&&cb<7 then pure (.done (none,u.push x,i+1,j,g,ca,cb)) else pure (.yield (none,u.push x,i+1,j,g,ca,cb))
noncomputable def qc (a b u:Array Keyed)(i j g ca cb:Nat):Sp:=do
 let x <- elem' b j
 if j+1==b.size then pure (.done (some (fA a b (u.push x) i (j+1)),u.push x,i,j+1,g,ca,cb))
 else
  let z <- elem' a i
  match <- bY true z b (j+1) (b.size - (j+1)) 0 with
  |some k =>
   if k > 0 then
    if j+1+k==b.size then pure (.done (some (fA a b (u.push x++b.extract (j+1) (j+1+k)) i (j+1+k)),u.push x++b.extract (j+1) (j+1+k),i,j+1+k,g,ca,k))
    else pq a b (u.push x++b.extract (j+1) (j+1+k)) i (j+1+k) g ca k
   else pq a b (u.push x) i (j+1) g ca k
  |_=>pure (.done (some (fA a b (u.push x) i (j+1)),u.push x,i,j+1,g,ca,cb))
noncomputable def x4 (a b u:Array Keyed)(i j g cb ca:Nat):Sp:=do
 let x <- elem' b j
 match <- bY false x a i (a.size - i) 0 with
 |some k =>
  if k > 0 then
   if i+k+1==a.size then pure (.done (some (fB a b (u++a.extract i (i+k)) (i+k) j),u++a.extract i (i+k),i+k,j,g,k,cb))
   else if i+k==a.size then pure (.done (some (fA a b (u++a.extract i (i+k)) (i+k) j),u++a.extract i (i+k),i+k,j,g,k,cb))
   else qc a b (u++a.extract i (i+k)) (i+k) j g k cb
  else qc a b u i j g k cb
 |_=>pure (.done (some (fA a b u i j),u,i,j,g,ca,cb))
section
variable {a b:Array Keyed}
structure J (rk:Keyed->Int)(a b u:Array Keyed)(i j:Nat):Prop where
 ha:S rk (u.toList++a.toList.drop i)
 hb:S rk (u.toList++b.toList.drop j)
 pm:(u.toList++a.toList.drop i++b.toList.drop j).Perm (a.toList++b.toList)
theorem J.movA {u u':Array Keyed}{i j k:Nat}(h:J rk a b u i j)(o:∀ t,i<=t->t<a.size->t<i+k->∀ t',j<=t'->t'<b.size->R rk a t<=R rk b t')(e:u'.toList=u.toList++(a.toList.drop i).take k):J rk a b u' (i+k) j:=by
 have ed:a.toList.drop i=(a.toList.drop i).take k++a.toList.drop (i+k):=by rw[<-gb,cu]
 have h1:=h.ha;rw[ed] at h1;have:=mv h1 h.hb fun y hy x hx=>by
  obtain⟨t,t1,t2,t3,rfl⟩:=eK hy;obtain⟨t',t4,t5,rfl⟩:=iy hx;exact o t t1 t2 t3 t' t4 t5
 refine⟨by rw[e];exact this.1,by rw[e];exact this.2,?_⟩;have pm:=h.pm;rw[ed] at pm;rw[e];simpa[List.append_assoc] using pm
theorem J.movB {u u':Array Keyed}{i j k:Nat}(h:J rk a b u i j)(o:∀ t,j<=t->t<b.size->t<j+k->∀ t',i<=t'->t'<a.size->R rk b t<=R rk a t')(e:u'.toList=u.toList++(b.toList.drop j).take k):J rk a b u' i (j+k):=by
 have ed:b.toList.drop j=(b.toList.drop j).take k++b.toList.drop (j+k):=by rw[<-gb,cu]
 have h1:=h.hb;rw[ed] at h1;have:=mv h1 h.ha fun y hy x hx=>by
  obtain⟨t,t1,t2,t3,rfl⟩:=eK hy;obtain⟨t',t4,t5,rfl⟩:=iy hx;exact o t t1 t2 t3 t' t4 t5
 refine⟨by rw[e];exact this.2,by rw[e];exact this.1,?_⟩;have pm:=h.pm;rw[ed] at pm;rw[e];refine List.Perm.trans ?_ pm;rw[ag,ag,ag];refine (dt _ ?_);have:=(fi (l₁:=(b.toList.drop j).take k) (l₂:=a.toList.drop i)).append_right (b.toList.drop (j+k))
 rwa [ag,ag] at this
theorem lX {u:Array Keyed}{xs:Array Keyed}{i:Nat}(h:i<xs.size):(u.push (xs.getD i d0)).toList=u.toList++(xs.toList.drop i).take 1:=by
 rw[drop_one h];simp
theorem mY {u:Array Keyed}{xs:Array Keyed}{i k:Nat}:(u++xs.extract i (i+k)).toList=u.toList++(xs.toList.drop i).take k:=by
 simp[List.extract_eq_take_drop]
theorem pG {xs:Array Keyed}{i:Nat}:(xs.extract i xs.size).toList=xs.toList.drop i:=by
 rw[Array.toList_extract,List.extract_eq_take_drop,List.take_of_length_le (by simp)]
noncomputable def Res (rk:Keyed->Int)(a b r:Array Keyed):Prop:=r.toList.Perm (a.toList++b.toList)/\S rk r.toList
theorem J.endA {u:Array Keyed}{i j:Nat}(h:J rk a b u i j)(e:j=b.size\/i=a.size):Res rk a b (fA a b u i j):=by
 have el:(fA a b u i j).toList=u.toList++a.toList.drop i++b.toList.drop j:=by
  unfold fA;rw[df,df,pG,pG]
 refine⟨by rw[el];exact h.pm,?_⟩;rw[el];rcases e with rfl | rfl
 ·rw[List.drop_of_length_le (l:=b.toList) (by simp),List.append_nil];exact h.ha
 ·rw[List.drop_of_length_le (l:=a.toList) (by simp),List.append_nil];exact h.hb
theorem J.endB {u:Array Keyed}{i j:Nat}(h:J rk a b u i j)(hl:∀ t,t<b.size->R rk b t<=R rk a (a.size - 1))(e:i+1=a.size):Res rk a b (fB a b u i j):=by
 have el:(fB a b u i j).toList=u.toList++b.toList.drop j++a.toList.drop i:=by
  unfold fB;rw[df,df,pG,pG]
 refine⟨?_,?_⟩
 ·rw[el];refine List.Perm.trans ?_ h.pm;rw[ag,ag];exact dt _ fi
 ·rw[el];refine List.pairwise_append.mpr ⟨h.hb,(List.pairwise_append.mp h.ha).2.1,fun x hx y hy=>?_⟩;rcases (dm.mp hx) with hx | hx
  ·exact (List.pairwise_append.mp h.ha).2.2 x hx y hy
  ·obtain⟨t,t1,t2,rfl⟩:=iy hx;obtain⟨t',t3,t4,rfl⟩:=iy hy;have:t'=a.size - 1:=by omega
   subst this;exact hl t t2
structure Mh (rk:Keyed->Int)(P:Keyed->Prop)(a b:Array Keyed):Prop where
 pa:∀ x∈a.toList,P x
 pb:∀ x∈b.toList,P x
 sa:gJ rk a 0 a.size
 sb:gJ rk b 0 b.size
 na:0<a.size
 nb:0<b.size
 h0:∀ t,t<a.size->R rk b 0<=R rk a t
 hl:∀ t,t<b.size->R rk b t<=R rk a (a.size - 1)
theorem BJ (C:Cm M A E s κ P rk)(H:Mh rk P a b){st:SortSt}(hk:kindOf st=κ){Q:Array Keyed->SortSt->Prop}(h:∀ r st',Sm st st'->Res rk a b r->Q r st'):wpS M A E s (mlo a b) Q st:=by
 unfold mlo;refine wpS_bind (iT ?_);refine wpS_bind (bA (dH H.nb) ?_);dsimp only;have J0:J rk a b #[b.getD 0 d0] 0 1:=by
  have z:J rk a b #[] 0 0:=⟨by simpa using mB H.sa,by simpa using mB H.sb,by simp⟩;exact z.movB (k:=1) (fun t h1 h2 h3 t' h4 h5=>(show t=0 by omega) ▸ H.h0 t' h5) (by rw[drop_one H.nb];rfl)
 by_cases e1:1=b.size
 ·rw[if_pos (by simpa using e1)];exact wpS_pure (h _ _ (.refl _) (J0.endA (.inl e1)))
 rw[if_neg (by simpa using e1)];by_cases e2:0+1=a.size
 ·rw[if_pos (by simpa using e2)];exact wpS_pure (h _ _ (.refl _) (J0.endB H.hl e2))
 rw[if_neg (by simpa using e2)];refine wpS_bind (wpS_get ?_);have:=H.na;have:=H.nb;refine wpS_bind (wpS_mono (wpS_forRange (I:=fun x (c:St1) st'=>Sm st st'/\c.1=none/\J rk a b c.2.1 c.2.2.1 c.2.2.2.1/\c.2.2.1+1<a.size/\c.2.2.2.1<b.size/\x<c.2.2.1+c.2.2.2.1)
  (Q:=fun (c:St1) st'=>Sm st st'/\∃ r,c.1=some r/\Res rk a b r) ?step ?fin ⟨.refl _,rfl,J0,by dsimp only;omega,by dsimp only;omega,by dsimp only;omega⟩) ?post)
 case post =>
  rintro⟨c,u,i,j,g⟩ st' ⟨s1,r,e,hr⟩;dsimp only at e;subst e;exact wpS_pure (h _ _ s1 hr)
 case fin =>
  rintro⟨c,u,i,j,g⟩ st' ⟨s1,e,h1,h2,h3,h4⟩;dsimp only at *;omega
 case step =>
  rintro x ⟨c,u,i,j,g⟩ st1 _ hx ⟨s1,e,h1,h2,h3,h4⟩;dsimp only at *;subst e;refine wpS_bind (wpS_mono (wpS_forRange (I:=fun y (c:St2) st'=>Sm st st'/\c.1=none/\J rk a b c.2.1 c.2.2.1 c.2.2.2.1/\c.2.2.1+1<a.size/\c.2.2.2.1<b.size/\x<c.2.2.1+c.2.2.2.1)
   (Q:=fun (c:St2) st'=>Sm st st'/\((∃ r,c.1=some r/\Res rk a b r)\/(c.1=none/\J rk a b c.2.1 c.2.2.1 c.2.2.2.1/\c.2.2.1+1<a.size/\c.2.2.2.1<b.size/\x<c.2.2.1+c.2.2.2.1))) ?s2 ?f2 ⟨s1,rfl,h1,h2,h3,h4⟩) ?p2)
  case f2 =>
   rintro c st' ⟨q1,q2,q3⟩;exact⟨q1,.inr ⟨q2,q3⟩⟩
  case s2 =>
   rintro y ⟨c,u,i,j,ca,cb⟩ st2 _ hy ⟨s1,e,h1,h2,h3,h4⟩;dsimp only at *;subst e;have hi:i<a.size:=by omega
   refine wpS_bind (bA (dH h3) (wpS_bind (bA (dH hi) (wpS_bind (C.lt (H.pb _ (dJ h3)) (H.pa _ (dJ hi)) (s1.1.trans hk) ?_)))));by_cases hw:rk (b.getD j d0)<rk (a.getD i d0)
   ·simp only[hw,decide_true,if_true];refine wpS_bind (bA (dH h3) ?_);have J2:=h1.movB (k:=1) (fun t t1 t2 t3 t' t4 t5=>by
     obtain rfl:t=j:=by omega
     have:=H.sa i t' (by omega) t4 t5;dsimp only[R] at *;omega) (lX h3)
    by_cases e3:j+1=b.size
    ·rw[if_pos (by simpa using e3)];exact wpS_pure ⟨s1,.inl ⟨_,rfl,J2.endA (.inl e3)⟩⟩
    ·rw[if_neg (by simpa using e3)];by_cases e4:cb+1 ≥ g
     ·rw[if_pos e4];exact wpS_pure ⟨s1,.inr ⟨rfl,J2,h2,by dsimp only;omega,by dsimp only;omega⟩⟩
     ·rw[if_neg e4];exact wpS_pure ⟨s1,rfl,J2,h2,by dsimp only;omega,by dsimp only;omega⟩
   ·simp only[hw,decide_false,if_false,Bool.false_eq_true];refine wpS_bind (bA (dH hi) ?_);have J2:=h1.movA (k:=1) (fun t t1 t2 t3 t' t4 t5=>by
     obtain rfl:t=i:=by omega
     have:=H.sb j t' (by omega) t4 t5;dsimp only[R] at *;omega) (lX hi)
    by_cases e3:i+1+1=a.size
    ·rw[if_pos (by simpa using e3)];exact wpS_pure ⟨s1,.inl ⟨_,rfl,J2.endB H.hl e3⟩⟩
    ·rw[if_neg (by simpa using e3)];by_cases e4:ca+1 ≥ g
     ·rw[if_pos e4];exact wpS_pure ⟨s1,.inr ⟨rfl,J2,by dsimp only;omega,h3,by dsimp only;omega⟩⟩
     ·rw[if_neg e4];exact wpS_pure ⟨s1,rfl,J2,by dsimp only;omega,h3,by dsimp only;omega⟩
  case p2 =>
   rintro⟨c,u,i,j,ca,cb⟩ st2 ⟨s1,⟨r,e,hr⟩ | ⟨e,h1,h2,h3,h4⟩⟩
   ·dsimp only at e;subst e;exact wpS_pure ⟨s1,r,rfl,hr⟩
   dsimp only at *;subst e;refine wpS_bind (iT ?_);refine wpS_bind (wpS_mono (wpS_forRange (I:=fun y (c:St3) st'=>Sm st st'/\c.1=none/\J rk a b c.2.1 c.2.2.1 c.2.2.2.1/\c.2.2.1+1<a.size/\c.2.2.2.1<b.size/\x+y<c.2.2.1+c.2.2.2.1)
    (Q:=fun (c:St3) st'=>Sm st st'/\((∃ r,c.1=some r/\Res rk a b r)\/(c.1=none/\J rk a b c.2.1 c.2.2.1 c.2.2.2.1/\c.2.2.1+1<a.size/\c.2.2.2.1<b.size/\x+1<c.2.2.1+c.2.2.2.1))) ?s3 ?f3 ⟨s1,rfl,h1,h2,h3,h4⟩) ?p3)
   case f3 =>
    rintro c st' ⟨q1,q2,q3,q4,q5,q6⟩;exact⟨q1,.inr ⟨q2,q3,q4,q5,by omega⟩⟩
   case p3 =>
    rintro⟨c,u,i,j,g,ca,cb⟩ st3 ⟨s1,⟨r,e,hr⟩ | ⟨e,h1,h2,h3,h4⟩⟩
    ·dsimp only at e;subst e;exact wpS_pure ⟨s1,r,rfl,hr⟩
    dsimp only at *;subst e;exact wpS_bind (iU s1 fun st' s2=>wpS_pure ⟨s2,rfl,h1,h2,h3,h4⟩)
   case s3 =>
    rintro y ⟨c,u,i,j,g,ca,cb⟩ st3 _ hy ⟨s1,e,h1,h2,h3,h4⟩;dsimp only at *;subst e;have fir:∀{st':SortSt}{g':Nat},Sm st st'->wpS M A E s (x4 a b u i j g' cb ca) (fun r st'=>match r with
     |.done c=>Sm st st'/\((∃ r,c.1=some r/\Res rk a b r)\/(c.1=none/\J rk a b c.2.1 c.2.2.1 c.2.2.2.1/\c.2.2.1+1<a.size/\c.2.2.2.1<b.size/\x+1<c.2.2.1+c.2.2.2.1))
     |.yield c=>Sm st st'/\c.1=none/\J rk a b c.2.1 c.2.2.1 c.2.2.2.1/\c.2.2.1+1<a.size/\c.2.2.2.1<b.size/\x+(y+1)<c.2.2.1+c.2.2.2.1) st':=fun {st'} {g'} s2=>by
     have hi:i<a.size:=by omega
     unfold x4;refine wpS_bind (bA (dH h3) (wpS_bind (lJ C (s2.1.trans hk) (H.pb _ (dJ h3)) H.pa (by omega) (fun p q a1 a2 a3=>H.sa p q (by omega) a2 (by omega)) (by omega) fun k k1 k2 k3=>?_)));have J1:∀ u',u'.toList=u.toList++(a.toList.drop i).take k->J rk a b u' (i+k) j:=fun u' hu=>h1.movA (k:=k) (fun t t1 t2 t3 t' t4 t5=>by
      have a1:=k2 t t1 t3;have a2:=H.sb j t' (by omega) t4 t5;dsimp only[R] at *;omega) hu
     have sec:∀{u':Array Keyed}{i':Nat},i'=i+k->u'.toList=u.toList++(a.toList.drop i).take k->i'+1<a.size->wpS M A E s (qc a b u' i' j g' k cb) (fun r st'=>match r with
     |.done c=>Sm st st'/\((∃ r,c.1=some r/\Res rk a b r)\/(c.1=none/\J rk a b c.2.1 c.2.2.1 c.2.2.2.1/\c.2.2.1+1<a.size/\c.2.2.2.1<b.size/\x+1<c.2.2.1+c.2.2.2.1))
     | .yield c=>Sm st st'/\c.1=none/\J rk a b c.2.1 c.2.2.1 c.2.2.2.1/\c.2.2.1+1<a.size/\c.2.2.2.1<b.size/\x+(y+1)<c.2.2.1+c.2.2.2.1) st':=fun {u'} {i'} ei hu hi'=>by
      subst ei;have J2:=(J1 u' hu).movB (k:=1) (fun t t1 t2 t3 t' t4 t5=>by
       obtain rfl:t=j:=by omega
       have:=k3 t' t4 (by omega);dsimp only[R] at *;omega) (lX h3)
      unfold qc;refine wpS_bind (bA (dH h3) ?_);by_cases e1:j+1=b.size
      ·rw[if_pos (by simpa using e1)];exact wpS_pure ⟨s2,.inl ⟨_,rfl,J2.endA (.inl e1)⟩⟩
      rw[if_neg (by simpa using e1)];have hj:j+1<b.size:=by omega
      have hi2:i+k<a.size:=by omega
      refine wpS_bind (bA (dH hi2) (wpS_bind (mf C (s2.1.trans hk) (H.pa _ (dJ hi2)) H.pb (by omega) (fun p q a1 a2 a3=>H.sb p q (by omega) a2 (by omega)) (by omega) fun l l1 l2 l3=>?_)));have J3:∀ u2,u2.toList=(u'.push (b.getD j d0)).toList++(b.toList.drop (j+1)).take l->J rk a b u2 (i+k) (j+1+l):=fun u2 hu=>J2.movB (k:=l) (fun t t1 t2 t3 t' t4 t5=>by
       have a1:=l2 t t1 t3;have a2:=H.sa (i+k) t' (by omega) t4 t5;dsimp only[R] at *;omega) hu
      have thi:∀{u2:Array Keyed}{j':Nat},j'=j+1+l->u2.toList=(u'.push (b.getD j d0)).toList++(b.toList.drop (j+1)).take l->j'<b.size->wpS M A E s (pq a b u2 (i+k) j' g' k l) (fun r st'=>match r with
     |.done c=>Sm st st'/\((∃ r,c.1=some r/\Res rk a b r)\/(c.1=none/\J rk a b c.2.1 c.2.2.1 c.2.2.2.1/\c.2.2.1+1<a.size/\c.2.2.2.1<b.size/\x+1<c.2.2.1+c.2.2.2.1))
     | .yield c=>Sm st st'/\c.1=none/\J rk a b c.2.1 c.2.2.1 c.2.2.2.1/\c.2.2.1+1<a.size/\c.2.2.2.1<b.size/\x+(y+1)<c.2.2.1+c.2.2.2.1) st':=fun {u2} {j'} ej hu2 hj'=>by
       subst ej;have J4:=(J3 u2 hu2).movA (k:=1) (fun t t1 t2 t3 t' t4 t5=>by
        obtain rfl:t=i+k:=by omega
        have:=l3 t' t4 (by omega);dsimp only[R] at *;omega) (lX hi2)
       unfold pq;refine wpS_bind (bA (dH hi2) ?_);by_cases e2:i+k+1+1=a.size
       ·rw[if_pos (by simpa using e2)];exact wpS_pure ⟨s2,.inl ⟨_,rfl,J4.endB H.hl e2⟩⟩
       rw[if_neg (by simpa using e2)];by_cases e3:(decide (k<7)&&decide (l<7))=true
       ·rw[if_pos e3];exact wpS_pure ⟨s2,.inr ⟨rfl,J4,by dsimp only;omega,hj',by dsimp only;omega⟩⟩
       ·rw[if_neg e3];exact wpS_pure ⟨s2,rfl,J4,by dsimp only;omega,hj',by dsimp only;omega⟩
      dsimp only;by_cases e2:l > 0
      ·rw[if_pos e2];by_cases e3:j+1+l=b.size
       ·rw[if_pos (by simpa using e3)];exact wpS_pure ⟨s2,.inl ⟨_,rfl,(J3 _ mY).endA (.inl e3)⟩⟩
       ·rw[if_neg (by simpa using e3)];exact thi rfl mY (by omega)
      ·rw[if_neg e2];obtain rfl:l=0:=by omega
       exact thi rfl (by simp) hj
     dsimp only;by_cases e2:k > 0
     ·rw[if_pos e2];by_cases e3:i+k+1=a.size
      ·rw[if_pos (by simpa using e3)];exact wpS_pure ⟨s2,.inl ⟨_,rfl,(J1 _ mY).endB H.hl e3⟩⟩
      rw[if_neg (by simpa using e3)];by_cases e4:i+k=a.size
      ·rw[if_pos (by simpa using e4)];exact wpS_pure ⟨s2,.inl ⟨_,rfl,(J1 _ mY).endA (.inr e4)⟩⟩
      rw[if_neg (by simpa using e4)];exact sec rfl mY (by omega)
     ·rw[if_neg e2];obtain rfl:k=0:=by omega
      exact sec rfl (by simp) h2
    by_cases hg:g > 1
    ·rw[if_pos hg];exact wpS_bind (iU s1 fun st' s2=>wpS_mono (fir (g':=g - 1) s2) fun r st2 hr=>by cases r<;>exact hr)
    ·rw[if_neg hg];exact wpS_bind (iU s1 fun st' s2=>wpS_mono (fir (g':=g) s2) fun r st2 hr=>by cases r<;>exact hr)
end
variable {M:Model}{A:Around}{E:Value->Shared->Prop}{s:Shared}{κ:SortKind}{P:Keyed->Prop}{rk:Keyed->Int}
noncomputable def m5:Array Keyed->Array Keyed->StateT SortSt Sem (Array Keyed):=sortPriv% PySem.Builtin.mergeHi
noncomputable abbrev gA (a b u:Array Keyed)(i j:Nat):Array Keyed:=a.extract 0 i++b.extract 0 j++u.reverse
noncomputable abbrev gB (a b u:Array Keyed)(i j:Nat):Array Keyed:=b.extract 0 j++a.extract 0 i++u.reverse
noncomputable def mhi (a b:Array Keyed):StateT SortSt Sem (Array Keyed):=do
 liftM (rule "list.sort.merge-hi")
 let mut i:=a.size - 1;let mut j:=b.size;let mut u:Array Keyed:=#[<-elem' a i]
 if i==0 then return gA a b u i j
 if j==1 then return gB a b u i j
 let mut g:=gallopOf (<- get)
 for _ in [0:a.size+b.size] do
  let mut ca:=0;let mut cb:=0
  for _ in [0:a.size+b.size] do
   let some w <- lt' (<- elem' b (j - 1)) (<- elem' a (i - 1)) | return gA a b u i j
   if w then
    i:=i - 1;u:=u.push (<- elem' a i);ca:=ca+1;cb:=0
    if i==0 then return gA a b u i j
    if ca ≥ g then break
   else
    j:=j - 1;u:=u.push (<- elem' b j);cb:=cb+1;ca:=0
    if j==1 then return gB a b u i j
    if cb ≥ g then break
  liftM (rule "list.sort.gallop")
  g:=g+1
  for _ in [0:a.size+b.size] do
   if g > 1 then g:=g - 1
   mC g
   let some p <- bY false (<- elem' b (j - 1)) a 0 i (i - 1) | return gA a b u i j
   let k:=i - p
   ca:=k
   if k > 0 then
    u:=u++(a.extract p i).reverse;i:=p
    if i==0 then return gA a b u i j
   j:=j - 1;u:=u.push (<- elem' b j)
   if j==1 then return gB a b u i j
   let some p <- bY true (<- elem' a (i - 1)) b 0 j (j - 1) | return gA a b u i j
   let k:=j - p
   cb:=k
   if k > 0 then
    u:=u++(b.extract p j).reverse;j:=p
    if j==1 then return gB a b u i j
    if j==0 then return gA a b u i j
   i:=i - 1;u:=u.push (<- elem' a i)
   if i==0 then return gA a b u i j
   if ca<7&&cb<7 then break
  g:=g+1
  mC g
 unsupported ("internal:list.sort.merge-bound")
theorem mm (a b:Array Keyed):m5 a b=mhi a b:=rfl
noncomputable abbrev Th2:=Option (Array Keyed)×Nat×Nat×Array Keyed×Nat×Nat
noncomputable abbrev Th3:=Option (Array Keyed)×Nat×Nat×Array Keyed×Nat×Nat×Nat
noncomputable abbrev Th1:=Option (Array Keyed)×Nat×Nat×Array Keyed×Nat
noncomputable abbrev Sq:=StateT SortSt Sem (ForInStep Th3)
noncomputable def o3 (a b u:Array Keyed)(i j g ca cb:Nat):Sq:=do
 let x <- elem' a (i - 1)
 if i - 1==0 then pure (.done (some (gA a b (u.push x) (i - 1) j),i - 1,j,u.push x,g,ca,cb))
 else if ca<7&&cb<7 then pure (.done (none,i - 1,j,u.push x,g,ca,cb)) else pure (.yield (none,i - 1,j,u.push x,g,ca,cb))
noncomputable def qb (a b u:Array Keyed)(i j g ca cb:Nat):Sq:=do
 let x <- elem' b (j - 1)
 if j - 1==1 then pure (.done (some (gB a b (u.push x) i (j - 1)),i,j - 1,u.push x,g,ca,cb))
 else
  let z <- elem' a (i - 1)
  match <- bY true z b 0 (j - 1) (j - 1 - 1) with
  |some p =>
   if j - 1 - p > 0 then
    if p==1 then pure (.done (some (gB a b (u.push x++(b.extract p (j - 1)).reverse) i p),i,p,u.push x++(b.extract p (j - 1)).reverse,g,ca,j - 1 - p))
    else if p==0 then pure (.done (some (gA a b (u.push x++(b.extract p (j - 1)).reverse) i p),i,p,u.push x++(b.extract p (j - 1)).reverse,g,ca,j - 1 - p))
    else o3 a b (u.push x++(b.extract p (j - 1)).reverse) i p g ca (j - 1 - p)
   else o3 a b (u.push x) i (j - 1) g ca (j - 1 - p)
  |_=>pure (.done (some (gA a b (u.push x) i (j - 1)),i,j - 1,u.push x,g,ca,cb))
noncomputable def xE (a b u:Array Keyed)(i j g cb ca:Nat):Sq:=do
 let x <- elem' b (j - 1)
 match <- bY false x a 0 i (i - 1) with
 |some p =>
  if i - p > 0 then
   if p==0 then pure (.done (some (gA a b (u++(a.extract p i).reverse) p j),p,j,u++(a.extract p i).reverse,g,i - p,cb))
   else qb a b (u++(a.extract p i).reverse) p j g (i - p) cb
  else qb a b u i j g (i - p) cb
 |_=>pure (.done (some (gA a b u i j),i,j,u,g,ca,cb))
theorem mvH {o p q r:List Keyed}(h1:S rk ((q++p)++o))(h2:S rk (r++o))(h:∀ x∈r,∀ y∈p,rk x<=rk y):S rk (q++(p++o))/\S rk (r++(p++o)):=by
 rw[ag] at h1;refine⟨h1,?_⟩;have a:=(List.pairwise_append.mp h1).2.1;have b:=List.pairwise_append.mp h2;refine List.pairwise_append.mpr ⟨b.1,a,fun x hx y hy=>?_⟩;rcases dm.mp hy with hy | hy
 ·exact h x hx y hy
 ·exact b.2.2 x hx y hy
theorem lz {xs:Array Keyed}{n:Nat}{y:Keyed}(h:y∈xs.toList.take n):∃ t,t<n/\t<xs.size/\y=xs.getD t d0:=by
 obtain⟨t,t1,t2,t3,e⟩:=eK (i:=0) (k:=n) (by simpa using h);exact⟨t,by omega,t2,e⟩
theorem uJ {xs:Array Keyed}{n p:Nat}{y:Keyed}(h:y∈(xs.toList.take n).drop p):∃ t,p<=t/\t<n/\t<xs.size/\y=xs.getD t d0:=by
 rw[List.drop_take] at h;obtain⟨t,t1,t2,t3,e⟩:=eK h;exact⟨t,t1,by omega,t2,e⟩
section
variable {a b:Array Keyed}
structure G (rk:Keyed->Int)(a b u:Array Keyed)(i j:Nat):Prop where
 ha:S rk (a.toList.take i++u.toList.reverse)
 hb:S rk (b.toList.take j++u.toList.reverse)
 pm:(a.toList.take i++b.toList.take j++u.toList.reverse).Perm (a.toList++b.toList)
theorem G.movA {u u':Array Keyed}{i j p:Nat}(h:G rk a b u i j)(hp:p<=i)(o:∀ t,p<=t->t<i->t<a.size->∀ t',t'<j->t'<b.size->R rk b t'<=R rk a t)(e:u'.toList.reverse=(a.toList.take i).drop p++u.toList.reverse):G rk a b u' p j:=by
 have ed:a.toList.take i=a.toList.take p++(a.toList.take i).drop p:=by
  have:=cu p (a.toList.take i);rw[List.take_take,ie hp] at this;exact this.symm
 have h1:=h.ha;rw[ed] at h1;have:=mvH h1 h.hb fun x hx y hy=>by
  obtain⟨t,t1,t2,t3,rfl⟩:=uJ hy;obtain⟨t',t4,t5,rfl⟩:=lz hx;exact o t t1 t2 t3 t' t4 t5
 refine⟨by rw[e];exact this.1,by rw[e];exact this.2,?_⟩;have pm:=h.pm;rw[ed] at pm;rw[e];refine List.Perm.trans ?_ pm;rw[ag,ag,ag];refine (dt _ ?_);have:=(fi (l₁:=b.toList.take j) (l₂:=(a.toList.take i).drop p)).append_right u.toList.reverse
 rwa [ag,ag] at this
theorem G.movB {u u':Array Keyed}{i j p:Nat}(h:G rk a b u i j)(hp:p<=j)(o:∀ t,p<=t->t<j->t<b.size->∀ t',t'<i->t'<a.size->R rk a t'<=R rk b t)(e:u'.toList.reverse=(b.toList.take j).drop p++u.toList.reverse):G rk a b u' i p:=by
 have ed:b.toList.take j=b.toList.take p++(b.toList.take j).drop p:=by
  have:=cu p (b.toList.take j);rw[List.take_take,ie hp] at this;exact this.symm
 have h1:=h.hb;rw[ed] at h1;have:=mvH h1 h.ha fun x hx y hy=>by
  obtain⟨t,t1,t2,t3,rfl⟩:=uJ hy;obtain⟨t',t4,t5,rfl⟩:=lz hx;exact o t t1 t2 t3 t' t4 t5
 refine⟨by rw[e];exact this.2,by rw[e];exact this.1,?_⟩;have pm:=h.pm;rw[ed] at pm;rw[e];simpa[List.append_assoc] using pm
theorem jP {u:Array Keyed}{xs:Array Keyed}{i:Nat}(h0:0<i)(h:i<=xs.size):(u.push (xs.getD (i - 1) d0)).toList.reverse=(xs.toList.take i).drop (i - 1)++u.toList.reverse:=by
 rw[List.drop_take,drop_one (by omega),show i - (i - 1)=1 by omega];simp
theorem nj {u:Array Keyed}{xs:Array Keyed}{i p:Nat}:(u++(xs.extract p i).reverse).toList.reverse=(xs.toList.take i).drop p++u.toList.reverse:=by
 rw[List.drop_take];simp[List.extract_eq_take_drop]
theorem pL {xs:Array Keyed}{i:Nat}:(xs.extract 0 i).toList=xs.toList.take i:=by
 simp[List.extract_eq_take_drop]
theorem G.endA {u:Array Keyed}{i j:Nat}(h:G rk a b u i j)(e:i=0\/j=0):Res rk a b (gA a b u i j):=by
 have el:(gA a b u i j).toList=a.toList.take i++b.toList.take j++u.toList.reverse:=by
  unfold gA;rw[df,df,pL,pL,Array.toList_reverse]
 refine⟨by rw[el];exact h.pm,?_⟩;rw[el];rcases e with rfl | rfl
 ·exact h.hb
 ·rw[List.take_zero,ax];exact h.ha
theorem G.endB {u:Array Keyed}{i j:Nat}(h:G rk a b u i j)(h0:∀ t,t<a.size->R rk b 0<=R rk a t)(e:j=1):Res rk a b (gB a b u i j):=by
 have el:(gB a b u i j).toList=b.toList.take j++(a.toList.take i++u.toList.reverse):=by
  unfold gB;rw[df,df,pL,pL,Array.toList_reverse,ag]
 refine⟨?_,?_⟩
 ·rw[el];refine List.Perm.trans ?_ h.pm;rw[<-ag];exact (gc _ fi)
 ·rw[el];refine List.pairwise_append.mpr ⟨(List.pairwise_append.mp h.hb).1,h.ha,fun x hx y hy=>?_⟩;rcases dm.mp hy with hy | hy
  ·obtain⟨t,t1,t2,rfl⟩:=lz hx;obtain⟨t',t3,t4,rfl⟩:=lz hy;obtain rfl:t=0:=by omega
   exact h0 t' t4
  ·exact (List.pairwise_append.mp h.hb).2.2 x hx y hy
theorem Bi (C:Cm M A E s κ P rk)(H:Mh rk P a b){st:SortSt}(hk:kindOf st=κ){Q:Array Keyed->SortSt->Prop}(h:∀ r st',Sm st st'->Res rk a b r->Q r st'):wpS M A E s (mhi a b) Q st:=by
 have:=H.na;have:=H.nb;unfold mhi;refine wpS_bind (iT ?_);have hz:a.size - 1<a.size:=by omega
 refine wpS_bind (bA (dH hz) ?_);dsimp only;have J0:G rk a b #[a.getD (a.size - 1) d0] (a.size - 1) b.size:=by
  have ea:a.toList.take a.size=a.toList:=List.take_of_length_le (by simp);have eb:b.toList.take b.size=b.toList:=List.take_of_length_le (by simp);have z:G rk a b #[] a.size b.size:=⟨by rw[ea];simpa using mB H.sa,by rw[eb];simpa using mB H.sb,by rw[ea,eb];simp⟩;exact z.movA (p:=a.size - 1) (by omega) (fun t h1 h2 h3 t' h4 h5=>(show t=a.size - 1 by omega) ▸ H.hl t' h5) (jP (u:=#[]) H.na (ai _))
 by_cases e1:a.size - 1=0
 ·rw[if_pos (by simpa using e1)];exact wpS_pure (h _ _ (.refl _) (J0.endA (.inl e1)))
 rw[if_neg (by simpa using e1)];by_cases e2:b.size=1
 ·rw[if_pos (by simpa using e2)];exact wpS_pure (h _ _ (.refl _) (J0.endB H.h0 e2))
 rw[if_neg (by simpa using e2)];refine wpS_bind (wpS_get ?_);refine wpS_bind (wpS_mono (wpS_forRange (I:=fun x (c:Th1) st'=>Sm st st'/\c.1=none/\G rk a b c.2.2.2.1 c.2.1 c.2.2.1/\0<c.2.1/\c.2.1<=a.size/\1<c.2.2.1/\c.2.2.1<=b.size/\x+(c.2.1+c.2.2.1)<a.size+b.size)
  (Q:=fun (c:Th1) st'=>Sm st st'/\∃ r,c.1=some r/\Res rk a b r) ?step ?fin ⟨.refl _,rfl,J0,by dsimp only;omega,by dsimp only;omega,by dsimp only;omega,by dsimp only;omega,by dsimp only;omega⟩) ?post)
 case post =>
  rintro⟨c,i,j,u,g⟩ st' ⟨s1,r,e,hr⟩;dsimp only at e;subst e;exact wpS_pure (h _ _ s1 hr)
 case fin =>
  rintro⟨c,i,j,u,g⟩ st' ⟨s1,e,h1,h2,h3,h4,h5,h6⟩;dsimp only at *;omega
 case step =>
  rintro x ⟨c,i,j,u,g⟩ st1 _ hx ⟨s1,e,h1,h2,h3,h4,h5,h6⟩;dsimp only at *;subst e;refine wpS_bind (wpS_mono (wpS_forRange (I:=fun y (c:Th2) st'=>Sm st st'/\c.1=none/\G rk a b c.2.2.2.1 c.2.1 c.2.2.1/\0<c.2.1/\c.2.1<=a.size/\1<c.2.2.1/\c.2.2.1<=b.size/\x+(c.2.1+c.2.2.1)<a.size+b.size)
   (Q:=fun (c:Th2) st'=>Sm st st'/\((∃ r,c.1=some r/\Res rk a b r)\/(c.1=none/\G rk a b c.2.2.2.1 c.2.1 c.2.2.1/\0<c.2.1/\c.2.1<=a.size/\1<c.2.2.1/\c.2.2.1<=b.size/\x+(c.2.1+c.2.2.1)<a.size+b.size))) ?s2 ?f2 ⟨s1,rfl,h1,h2,h3,h4,h5,h6⟩) ?p2)
  case f2 =>
   rintro c st' ⟨q1,q2,q3⟩;exact⟨q1,.inr ⟨q2,q3⟩⟩
  case s2 =>
   rintro y ⟨c,i,j,u,ca,cb⟩ st2 _ hy ⟨s1,e,h1,h2,h3,h4,h5,h6⟩;dsimp only at *;subst e;have hi:i - 1<a.size:=by omega
   have hj:j - 1<b.size:=by omega
   refine wpS_bind (bA (dH hj) (wpS_bind (bA (dH hi) (wpS_bind (C.lt (H.pb _ (dJ hj)) (H.pa _ (dJ hi)) (s1.1.trans hk) ?_)))));by_cases hw:rk (b.getD (j - 1) d0)<rk (a.getD (i - 1) d0)
   ·simp only[hw,decide_true,if_true];refine wpS_bind (bA (dH hi) ?_);have J2:=h1.movA (p:=i - 1) (by omega) (fun t t1 t2 t3 t' t4 t5=>by
     obtain rfl:t=i - 1:=by omega
     have:=H.sb t' (j - 1) (by omega) (by omega) hj;dsimp only[R] at *;omega) (jP h2 h3)
    by_cases e3:i - 1=0
    ·rw[if_pos (by simpa using e3)];exact wpS_pure ⟨s1,.inl ⟨_,rfl,J2.endA (.inl e3)⟩⟩
    ·rw[if_neg (by simpa using e3)];by_cases e4:ca+1 ≥ g
     ·rw[if_pos e4];exact wpS_pure ⟨s1,.inr ⟨rfl,J2,by dsimp only;omega,by dsimp only;omega,h4,h5,by dsimp only;omega⟩⟩
     ·rw[if_neg e4];exact wpS_pure ⟨s1,rfl,J2,by dsimp only;omega,by dsimp only;omega,h4,h5,by dsimp only;omega⟩
   ·simp only[hw,decide_false,if_false,Bool.false_eq_true];refine wpS_bind (bA (dH hj) ?_);have J2:=h1.movB (p:=j - 1) (by omega) (fun t t1 t2 t3 t' t4 t5=>by
     obtain rfl:t=j - 1:=by omega
     have:=H.sa t' (i - 1) (by omega) (by omega) hi;dsimp only[R] at *;omega) (jP (by omega) h5)
    by_cases e3:j - 1=1
    ·rw[if_pos (by simpa using e3)];exact wpS_pure ⟨s1,.inl ⟨_,rfl,J2.endB H.h0 e3⟩⟩
    ·rw[if_neg (by simpa using e3)];by_cases e4:cb+1 ≥ g
     ·rw[if_pos e4];exact wpS_pure ⟨s1,.inr ⟨rfl,J2,h2,h3,by dsimp only;omega,by dsimp only;omega,by dsimp only;omega⟩⟩
     ·rw[if_neg e4];exact wpS_pure ⟨s1,rfl,J2,h2,h3,by dsimp only;omega,by dsimp only;omega,by dsimp only;omega⟩
  case p2 =>
   rintro⟨c,i,j,u,ca,cb⟩ st2 ⟨s1,⟨r,e,hr⟩ | ⟨e,h1,h2,h3,h4,h5,h6⟩⟩
   ·dsimp only at e;subst e;exact wpS_pure ⟨s1,r,rfl,hr⟩
   dsimp only at *;subst e;refine wpS_bind (iT ?_);refine wpS_bind (wpS_mono (wpS_forRange (I:=fun y (c:Th3) st'=>Sm st st'/\c.1=none/\G rk a b c.2.2.2.1 c.2.1 c.2.2.1/\0<c.2.1/\c.2.1<=a.size/\1<c.2.2.1/\c.2.2.1<=b.size/\x+y+(c.2.1+c.2.2.1)<a.size+b.size)
    (Q:=fun (c:Th3) st'=>Sm st st'/\((∃ r,c.1=some r/\Res rk a b r)\/(c.1=none/\G rk a b c.2.2.2.1 c.2.1 c.2.2.1/\0<c.2.1/\c.2.1<=a.size/\1<c.2.2.1/\c.2.2.1<=b.size/\x+1+(c.2.1+c.2.2.1)<a.size+b.size))) ?s3 ?f3 ⟨s1,rfl,h1,h2,h3,h4,h5,h6⟩) ?p3)
   case f3 =>
    rintro c st' ⟨q1,q2,q3,q4,q5,q6,q7,q8⟩;exact⟨q1,.inr ⟨q2,q3,q4,q5,q6,q7,by omega⟩⟩
   case p3 =>
    rintro⟨c,i,j,u,g,ca,cb⟩ st3 ⟨s1,⟨r,e,hr⟩ | ⟨e,h1,h2,h3,h4,h5,h6⟩⟩
    ·dsimp only at e;subst e;exact wpS_pure ⟨s1,r,rfl,hr⟩
    dsimp only at *;subst e;exact wpS_bind (iU s1 fun st' s2=>wpS_pure ⟨s2,rfl,h1,h2,h3,h4,h5,h6⟩)
   case s3 =>
    rintro y ⟨c,i,j,u,g,ca,cb⟩ st3 _ hy ⟨s1,e,h1,h2,h3,h4,h5,h6⟩;dsimp only at *;subst e;have hj:j - 1<b.size:=by omega
    have fir:∀{st':SortSt}{g':Nat},Sm st st'->wpS M A E s (xE a b u i j g' cb ca) (fun r st'=>match r with
     |.done c=>Sm st st'/\((∃ r,c.1=some r/\Res rk a b r)\/(c.1=none/\G rk a b c.2.2.2.1 c.2.1 c.2.2.1/\0<c.2.1/\c.2.1<=a.size/\1<c.2.2.1/\c.2.2.1<=b.size/\x+1+(c.2.1+c.2.2.1)<a.size+b.size))
     |.yield c=>Sm st st'/\c.1=none/\G rk a b c.2.2.2.1 c.2.1 c.2.2.1/\0<c.2.1/\c.2.1<=a.size/\1<c.2.2.1/\c.2.2.1<=b.size/\x+(y+1)+(c.2.1+c.2.2.1)<a.size+b.size) st':=fun {st'} {g'} s2=>by
     unfold xE;refine wpS_bind (bA (dH hj) (wpS_bind (lJ C (s2.1.trans hk) (H.pb _ (dJ hj)) H.pa (by omega) (fun p q a1 a2 a3=>H.sa p q (by omega) a2 (by omega)) (by omega) fun p k1 k2 k3=>?_)));have J1:∀ u',u'.toList.reverse=(a.toList.take i).drop p++u.toList.reverse->G rk a b u' p j:=fun u' hu=>h1.movA k1 (fun t t1 t2 t3 t' t4 t5=>by
      have a1:=k3 t (by omega) (by omega);have a2:=H.sb t' (j - 1) (by omega) (by omega) hj;dsimp only[R] at *;omega) hu
     have sec:∀{u':Array Keyed}{i':Nat},i'=p->u'.toList.reverse=(a.toList.take i).drop p++u.toList.reverse->0<i'->wpS M A E s (qb a b u' i' j g' (i - p) cb) (fun r st'=>match r with
     |.done c=>Sm st st'/\((∃ r,c.1=some r/\Res rk a b r)\/(c.1=none/\G rk a b c.2.2.2.1 c.2.1 c.2.2.1/\0<c.2.1/\c.2.1<=a.size/\1<c.2.2.1/\c.2.2.1<=b.size/\x+1+(c.2.1+c.2.2.1)<a.size+b.size))
     | .yield c=>Sm st st'/\c.1=none/\G rk a b c.2.2.2.1 c.2.1 c.2.2.1/\0<c.2.1/\c.2.1<=a.size/\1<c.2.2.1/\c.2.2.1<=b.size/\x+(y+1)+(c.2.1+c.2.2.1)<a.size+b.size) st':=fun {u'} {i'} ei hu hi'=>by
      subst ei;have J2:=(J1 u' hu).movB (p:=j - 1) (by omega) (fun t t1 t2 t3 t' t4 t5=>by
       obtain rfl:t=j - 1:=by omega
       have:=k2 t' (by omega) (by omega);dsimp only[R] at *;omega) (jP (by omega) h5)
      unfold qb;refine wpS_bind (bA (dH hj) ?_);by_cases e1:j - 1=1
      ·rw[if_pos (by simpa using e1)];exact wpS_pure ⟨s2,.inl ⟨_,rfl,J2.endB H.h0 e1⟩⟩
      rw[if_neg (by simpa using e1)];have hi2:i' - 1<a.size:=by omega
      refine wpS_bind (bA (dH hi2) (wpS_bind (mf C (s2.1.trans hk) (H.pa _ (dJ hi2)) H.pb (by omega) (fun p q a1 a2 a3=>H.sb p q (by omega) a2 (by omega)) (by omega) fun l l1 l2 l3=>?_)));have J3:∀ u2,u2.toList.reverse=(b.toList.take (j - 1)).drop l++(u'.push (b.getD (j - 1) d0)).toList.reverse->G rk a b u2 i' l:=fun u2 hu=>J2.movB l1 (fun t t1 t2 t3 t' t4 t5=>by
       have a1:=l3 t (by omega) (by omega);have a2:=H.sa t' (i' - 1) (by omega) (by omega) hi2;dsimp only[R] at *;omega) hu
      have thi:∀{u2:Array Keyed}{j':Nat},j'=l->u2.toList.reverse=(b.toList.take (j - 1)).drop l++(u'.push (b.getD (j - 1) d0)).toList.reverse->1<j'->wpS M A E s (o3 a b u2 i' j' g' (i - i') (j - 1 - l)) (fun r st'=>match r with
     |.done c=>Sm st st'/\((∃ r,c.1=some r/\Res rk a b r)\/(c.1=none/\G rk a b c.2.2.2.1 c.2.1 c.2.2.1/\0<c.2.1/\c.2.1<=a.size/\1<c.2.2.1/\c.2.2.1<=b.size/\x+1+(c.2.1+c.2.2.1)<a.size+b.size))
     | .yield c=>Sm st st'/\c.1=none/\G rk a b c.2.2.2.1 c.2.1 c.2.2.1/\0<c.2.1/\c.2.1<=a.size/\1<c.2.2.1/\c.2.2.1<=b.size/\x+(y+1)+(c.2.1+c.2.2.1)<a.size+b.size) st':=fun {u2} {j'} ej hu2 hj'=>by
       subst ej;have J4:=(J3 u2 hu2).movA (p:=i' - 1) (by omega) (fun t t1 t2 t3 t' t4 t5=>by
        obtain rfl:t=i' - 1:=by omega
        have:=l2 t' (by omega) (by omega);dsimp only[R] at *;omega) (jP hi' (by omega))
       unfold o3;refine wpS_bind (bA (dH hi2) ?_);by_cases e2:i' - 1=0
       ·rw[if_pos (by simpa using e2)];exact wpS_pure ⟨s2,.inl ⟨_,rfl,J4.endA (.inl e2)⟩⟩
       rw[if_neg (by simpa using e2)];by_cases e3:(decide (i - i'<7)&&decide (j - 1 - j'<7))=true
       ·rw[if_pos e3];exact wpS_pure ⟨s2,.inr ⟨rfl,J4,by dsimp only;omega,by dsimp only;omega,hj',by dsimp only;omega,by dsimp only;omega⟩⟩
       ·rw[if_neg e3];exact wpS_pure ⟨s2,rfl,J4,by dsimp only;omega,by dsimp only;omega,hj',by dsimp only;omega,by dsimp only;omega⟩
      dsimp only;by_cases e2:j - 1 - l > 0
      ·rw[if_pos e2];by_cases e3:l=1
       ·rw[if_pos (by simpa using e3)];exact wpS_pure ⟨s2,.inl ⟨_,rfl,(J3 _ nj).endB H.h0 e3⟩⟩
       rw[if_neg (by simpa using e3)];by_cases e4:l=0
       ·rw[if_pos (by simpa using e4)];exact wpS_pure ⟨s2,.inl ⟨_,rfl,(J3 _ nj).endA (.inr e4)⟩⟩
       rw[if_neg (by simpa using e4)];exact thi rfl nj (by omega)
      ·rw[if_neg e2];obtain rfl:l=j - 1:=by omega
       exact thi rfl (by rw[List.drop_of_length_le (by simp;omega)];rfl) (by omega)
     dsimp only;by_cases e2:i - p > 0
     ·rw[if_pos e2];by_cases e4:p=0
      ·rw[if_pos (by simpa using e4)];exact wpS_pure ⟨s2,.inl ⟨_,rfl,(J1 _ nj).endA (.inl e4)⟩⟩
      rw[if_neg (by simpa using e4)];exact sec rfl nj (by omega)
     ·rw[if_neg e2];obtain rfl:p=i:=by omega
      exact sec rfl (by rw[List.drop_of_length_le (by simp;omega)];rfl) h2
    by_cases hg:g > 1
    ·rw[if_pos hg];exact wpS_bind (iU s1 fun st' s2=>wpS_mono (fir (g':=g - 1) s2) fun r st2 hr=>by cases r<;>exact hr)
    ·rw[if_neg hg];exact wpS_bind (iU s1 fun st' s2=>wpS_mono (fir (g':=g) s2) fun r st2 hr=>by cases r<;>exact hr)
end
variable {M:Model}{A:Around}{E:Value->Shared->Prop}{s:Shared}{κ:SortKind}{P:Keyed->Prop}{rk:Keyed->Int}
structure Cg (st:SortSt)(lo:Nat)(st':SortSt):Prop where
 pm:(arrOf st').Perm (arrOf st)
 lw:∀ k,k<lo->(arrOf st').getD k d0=(arrOf st).getD k d0
 kd:kindOf st'=kindOf st
 pe:pendingOf st'=pendingOf st
 fa:failedOf st'=failedOf st
theorem Cg.refl (st:SortSt)(lo:Nat):Cg st lo st:=⟨.refl _,fun _ _=>rfl,rfl,rfl,rfl⟩
theorem Cg.sz {st st':SortSt}{lo:Nat}(h:Cg st lo st'):(arrOf st').size=(arrOf st).size:=h.pm.size_eq
theorem gd {xs ys:Array Keyed}{i j:Nat}(h:xs[i]? = ys[j]?):xs.getD i d0=ys.getD j d0:=by
 rw[Array.getD_eq_getD_getElem?,Array.getD_eq_getD_getElem?,h]
theorem xu {xs:Array Keyed}{src d:Nat}(hs:src<xs.size)(hd:d<=src)(k:Nat):(bubble xs src d).getD k d0=if k=src - d then xs.getD src d0 else if src - d<k/\k<=src then xs.getD (k - 1) d0 else xs.getD k d0:=by
 have e:=(getElem?_bubble hs d hd k);by_cases h1:k=src - d
 ·rw[if_pos h1] at e ⊢;exact gd e
 rw[if_neg h1] at e ⊢;by_cases h2:(src - d<k/\k<=src)
 ·rw[if_pos h2] at e ⊢;exact gd e
 ·rw[if_neg h2] at e ⊢;exact gd e
theorem xv {xs:Array Keyed}{src d:Nat}(hs:src<xs.size)(hd:d<=src)(k:Nat):R rk (bubble xs src d) k=if k=src - d then R rk xs src else if src - d<k/\k<=src then R rk xs (k - 1) else R rk xs k:=by
 show rk _=_;rw[xu hs hd,apply_ite rk,apply_ite rk]
theorem qe {xs:Array Keyed}{i j:Nat}(hj:j<=xs.size)(k:Nat):(mirror xs i j ((j - i) / 2)).getD k d0=if i<=k/\k<j then xs.getD (i+j - 1 - k) d0 else xs.getD k d0:=by
 have e:=(getElem?_mirror_all (i:=i) hj k);by_cases h1:i<=k/\k<j
 ·rw[if_pos h1] at e ⊢;exact gd e
 ·rw[if_neg h1] at e ⊢;exact gd e
theorem uW {xs:Array Keyed}{i j:Nat}(hj:j<=xs.size)(he:∀ k,i<=k->k<j->R rk xs k=R rk xs (j - 1))(k:Nat):R rk (mirror xs i j ((j - i) / 2)) k=R rk xs k:=by
 unfold R at *;rw[qe hj];by_cases h:i<=k/\k<j
 ·rw[if_pos h,he _ (by omega) (by omega),he k h.1 h.2]
 ·rw[if_neg h]
noncomputable def Al (P:Keyed->Prop)(st:SortSt):Prop:=∀ x∈(arrOf st).toList,P x
theorem Cg.al {st st':SortSt}{lo:Nat}(h:Cg st lo st')(p:Al P st):Al P st':=fun x hx=>p x ((Array.perm_iff_toList_perm.mp h.pm).mem_iff.mp hx)
theorem Cg.bub {st st':SortSt}{lo src d:Nat}(h:Cg st lo st')(hs:src<(arrOf st).size)(hd:d<=src)(hl:lo<=src - d):Cg st lo (setArr st' (bubble (arrOf st') src d)) :=
 ⟨(bubble_perm _ _ _).trans h.pm,fun k hk=>by
  show (bubble (arrOf st') src d).getD k d0=_;rw[xu (by rw[h.sz];exact hs) hd,if_neg (by omega),if_neg (by omega)];exact h.lw k hk,h.kd,h.pe,h.fa⟩
theorem Cg.Bp {st st':SortSt}{lo i j:Nat}(h:Cg st lo st')(hj:j<=(arrOf st).size)(hl:lo<=i):Cg st lo (setArr st' (mirror (arrOf st') i j ((j - i) / 2))) :=
 ⟨(mirror_perm _ _ _ _).trans h.pm,fun k hk=>by
  show (mirror (arrOf st') i j ((j - i) / 2)).getD k d0=_;rw[qe (by rw[h.sz];exact hj),if_neg (by omega)];exact h.lw k hk,h.kd,h.pe,h.fa⟩
theorem jJ (C:Cm M A E s κ P rk){i j:Nat}{st:SortSt}(hk:kindOf st=κ)(p:Al P st)(hi:i<(arrOf st).size)(hj:j<(arrOf st).size){Q:Option Bool->SortSt->Prop}(q:Q (some (decide (R rk (arrOf st) i<R rk (arrOf st) j))) st):wpS M A E s (ltAt' i j) Q st:=by
 rw[ltAt'_eq];exact wpS_bind (wpS_get (wpS_bind (bA (dH hi) (wpS_bind (bA (dH hj) (C.lt (p _ (dJ hi)) (p _ (dJ hj)) hk q))))))
theorem w_rev {i j:Nat}{st:SortSt}{Q:Unit->SortSt->Prop}(q:Q () (setArr st (mirror (arrOf st) i j ((j - i) / 2)))):wpS M A E s (reverseSlice' i j) Q st:=by
 rw[reverseSlice'_eq];exact wpS_modify q
theorem Bq (C:Cm M A E s κ P rk){st:SortSt}{lo n ok:Nat}(hk:kindOf st=κ)(p:Al P st)(hz:lo+n<=(arrOf st).size)(h1:1<=ok)(hok:ok<=n)(so:gJ rk (arrOf st) lo (lo+ok)){Q:Bool->SortSt->Prop}
  (h:∀ st',Cg st lo st'->gJ rk (arrOf st') lo (lo+n)->Q true st'):wpS M A E s (binarySort' lo n ok) Q st:=by
 rw[binarySort'_eq];refine wpS_bind (wpS_mono (wpS_forRange (I:=fun k (c:Option Bool×Unit) st'=>c.1=none/\Cg st lo st'/\gJ rk (arrOf st') lo (lo+min k n))
  (Q:=fun (c:Option Bool×Unit) st'=>c.1=none/\Cg st lo st'/\gJ rk (arrOf st') lo (lo+n)) ?step ?fin ⟨rfl,.refl _ _,by rw[show min (max ok 1) n=ok by omega];exact so⟩) ?post)
 case post =>
  rintro⟨c,u⟩ st' ⟨e,h1,h2⟩;dsimp only at e;subst e;exact wpS_pure (h st' h1 h2)
 case fin =>
  rintro c st' ⟨e,h1,h2⟩;rw[show min (max (max ok 1) n) n=n by omega] at h2;exact⟨e,h1,h2⟩
 case step =>
  rintro k ⟨c,u⟩ st1 hk1 hkn ⟨e,g1,g2⟩;dsimp only at e;subst e;rw[show min k n=k by omega] at g2;dsimp only;have hz1:lo+k<(arrOf st1).size:=by rw[g1.sz];omega
  refine wpS_bind (wpS_mono (wpS_forRange (I:=fun x (c:Option Bool×Nat×Nat) st'=>st'=st1/\c.1=none/\c.2.1<=c.2.2/\c.2.2<=k/\c.2.2 - c.2.1<=k - x/\(∀ i,i<c.2.1->R rk (arrOf st1) (lo+i)<=R rk (arrOf st1) (lo+k))/\(∀ i,c.2.2<=i->i<k->R rk (arrOf st1) (lo+k)<R rk (arrOf st1) (lo+i)))
   (Q:=fun (c:Option Bool×Nat×Nat) st'=>st'=st1/\c.1=none/\c.2.1<=k/\(∀ i,i<c.2.1->R rk (arrOf st1) (lo+i)<=R rk (arrOf st1) (lo+k))/\(∀ i,c.2.1<=i->i<k->R rk (arrOf st1) (lo+k)<R rk (arrOf st1) (lo+i))) ?s2 ?f2 ⟨rfl,rfl,by dsimp only;omega,by dsimp only;omega,by dsimp only;omega,fun i hi=>by dsimp only at hi;omega,fun i h1 h2=>by dsimp only at h1;omega⟩) ?p2)
  case f2 =>
   rintro⟨c,l,r⟩ st' ⟨q1,q2,q3,q4,q5,q6,q7⟩;dsimp only at *;obtain rfl:l=r:=by omega
   exact⟨q1,q2,q4,q6,q7⟩
  case s2 =>
   rintro x ⟨c,l,r⟩ st' _ hx ⟨q1,q2,q3,q4,q5,q6,q7⟩;dsimp only at *;subst q1 q2;by_cases hge:l ≥ r
   ·rw[if_pos hge];obtain rfl:l=r:=by omega
    exact wpS_pure ⟨rfl,rfl,q4,q6,q7⟩
   rw[if_neg hge];refine wpS_bind (jJ C (g1.kd.trans hk) (g1.al p) hz1 (by omega) ?_);by_cases hl:R rk (arrOf st') (lo+k)<R rk (arrOf st') (lo+(l+r) / 2)
   ·simp only[hl,decide_true,if_true];refine wpS_pure ⟨rfl,rfl,by dsimp only;omega,by dsimp only;omega,by dsimp only;omega,q6,fun i a b=>?_⟩;dsimp only at a;have:=g2 (lo+(l+r) / 2) (lo+i) (by omega) (by omega) (by omega);omega
   ·simp only[hl,decide_false,if_false,Bool.false_eq_true];refine wpS_pure ⟨rfl,rfl,by dsimp only;omega,by dsimp only;omega,by dsimp only;omega,fun i a=>?_,q7⟩;dsimp only at a;have:=g2 (lo+i) (lo+(l+r) / 2) (by omega) (by omega) (by omega);omega
  case p2 =>
   rintro⟨c,l,r⟩ st' ⟨q1,q2,q3,q6,q7⟩;dsimp only at *;subst q1 q2;rw[moveDown'_eq];refine wpS_bind (wpS_modify (wpS_pure ⟨rfl,g1.bub (by omega) (by omega) (by omega),?_⟩));rw[show min (k+1) n=k+1 by omega,show lo+k - (lo+l)=k - l by omega];intro i j a1 a2 a3;show R rk (bubble (arrOf st') (lo+k) (k - l)) i<=R rk (bubble (arrOf st') (lo+k) (k - l)) j;rw[xv hz1 (by omega),xv hz1 (by omega),show lo+k - (k - l)=lo+l by omega];have q6':∀ i,lo<=i->i<lo+l->R rk (arrOf st') i<=R rk (arrOf st') (lo+k):=fun i b1 b2=>by
    have:=q6 (i - lo) (by omega);rwa [show lo+(i - lo)=i by omega] at this
   have q7':∀ i,lo+l<=i->i<lo+k->R rk (arrOf st') (lo+k)<R rk (arrOf st') i:=fun i b1 b2=>by
    have:=q7 (i - lo) (by omega) (by omega);rwa [show lo+(i - lo)=i by omega] at this
   repeat' split
   all_goals first
    | (exfalso;omega)
    | exact fv _
    | exact q6' _ (by omega) (by omega)
    | exact ic (q7' _ (by omega) (by omega))
    | exact g2 _ _ (by omega) (by omega) (by omega)
noncomputable abbrev Lp:=Option (Option Nat)×Nat
noncomputable abbrev Lq:=Option (Option Nat)×Nat×Nat
noncomputable def asc (lo a nrem:Nat):StateT SortSt Sem Lp :=
 forIn [a:nrem] ((none,a):Lp) fun _ v=>do
  match <- ltAt' (lo+v.2) (lo+v.2 - 1) with
  |some c=>if c=true then pure (.done (none,v.2)) else pure (.yield (none,v.2+1))
  |_=>pure (.done (some none,v.2))
theorem xp (C:Cm M A E s κ P rk){st:SortSt}{lo a nrem:Nat}(hk:kindOf st=κ)(p:Al P st)(hz:lo+nrem<=(arrOf st).size)(h1:1<=a)(ha:a<=nrem)(so:gJ rk (arrOf st) lo (lo+a)){Q:Lp->SortSt->Prop}
  (h:∀ m,a<=m->m<=nrem->gJ rk (arrOf st) lo (lo+m)->(m<nrem->R rk (arrOf st) (lo+m)<R rk (arrOf st) (lo+m - 1))->Q (none,m) st):wpS M A E s (asc lo a nrem) Q st:=by
 unfold asc;refine wpS_mono (wpS_forRange (I:=fun x (c:Lp) st'=>st'=st/\c.1=none/\c.2=x/\gJ rk (arrOf st) lo (lo+x))
  (Q:=fun (c:Lp) st'=>st'=st/\c.1=none/\a<=c.2/\c.2<=nrem/\gJ rk (arrOf st) lo (lo+c.2)/\(c.2<nrem->R rk (arrOf st) (lo+c.2)<R rk (arrOf st) (lo+c.2 - 1))) ?step ?fin ⟨rfl,rfl,rfl,so⟩) ?post
 case post =>
  rintro⟨c,m⟩ st' ⟨rfl,e,q1,q2,q3,q4⟩;dsimp only at *;subst e;exact h m q1 q2 q3 q4
 case fin =>
  rintro⟨c,m⟩ st' ⟨rfl,e,q1,q2⟩;dsimp only at *;rw[show max a nrem=nrem by omega] at q1 q2;subst q1;exact⟨rfl,e,ha,ai _,q2,fun h=>absurd h (cx _)⟩
 case step =>
  rintro x ⟨c,m⟩ st' hx1 hx2 ⟨rfl,e,q1,q2⟩;dsimp only at *;subst e q1;refine wpS_bind (jJ C hk p (by omega) (by omega) ?_);by_cases hl:R rk (arrOf st') (lo+m)<R rk (arrOf st') (lo+m - 1)
  ·simp only[hl,decide_true,if_true];exact wpS_pure ⟨rfl,rfl,hx1,by dsimp only;omega,q2,fun _=>hl⟩
  ·simp only[hl,decide_false,if_false,Bool.false_eq_true];refine wpS_pure ⟨rfl,rfl,rfl,fun i j a1 a2 a3=>?_⟩;by_cases e1:j=lo+m
   ·subst e1;by_cases e2:i=lo+m
    ·subst e2;exact fv _
    ·have:=q2 i (lo+m - 1) a1 (by omega) (by omega);omega
   ·exact q2 i j a1 a2 (by omega)
noncomputable def xI (lo m nrem:Nat):StateT SortSt Sem (Option Nat):=do
 let mut m:=m
 reverseSlice' lo (lo+m)
 for _ in [m:nrem] do
  let some c <- ltAt' (lo+m) (lo+m - 1) | return none
  if c then break
  m:=m+1
 return some m
noncomputable def down (lo m nrem:Nat):StateT SortSt Sem (Option Nat):=do
 let mut m:=m
 liftM (rule ("list.sort.descending-run"))
 m:=m+1
 let mut q:=0
 for _ in [m:nrem] do
  let some c <- ltAt' (lo+m) (lo+m - 1) | return none
  if c then
   if q > 0 then reverseSlice' (lo+m - (q+1)) (lo+m)
   q:=0
  else
   let some c <- ltAt' (lo+m - 1) (lo+m) | return none
   if c then break
   q:=q+1
  m:=m+1
 if q > 0 then reverseSlice' (lo+m - (q+1)) (lo+m)
 reverseSlice' lo (lo+m)
 for _ in [m:nrem] do
  let some c <- ltAt' (lo+m) (lo+m - 1) | return none
  if c then break
  m:=m+1
 return some m
noncomputable def cnt (lo nrem:Nat):StateT SortSt Sem (Option Nat):=do
 let mut m:=1
 for _ in [1:nrem] do
  let some c <- ltAt' (lo+m) (lo+m - 1) | return none
  if c then break
  m:=m+1
 if m==nrem then return some m
 if m > 1 then
  let some c <- ltAt' lo (lo+m - 1) | return none
  if c then return some m
  reverseSlice' lo (lo+m)
 liftM (rule ("list.sort.descending-run"))
 m:=m+1
 let mut q:=0
 for _ in [m:nrem] do
  let some c <- ltAt' (lo+m) (lo+m - 1) | return none
  if c then
   if q > 0 then reverseSlice' (lo+m - (q+1)) (lo+m)
   q:=0
  else
   let some c <- ltAt' (lo+m - 1) (lo+m) | return none
   if c then break
   q:=q+1
  m:=m+1
 if q > 0 then reverseSlice' (lo+m - (q+1)) (lo+m)
 reverseSlice' lo (lo+m)
 for _ in [m:nrem] do
  let some c <- ltAt' (lo+m) (lo+m - 1) | return none
  if c then break
  m:=m+1
 return some m
theorem zG (lo nrem:Nat):countRun' lo nrem=cnt lo nrem:=rfl
noncomputable def B1 (rk:Keyed->Int)(xs:Array Keyed)(lo hi:Nat):Prop:=∀ i j,lo<=i->i<=j->j<hi->R rk xs j<=R rk xs i
theorem pZ (C:Cm M A E s κ P rk){st st0:SortSt}{lo m nrem:Nat}(g:Cg st0 lo st)(hk:kindOf st=κ)(p:Al P st)(hz:lo+nrem<=(arrOf st).size)(h1:1<=m)(hm:m<=nrem)(so:B1 rk (arrOf st) lo (lo+m)){Q:Option Nat->SortSt->Prop}
  (h:∀ m st',1<=m->m<=nrem->Cg st0 lo st'->gJ rk (arrOf st') lo (lo+m)->Q (some m) st'):wpS M A E s (xI lo m nrem) Q st:=by
 unfold xI;dsimp only;have hz0:=g.sz;have g2:Cg st0 lo (setArr st (mirror (arrOf st) lo (lo+m) ((lo+m - lo) / 2))):=g.Bp (by omega) (ai _);refine wpS_bind (w_rev (wpS_bind (xp C (st:=setArr st (mirror (arrOf st) lo (lo+m) ((lo+m - lo) / 2))) hk (g2.al fun x hx=>p x ((Array.perm_iff_toList_perm.mp g.pm).mem_iff.mpr hx)) ?_ h1 hm ?_ fun n n1 n2 n3 _=>?_)))
 ·rw[g2.sz];omega
 ·intro i j a1 a2 a3;show R rk (mirror (arrOf st) lo (lo+m) ((lo+m - lo) / 2)) i<=R rk (mirror (arrOf st) lo (lo+m) ((lo+m - lo) / 2)) j;unfold R;rw[qe (by omega),qe (by omega),if_pos (by omega),if_pos (by omega)];exact so _ _ (by omega) (by omega) (by omega)
 ·exact wpS_pure (h n _ (by omega) n2 g2 n3)
theorem sA (C:Cm M A E s κ P rk){st st0:SortSt}{lo m nrem:Nat}(g:Cg st0 lo st)(hk:kindOf st0=κ)(p:Al P st0)(hz:lo+nrem<=(arrOf st0).size)(h1:1<=m)(hm:m<nrem)(so:B1 rk (arrOf st) lo (lo+m))(hl:R rk (arrOf st) (lo+m)<R rk (arrOf st) (lo+m - 1)){Q:Option Nat->SortSt->Prop}
  (h:∀ m st',1<=m->m<=nrem->Cg st0 lo st'->gJ rk (arrOf st') lo (lo+m)->Q (some m) st'):wpS M A E s (down lo m nrem) Q st:=by
 unfold down;dsimp only;refine wpS_bind (iT ?_);refine wpS_bind (wpS_mono (wpS_forRange (I:=fun x (c:Lq) st'=>c.1=none/\c.2.1=x/\c.2.2+1<=x/\Cg st0 lo st'/\B1 rk (arrOf st') lo (lo+x)/\∀ k,lo+x - (c.2.2+1)<=k->k<lo+x->R rk (arrOf st') k=R rk (arrOf st') (lo+x - 1))
  (Q:=fun (c:Lq) st'=>c.1=none/\1<=c.2.1/\c.2.1<=nrem/\c.2.2+1<=c.2.1/\Cg st0 lo st'/\B1 rk (arrOf st') lo (lo+c.2.1)/\∀ k,lo+c.2.1 - (c.2.2+1)<=k->k<lo+c.2.1->R rk (arrOf st') k=R rk (arrOf st') (lo+c.2.1 - 1)) ?step ?fin ⟨rfl,rfl,by dsimp only;omega,g,?i1,?i2⟩) ?post)
 case i1 =>
  intro i j a1 a2 a3;by_cases e:j=lo+m
  ·subst e;by_cases e2:i=lo+m
   ·subst e2;exact fv _
   ·have:=so i (lo+m - 1) a1 (by omega) (by omega);omega
  ·exact so i j a1 a2 (by omega)
 case i2 =>
  intro k a1 a2;dsimp only at a1;rw[show k=lo+(m+1) - 1 by omega]
 case fin =>
  rintro⟨c,n,q⟩ st' ⟨e,q1,q2,q3,q4,q5⟩;dsimp only at *;rw[show max (m+1) nrem=nrem by omega] at *;subst q1;exact⟨e,by omega,ai _,q2,q3,q4,q5⟩
 case step =>
  rintro x ⟨c,n,q⟩ st' hx1 hx2 ⟨e,q1,q2,q3,q4,q5⟩;dsimp only at *;subst e q1;have hs:=q3.sz;refine wpS_bind (jJ C (q3.kd.trans hk) (q3.al p) (by omega) (by omega) ?_);have ext:R rk (arrOf st') (lo+n)<=R rk (arrOf st') (lo+n - 1)->B1 rk (arrOf st') lo (lo+(n+1)):=fun hl i j a1 a2 a3=>by
   by_cases e:j=lo+n
   ·subst e;by_cases e2:i=lo+n
    ·subst e2;exact fv _
    ·have:=q4 i (lo+n - 1) a1 (by omega) (by omega);omega
   ·exact q4 i j a1 a2 (by omega)
  by_cases hc:R rk (arrOf st') (lo+n)<R rk (arrOf st') (lo+n - 1)
  ·simp only[hc,decide_true,if_true];by_cases hq:q > 0
   ·rw[if_pos hq];have hr:=uW (rk:=rk) (xs:=arrOf st') (i:=lo+n - (q+1)) (j:=lo+n) (by omega) q5;refine wpS_bind (w_rev (wpS_pure ⟨rfl,rfl,by dsimp only;omega,q3.Bp (by omega) (by omega),fun i j a1 a2 a3=>?_,fun k a1 a2=>?_⟩))
    ·have:=ext (ic hc) i j a1 a2 a3;rw[<-hr i,<-hr j] at this;exact this
    ·dsimp only at a1;rw[show k=lo+(n+1) - 1 by omega]
   ·rw[if_neg hq];refine wpS_pure ⟨rfl,rfl,by dsimp only;omega,q3,ext (Int.le_of_lt hc),fun k a1 a2=>?_⟩;dsimp only at a1;rw[show k=lo+(n+1) - 1 by omega]
  ·simp only[hc,decide_false,if_false,Bool.false_eq_true];refine wpS_bind (jJ C (q3.kd.trans hk) (q3.al p) (by omega) (by omega) ?_);by_cases hd:R rk (arrOf st') (lo+n - 1)<R rk (arrOf st') (lo+n)
   ·simp only[hd,decide_true,if_true];exact wpS_pure ⟨rfl,by dsimp only;omega,by dsimp only;omega,q2,q3,q4,q5⟩
   ·simp only[hd,decide_false,if_false,Bool.false_eq_true];have he:R rk (arrOf st') (lo+n)=R rk (arrOf st') (lo+n - 1):=by omega
    refine wpS_pure ⟨rfl,rfl,by dsimp only;omega,q3,ext (by omega),fun k a1 a2=>?_⟩;dsimp only at a1;rw[show lo+(n+1) - 1=lo+n by omega,he];by_cases e:k=lo+n
    ·rw[e,he]
    ·exact q5 k (by omega) (by omega)
 case post =>
  rintro⟨c,n,q⟩ st' ⟨e,q0,q1,q2,q3,q4,q5⟩;dsimp only at *;subst e;have hs:=q3.sz;dsimp only;by_cases hq:q > 0
  ·rw[if_pos hq];have hr:=uW (rk:=rk) (xs:=arrOf st') (i:=lo+n - (q+1)) (j:=lo+n) (by omega) q5;have g2:Cg st0 lo (setArr st' (mirror (arrOf st') (lo+n - (q+1)) (lo+n) ((lo+n - (lo+n - (q+1))) / 2))):=q3.Bp (by omega) (by omega);refine wpS_bind (w_rev (pZ C g2 (g2.kd.trans hk) (g2.al p) ?_ q0 q1 (fun i j a1 a2 a3=>?_) h))
   ·rw[g2.sz];exact hz
   ·have:=q4 i j a1 a2 a3;rw[<-hr i,<-hr j] at this;exact this
  ·rw[if_neg hq];exact pZ C q3 (q3.kd.trans hk) (q3.al p) (by omega) q0 q1 q4 h
theorem Bx (C:Cm M A E s κ P rk){st:SortSt}{lo nrem:Nat}(hk:kindOf st=κ)(p:Al P st)(hz:lo+nrem<=(arrOf st).size)(hn:1<=nrem){Q:Option Nat->SortSt->Prop}
  (h:∀ m st',1<=m->m<=nrem->Cg st lo st'->gJ rk (arrOf st') lo (lo+m)->Q (some m) st'):wpS M A E s (countRun' lo nrem) Q st:=by
 rw[zG];unfold cnt;dsimp only;refine wpS_bind (xp C hk p hz (ai 1) hn (fun i j a1 a2 a3=>?_) fun n n1 n2 n3 n4=>?_)
 ·rw[show i=j by omega];exact fv _
 dsimp only;by_cases e:n=nrem
 ·rw[if_pos (by simpa using e)];exact wpS_pure (h n st n1 n2 (.refl _ _) n3)
 rw[if_neg (by simpa using e)];have hl:=n4 (by omega);by_cases e1:n > 1
 ·rw[if_pos e1];refine wpS_bind (jJ C hk p (by omega) (by omega) ?_);by_cases hc:R rk (arrOf st) lo<R rk (arrOf st) (lo+n - 1)
  ·simp only[hc,decide_true,if_true];exact wpS_pure (h n st n1 n2 (.refl _ _) n3)
  ·simp only[hc,decide_false,if_false,Bool.false_eq_true];have he:∀ k,lo<=k->k<lo+n->R rk (arrOf st) k=R rk (arrOf st) (lo+n - 1):=fun k a1 a2=>by
    have:=n3 lo k (ai _) a1 a2;have:=n3 k (lo+n - 1) a1 (by omega) (by omega);omega
   have hr:=uW (rk:=rk) (xs:=arrOf st) (i:=lo) (j:=lo+n) (by omega) he;have g2:Cg st lo (setArr st (mirror (arrOf st) lo (lo+n) ((lo+n - lo) / 2))):=(Cg.refl st lo).Bp (by omega) (ai _);refine wpS_bind (w_rev (sA C g2 hk p hz n1 (by omega) (fun i j a1 a2 a3=>?_) ?_ h))
   ·show R rk (mirror (arrOf st) lo (lo+n) ((lo+n - lo) / 2)) j<=R rk (mirror (arrOf st) lo (lo+n) ((lo+n - lo) / 2)) i;rw[hr,hr,he i a1 (by omega),he j (by omega) a3];exact fv _
   ·show R rk (mirror (arrOf st) lo (lo+n) ((lo+n - lo) / 2)) (lo+n)<R rk (mirror (arrOf st) lo (lo+n) ((lo+n - lo) / 2)) (lo+n - 1);rw[hr,hr];exact hl
 ·rw[if_neg e1];exact sA C (.refl st lo) hk p hz n1 (by omega) (fun i j a1 a2 a3=>by rw[show i=j by omega];exact fv _) hl h
variable {M:Model}{A:Around}{E:Value->Shared->Prop}{s:Shared}{κ:SortKind}{P:Keyed->Prop}{rk:Keyed->Int}
noncomputable def m8 (o:Nat)(r xs:Array Keyed):Array Keyed:=r.toList.zipIdx.foldl (fun a (p,j)=>a.setIfInBounds (o+j) p) xs
theorem xR (o:Nat):∀(l:List Keyed) (n:Nat) (xs:Array Keyed),o+n+l.length<=xs.size->((l.zipIdx n).foldl (fun a (p:Keyed×Nat)=>a.setIfInBounds (o+p.2) p.1) xs).toList=xs.toList.take (o+n)++l++xs.toList.drop (o+n+l.length)
 |[],n,xs,h=>by simp
 | p::l,n,xs,h=>by
  rw[av] at h;rw[List.zipIdx_cons,List.foldl_cons,xR o l (n+1) _ (by simp;omega)];have hn:o+n<xs.toList.length:=by simp;omega
  have e1:(xs.setIfInBounds (o+n) p).toList=xs.toList.set (o+n) p:=by simp
  have e2:(xs.toList.set (o+n) p).take (o+(n+1))=xs.toList.take (o+n) ++ [p]:=by
   rw[<-Nat.add_assoc,List.take_succ,List.getElem?_set_self hn,List.take_set_of_le (ai _)];rfl
  have e3:(xs.toList.set (o+n) p).drop (o+(n+1)+l.length)=xs.toList.drop (o+n+(l.length+1)):=by
   rw[List.drop_set_of_lt (by omega)];congr 1;omega
  show (xs.setIfInBounds (o+n) p).toList.take _++l++(xs.setIfInBounds (o+n) p).toList.drop _=_;rw[e1,e2,e3,av];simp
theorem xW {o:Nat}{r xs:Array Keyed}(h:o+r.size<=xs.size):(m8 o r xs).toList=xs.toList.take o++r.toList++xs.toList.drop (o+r.size):=by
 have:=xR o r.toList 0 xs (by simpa using h);unfold m8;simpa using this
theorem A3 {o:Nat}{r xs:Array Keyed}(h:o+r.size<=xs.size)(k:Nat):(m8 o r xs).getD k d0=if o<=k/\k<o+r.size then r.getD (k - o) d0 else xs.getD k d0:=by
 have el:=xW h;have e:(m8 o r xs)[k]? = (xs.toList.take o++r.toList++xs.toList.drop (o+r.size))[k]?:=by rw[<-el];simp
 have ho:o<=xs.size:=by omega
 have hlo:(xs.toList.take o).length=o:=by simp;omega
 by_cases h1:o<=k/\k<o+r.size
 ·rw[if_pos h1];refine gd ?_;rw[e,List.append_assoc,List.getElem?_append_right (by omega),hlo,List.getElem?_append_left (by simp;omega)];simp
 ·rw[if_neg h1];refine gd ?_;rw[e];by_cases h2:k<o
  ·rw[List.append_assoc,List.getElem?_append_left (by omega),List.getElem?_take_of_lt h2];simp
  ·rw[List.getElem?_append_right (by simp;omega),List.getElem?_drop,List.length_append,hlo];have:o+r.size+(k - (o+r.toList.length))=k:=by simp;omega
   rw[this];simp
theorem A0 {xs:Array Keyed}{lo hi t:Nat}(h:hi<=xs.size)(ht:lo+t<hi):(xs.extract lo hi).getD t d0=xs.getD (lo+t) d0:=by
 refine gd ?_;rw[Array.getElem?_extract];have:t<min hi xs.size - lo:=by omega
 simp[this]
theorem vn {xs:Array Keyed}{lo hi:Nat}(h:hi<=xs.size):(xs.extract lo hi).size=hi - lo:=by simp;omega
theorem Cv {xs:Array Keyed}{lo hi:Nat}{x:Keyed}(h:x∈(xs.extract lo hi).toList):x∈xs.toList:=by
 rw[gm,cq] at h;exact List.mem_of_mem_drop (List.mem_of_mem_take h)
noncomputable def mat (i:Nat):StateT SortSt Sem Bool:=do
 let z <- get
 let (some (sa,na,w),some (sb,nb,_)):=((pendingOf z)[i]?,(pendingOf z)[i+1]?) | unsupported "internal:list.sort.pending"
 set (SortSt.mk' (kindOf z) (arrOf z) (((pendingOf z).setIfInBounds i (sa,na+nb,w)).eraseIdxIfInBounds (i+1)) (gallopOf z) (failedOf z))
 let some k <- bY false (<- elem' (arrOf z) sb) (arrOf z) sa na 0 | return false
 let (sa,na):=((sa+k,na - k))
 if na==0 then return true
 let some nb <- bY true (<- elem' (arrOf z) (sa+na - 1)) (arrOf z) sb nb (nb - 1) | return false
 if nb==0 then return true
 let x:=(arrOf z).extract sa sb;let y:=(arrOf z).extract sb (sb+nb);let r <- if na<=nb then nH x y else m5 x y
 modify fun q=>setArr q (m8 sa r (arrOf q))
 return (failedOf (<- get)).isNone
theorem zz (i:Nat):mergeAt' i=mat i:=rfl
theorem Bz {σ:Type}{x st:σ}{Q:PUnit->σ->Prop}(h:Q ⟨⟩ x):wpS M A E s (set x:StateT σ Sem PUnit) Q st:=by
 unfold wpS;rw[StateT.run_set];exact wpAny_pure ⟨rfl,h⟩
structure Mg (rk:Keyed->Int)(st:SortSt)(lo hi:Nat)(pe:Array (Nat×Nat×Nat))(st':SortSt):Prop where
 pm:(arrOf st').Perm (arrOf st)
 out:∀ k,k<lo\/hi<=k->(arrOf st').getD k d0=(arrOf st).getD k d0
 so:gJ rk (arrOf st') lo hi
 kd:kindOf st'=kindOf st
 pe:pendingOf st'=pe
 fa:failedOf st'=failedOf st
theorem zX {st st':SortSt}{a0 n1 n2 k m:Nat}{pe:Array (Nat×Nat×Nat)}{r:Array Keyed}(hz:a0+n1+n2<=(arrOf st).size)(s1:gJ rk (arrOf st) a0 (a0+n1))(s2:gJ rk (arrOf st) (a0+n1) (a0+n1+n2))(hn1:k<n1)(hm:m<=n2)(hm0:0<m)
  (k2:∀ t,a0<=t->t<a0+k->R rk (arrOf st) t<=R rk (arrOf st) (a0+n1)) (l3:∀ t,a0+n1+m<=t->t<a0+n1+n2->R rk (arrOf st) (a0+n1 - 1)<=R rk (arrOf st) t)
  (hr:Res rk ((arrOf st).extract (a0+k) (a0+n1)) ((arrOf st).extract (a0+n1) (a0+n1+m)) r) (e1:kindOf st'=kindOf st) (e2:arrOf st'=arrOf st) (e3:pendingOf st'=pe) (e4:failedOf st'=failedOf st):Mg rk st a0 (a0+n1+n2) pe (setArr st' (m8 (a0+k) r (arrOf st'))):=by
 have zr:r.size=n1 - k+m:=by
  have:=hr.1.length_eq;rw[au,bc,bc,bc,vn (by omega),vn (by omega)] at this;omega
 have hw:a0+k+r.size<=(arrOf st).size:=by omega
 have lx:((arrOf st).extract (a0+k) (a0+n1)).toList=((arrOf st).toList.drop (a0+k)).take (n1 - k):=by
  rw[gm,cq,show a0+n1 - (a0+k)=n1 - k by omega]
 have ly:((arrOf st).extract (a0+n1) (a0+n1+m)).toList=((arrOf st).toList.drop (a0+n1)).take m:=by
  rw[gm,cq,show a0+n1+m - (a0+n1)=m by omega]
 have cut:(arrOf st).toList=(arrOf st).toList.take (a0+k)++((arrOf st).extract (a0+k) (a0+n1)).toList++((arrOf st).extract (a0+n1) (a0+n1+m)).toList++(arrOf st).toList.drop (a0+k+r.size):=by
  have q1:=cu (a0+k) (arrOf st).toList;have q2:=cu (n1 - k) ((arrOf st).toList.drop (a0+k));have q3:=cu m ((arrOf st).toList.drop (a0+n1));rw[gb,show a0+k+(n1 - k)=a0+n1 by omega] at q2;rw[gb,show a0+n1+m=a0+k+r.size by omega] at q3;rw[lx,ly,ag,ag,q3,q2,q1]
 have gg:=A3 hw;have mid:∀ i,a0+k<=i->i<a0+n1+m->∃ t,a0+k<=t/\t<a0+n1+m/\R rk (m8 (a0+k) r (arrOf st)) i=R rk (arrOf st) t:=fun i h1 h2=>by
  have e:(m8 (a0+k) r (arrOf st)).getD i d0=r.getD (i - (a0+k)) d0:=by rw[gg,if_pos (by omega)]
  have hmem:=hr.1.mem_iff.mp (dJ (xs:=r) (i:=i - (a0+k)) (by omega));rw[dm,lx,ly] at hmem;unfold R;rw[e];rcases hmem with hx | hx
  ·obtain⟨t,t1,t2,t3,t4⟩:=eK hx;exact⟨t,t1,by omega,by rw[t4]⟩
  ·obtain⟨t,t1,t2,t3,t4⟩:=eK hx;exact⟨t,by omega,t3,by rw[t4]⟩
 have oth:∀ i,¬ (a0+k<=i/\i<a0+n1+m)->(m8 (a0+k) r (arrOf st)).getD i d0=(arrOf st).getD i d0:=fun i h=>by rw[gg,if_neg (by omega)]
 have lowmid:∀ i t,a0<=i->i<a0+k->a0+k<=t->t<a0+n1+n2->R rk (arrOf st) i<=R rk (arrOf st) t:=fun i t h1 h2 h3 h4=>by
  by_cases h:t<a0+n1
  ·exact s1 i t h1 (by omega) h
  ·exact gq (k2 i h1 h2) (s2 (a0+n1) t (ai _) (by omega) h4)
 have midup:∀ t j,a0+k<=t->t<a0+n1+m->a0+n1+m<=j->j<a0+n1+n2->R rk (arrOf st) t<=R rk (arrOf st) j:=fun t j h1 h2 h3 h4=>by
  by_cases h:t<a0+n1
  ·exact gq (s1 t (a0+n1 - 1) (by omega) (by omega) (by omega)) (l3 j h3 h4)
  ·exact s2 t j (by omega) (by omega) h4
 refine⟨?_,fun i h=>?_,?_,e1,e3,e4⟩
 ·show (m8 (a0+k) r (arrOf st')).Perm _;rw[e2];refine Array.perm_iff_toList_perm.mpr ?_;rw[xW hw];refine List.Perm.trans (gc _ (dt _ hr.1)) ?_;rw[<-ag,<-cut]
 ·show (m8 (a0+k) r (arrOf st')).getD i d0=_;rw[e2];exact oth i (by omega)
 ·show gJ rk (m8 (a0+k) r (arrOf st')) a0 (a0+n1+n2);rw[e2];intro i j h1 h2 h3;have ro:∀ i,¬ (a0+k<=i/\i<a0+n1+m)->R rk (m8 (a0+k) r (arrOf st)) i=R rk (arrOf st) i:=fun i h=>by unfold R;rw[oth i h]
  by_cases hi:i<a0+k
  ·rw[ro i (by omega)];by_cases hj:j<a0+k
   ·rw[ro j (by omega)];exact s1 i j h1 h2 (by omega)
   ·by_cases hj2:j<a0+n1+m
    ·obtain⟨t,t1,t2,t3⟩:=mid j (by omega) hj2;rw[t3];exact lowmid i t h1 hi t1 (by omega)
    ·rw[ro j (by omega)];exact lowmid i j h1 hi (by omega) h3
  ·by_cases hi2:i<a0+n1+m
   ·by_cases hj2:j<a0+n1+m
    ·have a1:(m8 (a0+k) r (arrOf st)).getD i d0=r.getD (i - (a0+k)) d0:=by rw[gg,if_pos (by omega)]
     have a2:(m8 (a0+k) r (arrOf st)).getD j d0=r.getD (j - (a0+k)) d0:=by rw[gg,if_pos (by omega)]
     unfold R;rw[a1,a2];exact A8 hr.2 _ _ (cn _) (by omega) (by omega)
    ·obtain⟨t,t1,t2,t3⟩:=mid i (by omega) hi2;rw[t3,ro j (by omega)];exact midup t j t1 t2 (by omega) h3
   ·rw[ro i (by omega),ro j (by omega)];exact s2 i j (by omega) h2 h3
theorem BF (C:Cm M A E s κ P rk){i:Nat}{st:SortSt}{a0 n1 n2 w w2:Nat}(hk:kindOf st=κ)(p:Al P st)(hf:failedOf st=none)(e1:(pendingOf st)[i]? = some (a0,n1,w))(e2:(pendingOf st)[i+1]? = some (a0+n1,n2,w2))(h1:1<=n1)(h2:1<=n2)(hz:a0+n1+n2<=(arrOf st).size)
  (s1:gJ rk (arrOf st) a0 (a0+n1)) (s2:gJ rk (arrOf st) (a0+n1) (a0+n1+n2)) {Q:Bool->SortSt->Prop}
  (h:∀ st',Mg rk st a0 (a0+n1+n2) (((pendingOf st).setIfInBounds i (a0,n1+n2,w)).eraseIdxIfInBounds (i+1)) st'->Q true st'):wpS M A E s (mergeAt' i) Q st:=by
 rw[zz];unfold mat;refine wpS_bind (wpS_get ?_);rw[e1,e2];dsimp only;refine wpS_bind (Bz ?_);generalize e0:SortSt.mk' (kindOf st) (arrOf st) (((pendingOf st).setIfInBounds i (a0,n1+n2,w)).eraseIdxIfInBounds (i+1)) (gallopOf st) (failedOf st)=st2;have f1:kindOf st2=kindOf st:=by rw[<-e0]
 have f2:arrOf st2=arrOf st:=by rw[<-e0]
 have f3:pendingOf st2=((pendingOf st).setIfInBounds i (a0,n1+n2,w)).eraseIdxIfInBounds (i+1):=by rw[<-e0]
 have f4:failedOf st2=failedOf st:=by rw[<-e0]
 clear e0;have hb:a0+n1<(arrOf st).size:=by omega
 refine wpS_bind (bA (dH hb) (wpS_bind (lJ C (hint:=0) (f1.trans hk) (p _ (dJ hb)) p (by omega) s1 (by omega) fun k k1 k2 k3=>?_)));dsimp only;by_cases c1:n1 - k=0
 ·rw[if_pos (by simpa using c1)];refine wpS_pure (h _ ⟨f2 ▸ .refl _,fun _ _=>by rw[f2],fun i j a1 a2 a3=>?_,f1,f3,f4⟩);rw[f2];by_cases b1:j<a0+n1
  ·exact s1 i j a1 a2 b1
  by_cases b2:i<a0+n1
  ·exact gq (k2 i a1 (by omega)) (s2 (a0+n1) j (ai _) (by omega) a3)
  ·exact s2 i j (by omega) a2 a3
 rw[if_neg (by simpa using c1)];have hb2:a0+k+(n1 - k) - 1<(arrOf st).size:=by omega
 refine wpS_bind (bA (dH hb2) (wpS_bind (mf C (hint:=n2 - 1) (f1.trans hk) (p _ (dJ hb2)) p (by show _<=(arrOf st).size;omega) s2 (by omega) fun m m1 m2 m3=>?_)));have ek:a0+k+(n1 - k) - 1=a0+n1 - 1:=by omega
 rw[ek] at m2 m3;dsimp only;by_cases c2:m=0
 ·rw[if_pos (by simpa using c2)];refine wpS_pure (h _ ⟨f2 ▸ .refl _,fun _ _=>by rw[f2],fun i j a1 a2 a3=>?_,f1,f3,f4⟩);rw[f2];by_cases b1:j<a0+n1
  ·exact s1 i j a1 a2 b1
  by_cases b2:i<a0+n1
  ·exact gq (s1 i (a0+n1 - 1) a1 (by omega) (by omega)) (m3 j (by omega) a3)
  ·exact s2 i j (by omega) a2 a3
 rw[if_neg (by simpa using c2)];have zx:((arrOf st).extract (a0+k) (a0+n1)).size=n1 - k:=by rw[vn (by omega)];omega
 have zy:((arrOf st).extract (a0+n1) (a0+n1+m)).size=m:=by rw[vn (by omega)];omega
 have rx:∀ t,t<n1 - k->R rk ((arrOf st).extract (a0+k) (a0+n1)) t=R rk (arrOf st) (a0+k+t):=fun t ht=>by unfold R;rw[A0 (by omega) (by omega)]
 have ry:∀ t,t<m->R rk ((arrOf st).extract (a0+n1) (a0+n1+m)) t=R rk (arrOf st) (a0+n1+t):=fun t ht=>by unfold R;rw[A0 (by omega) (by omega)]
 have H:Mh rk P ((arrOf st).extract (a0+k) (a0+n1)) ((arrOf st).extract (a0+n1) (a0+n1+m)):=by
  refine⟨fun x hx=>p x (Cv hx),fun x hx=>p x (Cv hx),fun i j a1 a2 a3=>?_,fun i j a1 a2 a3=>?_,by omega,by omega,fun t ht=>?_,fun t ht=>?_⟩
  ·rw[zx] at a3;rw[rx i (by omega),rx j a3];exact s1 _ _ (by omega) (by omega) (by omega)
  ·rw[zy] at a3;rw[ry i (by omega),ry j a3];exact s2 _ _ (by omega) (by omega) (by omega)
  ·rw[zx] at ht;rw[rx t ht,ry 0 (by omega)];exact ic (k3 _ (by omega) (by omega))
  ·rw[zy] at ht;rw[ry t ht,zx,rx _ (by omega)];have:=m2 (a0+n1+t) (by omega) (by omega);rw[show a0+k+(n1 - k - 1)=a0+n1 - 1 by omega];exact ic this
 have fin:∀ r st',Sm st2 st'->Res rk ((arrOf st).extract (a0+k) (a0+n1)) ((arrOf st).extract (a0+n1) (a0+n1+m)) r ->
   wpS M A E s (do
    modify fun q=>setArr q (m8 (a0+k) r (arrOf q))
    let q <- get
    pure (failedOf q).isNone) Q st':=fun r st' q hr=>by
  refine wpS_bind (wpS_modify (wpS_bind (wpS_get ?_)));have:failedOf (setArr st' (m8 (a0+k) r (arrOf st')))=none:=q.2.2.2.trans (f4.trans hf);rw[this];exact wpS_pure (h _ (zX hz s1 s2 (by omega) m1 (by omega) k2 m3 hr (q.1.trans f1) (q.2.1.trans f2) (q.2.2.1.trans f3) (q.2.2.2.trans f4)))
 by_cases c3:n1 - k<=m
 ·rw[if_pos c3,mF];exact wpS_bind (BJ C H (f1.trans hk) fin)
 ·rw[if_neg c3,mm];exact wpS_bind (Bi C H (f1.trans hk) fin)
variable {M:Model}{A:Around}{E:Value->Shared->Prop}{s:Shared}{κ:SortKind}{P:Keyed->Prop}{rk:Keyed->Int}
noncomputable abbrev Rn:=Nat×Nat×Nat
noncomputable def eD (rk:Keyed->Int)(xs:Array Keyed):Nat->List Rn->Nat->Prop
 |lo,[],hi=>lo=hi
 |lo,e::p,hi=>e.1=lo/\1<=e.2.1/\gJ rk xs lo (lo+e.2.1)/\eD rk xs (lo+e.2.1) p hi
variable {xs ys:Array Keyed}
theorem fS:∀{p:List Rn}{q:List Rn}{lo hi:Nat},eD rk xs lo (p++q) hi↔∃ m,eD rk xs lo p m/\eD rk xs m q hi
 |[],q,lo,hi=>⟨fun h=>⟨lo,rfl,h⟩,fun ⟨m,h1,h2⟩=>by cases h1;exact h2⟩
 |e::p,q,lo,hi=>⟨fun ⟨h1,h2,h3,h4⟩=>let ⟨m,h5,h6⟩:=fS.mp h4;⟨m,⟨h1,h2,h3,h5⟩,h6⟩,fun ⟨m,⟨h1,h2,h3,h4⟩,h5⟩=>⟨h1,h2,h3,fS.mpr ⟨m,h4,h5⟩⟩⟩
theorem gY:∀{p:List Rn}{lo hi:Nat},eD rk xs lo p hi->lo+p.length<=hi
 |[],lo,hi,h=>by cases h;exact ai _
 |e::p,lo,hi,⟨h1,h2,h3,h4⟩=>by have:=gY h4;rw[av];omega
theorem k5 {lo hi:Nat}(c:∀ k,lo<=k->k<hi->ys.getD k d0=xs.getD k d0)(h:gJ rk xs lo hi):gJ rk ys lo hi:=fun i j h1 h2 h3=>by
 unfold R;rw[c i h1 (by omega),c j (by omega) h3];exact h i j h1 h2 h3
theorem eQ:∀{p:List Rn}{lo hi:Nat},(∀ k,lo<=k->k<hi->ys.getD k d0=xs.getD k d0)->eD rk xs lo p hi->eD rk ys lo p hi
 |[],lo,hi,c,h=>h
 | e::p,lo,hi,c,⟨h1,h2,h3,h4⟩=>by
  have:=gY h4;exact⟨h1,h2,k5 (fun k a b=>c k a (by omega)) h3,eQ (fun k a b=>c k (by omega) b) h4⟩
theorem mR {f:Rn->Rn}(hf:∀ e,(f e).1=e.1/\(f e).2.1=e.2.1):∀{p:List Rn}{k lo hi:Nat},eD rk xs lo p hi->eD rk xs lo (p.modify k f) hi
 |[],k,lo,hi,h=>by cases k<;>exact h
 | e::p,0,lo,hi,⟨h1,h2,h3,h4⟩=>by
  rw[List.modify_zero_cons];refine⟨(hf e).1.trans h1,?_,?_,?_⟩<;>rw[(hf e).2]<;>assumption
 | e::p,k+1,lo,hi,⟨h1,h2,h3,h4⟩=>by
  rw[List.modify_succ_cons];exact⟨h1,h2,h3,mR hf h4⟩
structure Bs (κ:SortKind)(a₀:Array Keyed)(st:SortSt):Prop where
 pm:(arrOf st).Perm a₀
 kd:kindOf st=κ
 fa:failedOf st=none
theorem Bs.al {a₀:Array Keyed}{st:SortSt}(b:Bs κ a₀ st)(p:∀ x∈a₀.toList,P x):Al P st:=fun x hx=>p x ((Array.perm_iff_toList_perm.mp b.pm).mem_iff.mp hx)
theorem xg {p:Array Rn}{i:Nat}(h:i+1<p.size):∃ p1 e1 e2 p2,p.toList=p1++e1::e2::p2/\p1.length=i:=by
 refine⟨p.toList.take i,p[i],p[i+1],p.toList.drop (i+2),?_,by simp;omega⟩;have q1:=List.drop_eq_getElem_cons (l:=p.toList) (i:=i) (by simp;omega);have q2:=List.drop_eq_getElem_cons (l:=p.toList) (i:=i+1) (by simpa using h);have q3:=cu i p.toList;rw[q1,q2] at q3;simpa using q3.symm
theorem rT (C:Cm M A E s κ P rk){a₀:Array Keyed}(pa:∀ x∈a₀.toList,P x){st:SortSt}{i hi:Nat}(b:Bs κ a₀ st)(pd:eD rk (arrOf st) 0 (pendingOf st).toList hi)(hz:hi<=a₀.size)(h:i+1<(pendingOf st).size){Q:Bool->SortSt->Prop}
  (q:∀ st',Bs κ a₀ st'->eD rk (arrOf st') 0 (pendingOf st').toList hi->(pendingOf st').size+1=(pendingOf st).size->(∀ k,hi<=k->(arrOf st').getD k d0=(arrOf st).getD k d0)->Q true st'):wpS M A E s (mergeAt' i) Q st:=by
 obtain⟨p1,⟨s1,n1,w1⟩,⟨s2,n2,w2⟩,p2,ep,el⟩:=xg h;rw[ep] at pd;obtain⟨m,h1,h2,h3,h4,h5,h6,h7,h8⟩:=fS.mp pd;dsimp only at h2 h3 h4 h5 h6 h7 h8;subst h2 h5;have e1:(pendingOf st)[i]? = some (s1,n1,w1):=by
  rw[<-Array.getElem?_toList,ep,<-el];simp
 have e2:(pendingOf st)[i+1]? = some (s1+n1,n2,w2):=by
  rw[<-Array.getElem?_toList,ep,<-el];simp
 have hl:=gY h8;have hs:=b.pm.size_eq;refine BF C b.kd (b.al pa) b.fa e1 e2 h3 h6 (by omega) h4 h7 fun st' g=>?_
 have el2:(pendingOf st').toList=p1++(s1,n1+n2,w1)::p2:=by
  rw[g.pe];have:(((pendingOf st).setIfInBounds i (s1,n1+n2,w1)).eraseIdxIfInBounds (i+1)).toList=((pendingOf st).toList.set i (s1,n1+n2,w1)).eraseIdx (i+1):=by simp
  rw[this,ep,<-el];simp[List.eraseIdx_append_of_length_le]
 refine q st' ⟨g.pm.trans b.pm,g.kd.trans b.kd,g.fa.trans b.fa⟩ ?_ ?_ fun k hk=>g.out k (.inr (by omega))
 ·rw[el2];refine fS.mpr ⟨s1,eQ (fun k _ hk=>g.out k (.inl hk)) h1,rfl,by dsimp only;omega,?_,?_⟩
  ·dsimp only;rw[<-Nat.add_assoc];exact g.so
  ·dsimp only;rw[<-Nat.add_assoc];exact eQ (fun k hk _=>g.out k (.inr hk)) h8
 ·have a1:=gx List.length el2;have a2:=gx List.length ep;simp at a1 a2;omega
theorem yX (C:Cm M A E s κ P rk){a₀:Array Keyed}(pa:∀ x∈a₀.toList,P x){st:SortSt}(b:Bs κ a₀ st)(hp:pendingOf st = #[])(h2:2<=a₀.size){Q:Unit->SortSt->Prop}
  (h:∀ st',(arrOf st').Perm a₀->failedOf st'=none->gJ rk (arrOf st') 0 a₀.size->Q () st'):wpS M A E s sortRuns' Q st:=by
 rw[sortRuns'_eq];refine wpS_bind (wpS_get ?_);have hs:=b.pm.size_eq;dsimp only;rw[hs];generalize minRun' a₀.size a₀.size 0=mr;refine wpS_bind (wpS_mono (wpS_forRange (I:=fun x (c:Option Unit×Nat) st'=>c.1=none/\x<=c.2/\c.2<=a₀.size/\Bs κ a₀ st'/\eD rk (arrOf st') 0 (pendingOf st').toList c.2)
  (Q:=fun (c:Option Unit×Nat) st'=>c.1=none/\Bs κ a₀ st'/\eD rk (arrOf st') 0 (pendingOf st').toList a₀.size) ?step ?fin ⟨rfl,ai _,cn _,b,by rw[hp];exact rfl⟩) ?post)
 case fin =>
  rintro⟨c,lo⟩ st' ⟨e,q1,q2,q3,q4⟩;dsimp only at *;obtain rfl:lo=a₀.size:=by omega
  exact⟨e,q3,q4⟩
 case post =>
  rintro⟨c,lo⟩ st1 ⟨e,q3,q4⟩;dsimp only at e;subst e;dsimp only;refine wpS_bind (wpS_mono (wpS_forRange (I:=fun x (c:Option Unit×Unit) st'=>c.1=none/\Bs κ a₀ st'/\eD rk (arrOf st') 0 (pendingOf st').toList a₀.size/\(pendingOf st').size<=max 1 (a₀.size - x))
   (Q:=fun (c:Option Unit×Unit) st'=>c.1=none/\Bs κ a₀ st'/\eD rk (arrOf st') 0 (pendingOf st').toList a₀.size/\(pendingOf st').size<=1) ?s2 ?f2 ⟨rfl,q3,q4,?i2⟩) ?p2)
  case i2 =>
   have:=gY q4;rw[bc] at this;omega
  case f2 =>
   rintro c st' ⟨a1,a2,a3,a4⟩;exact⟨a1,a2,a3,by omega⟩
  case p2 =>
   rintro⟨c,u⟩ st' ⟨e,a2,a3,a4⟩;dsimp only at e;subst e;refine wpS_pure (h st' a2.pm a2.fa ?_);rw[<-bc] at a4
   match hl:(pendingOf st').toList,a3,a4 with
   |[],a3,_ =>
    have:0=a₀.size:=a3;omega
   |[e],a3,_ =>
    obtain⟨b1,b2,b3,b4⟩:=a3;have b4:0+e.2.1=a₀.size:=b4;rw[b4] at b3;exact b3
   |_::_::_,_,a4=>rw[av,av] at a4;omega
  case s2 =>
   rintro x ⟨c,u⟩ st' _ hx ⟨e,a2,a3,a4⟩;dsimp only at *;subst e;refine wpS_bind (wpS_get ?_);by_cases c1:(pendingOf st').size<=1
   ·rw[if_pos c1];exact wpS_pure ⟨rfl,a2,a3,c1⟩
   rw[if_neg c1];refine wpS_bind (rT C pa a2 a3 (ai _) ?_ fun st2 b2 p2 z2 _=>?_)
   ·repeat' split
    all_goals omega
   ·exact wpS_pure ⟨rfl,b2,p2,by omega⟩
 case step =>
  rintro x ⟨c,lo⟩ st1 _ hx ⟨e,q1,q2,q3,q4⟩;dsimp only at *;subst e;by_cases c1:lo ≥ a₀.size
  ·rw[if_pos c1];obtain rfl:lo=a₀.size:=by omega
   exact wpS_pure ⟨rfl,q3,q4⟩
  rw[if_neg c1];have hs1:=q3.pm.size_eq;refine wpS_bind (Bx C q3.kd (q3.al pa) (by omega) (by omega) fun n st2 n1 n2 g2 so=>?_);have keep:∀{st':SortSt},Cg st2 lo st'->Bs κ a₀ st'/\eD rk (arrOf st') 0 (pendingOf st').toList lo:=fun {st'} g=>by
   refine⟨⟨g.pm.trans (g2.pm.trans q3.pm),g.kd.trans (g2.kd.trans q3.kd),g.fa.trans (g2.fa.trans q3.fa)⟩,?_⟩;rw[g.pe,g2.pe];exact eQ (fun k _ hk=>(g.lw k hk).trans (g2.lw k hk)) q4
  have b2:=(keep (.refl st2 lo)).1;have hs2:=b2.pm.size_eq;dsimp only;by_cases c2:n<mr
  rw[if_pos c2];refine wpS_bind (iT ?_);refine wpS_bind (Bq C b2.kd (b2.al pa) (by omega) n1 (by omega) so fun st3 g3 so3=>?_);simp only[Bool.not_true,if_false,Bool.false_eq_true];have b3:=(keep g3).1;have p3:=(keep g3).2;have hn:1<=min (a₀.size - lo) mr:=by omega
  have hz:lo+min (a₀.size - lo) mr<=a₀.size:=by omega
  generalize min (a₀.size - lo) mr=n3 at *
  rotate_left
  rw[if_neg c2];have b3:=(keep (.refl st2 lo)).1;have p3:=(keep (.refl st2 lo)).2;have hz:lo+n<=a₀.size:=by omega
  clear keep;have hn:=n1;have so3:=so;clear so n1;generalize n=n3 at *;generalize st2=st3 at *
  all_goals
   have fin:∀ st':SortSt,Bs κ a₀ st'->eD rk (arrOf st') 0 (pendingOf st').toList lo->gJ rk (arrOf st') lo (lo+n3)->Bs κ a₀ (setPending st' ((pendingOf st').push (lo,n3,0)))/\eD rk (arrOf st') 0 ((pendingOf st').push (lo,n3,0)).toList (lo+n3):=fun st' b' p' s'=>by
    refine⟨⟨b'.pm,b'.kd,b'.fa⟩,?_⟩;rw[Array.toList_push];exact fS.mpr ⟨lo,p',rfl,hn,s',rfl⟩
   refine wpS_bind (wpS_get ?_);cases hb:(pendingOf st3).back? with
   |none=>exact wpS_bind (wpS_modify (wpS_pure ⟨rfl,by dsimp only;omega,hz,fin st3 b3 p3 so3⟩))
   |some e =>
    obtain⟨s1,m1,w⟩:=e;dsimp only;refine wpS_bind (wpS_mono (wpS_forRange (I:=fun x (c:Option Unit×Unit) st'=>c.1=none/\Bs κ a₀ st'/\eD rk (arrOf st') 0 (pendingOf st').toList lo/\gJ rk (arrOf st') lo (lo+n3))
     (Q:=fun (c:Option Unit×Unit) st'=>c.1=none/\Bs κ a₀ st'/\eD rk (arrOf st') 0 (pendingOf st').toList lo/\gJ rk (arrOf st') lo (lo+n3)) ?s2 (fun c st' h=>h) ⟨rfl,b3,p3,so3⟩) ?p2)
    case p2 =>
     rintro⟨c,u⟩ st' ⟨e,q1,q2,q3⟩;dsimp only at e;subst e;dsimp only;refine wpS_bind (wpS_modify (wpS_bind (wpS_modify (wpS_pure ⟨rfl,by dsimp only;omega,hz,fin _ ⟨q1.pm,q1.kd,q1.fa⟩ ?_ q3⟩))));show eD rk (arrOf st') 0 ((pendingOf st').modify _ _).toList lo;rw[Array.toList_modify];refine mR (fun e=>?_) q2;exact⟨rfl,rfl⟩
    case s2 =>
     rintro x ⟨c,u⟩ st' _ hx ⟨e,q1,q2,q3⟩;dsimp only at e;subst e;refine wpS_bind (wpS_get ?_);by_cases c1:(pendingOf st').size > 1
     ·rw[if_pos c1];cases hg:(pendingOf st')[(pendingOf st').size - 2]? with
      |none=>exact wpS_pure ⟨rfl,q1,q2,q3⟩
      |some o =>
       obtain⟨o1,o2,o⟩:=o;dsimp only;split
       ·exact wpS_pure ⟨rfl,q1,q2,q3⟩
       ·refine wpS_bind (rT C pa q1 q2 (by omega) (by omega) fun st2 b2 p2 _ k2=>?_);exact wpS_pure ⟨rfl,b2,p2,k5 (fun k hk _=>k2 k hk) q3⟩
     ·rw[if_neg c1];exact wpS_pure ⟨rfl,q1,q2,q3⟩
end Tm
end
section
namespace Pc
open PySem PySem.Spec PyProof.Rows L2
theorem bM.live' {P:Program}{w:World}{H:Hp}{h:Heap}{a:Addr}{o:HO}(x:bM P w H h a o):∃ ob,h.get? a=some ob:=by
 cases o with
 |lst xs=>obtain⟨_,_,_,_,e⟩:=x;exact⟨_,e⟩
 |tup xs=>obtain⟨_,_,_,ob,e,_⟩:=x;exact⟨_,e⟩
 |dK kvs=>obtain⟨_,_,_,_,o,_,_,e,_⟩:=x;exact⟨_,e⟩
 |dT kvs=>obtain⟨_,_,_,_,o,_,_,e,_⟩:=x;exact⟨_,e⟩
 |set S n=>obtain⟨o,_,_,_,e,_⟩:=x;exact⟨_,e⟩
 |ins C dx fs=>obtain⟨_,_,_,e,_⟩:=x;exact⟨_,e⟩
 |own y=>obtain⟨_,e⟩:=x;exact⟨_,e⟩
 |xd fs=>obtain⟨_,⟨_,_,_,e,_⟩,_⟩:=x;exact⟨_,e⟩
 |rng lo hi=>obtain⟨_,_,_,e⟩:=x;exact⟨_,e⟩
 |frz ob u=>obtain⟨e,_⟩:=x;exact⟨_,e⟩
 |tbl ps=>exact⟨_,(show h.get? a=some _ from x)⟩
 |met f y=>exact⟨_,(show h.get? a=some _ from x)⟩
 |ext φ=>obtain⟨_,⟨_,e⟩,_⟩:=x;exact⟨_,e⟩
theorem mi {X:Cx}{pins:List (Addr×Obj)}{σ:L2.St}{H:Hp}{s:Shared}{h':Heap}{m:Str->Option Value}{B:Addr}{o:HO}{t':Nat}(I:Inv X pins σ H s)(hn:s.heap.Ns X.env.locals m)(hn':h'.Ns X.env.locals m)
  (k:∀ b o,b≠X.env.locals->s.heap.get? b=some o->h'.get? b=some o) (hB:∀ b o,s.heap.get? b=some o->b≠B) (new:bM X.prog X.w (upd H B o) h' B o):Inv X pins σ (upd H B o) { s with heap:=h',toks:=t' }:=by
 have hnB:H B=none:=by
  cases e:H B with
  |none=>rfl
  |some u =>
   obtain⟨ob,q⟩:=bM.live' (I.hok B u e);exact absurd rfl (hB B ob q)
 have nL:∀ b u,H b=some u->b≠X.env.locals:=fun b u e z=>by rw[z,I.free] at e;cases e
 refine I.step (g':=s.gens) (d':=s.drawn) (ch:=[]) (fun b hb=>nomatch hb) (fun b o' hL _ _ e _=>k b o' hL e) (fun b o' hL _ _ e _=>⟨o'.slots,k b o' hL e⟩) (fun b o' _ e n=>by rw[aG (hB b o' e)];exact n) (fun b o' _ e=>?_)
  (fun b xs e=>by rw[aG (bG e hnB)];exact e) (fun b ob u e=>by rw[aG (bG e hnB)];exact e) (fun b ps e=>⟨#[],by rw[aG (bG e hnB),e];simp⟩) (fun m' hm=>?_) (fun b u e=>?_) I.bare
 ·by_cases hL:b=X.env.locals
  ·subst hL;obtain⟨o2,_,_,q,_⟩:=hn';exact⟨o2,q⟩
  ·exact⟨o',k b o' hL e⟩
 ·obtain⟨o1,es,ep,e1,e2,e3,e4⟩:=hn;obtain⟨o2,es',ep',f1,f2,f3,f4⟩:=hm;rw[e1] at f1;cases f1;rw[e2] at f2;cases f2;have:m'=m:=funext fun x=>by rw[<-f4 x,e4 x]
  rw[this];exact hn'
 ·by_cases hb:b=B
  ·subst hb;rw[aJ] at e;cases e;exact new
  ·rw[aG hb] at e;refine (I.hok b u e).stay (fun c v hc q=>k c v ?_ q) (fun c q=>?_) fun c xs q=>?_
   ·rcases hc with z | z
    ·rw[z];exact nL b u e
    ·exact nL c _ z
   ·rw[aG (bG q hnB)];exact q
   ·rw[aG (bG q hnB)];exact q
section
variable {prog:Program}{w:World}{A:Around}
theorem sR {Q:Bool->Shared->Prop}{fin:Bool}{s:Shared}:∀{us ws:List Value}{a b:List Int}(i:Nat),IntsAre us a->IntsAre ws b->fin=decide (us.length<ws.length)->Q (md a b) s->PySem.W.KatLex prog w A true fin Q (us.zip ws) i s
 | _,_,_,_,i,.nil,.nil,hf,h=>by
  have:fin=false:=by rw[hf];rfl
  subst this;exact h
 | _,_,_,_,i,.nil,.cons _ _ r,hf,h=>by
  have:fin=true:=by rw[hf];simp
  subst this;exact h
 | _,_,_,_,i,.cons _ _ r,.nil,hf,h=>by
  have:fin=false:=by rw[hf];simp
  subst this;exact h
 | _,_,_,_,i,.cons (ns:=a) x t r,.cons (ns:=b) y u r',hf,h=>by
  rw[List.zip_cons_cons];refine PySem.W.kat_cons (wpAny_eqBool_int ?_);by_cases e:(x==y)=true
  ·rw[e];refine PySem.W.kat_yes (sR (i+1) r r' ?_ ?_)
   ·rw[hf];simp only[List.length_cons];exact decide_eq_decide.mpr (by omega)
   ·have:md (x::a) (y::b)=md a b:=by
     show (if x==y then md a b else decide (x<y))=_;rw[if_pos e]
    rw[this] at h;exact h
  ·have e':(x==y)=false:=by simpa using e
   rw[e'];have hx:md (x::a) (y::b)=decide (x<y):=by
    show (if x==y then md a b else decide (x<y))=_;rw[if_neg e]
   rw[hx] at h;refine PySem.W.kat_no ?_;by_cases hi:i=0
   ·subst hi;exact oneLt_int h
   ·have:(true&&i==0)=false:=by simp[hi]
    rw[this];exact PySem.W.kat_one _ _ (wpAny_lt_int h)
def wo (h:Heap)(v:Value)(k:List Int):Prop:=∃ a o its n,v = .ref a/\h.get? a=some o/\o.cls = .type "tuple"/\o.data = .seq its n/\IntsAre its.toList k
end
theorem lq:∀ k:List Int,D.flats (k.map D.int)=true
 |[]=>rfl
 |_::k=>lq k
section
variable {X:Cx}{pins:List (Addr×Obj)}{σ:L2.St}{H:Hp}{s:Shared}
end
theorem insI_perm (a:Int):∀ l:List Int,(insI a l).Perm (a::l)
 |[]=>.refl _
 | b::l=>by
  unfold insI;split
  ·exact .refl _
  ·exact ((insI_perm a l).cons b).trans (.swap a b l)
theorem dX:∀ l:List Int,(dB l).Perm l
 |[]=>.refl _
 |a::l=>(insI_perm a _).trans ((dX l).cons a)
theorem nK (a:Int):∀{l:List Int},l.Pairwise (·<=·)->(insI a l).Pairwise (·<=·)
 |[],_=>g7 _ _
 | b::l,h=>by
  have h':=List.pairwise_cons.mp h;unfold insI;split
  ·rename_i e;refine List.pairwise_cons.mpr ⟨fun x hx=>?_,h⟩;rcases ft.mp hx with rfl | hx
   ·exact e
   ·exact gq e (h'.1 x hx)
  ·rename_i e;refine List.pairwise_cons.mpr ⟨fun x hx=>?_,nK a h'.2⟩;rcases ft.mp ((insI_perm a l).mem_iff.mp hx) with rfl | hx
   ·omega
   ·exact h'.1 x hx
theorem fC:∀ l:List Int,(dB l).Pairwise (·<=·)
 |[]=>.nil
 |a::l=>nK a (fC l)
theorem eM:∀{ns:List Int}{us:List Value},aH (ns.map V.int) us->IntsAre us ns
 |[],us,h=>by cases h;exact .nil
 | n::ns,us,h=>by
  cases h with
  |cons a b =>
   obtain⟨t,rfl⟩:=a;exact .cons _ t (eM b)
theorem ku:∀{ns:List Int}{us:List Value},IntsAre us ns->aH (ns.map V.int) us
 |[],us,h=>by cases h;exact .nil
 | n::ns,us,h=>by
  cases h with
  |cons _ t b=>exact .cons ⟨t,rfl⟩ (ku b)
section
open PySem.W
section
variable {prog:Program}{w:World}{A:Around}{E:Value->Shared->Prop}{s:Shared}{h₀:Heap}{L a:Addr}{m:Str->Option Value}{news:List (Addr×Obj)}{vs:List Value}
theorem lV {xs:Array Keyed}(h:xs.Perm (pairsOf vs)):(xs.map (·.2)).toList.Perm vs/\∀ x∈xs.toList,x.1=x.2:=by
 have hl:xs.toList.Perm (vs.zip vs):=by rw[<-pairsOf_toList];exact Array.perm_iff_toList_perm.mp h
 refine⟨?_,fun x hx=>(mem_zip_self (hl.mem_iff.mp hx)).1⟩;rw[Array.toList_map];have:=hl.map Prod.snd
 rwa [List.map_snd_zip (ai _)] at this
theorem vf {n:Nat}{F1:PySem.Fin->Shared->Prop}(F:Fr h₀ L s.heap m)(N:News h₀ L s.heap news)(ho:s.heap.get? a=some (seqObj "list" vs.toArray n)) (haL:a≠L) (ha0:h₀.get? a=none) (hna:∀ p∈news,p.1≠a) (hz:vs.length<=1000)
  (h:∀ e1 h',Fr h₀ L h' m->News h₀ L h' ((a,seqObj "list" #[] e1)::news)->∃(κ:SortKind) (P:Keyed->Prop) (rv:Value->Int),
   (2<=vs.length->(∀ Q:SortKind->Shared->Prop,Q κ { s with heap:=h' }->wpAny (model prog w) A (keyKind' vs.toArray) Q E { s with heap:=h' })/\Tm.Cm (model prog w) A E { s with heap:=h' } κ P (fun x=>rv x.1)/\(∀ x∈(pairsOf vs).toList,P x)) /\
   ∀ out:List Value,out.Perm vs->out.Pairwise (fun x y=>rv x<=rv y)->KasFin h₀ L m a e1 out (fun s3=>F1 (.done (.ret .none)) s3) { s with heap:=h' }) :
  wpAny (model prog w) A (Builtin.«list.sort» ⟨[.ref a],[]⟩) F1 E s:=by
 have s1:=Heap.SameBut.update s.heap a (Obj.mapSeq fun _=>(#[]:Array Value));obtain⟨e1,ho1⟩:∃ e1,(s.heap.update a (Obj.mapSeq fun _=>(#[]:Array Value))).get? a=some (seqObj "list" #[] e1):=⟨_,get?_update_seq ho fun _=>#[]⟩;generalize eh:((s.heap.update a (Obj.mapSeq fun _=>(#[]:Array Value))).push (seqObj "tuple" vs.toArray 0)).push (seqObj "list" #[] 0)=hh;have F3:Fr h₀ L hh m:=eh ▸ ((kas_fr F s1 haL ha0).push _).push _;have N3:News h₀ L hh ((a,seqObj "list" #[] e1)::news):=by
  subst eh;intro p hp;cases hp with
  |head=>exact⟨Heap.get?_push_of_some _ (Heap.get?_push_of_some _ ho1),haL,ha0⟩
  |tail _ hp=>exact ((kas_news N s1 hna).grown fun b x e=>Heap.get?_push_of_some _ (Heap.get?_push_of_some _ e)) p hp
 obtain⟨κ,P,rv,hc,hfin⟩:=h e1 hh F3 N3;rw[list_sort_plain];refine wpAny_bind (listItems_at ho rfl (wpAny_bind (listUpdate_at ho rfl ?_ (by rw[ah,sizeLine_eq];omega) (cn _))));refine wpAny_bind (seqEpoch_at ho1 rfl (wpAny_bind (wpAny_newTuple (wpAny_bind (wpAny_newList ?_ (cn _))) (by show vs.length<=_;rw[sizeLine_eq];omega))));refine wpAny_holding ?_;show wpAny (model prog w) A _ F1 E { s with heap:=((s.heap.update a (Obj.mapSeq fun _=>(#[]:Array Value))).push (seqObj "tuple" vs.toArray 0)).push (seqObj "list" #[] 0) };rw[eh];dsimp only;have last:∀(st':SortSt),(arrOf st').Perm (pairsOf vs)->failedOf st'=none->((arrOf st').map (·.2)).toList.Pairwise (fun x y=>rv x<=rv y)->wpAny (model prog w) A (do
   let t <- seqEpoch a
   Builtin.List.listUpdate (.ref a) fun _=>(arrOf st').map (·.2)
   if let some e:=failedOf st' then
    rule "list.sort.comparison-raised"
    throw e
   if (t != e1)=true then
    rule "list.sort.modified"
    raiseError "ValueError" "list modified during sort"
   ret .none) F1 E { s with heap:=hh }:=fun st' h1 h2 h3=>by
  obtain⟨zp,_⟩:=lV h1;obtain⟨news',g,F',N',U,k⟩:=hfin _ zp h3;obtain⟨pre,post,e0,hg,x1,x2⟩:=U.split;rw[e0] at N';have na:=N' (a,seqObj "list" #[] e1) (aq _ (.head _));have hsz:((arrOf st').map (·.2)).size=vs.length:=by rw[<-bc,zp.length_eq]
  have s2:=Heap.SameBut.update hh a (Obj.mapSeq fun _=>(arrOf st').map (·.2));obtain⟨c2,hc2⟩:∃ c2,(hh.update a (Obj.mapSeq fun _=>(arrOf st').map (·.2))).get? a=some (seqObj "list" ((arrOf st').map (·.2)) c2):=⟨_,get?_update_seq na.1 fun _=>(arrOf st').map (·.2)⟩;refine wpAny_bind (seqEpoch_at na.1 rfl (wpAny_bind (listUpdate_at na.1 rfl ?_ (cn _) (by rw[hsz,sizeLine_eq];omega))));rw[h2];simp only[bne_self_eq_false,Bool.false_eq_true,if_false];refine wpAny_pure (k _ c2 (kas_fr F' s2 na.2.1 na.2.2) ?_);rw[hg];exact news_set N' x1 x2 s2 hc2
 by_cases hn2:vs.toArray.size<2
 ·rw[if_pos hn2,if_pos hn2];refine wpAny_bind (wpAny_pure ?_);have e:((pure ():StateT SortSt Sem Unit).run (SortSt.mk' general' (vs.toArray.zip vs.toArray) #[] 7 none))=pure ((),SortSt.mk' general' (vs.toArray.zip vs.toArray) #[] 7 none):=rfl;rw[e];refine wpAny_bind (wpAny_pure ?_);refine last _ (.refl _) rfl ?_;have:((arrOf (SortSt.mk' general' (vs.toArray.zip vs.toArray) #[] 7 none)).map (·.2)).toList.length<2:=by simpa using hn2
  generalize ((arrOf (SortSt.mk' general' (vs.toArray.zip vs.toArray) #[] 7 none)).map (·.2)).toList=l at this
  match l,this with
  |[],_=>exact .nil
  |[x],_=>exact g7 _ _
  |_::_::_,h=>rw[av,av] at h;omega
 ·rw[if_neg hn2,if_neg hn2];obtain⟨hkk,hcm,hP⟩:=hc (by simpa using hn2);refine wpAny_bind (hkk _ ?_);refine wpAny_bind (wpAny_mono (Tm.yX (a₀:=pairsOf vs) (st:=SortSt.mk' κ (vs.toArray.zip vs.toArray) #[] 7 none) hcm hP ⟨.refl _,rfl,rfl⟩ rfl (by rw[pairsOf_size];simpa using hn2) (Q:=fun _ st'=>(arrOf st').Perm (pairsOf vs)/\failedOf st'=none/\Tm.gJ (fun x=>rv x.1) (arrOf st') 0 (pairsOf vs).size) fun st' q1 q2 q3=>⟨q1,q2,q3⟩) ?_ fun _ _ e=>e);rintro⟨⟨⟩,st'⟩ s' ⟨rfl,q1,q2,q3⟩;refine last st' q1 q2 ?_;have so:=Tm.mB (rk:=fun x=>rv x.1) (xs:=arrOf st') (by rw[q1.size_eq];exact q3);rw[Array.toList_map,List.pairwise_map];refine List.Pairwise.imp_of_mem (fun {x y} hx hy hr=>?_) so;rw[<-(lV q1).2 x hx,<-(lV q1).2 y hy];exact hr
end
theorem wX:∀{k:List Int}{r:Int},BC k=some r->∃ a b,k=[a,b]/\(0<=b/\b<64)/\r=64*a+b
 | [a,b],r,h=>by
  have h:(if 0<=b/\b<64 then some (64*a+b) else none)=some r:=h;by_cases hb:0<=b/\b<64
  ·rw[if_pos hb] at h;cases h;exact⟨a,b,rfl,hb,rfl⟩
  ·rw[if_neg hb] at h;cases h
noncomputable def rkN:List Value->Int
 |[.int a _,.int b _]=>64*a+b
 |_=>0
noncomputable def rF (h:Heap)(v:Value):Int:=match v with
 |.ref a=>match h.get? a with
  |some o=>match o.data with
   |.seq its _=>rkN its.toList
   |_=>0
  |none=>0
 |_=>0
theorem jL {h:Heap}{v:Value}{a b:Int}(t:wo h v [a,b]):rF h v=64*a+b:=by
 obtain⟨p,o,its,n,rfl,e1,_,e3,e4⟩:=t;unfold rF;dsimp only;rw[e1];dsimp only;rw[e3];dsimp only;generalize its.toList=l at e4;cases e4 with
 |cons _ t r=>cases r with
  |cons _ u q=>cases q with
   |nil=>rfl
theorem yU {a b c d:Int}(h1:0<=b/\b<64)(h2:0<=d/\d<64):md [a,b] [c,d]=decide (64*a+b<64*c+d):=by
 show (if a==c then (if b==d then false else decide (b<d)) else decide (a<c))=_;by_cases e:a=c
 ·subst e;rw[if_pos (by simp)];by_cases e2:b=d
  ·subst e2;rw[if_pos (by simp)];simp
  ·rw[if_neg (by simpa using e2)];exact decide_eq_decide.mpr (by omega)
 ·rw[if_neg (by simpa using e)];exact decide_eq_decide.mpr (by omega)
def AM (h:Heap)(v:Value):Prop:=∃ a b,(0<=b/\b<64)/\wo h v [a,b]
section
variable {prog:Program}{w:World}{A:Around}{E:Value->Shared->Prop}{s:Shared}{h₀:Heap}{L:Addr}{m:Str->Option Value}{news:List (Addr×Obj)}{vs:List Value}
theorem wL:Tm.Cm (model prog w) A E s (tuples' true) (fun x=>AM s.heap x.1) (fun x=>rF s.heap x.1) where
 lt {x y st Q} hx hy hk q:=by
  obtain⟨a,b,h1,t1⟩:=hx;obtain⟨c,d,h2,t2⟩:=hy;rw[jL t1,jL t2] at q;obtain⟨p,ox,xs,n,e1,g1,_,d1,i1⟩:=t1;obtain⟨p',oy,ys,n',e2,g2,_,d2,i2⟩:=t2;rw[lt'_eq];refine wpS_bind (wpS_get ?_);rw[hk,e1,e2];refine wpS_bind (wpS_lift (wpAny_attempt (PySem.W.kat_lt g1 d1 g2 d2 (sR 0 i1 i2 (by simp) ⟨rfl,?_⟩))));rw[yU h1 h2];exact wpS_pure q
theorem mD {h:Heap}:∀{us:List Value},(∀ u∈us,AM h u)->∃ fs,PySem.W.KatTups h us fs/\fs.length=us.length/\∀ v∈fs,∃ i t,v=Value.int i t
 |[],_=>⟨[],.nil,rfl,fun _ h=>(nomatch h)⟩
 | u::us,hp=>by
  obtain⟨fs,f1,f2,f3⟩:=mD (us:=us) fun v hv=>hp v (ae _ hv)
  obtain⟨a,b,_,p,o,its,n,rfl,e2,e3,e4,e5⟩:=hp u (ao ..);obtain⟨l⟩:=its;cases e5 with
  | cons _ t r=>exact⟨_,.cons e2 e3 e4 (by rfl) f1,by simp[f2],fun v hv=>by
    rcases ft.mp hv with rfl | hv
    ·exact⟨_,t,rfl⟩
    ·exact f3 v hv⟩
theorem qO {l:Addr}{Q:Value->Shared->Prop}(F:Fr h₀ L s.heap m)(N:News h₀ L s.heap news)(hl:s.heap.IsList l vs.toArray)(hz:vs.length<=1000)
  (h:∀ D e1 h',Fr h₀ L h' m->News h₀ L h' ((D,seqObj "list" #[] e1)::news)->(∀ q∈news,q.1<D)->(∀ u∈vs,AM h' u) /\
   ∀ out:List Value,out.Perm vs->out.Pairwise (fun x y=>rF h' x<=rF h' y)->KasFin h₀ L m D e1 out (fun s3=>Q (.ref D) s3) { s with heap:=h' }) :
  wpAny (model prog w) A (call (.builtin "sorted") [.ref l]) Q E s:=by
 refine Calls.call_function_entry kind_sorted plain_sorted entry_sorted (args_sorted1 _) ?_;unfold Builtin.«sorted»;refine wpAny_bind (m:=checkCount "sorted" 1 1 _) (wpAny_pure (wpAny_bind (collect_list hl (wpAny_bind (wpAny_newList ?_ (by rw[sizeLine_eq];omega))) (by rw[sizeLine_eq];omega))));have hsz:((s.heap.push (seqObj "list" #[] 0)).update s.heap.objs.size (Obj.mapSeq (· ++ vs.toArray))).objs.size=s.heap.objs.size+1:=by rw[Heap.size_update,size_push']
 have keep:∀ b o,s.heap.get? b=some o->(((s.heap.push (seqObj "list" #[] 0)).update s.heap.objs.size (Obj.mapSeq (· ++ vs.toArray))).push (seqObj "list" vs.toArray 0)).get? b=some o:=fun b o q=>by
  have hlt:b<s.heap.objs.size:=(Heap.lt_size q);rw[Heap.get?_push_ne _ _ _ (by rw[hsz];exact bg (cz hlt)),Heap.get?_update_ne _ _ _ _ (bg hlt),Heap.get?_push_ne _ _ _ (bg hlt),q]
 have hoL:(((s.heap.push (seqObj "list" #[] 0)).update s.heap.objs.size (Obj.mapSeq (· ++ vs.toArray))).push (seqObj "list" vs.toArray 0)).get? (s.heap.objs.size+1)=some (seqObj "list" vs.toArray 0):=by
  rw[<-hsz];exact (Heap.get?_push_size _ rfl)
 have hL:L<s.heap.objs.size:=(F.ns.lt);show wpAny _ _ _ _ _ { s with heap:=((s.heap.push (seqObj "list" #[] 0)).update s.heap.objs.size (Obj.mapSeq (· ++ vs.toArray))).push (seqObj "list" vs.toArray 0) };rw[hsz];generalize ((s.heap.push (seqObj "list" #[] 0)).update s.heap.objs.size (Obj.mapSeq (· ++ vs.toArray))).push (seqObj "list" vs.toArray 0)=hh at *;refine wpAny_bind (wpAny_holding (wpAny_call_entry slot_list_sort ⟨_,hoL,rfl⟩ entry_list_sort ?body (args_list_sort _)));refine vf (s:={ s with heap:=hh }) (F.kept keep) (N.grown keep) hoL (Nat.ne_of_gt (cz hL)) (Heap.get?_none_of_le (bh F.above (f6 (fm hL)))) (fun p hp=>bg (cz (Heap.lt_size (N p hp).1))) hz fun e1 h' F' N'=>?_
 obtain⟨hp,hf⟩:=h _ e1 h' F' N' fun q hq=>cz (Heap.lt_size (N q hq).1)
 refine⟨tuples' true,fun x=>AM h' x.1,rF h',fun h2=>⟨fun Q q=>?_,wL,fun x hx=>?_⟩,fun out o1 o2=>(hf out o1 o2).mono fun s3 hq=>⟨_,rfl,wpAny_pure ⟨_,rfl,hq⟩⟩⟩
 ·obtain⟨fs,f1,f2,f3⟩:=mD hp;refine PySem.W.kat_kind (s:={ s with heap:=h' }) (T:=.type "int") f1 (by omega) (fun v hv=>?_) rfl q;obtain⟨i,t,rfl⟩:=f3 v hv;exact (PySem.W.Looks.now:PySem.W.Looks _ _ (pure (Value.type "int")) (Value.type "int"))
 ·rw[pairsOf_toList] at hx;exact hp _ (mem_zip_self hx).2
end
section
variable {X:Cx}{pins:List (Addr×Obj)}{σ:L2.St}{H:Hp}{s:Shared}
theorem pX (I:Inv X pins σ H s):∀{ys:List D}{rs:List Int}{vs:List V}{G:List Addr}{us:List Value},iI ys=some rs->aD X.K H ys vs G->aH vs us->G=[]/\us.map (rF s.heap)=rs/\∀ u∈us,AM s.heap u/\∃ v,RelV v u/\Rep X.K H (vo (rF s.heap u)) v []
 | [],rs,_,_,_,h,.nil,.nil=>by
  cases h;exact⟨rfl,rfl,fun u h=>(nomatch h)⟩
 | .tup xs::r,rs,_,_,_,h0,.cons r1 r2,.cons (b:=u) v1 v2=>by
  have h:(((dR xs).bind BC).bind fun k=>(iI r).map fun l=>k::l)=some rs:=h0;clear h0;rw[ab] at h;obtain⟨k,hk,h⟩:=h;rw[ab] at hk;obtain⟨ks,hk,hr⟩:=hk;obtain⟨a,b,rfl,hb,rfl⟩:=wX hr;have:=fY hk;subst this;rw[aa] at h;obtain⟨rs',h1,rfl⟩:=h;obtain⟨g,t1,t2⟩:=pX I h1 r2 v2;have gf:=r1.flat (lq [a,b]);subst gf;have r0:=r1;obtain⟨p,vs',rfl,a1,a2⟩:=r1.tup_inv;obtain rfl:u = .ref p:=v1;obtain⟨its,rv,⟨o,e1,e2,n,e3⟩,_⟩:=I.tuple a1;have tp:wo s.heap (.ref p) [a,b]:=⟨p,o,_,n,rfl,e1,e2,e3,jk (ns:=[a,b]) a2 rv⟩;have er:=jL tp;refine⟨by rw[g];rfl,by rw[aw,er,t1],fun u hu=>?_⟩;rcases ft.mp hu with rfl | hu
  ·refine⟨⟨a,b,hb,tp⟩,V.ref p,rfl,?_⟩;rw[er];have:vo (64*a+b) = .tup [.int a,.int b]:=by
    unfold vo;rw[show (64*a+b) / 64=a by omega,show (64*a+b)%64=b by omega]
   rw[this];exact r0
  ·exact t2 u hu
theorem mo {K:Frag}{f:Value->Int}:∀{out:List Value},(∀ u∈out,∃ v,RelV v u/\Rep K H (vo (f u)) v [])->∃ vs,aH vs out/\aD K H ((out.map f).map vo) vs []
 |[],_=>⟨[],.nil,.nil⟩
 | u::out,h=>by
  obtain⟨v,h1,h2⟩:=h u (ao ..);obtain⟨vs,h3,h4⟩:=mo (out:=out) fun u hu=>h u (ae _ hu)
  exact⟨v::vs,.cons h1 h3,.cons (G:=[]) (G':=[]) h2 h4⟩
end
end
section
variable {X:Cx}
theorem lB:fE X (.builtin "sorted") (oj X.K .sorted):=by
 intro pins s σ H xs us Q I r h;obtain⟨ds,d,G,rs,hd,k⟩:=h
 match ds,hd with
 |[.lst ys],hd =>
  have hd:(match dR ys with
   |some ns=>if ns.length<64 then some (D.lst ((dB ns).map .int)) else none
   |none=>(kQ ys).map .lst)=some d:=hd
  cases hki:dR ys with
  |some ns =>
   rw[hki] at hd;by_cases h64:ns.length<64
   ·simp only[if_pos h64] at hd;cases hd;obtain⟨x,rfl,rp⟩:=rs.of1;obtain⟨l,vs,g,rfl,rfl,a1,a2⟩:=rp.lst_inv;obtain⟨u,rfl,rx⟩:=r.one;obtain rfl:u = .ref l:=rx;obtain⟨its,rv,pl,_⟩:=I.list (.inl a1);obtain rfl:=kP hki a2;obtain⟨m,hn,_⟩:=id I.loc;have F:=Att.sD hn;have N:News (Att.jv s.heap) X.env.locals s.heap (Att.ledger s.heap X.env.locals X.env.locals):=fun ⟨a,o⟩ hp=>by
     obtain⟨n1,_,e⟩:=Att.cD.mp hp;exact⟨e,n1,Att.gS _ _⟩
    refine PySem.W.kso_sorted F N pl.isList (eM rv) h64 fun B vs' ns' c h' F' N' l1 hi' len perm asc _=>?_
    obtain rfl:ns'=dB ns:=PySem.W.lks_uniq (perm.trans (dX ns).symm) asc (fC ns);have hB:∀ b o,s.heap.get? b=some o->b≠B:=fun b o e z=>by
     by_cases hb:b=X.env.locals
     ·exact (N' _ (ao ..)).2.1 (z.symm.trans hb)
     ·exact absurd z (bg (l1 _ (Att.cD.mpr ⟨hb,hb,e⟩)))
    have hI:=mi (t':=s.toks) (o:=.lst ((dB ns).map V.int)) I hn F'.ns (fun b o hb e=>N'.get (ae _ (Att.cD.mpr ⟨hb,hb,e⟩))) hB ⟨by rw[ak,len,sizeLine_eq];omega,_,c,ku hi',N'.get (ao ..)⟩;refine⟨.ref B,_,hI,rfl,?_⟩;have hnB:H B=none:=by
     cases e:H B with
     |none=>rfl
     |some u =>
      obtain⟨ob,q⟩:=bM.live' (I.hok B u e);exact absurd rfl (hB B ob q)
    obtain⟨n1,n2⟩:=fT (G0:=l::g) (iM (K:=X.K) (H:=H) (dB ns)) (fun a ha=>nomatch ha) hnB;exact k _ _ _ n1 n2
   ·simp only[if_neg h64] at hd;cases hd
  |none =>
  rw[hki] at hd;have hd:(kQ ys).map D.lst=some d:=hd;rw[aa] at hd;obtain⟨zs,hs,rfl⟩:=hd;unfold kQ at hs;by_cases hl:ys.length<1000
  ·rw[if_pos hl,aa] at hs;obtain⟨ks,hk,rfl⟩:=hs;obtain⟨x,rfl,rp⟩:=rs.of1;obtain⟨l,vs,g,rfl,rfl,a1,a2⟩:=rp.lst_inv;obtain⟨u,rfl,rx⟩:=r.one;obtain rfl:u = .ref l:=rx;obtain⟨its,rv,pl,_⟩:=I.list (.inl a1);obtain⟨rfl,kr,kt⟩:=pX I hk a2 rv;have hlen:its.length=ys.length:=by rw[<-rv.length,<-a2.len]
   obtain⟨m,hn,_⟩:=id I.loc;have F:=Att.sD hn;have N:News (Att.jv s.heap) X.env.locals s.heap (Att.ledger s.heap X.env.locals X.env.locals):=fun ⟨a,o⟩ hp=>by
    obtain⟨n1,_,e⟩:=Att.cD.mp hp;exact⟨e,n1,Att.gS _ _⟩
   refine qO F N pl.isList (by omega) fun B e1 h' F' N' l1=>?_
   have keep:∀ b o,b≠X.env.locals->s.heap.get? b=some o->h'.get? b=some o:=fun b o hb e=>N'.get (ae _ (Att.cD.mpr ⟨hb,hb,e⟩))
   have notL:∀{a:Addr}{o:Obj}{its:Array Value}{n:Nat},s.heap.get? a=some o->o.data = .seq its n->a≠X.env.locals:=fun {a o its n} e d z=>by
    obtain⟨o',es,ep,q1,q2,_⟩:=hn;rw[z,q1] at e;cases e;rw[q2] at d;cases d
   have kt':∀ u∈its,AM h' u/\rF h' u=rF s.heap u:=fun u hu=>by
    obtain⟨⟨a,b,hb,tp⟩,_⟩:=kt u hu;have e:=jL tp;obtain⟨p,o,it,n,q1,q2,q3,q4,q5⟩:=tp;have tp':wo h' u [a,b]:=⟨p,o,it,n,q1,keep p o (notL q2 q4) q2,q3,q4,q5⟩;exact⟨⟨a,b,hb,tp'⟩,by rw[jL tp',e]⟩
   refine⟨fun u hu=>(kt' u hu).1,fun out o1 o2=>?_⟩;have er:out.map (rF s.heap)=dB ks:=by
    refine PySem.W.lks_uniq ((o1.map _).trans ?_) ?_ (fC ks)
    ·rw[kr];exact (dX ks).symm
    ·rw[List.pairwise_map];refine List.Pairwise.imp_of_mem (fun {x y} hx hy hr=>?_) o2;rw[<-(kt' x (o1.mem_iff.mp hx)).2,<-(kt' y (o1.mem_iff.mp hy)).2];exact hr
   obtain⟨vs',v1,v2⟩:=mo (K:=X.K) (H:=H) (f:=rF s.heap) (out:=out) fun u hu=>(kt u (o1.mem_iff.mp hu)).2
   rw[er] at v2;refine PySem.W.KasFin.intro (s:={ s with heap:=h' }) F' N' (.head fun ⟨a,o⟩ hq=>bg (l1 _ hq)) fun h2 c F2 N2=>?_
   have hB:∀ b o,s.heap.get? b=some o->b≠B:=fun b o e z=>by
    by_cases hb:b=X.env.locals
    ·exact (N' _ (ao ..)).2.1 (z.symm.trans hb)
    ·exact absurd z (bg (l1 _ (Att.cD.mpr ⟨hb,hb,e⟩)))
   have hI:=mi (t':=s.toks) (o:=.lst vs') I hn F2.ns (fun b o hb e=>N2.get (ae _ (Att.cD.mpr ⟨hb,hb,e⟩))) hB ⟨by rw[v1.length,o1.length_eq,sizeLine_eq];omega,_,c,v1,N2.get (ao ..)⟩;refine⟨.ref B,_,hI,rfl,?_⟩;have hnB:H B=none:=by
    cases e:H B with
    |none=>rfl
    |some u =>
     obtain⟨ob,q⟩:=bM.live' (I.hok B u e);exact absurd rfl (hB B ob q)
   obtain⟨n1,n2⟩:=fT (G0:=[l]) v2 (fun a ha=>nomatch ha) hnB;exact k _ _ _ n1 n2
  ·rw[if_neg hl] at hs;cases hs
end
section
variable {X:Cx}{T:Tb}
end
structure StrIt (ty:String):Prop where
 item:∀{prog:Program}{w:World}{A:Around}{E:Value->Shared->Prop}{s:Shared}{it:Addr}{x:Str}{t:Tok}{i c:Nat}{Q:Value->Shared->Prop},s.heap.IsStrIter it ty x t i->x.cps[i]? = some c ->
  (∀ h',h'.IsStrIter it ty x t (i+1)->Heap.SameBut it s.heap h'->Q (.str ⟨#[c]⟩ s.toks) { s with heap:=h',toks:=s.toks+1 })->wpAny (model prog w) A (Builtin.SmallTypes.nextOf (.ref it)) Q E s
 done:∀{prog:Program}{w:World}{A:Around}{E:Value->Shared->Prop}{s:Shared}{it:Addr}{x:Str}{t:Tok}{i:Nat}{Q:Value->Shared->Prop},A.handled=none->s.heap.IsStrIter it ty x t i->x.cps[i]? = none ->
  (∀ h' e,Heap.ExtBut it s.heap h'->(∃ o,h'.get? e=some o/\o.cls = .type "StopIteration")->E (.ref e) { s with heap:=h' })->wpAny (model prog w) A (Builtin.SmallTypes.nextOf (.ref it)) Q E s
 n1:ty≠"list"
section
variable {prog:Program}{w:World}{A:Around}{E:Value->Shared->Prop}{s:Shared}{z TI TO i1 i2 l1:Addr}{k1 k2:Nat}{xs:Array Value}{x a b:Value}{y:Str}{t:Tok}{c:Nat}{ty:String}
end
section
variable {prog:Program}{w:World}{A:Around}{E:Value->Shared->Prop}{s:Shared}
end
theorem qS {d:D}{l:List D}(h:pE d=some l):d = .lst l\/∃ y,d = .str y/\l=y.cps.toList.map fun c=>D.str ⟨#[c]⟩:=by
 cases d<;>simp[pE] at h
 ·exact .inr ⟨_,rfl,h.symm⟩
 ·rw[h];exact .inl rfl
section
variable {X:Cx}{T:Tb}
end
noncomputable def Bu (y:Str):It:=⟨fun i H=>∃ c,y.cps[i]? = some c,fun i H v H'=>∃ T c,v = .ref T/\H T=none/\y.cps[i]? = some c/\H'=upd H T (.tup [.int i,.str ⟨#[c]⟩]),fun i H=>i=y.cps.size⟩
def xM (ty:String)(y:Str)(t:Tok):Prop:=∀{prog:Program}{w:World}{A:Around},A.handled=none->∀(it:Addr),Draws prog w A it [it] y.cps.size (fun i v=>∃ c u,y.cps[i]? = some c/\v=Value.str { cps:=#[c] } u) fun i h=>h.IsStrIter it ty y t i
theorem nX {P:Program}{w:World}{K:Frag}{elts:List Expr}{x1:Nat}{pos:Pos}{ty:String}{y:Str}{t:Tok}(S:xM ty y t)(e it:Addr)(hne:e≠it):Turn P w K (.Tuple elts x1 pos) (Bu y) [e,it] e (fun i h=>(∃ old,IsEnum h e it (i:Nat) old)/\h.IsStrIter it ty y t i) where
 mem:=by simp
 obj:=fun i h st b hb=>by
  obtain⟨⟨old,he⟩,hit⟩:=st;have hb:b=e\/b=it:=by simpa using hb
  rcases hb with rfl | rfl
  ·exact⟨_,he,fun v z=>by cases z⟩
  ·obtain⟨o,e,c,d⟩:=hit;exact⟨o,e,fun v z=>by rw[d] at z;cases z⟩
 keep:=fun i h h' st k=>by
  obtain⟨⟨old,he⟩,⟨o,e1,r⟩⟩:=st;exact⟨⟨old,k e (by simp) _ he⟩,⟨o,k it (by simp) o e1,r⟩⟩
 item:=by
  intro X hP hw hK hc i pins s σ H E I hf st hg;subst hP hw hK;obtain⟨c,hc0⟩:=hg;obtain⟨⟨old,he⟩,hit⟩:=st;have lts:∀ b∈[e,it],b<s.heap.objs.size:=fun b hb=>by
   have hb:b=e\/b=it:=by simpa using hb
   rcases hb with rfl | rfl
   ·exact Heap.lt_size he
   ·obtain⟨o,e,_⟩:=hit;exact Heap.lt_size e
  have hi:i<y.cps.size:=(Array.getElem?_eq_some_iff.mp hc0).1;refine wpAny_pyNext_enum_itemD (S (A:=X.A.in1) (I.ok.hd hc) it) he hit hi hne (by simpa using hne) fun x h' tk hx ho hit' hT hsz hk=>?_
  obtain⟨c',u,hc',rfl⟩:=hx;rw[hc0] at hc';cases hc';have I2:Inv X pins σ (upd H s.heap.objs.size (.tup [.int i,.str ⟨#[c]⟩])) { s with heap:=h',toks:=tk+1 } :=
   paired (ch:=[e,it]) I ⟨tk,rfl⟩ ⟨u,rfl⟩ hT (fun b o hb q=>hk b o (fun z=>hb (by simp[z])) (fun z=>hb (by simp[z])) q) hf lts
  have f2:∀ b∈[e,it],gC X pins (upd H s.heap.objs.size (.tup [.int i,.str ⟨#[c]⟩])) b:=fun b hb=>by
   obtain⟨f0,f⟩:=hf b hb;exact⟨by rw[aG (bg (lts b hb))];exact f0,f⟩
  refine⟨_,rfl,wpAny_letOwnedTupleGo_enum (s:={ s with heap:=h',toks:=tk+1 }) ho fun h2 he2 hs2=>?_⟩;refine⟨.ref s.heap.objs.size,_,hZ (ch:=[e]) I2 (fun b o hb q=>hs2.extBut b o (fun z=>hb (by simp[z])) q) (fun b hb=>f2 b (by simp at hb;simp[hb])),rfl,⟨_,c,rfl,I.fresh,hc0,rfl⟩,⟨⟨_,by simpa using he2⟩,hit'.extBut hs2.extBut (Ne.symm hne)⟩,fun b hb=>(f2 b hb).1⟩
 done:=by
  intro X hP hw hK hc i pins s σ H E I hf st hg;subst hP hw hK;obtain⟨⟨old,he⟩,hit⟩:=st;have hg:i=y.cps.size:=hg;subst hg;exact wpAny_pyNext_enum_endD (S (A:=X.A.in1) (I.ok.hd hc) it) he hit fun h' eb=>⟨rfl,hZ (t':=s.toks) (ch:=[it]) I (fun b o hb q=>eb b o (fun z=>hb (by simp[z])) q) fun b hb=>hf b (by simp at hb;simp[hb])⟩
 self:=fun A i s Q E st h=>by
  obtain⟨⟨old,he⟩,_⟩:=st;exact wpAny_pyIter_enum he h
theorem nU {K:Frag}{P:Addr->Prop}{H0:Hp}{y:Str}:gQ K P H0 (Bu y) ((y.cps.toList.map fun c=>D.str ⟨#[c]⟩).zipIdx.map fun q=>.tup [.int q.2,q.1]) []:=fun H e=>by
 refine⟨fun i d hd=>?_,show _=_ by rw[ak,List.length_zipIdx,ak,bc]⟩;obtain⟨c,hc,rfl⟩:∃ c,y.cps[i]? = some c/\d = .tup [.int i,.str ⟨#[c]⟩]:=by
  rw[List.getElem?_map,List.getElem?_zipIdx,List.getElem?_map,Array.getElem?_toList] at hd;cases q:y.cps[i]? with
  |none=>rw[q] at hd;cases hd
  |some c=>rw[q] at hd;simp at hd;exact⟨c,rfl,hd.symm⟩
 refine⟨⟨c,hc⟩,fun x H' ⟨T,c',e1,e2,e3,e4⟩=>?_⟩;subst e1 e4;rw[hc] at e3;cases e3;exact⟨aE.new e2,[]++([] ++ []),.tup (.inl aJ) (.cons (.int _) (.cons (.str _) .nil)),fun z hz=>by simpa using hz⟩
section
variable {X:Cx}{T:Tb}
theorem vg {e:Expr}{c:Ex}{elts:List Expr}{x1:Nat}{p tp pos:Pos}(hg:Gl X "enumerate") (hm:X.mg "enumerate" = none) (ha:PA X [e] (ue X.K T (.cons c .nil))) (hs:starEach [e] X.env=(false,eval e X.env)::starEach [] X.env):PI X (.Tuple elts x1 tp) (.Call (.Name "enumerate" p) [e] [] pos) (tI X.K T (.enum c)):=by
 intro pins s σ H R I hq;obtain⟨P,env,F,re,q,hev,k⟩:=hq;unfold fU at hev;obtain⟨r,h1,hev⟩:=Rs.bind_ok hev;obtain⟨l,h2,hev⟩:=Rs.bind_ok hev;cases hev;have hl:bQ T (.cons c .nil) env = .ok [r]:=by unfold bQ;rw[h1];unfold bQ;rfl
 refine Call_ (iO I hg hm boot_enumerate (gp (bW (ha pos pins s σ H (fun vs H'=>∃ G,Args X.K env F H H' [r] vs G) I ⟨P,env,F,re,[r],hl,fun vs H' G ar=>⟨G,ar⟩⟩) fun us s1 ⟨vs,H1,I1,r1,G,ar⟩=>?_) hs rfl));have rs:aD X.K H1 [r.1] vs G:=ar.reps;obtain⟨x,rfl,rp⟩:=rs.of1;obtain⟨u,rfl,ru⟩:=r1.one;have fp:∀ b∈[s1.heap.objs.size+1,s1.heap.objs.size],gC X pins H1 b:=fun b hb=>by
  simp only[List.mem_cons,List.not_mem_nil,or_false] at hb;have hb:s1.heap.objs.size<=b:=Au _ _ hb;exact I1.fpOk hb (I1.hok.fresh hb)
 rcases qS (cC h2) with e2 | ⟨y,e2,rfl⟩
 ·rw[e2] at rp;obtain⟨a,vs,g,rfl,rfl,a1,a2⟩:=rp.lst_inv;cases ru;obtain⟨its,rv,pl,hz⟩:=I1.list (.inl a1);exact call_enumerate_list pl.isList fun h' he hit hsz hk=>wpAny_pyIter_enum he ⟨_,[s1.heap.objs.size+1,s1.heap.objs.size],_,_,H1,rfl,I1.kept (t':=s1.toks) hk,qT a _ _ (Nat.succ_ne_self _),⟨⟨_,he⟩,hit⟩,fp,k _ H1 (a::g) ar.same (lb ar fun q hq=>by simpa[aO] using hq) (fun b hb=>rp.nn hb) fun P' hP=>qr a1 a2 hP⟩
 ·rw[e2] at rp;obtain⟨rfl,rfl⟩:=rp.str_inv;obtain⟨tk,rfl⟩:=ru;have dr:xM (strIterType y) y tk:=by
   intro prog w A hA it;unfold strIterType;split
   ·exact Draws.strAscii hA it y tk
   ·exact Draws.strWide hA it y tk
  exact call_enumerate_str fun h' he hit hsz hk=>wpAny_pyIter_enum he ⟨_,[s1.heap.objs.size+1,s1.heap.objs.size],_,_,H1,rfl,I1.kept (t':=s1.toks) hk,nX dr _ _ (Nat.succ_ne_self _),⟨⟨_,he⟩,hit⟩,fp,k _ H1 [] ar.same (lb ar fun q hq=>by simpa[aO] using hq) (fun b hb=>(nomatch hb)) fun P' hP=>nU⟩
end
section
variable {prog:Program}{w:World}{A:Around}{E:Value->Shared->Prop}{s:Shared}
end
section
variable {X:Cx}{T:Tb}
end
section
variable {X:Cx}{T:Tb}
end
noncomputable def vz (val:Nat->Int):Nat->Nat->Int->Int
 |0,_,m=>m
 |k+1,j,m=>vz val k (j+1) (if val j > m then val j else m)
theorem pN:(toString "max" ++ toString ".loop" : String) = "max.loop":=by decide
theorem vY {prog:Program}{w:World}{A:Around}{E:Value->Shared->Prop}{s:Shared}{a b:Int}{t u:Tok}{Q:Value->Shared->Prop}(h:Q (.bool (decide (a > b))) s):wpAny (model prog w) A (richCompare .Gt (.int a t) (.int b u)) Q E s :=
 CmpOf.ints_gt (P:=fun i v=>∃ t,v = .int (if i=0 then a else b) t) (fun i=>if i=0 then a else b) (fun i v h=>h) 0 1 _ _ s Q E ⟨t,rfl⟩ ⟨u,rfl⟩ h
section
variable {prog:Program}{w:World}{A:Around}{R:Result->Shared->Prop}{it:Addr}{fp wr:List Addr}{n:Nat}{P:Nat->Value->Prop}{Sta:Nat->Heap->Prop}{dv:Value}{bx:Addr}
theorem u4 (W:Walks prog w A.in1 it fp wr n P Sta)(val:Nat->Int)(hval:∀ i v,P i v->∃ t,v = .int (val i) t)(hb:bx∉fp) :
  ∀(k j:Nat) (s:Shared) (m:Int) (t:Tok) (c:Nat),n - j=k->j<=n->Sta j s.heap->s.heap.get? bx=some { cls:=.type "list",dict:=none,data:=.seq #[.int m t,.int m t] c,slots:=#[] } ->
  (∀ hp tk t',(∀ b o,b∉wr->b≠bx->s.heap.get? b=some o->hp.get? b=some o)->R (.ok (.ret (.int (vz val k j m) t'))) { s with heap:=hp,toks:=tk }) ->
  codeAny (model prog w) A (.builtin "max.loop" ⟨[.ref it,.none,.ref bx],[("default",dv)]⟩) R s:=by
 have hw:bx∉wr:=fun h=>hb (W.sub _ h)
 intro k
 induction k with
 |zero =>
  intro j s m t c hk hj st hB q;have e:j=n:=by omega
  subst e;refine codeAny_builtin F.entry_max_loop (by
   rw[Around.under_plainId F.plain_max_loop _];show wpAny _ A.in1 (seqItems? (.ref bx) >>= _) _ _ s;refine wpAny_bind (wpAny_seqItems hB rfl (wpAny_bind (wpAny_tryCatch (W.done s _ _ st fun hp tk hk'=>?_))));have hB':=hk' bx _ hw hB;show wpAny _ A.in1 (updateSeq bx (fun _=>#[]) >>= _) _ _ _;exact wpAny_bind (wpAny_updateSeq hB' rfl (wpAny_bind (wpAny_letGo (wpAny_pure (q _ tk t fun b o h1 h2 e=>(Heap.get?_update_other _ _ (dh h2)).trans (hk' b o h1 e)))))))
 |succ k ih =>
  intro j s m t c hk hj st hB q;have hlt:j<n:=by omega
  refine codeAny_builtin F.entry_max_loop (by
   rw[Around.under_plainId F.plain_max_loop _];show wpAny _ A.in1 (seqItems? (.ref bx) >>= _) _ _ s;refine wpAny_bind (wpAny_seqItems hB rfl (wpAny_bind (wpAny_tryCatch (W.item j s _ _ hlt st fun v hp tk hv st' hk'=>?_))));have hB':=hk' bx _ hw hB;obtain⟨t2,rfl⟩:=hval j v hv;show wpAny _ A.in1 (tryCatch (holding [Value.int (val j) t2,Value.int (val j) t2] (richCompare .Gt (.int (val j) t2) (.int m t) >>= _)) _ >>= _) _ _ _;refine wpAny_bind (wpAny_tryCatch (wpAny_holding (wpAny_bind (vY (wpAny_bind (wpAny_holding (wpAny_truthy_bool (wpAny_bind (wpAny_letGo (wpAny_pure ?_))))))))));by_cases hg:val j > m
   ·rw[bu hg];simp only[if_true];refine wpAny_bind (wpAny_updateSeq hB' rfl (wpAny_bind (wpAny_letGo ?_)));rw[pN];refine wpAny_pure ⟨plainId_quiet F.plain_max_loop _,ih (j+1) _ (val j) t2 _ (by omega) hlt (W.frame _ _ _ st' fun b hbf o e=>(Heap.get?_update_other _ _ (fun h:bx=b=>hb (h ▸ hbf))).trans e) (Heap.get?_update_self _ hB' rfl) fun hp2 tk2 t3 hk2=>?_⟩;have:=q hp2 tk2 t3 fun b o h1 h2 e=>hk2 b o h1 h2 ((Heap.get?_update_other _ _ (dh h2)).trans (hk' b o h1 e))
    unfold vz at this
    rwa [if_pos hg] at this
   ·rw[ay hg];simp only[Bool.false_eq_true,if_false];refine wpAny_bind (wpAny_letGo ?_);rw[pN];refine wpAny_pure ⟨plainId_quiet F.plain_max_loop _,ih (j+1) _ m t c (by omega) hlt st' hB' fun hp2 tk2 t3 hk2=>?_⟩;have:=q hp2 tk2 t3 fun b o h1 h2 e=>hk2 b o h1 h2 (hk' b o h1 e)
    unfold vz at this
    rwa [if_neg hg] at this)
theorem uq (W:Walks prog w A.in1 it fp wr n P Sta)(val:Nat->Int)(hval:∀ i v,P i v->∃ t,v = .int (val i) t)(hb:bx∉fp){s:Shared}{c:Nat}(st:Sta 0 s.heap)(hB:s.heap.get? bx=some { cls:=.type "list",dict:=none,data:=.seq #[] c,slots:=#[] })
  (q:∀ r hp tk,(∀ b o,b∉wr->b≠bx->s.heap.get? b=some o->hp.get? b=some o)->(n=0->r=dv)->(0<n->∃ t,r = .int (vz val (n - 1) 1 (val 0)) t)->R (.ok (.ret r)) { s with heap:=hp,toks:=tk }) :
  codeAny (model prog w) A (.builtin "max.loop" ⟨[.ref it,.none,.ref bx],[("default",dv)]⟩) R s:=by
 have hw:bx∉wr:=fun h=>hb (W.sub _ h)
 refine codeAny_builtin F.entry_max_loop (by
  rw[Around.under_plainId F.plain_max_loop _];show wpAny _ A.in1 (seqItems? (.ref bx) >>= _) _ _ s;rcases Nat.eq_zero_or_pos n with h0 | h0
  ·subst h0;refine wpAny_bind (wpAny_seqItems hB rfl (wpAny_bind (wpAny_tryCatch (W.done s _ _ st fun hp tk hk'=>?_))));refine wpAny_bind (wpAny_rule ?_);exact wpAny_pure (q dv hp tk (fun b o h1 h2 e=>hk' b o h1 e) (fun _=>rfl) fun h=>absurd h (cx 0))
  ·refine wpAny_bind (wpAny_seqItems hB rfl (wpAny_bind (wpAny_tryCatch (W.item 0 s _ _ h0 st fun v hp tk hv st' hk'=>?_))));have hB':=hk' bx _ hw hB;obtain⟨t2,rfl⟩:=hval 0 v hv;show wpAny _ A.in1 (updateSeq bx (fun _=>#[Value.int (val 0) t2,Value.int (val 0) t2]) >>= _) _ _ _;refine wpAny_bind (wpAny_updateSeq hB' rfl ?_);rw[pN];refine wpAny_pure ⟨plainId_quiet F.plain_max_loop _,u4 W val hval hb (n - 1) 1 _ (val 0) t2 _ rfl h0 (W.frame _ _ _ st' fun b hbf o e=>(Heap.get?_update_other _ _ (fun h:bx=b=>hb (h ▸ hbf))).trans e) (Heap.get?_update_self _ hB' rfl) fun hp2 tk2 t3 hk2=>?_⟩;exact q _ hp2 tk2 (fun b o h1 h2 e=>hk2 b o h1 h2 ((Heap.get?_update_other _ _ (dh h2)).trans (hk' b o h1 e))) (fun h=>absurd h (by omega)) fun _=>⟨t3,rfl⟩)
end
theorem rq (x d:Value):argsOk "max" ⟨[x],[("default",d)]⟩:=by unfold argsOk;kernel_rfl
theorem rC {prog:Program}{w:World}{A:Around}{E:Value->Shared->Prop}{s:Shared}{x dv:Value}{Q:Value->Shared->Prop}
  (h:wpAny (model prog w) A.in1 (pyIter x) (fun iv s₂=>∃ it fp wr n P Sta val,iv = .ref it/\Walks prog w A.in1 it fp wr n P Sta/\Sta 0 s₂.heap/\(∀ b∈fp,b<s₂.heap.objs.size)/\(∀ i v,P i v->∃ t,v = .int (val i) t) /\
   ∀ r hp tk,(∀ b o,b∉wr->s₂.heap.get? b=some o->hp.get? b=some o)->(n=0->r=dv)->(0<n->∃ t,r = .int (vz val (n - 1) 1 (val 0)) t)->Q r { s₂ with heap:=hp,toks:=tk }) E s) :
  wpAny (model prog w) A (call (.builtin "max") [x] [("default",dv)]) Q E s:=by
 refine wpAny_call (codeAny_call_builtin F.plain_max F.entry_max ?_);have hc:wpAny (model prog w) A.in1 (Builtin.«max» ⟨[x],[("default",dv)]⟩) (fun fin s'=>match fin with
   |.done f=>(match (Except.ok f:Result) with | .ok (.ret v)=>Q v s' | .ok _=>False | .error e=>E e s')
   |.again c=>c.quiet=true/\codeAny (model prog w) A c (fun r s2=>match r with | .ok (.ret v)=>Q v s2 | .ok _=>False | .error e=>E e s2) s') E s:=by
  show wpAny _ A.in1 (Builtin.Builtins.bindParams "max" ["key","default"] 0 ⟨[],[("default",dv)]⟩ >>= _) _ _ s;refine wpAny_bind (wpAny_of_eq (show Builtin.Builtins.bindParams "max" ["key","default"] 0 ⟨[],[("default",dv)]⟩=pure [none,some dv] from rfl) (wpAny_bind (wpAny_pure (wpAny_bind (wpAny_mono h (fun iv s₂ h₂=>?_) fun _ _ e=>e)))));obtain⟨it,fp,wr,n,P,Sta,val,rfl,W,st,hfp,hval,q⟩:=h₂;refine wpAny_bind (wpAny_newObj_type ?_);rw[pN];refine wpAny_pure ⟨plainId_quiet F.plain_max_loop _,uq W val hval (fun hm=>cx _ (hfp _ hm)) (W.frame _ _ _ st fun b _ o e=>Heap.get?_push_of_some _ e) (Heap.get?_push_size _ rfl) fun r hp tk hk h0 h1=>?_⟩;exact q r hp tk (fun b o hbw e=>hk b o hbw (bg (Heap.lt_size e)) (Heap.get?_push_of_some _ e)) h0 h1
 have ha:=rq x dv;simp only[checkBuiltinCall,F.kind_max];cases hsig:Manifest.signature? "max" with
 |none=>exact wpAny_pure hc
 |some sig =>
  simp only[argsOk,hsig] at ha;have h2:Bind.checkArgs "max" sig ⟨[x],[("default",dv)]⟩=pure ():=ha;show wpAny _ A.in1 (Bind.checkArgs "max" sig ⟨[x],[("default",dv)]⟩) _ _ s;rw[h2];exact wpAny_pure hc
theorem jM:∀{xs:List D}{a b:Int},iz a xs=some b->∃ ns:List Int,xs=ns.map .int
 |[],_,_,_=>⟨[],rfl⟩
 | .int i::r,a,b,h=>by
  obtain⟨ns,rfl⟩:=jM (xs:=r) (show iz (if i > a then i else a) r=some b from h);exact⟨i::ns,rfl⟩
theorem lr (f:Nat->Int):∀(ns:List Int) (j:Nat) (a:Int),(∀ i,i<ns.length->f (j+i)=ns.getD i 0)->iz a (ns.map .int)=some (vz f ns.length j a)
 |[],_,_,_=>rfl
 | n::ns,j,a,h=>by
  have h0:=h 0 (by simp);simp only[Nat.add_zero,List.getD_cons_zero] at h0;show iz (if n > a then n else a) (ns.map .int)=some (vz f ns.length (j+1) (if f j > a then f j else a));rw[h0];exact lr f ns (j+1) _ fun i hi=>by
   have:=h (i+1) (by simpa using hi);rw[List.getD_cons_succ] at this;rw[<-this];congr 1;omega
section
variable {X:Cx}{T:Tb}
theorem vP {a d:Expr}{ca cd:Ex}{p kp pos:Pos}(hc:X.calm=true)(hg:Gl X "max") (hm:X.mg "max" = none) (ha:PE X a (tE X.K T ca)) (hd:PE X d (tE X.K T cd)) (hs:starEach [a] X.env=(false,eval a X.env)::starEach [] X.env) :
  PE X (.Call (.Name "max" p) [a] [⟨some "default",d,kp⟩] pos) (tE X.K T (.blt .maxd (.cons ca (.cons cd .nil)))):=by
 intro pins s σ H Q I h;obtain⟨P,env,F,re,r,hev,k⟩:=h;unfold ev bQ bQ bQ at hev;obtain⟨l,h1,hev⟩:=Rs.bind_ok hev;obtain⟨pa,e1,h1⟩:=Rs.bind_ok h1;obtain⟨l2,h3,h1⟩:=Rs.bind_ok h1;obtain⟨pd,e2,h3⟩:=Rs.bind_ok h3;cases h3;cases h1;obtain⟨dd,h2,hev⟩:=Rs.bind_ok hev;have h2:=cC h2;cases hev;refine wpAny_Call_Name_kw (iO I hg hm boot_max (PyProof.Rows.callWith_kw ?_ (by rw[hs];rfl) (by rw[hs];rfl)));rw[hs];show wpAny _ _ (spliced ((false,eval a X.env)::backTo pos (starEach [] X.env))) _ _ s;refine Calls.spliced_cons (bW (ha pins s σ H (fun v H1=>∃ G,aE H H1/\Rep X.K H1 pa.1 v G/\bB env F H pa.2 H1 G) I ⟨P,env,F,re,pa,e1,fun v H1 G z1 z2 z3=>⟨G,z1,z2,z3⟩⟩) fun u s1 ⟨va,H1,I1,r1,G1,sa,rpa,rta⟩=>?_);refine Calls.spliced_nil (kws_cons (bW (hd pins s1 σ H1 (fun v H2=>∃ G,aE H1 H2/\Rep X.K H2 pd.1 v G/\bB env F H1 pd.2 H2 G) I1 ⟨P,env,F,re.same sa,pd,e2,fun v H2 G z1 z2 z3=>⟨G,z1,z2,z3⟩⟩) fun u2 s2 ⟨vd,H2,I2,r2,G2,sd,rpd,rtd⟩=>kws_nil ?_));have ar:Args X.K env F H H2 [pa,pd] [va,vd] (G1++(G2 ++ [])):=.cons sa rpa rta (.cons sd rpd rtd (.nil (aE.refl _)));have rpa2:=rpa.same sd;have fin:∀ ns:List Int,∀ m:Int,pa.1 = .lst (ns.map .int)->pd.1 = .int m->dd = .int (match ns with | []=>m | n::r=>vz (fun i=>(n::r).getD i 0) r.length 1 n)->wpAny (model X.prog X.w) X.A (call (.builtin "max") [u] [("default",u2)]) (EP X pins σ Q) X.xe s2:=by
  intro ns m ea ed edd;rw[ea] at rpa2;rw[ed] at rpd;obtain⟨b,vs,g,rfl,_,a1,a2⟩:=rpa2.lst_inv;obtain⟨rfl,_⟩:=rpd.int_inv;cases r1;obtain⟨t,rfl⟩:=r2;obtain⟨its,rv,pl,_⟩:=I2.list (.inl a1);obtain⟨hl,hv⟩:=gR a2 rv;have hlt:b<s2.heap.objs.size:=by
   obtain⟨o,ho,_⟩:=pl.isList;exact Heap.lt_size ho
  refine rC (wpAny_pyIter_list pl.isList ⟨s2.heap.objs.size,[s2.heap.objs.size,b],[s2.heap.objs.size],its.toArray.size,_,_,fun i=>ns.getD i 0,rfl,Walks.list (A:=X.A.in1) (show X.A.in1.handled=none from I2.ok.hd hc) s2.heap.objs.size b (bg hlt) its.toArray,⟨⟨_,Heap.get?_push_size _ rfl,rfl,rfl⟩,pl.isList.at fun o e=>Heap.get?_push_of_some _ e⟩,fun c hb=>?_,fun i v hP=>?_,fun r hp tk hk q0 q1=>?_⟩)
  ·simp only[List.mem_cons,List.not_mem_nil,or_false] at hb;rw[Heap.size_push];rcases hb with rfl | rfl
   ·exact Nat.lt_succ_self _
   ·exact cz hlt
  ·have hP:its.toArray[i]? = some v:=hP;rw[List.getElem?_toArray] at hP;exact hv i v hP
  ·have J1:Inv X pins σ H2 { s2 with heap:=s2.heap.push { cls:=.type "list_iterator",data:=.fields #[.ref b,.int 0 0] } }:=I2.kept (t':=s2.toks) fun b o e=>Heap.get?_push_of_some _ e
   obtain⟨f0,f1,f2,f3,f4,f5⟩:=I2.fpOk (b:=s2.heap.objs.size) (ai _) (I2.hok.fresh (ai _));have J2:=J1.turned (t':=tk) (fun b o hb e=>hk b o (by simpa using hb) e) f0 f1 f3 f4 f5;rw[ah,hl] at q0 q1;have kk:=k (.int _) H2 [] ar.same (by rw[edd];exact Rep.int _) (bB.new ar (d:=dd) fJ.nil fun _ z=>z);cases ns with
   |nil =>
    cases q0 rfl;exact⟨.int m,H2,J2,⟨_,rfl⟩,kk⟩
   |cons n ns =>
    obtain⟨t',rfl⟩:=q1 (by simp);exact⟨.int _,H2,J2,⟨_,rfl⟩,kk⟩
 show wpAny _ _ (call (.builtin "max") [u] [("default",u2)]) _ _ s2;generalize hxa:pa.1=xa at h2 fin;generalize hxd:pd.1=xd at h2 fin;revert h2;show jx .maxd [pa.1,pd.1]=some dd->_;rw[hxa,hxd];intro h2
 match xa,xd,h2 with
 |.lst [],.int m,h2 =>
  cases h2;exact fin [] m rfl rfl rfl
 | .lst (.int i::r),.int m,h2 =>
  simp only[jx,uK] at h2;rw[aa] at h2;obtain⟨z,hz,rfl⟩:=h2;obtain⟨ns,rfl⟩:=jM hz;refine fin (i::ns) m rfl rfl ?_;rw[lr (fun j=>(i::ns).getD j 0) ns 1 i (fun j hj=>by rw[Nat.add_comm,List.getD_cons_succ])] at hz;cases hz;rfl
end
section
variable {prog:Program}{w:World}{A:Around}{R:Result->Shared->Prop}{it:Addr}{fp wr:List Addr}{n:Nat}{P:Nat->Value->Prop}{Sta:Nat->Heap->Prop}{bx:Addr}{val:Nat->Value}{lt:Nat->Nat->Bool}{h0:Heap}
end
section
variable {X:Cx}{pins:List (Addr×Obj)}{σ:L2.St}{H:Hp}{s:Shared}
end
section
variable {X:Cx}
end
section
variable {X:Cx}
end
section
variable {X:Cx}
end
structure Sc where
 N:List Str
 sc:Scope
 fns:List Str
 pK:List Str
 dS:List Str
noncomputable def idxOf:List Str->Str->Option Nat
 |[],_=>none
 |y::r,x=>if y=x then some 0 else (idxOf r x).map (· + 1)
theorem bC:∀{l:List Str}{x:Str}{i:Nat},idxOf l x=some i->l[i]? = some x
 | y::r,x,i,h=>by
  simp only[idxOf] at h;by_cases e:y=x
  ·rw[if_pos e] at h;cases h;rw[e];rfl
  ·rw[if_neg e,aa] at h;obtain⟨j,hj,rfl⟩:=h;simpa using bC hj
noncomputable def cG (sc:Scope)(x:Str):Option NameKind:=sc.names.lookup x
noncomputable def ka (sc:Scope)(x:Str):Bool:=match cG sc x with
 |some .local=>true
 |some .cell=>true
 |some .free=>true
 |_=>false
noncomputable def gN (sc:Scope)(x:Str):Bool:=match cG sc x with
 |some .local=>true
 |some .cell=>true
 |_=>false
noncomputable def mN (sc:Scope)(x:Str):Bool:=match cG sc x with
 |some .globalImplicit=>true
 |_=>false
noncomputable def bV (x:Str):Bool:=!(x==("__debug__" : Str)) && !(x==("__classdict__" : Str)) && !(x==("__name__" : Str))
noncomputable def notStar:Expr->Bool
 |.Starred _ _=>false
 |_=>true
noncomputable def eZ:Expr->Bool
 |.Set _ _ _=>false
 |_=>true
noncomputable def fR:Expr->Bool
 |.Slice _ _ _ _=>false
 |_=>true
noncomputable def eC:Expr->Bool
 |.ListComp _ _ _ _=>true
 |.SetComp _ _ _ _=>true
 |.DictComp _ _ _ _ _=>true
 |_=>false
noncomputable def cO (f:Expr->Option Ex):List Expr->Option j5
 |[]=>some .nil
 |e::es=>if notStar e then (f e).bind fun c=>(cO f es).map fun cs=>.cons c cs else none
noncomputable def BS (f:Expr->Option Ex)(op:BoolOp):List Expr->Option Ex
 |[]=>none
 |[a]=>f a
 |a::r=>(f a).bind fun c=>(BS f op r).map fun d=>match op with
  |.And=>.and c d
  |.Or=>.or c d
noncomputable def jz (S:Sc):List Expr->Option (List Nat)
 |[]=>some []
 |.Name x _::r=>if gN S.sc x then (idxOf S.N x).bind fun i=>(jz S r).map fun is=>i::is else none
 |_::_=>none
noncomputable def qv (S:Sc):Expr->Option jd
 |.Name x _=>if gN S.sc x then (idxOf S.N x).map .nm else none
 |.Tuple es _ _=>(jz S es).map .tp
 |_=>none
noncomputable def uh (f:Expr->Option Ex):Option Expr->Option j7
 |none=>some .none
 |some e=>(f e).map .some
noncomputable def lF (S:Sc)(x:Str):Bool:=mN S.sc x&&S.dS.contains x
noncomputable def isTup:Expr->Bool
 |.Tuple _ _ _=>true
 |_=>false
noncomputable def AO (S:Sc)(f:Expr->Option Ex)(tp:Bool):Expr->Option qK
 | .Call (.Name x p) es [] pos=>if x = "range" then (if lF S "range" then (match cO f es with
   | some (.cons a .nil)=>some (.rng1 a)
   | some (.cons a (.cons b .nil))=>some (.rng2 a b)
   | some (.cons a (.cons b (.cons c .nil)))=>some (.rng3 a b c)
   |_=>none) else none) else if x = "enumerate" then (if lF S "enumerate" && tp then (match es with
   |[e]=>if notStar e then (f e).map .enum else none
   |_=>none) else none) else if x = "reversed" then none else if x = "zip" then none else (f (.Call (.Name x p) es [] pos)).map .seq
 |e=>if eZ e then (f e).map .seq else none
noncomputable def aX (sc:Scope):List Str:=(sc.names.filter fun p=>(p.2 == .local || p.2 == .cell)&&p.1 != (".0" : Str)).map (·.1)
noncomputable def aY (sc:Scope):List Str:=(sc.names.filter fun p=>p.2 == .free).map (·.1)
noncomputable def ij:List (Option Nat)->Option (List Nat)
 |[]=>some []
 |some i::r=>(ij r).map (i :: ·)
 |none::_=>none
noncomputable def iH (S:Sc)(sc:Scope):Bool :=
 sc.kind == .function&&sc.names.all (fun p=>p.2 != .cell || cG sc p.1==some .cell)&&sc.names.all (fun p=>p.2 != .local || cG sc p.1==some .local)&&sc.names.all (fun p=>p.2 != .free || (cG sc p.1==some .free&&(cG S.sc p.1==some .cell || cG S.sc p.1==some .free))) &&
 decide (aX sc++aY sc).Nodup
noncomputable def rE (own:Nat):jd->Bool
 |.nm i=>decide (i<own)
 |.tp is=>is.all fun i=>decide (i<own)
noncomputable def BQ (x:Str):Option yl:=if x = "len" then some .len else if x = "list" then some .list else if x = "sum" then some .sum else if x = "sorted" then some .sorted else none
noncomputable def yH (t:Str):Option String:=if t = "int" then some "int" else if t = "bool" then some "bool" else if t = "str" then some "str" else if t = "list" then some "list" else if t = "tuple" then some "tuple" else none
noncomputable def B3 (S:Sc)(f:Expr->Option Ex):List Expr->Option Ex
 |[a,.Name t _]=>if mN S.sc t&&S.dS.contains t&&bV t&&notStar a then (yH t).bind fun u=>(f a).map fun ca=>.blt (.isi u) (.cons ca .nil) else none
 |_=>none
noncomputable def kT:List Expr->Bool
 | [.Call (.Name r _) [_] [] _]=>r==("reversed" : Str)
 |_=>false
noncomputable def BI (S:Sc)(f:Expr->Option Ex):List Expr->Option Ex
 |_=>none
noncomputable def km:List Expr->Bool
 | [.Call (.Name r _) _ [] _]=>r==("range" : Str)
 |_=>false
noncomputable def BG (S:Sc)(f:Expr->Option Ex):List Expr->Option Ex
 |_=>none
noncomputable def pH (S:Sc)(f:Expr->Option Ex)(x:Str)(es:List Expr):Option Ex :=
 if bV x&&mN S.sc x then (match idxOf S.fns x with
  |some i=>(cO f es).map fun cs=>.call i cs
  |none=>if S.dS.contains x then (if x = "isinstance" then B3 S f es else if x = "list"/\kT es=true then BI S f es else if x = "list"/\km es=true then BG S f es else match es with
    |[]=>none
    |e::r=>(BQ x).bind fun b=>(cO f (e::r)).map fun cs=>.blt b cs) else none) else none
noncomputable def qh (S:Sc)(f:Expr->Option Ex)(x:Str)(a d:Expr)(k:Str):Option Ex :=
 if x = "max" then (if k = "default" then (if lF S "max" && notStar a then (f a).bind fun ca=>(f d).map fun cd=>.blt .maxd (.cons ca (.cons cd .nil)) else none) else none) else none
noncomputable def Af (f:Expr->Option Ex)(o:Expr)(name:Str)(es:List Expr)(apos cpos:Pos):Option Ex:=none
noncomputable def AX (f:Expr->Option Ex):List Expr->Option j7
 |[]=>some .none
 |[c]=>(f c).map .some
 |_=>none
noncomputable def nF (S:Sc)(f:Sc->Expr->Option Ex)(elt tg iter:Expr)(ifs:List Expr)(sc:Scope):Option Ex :=
 if iH S sc&&eZ iter then
  (AO S (f S) (isTup tg) iter).bind fun it=>(ij ((aY sc).map (idxOf S.N))).bind fun pick =>
   (qv { S with N:=aX sc++aY sc,sc:=sc } tg).bind fun t=>if rE (aX sc).length t then
    (AX (f { S with N:=aX sc++aY sc,sc:=sc }) ifs).bind fun c=>(f { S with N:=aX sc++aY sc,sc:=sc } elt).map fun ce=>.comp (aX sc).length pick t it c ce
   else none
 else none
noncomputable def tH (S:Sc)(x:Str):Option Ex:=if bV x then (if ka S.sc x then (idxOf S.N x).map .var else if mN S.sc x then (idxOf S.pK x).map .glb else none) else none
noncomputable def B2:Const->Option Ex
 |.int i=>some (.cst (.int i))
 |.bool b=>some (.cst (.bl b))
 |.none=>some (.cst .non)
 |.str s=>some (.cst (.str s))
 |_=>none
noncomputable def cUn (op:UnaryOp)(o:Option Ex):Option Ex:=match op with
 |.USub=>o.map .neg
 |.Not=>o.map .not
 |_=>none
noncomputable def uQ (f:Expr->Option Ex)(a:Expr)(op:CmpOp)(b:Expr):Option Ex:=if behindInMarks op b then none else (f a).bind fun ca=>(f b).map fun cb=>.cmp op ca cb
noncomputable def xB (f:Expr->Option Ex)(a:Expr)(op op':CmpOp)(b c:Expr):Option Ex:=none
noncomputable def AV (f:Expr->Option Ex)(a:Expr):List CmpOp->List Expr->Option Ex
 |[],_=>none
 |[op],bs=>(match bs with
  |[]=>none
  |[b]=>uQ f a op b
  |_::_::_=>none)
 |op::op'::ops,bs=>(match ops with
  |[]=>(match bs with
   |[]=>none
   |[_]=>none
   |b::c::r=>(match r with
    |[]=>xB f a op op' b c
    |_::_=>none))
  |_::_=>none)
noncomputable def xQ (f:Expr->Option Ex)(a b:Expr):Option Ex:=match b with
 |.Slice lo hi st _=>(match st with
  |none=>(f a).bind fun ca=>(uh f lo).bind fun l=>(uh f hi).map fun h=>.sl ca l h
  |some _=>none)
 |b=>if fR b then (f a).bind fun ca=>(f b).map fun cb=>.ix ca cb else none
noncomputable def sL (S:Sc)(f:Expr->Option Ex)(x:Str)(es:List Expr):List Keyword->Option Ex
 |[]=>pH S f x es
 |[⟨k,d,_⟩]=>(match k with
  |none=>none
  |some k=>(match es with
   |[]=>none
   |[a]=>qh S f x a d k
   |_::_::_=>none))
 |_::_::_=>none
noncomputable def tz (S:Sc)(f:Expr->Option Ex)(g:Expr)(es:List Expr)(ks:List Keyword)(cpos:Pos):Option Ex:=match g with
 |.Name x _=>sL S f x es ks
 |.Attribute o name apos=>(match ks with
  |[]=>Af f o name es apos cpos
  |_::_=>none)
 |_=>none
noncomputable def cLC (S:Sc)(f:Sc->Expr->Option Ex)(elt:Expr)(sc:Scope):List Comprehension->Option Ex
 |[]=>none
 |[⟨tg,iter,ifs,as⟩]=>if as=0 then nF S f elt tg iter ifs sc else none
 |_::_::_=>none
noncomputable def zT:Expr->Bool
 |.List [] _=>true
 |_=>false
noncomputable def oX:Expr->Option Expr
 |.List [e] _=>(match e with
  |.Tuple es k p=>if es.any zT then some (.Tuple es k p) else none
  |_=>none)
 |_=>none
noncomputable def isAdd:Operator->Bool
 |.Add=>true
 |_=>false
noncomputable def Ac (f:Expr->Option Ex)(a:Expr)(op:Operator)(b:Expr):Option Ex:=match oX b with
 |some e=>if isAdd op then (f a).bind fun ca=>(f e).map fun ce=>.snoc ca ce else none
 |none=>(f a).bind fun ca=>(f b).map fun cb=>.bin op ca cb
noncomputable def uL:Option Expr->Option Str
 | some (.Name x _)=>some x
 |_=>none
noncomputable def zW:Expr->Option Int
 | .Constant (.int v) _ _=>some v
 |_=>none
noncomputable def rS (S:Sc):List (Option Expr)->List Expr->Option (List (Nat×Int))
 |[],[]=>some []
 |k::ks,e::vs=>(uL k).bind fun x=>(zW e).bind fun v=>if bV x&&mN S.sc x then (idxOf S.pK x).bind fun i=>(rS S ks vs).map fun l=>(i,v)::l else none
 |_,_=>none
noncomputable def yk (S:Sc):List (Option Expr)->List Expr->Option Ex
 |[],[]=>none
 |k::ks,vs=>if (k::ks).length<=15 then (rS S (k::ks) vs).map .ddsp else none
 |_,_=>none
noncomputable def cE:Nat->Sc->Expr->Option Ex
 |0,_,_=>none
 |n+1,S,e=>match e with
  |.Name x _=>tH S x
  |.Constant c _ _=>B2 c
  |.BinOp a op b _=>Ac (cE n S) a op b
  |.UnaryOp op a _=>cUn op (cE n S a)
  |.BoolOp op es _=>BS (cE n S) op es
  |.Compare a ops bs _=>AV (cE n S) a ops bs
  |.IfExp c a b _=>(cE n S c).bind fun cc=>(cE n S a).bind fun ca=>(cE n S b).map fun cb=>.ite cc ca cb
  |.List es _=>(cO (cE n S) es).map .lst
  |.Tuple es _ _=>(cO (cE n S) es).map .tup
  |.Subscript a b _=>xQ (cE n S) a b
  |.Call g es ks pos=>tz S (cE n S) g es ks pos
  |.ListComp elt gens sc _=>cLC S (cE n) elt sc gens
  |.Dict ks vs _=>yk S ks vs
  |_=>none
structure Ctx (X:Cx)(S:Sc)(T:Tb):Prop where
 N:X.N=S.N
 nd:S.N.Nodup
 vis:∀ x,ka S.sc x=true->vI X.env.scope x
 loc:∀ x,gN S.sc x=true->Loc X.env.scope x/\(X.fn x=true\/X.env.scope.names.lookup x=some .local)
 gl:∀ x,mN S.sc x=true->Gl X x
 cel:∀ x,(cG S.sc x=some .cell\/cG S.sc x=some .free)->(X.env.kindOf x=some .cell\/X.env.kindOf x=some .free)
 units:X.A.units+40<cLine/\uX X.w X.K
 calm:X.calm=true
 fns:∀ i x,idxOf S.fns x=some i->∃ f fd ps k,lA X.prog X.w X.K X.mg X.base AH k f fd ps (An X.K ps.length (T.cl i))/\fL k X.A/\X.mg x=some (.ref f)/\PySem.W.keepIn X.K (.ref f)=true/\Binds X.K fd ps []/\∀ ds r,T.cl i ds = .ok r->ds.length=ps.length
 pK:∀ i x,idxOf S.pK x=some i->∃ v u,X.mg x=some u/\RelV v u/\∀ H,Rep X.K H (T.gl i) v []
 dS:∀ x,S.dS.contains x=true->X.mg x=none
theorem bK {e:Expr}{es:List Expr}{env:Env}(h:notStar e=true):starEach (e::es) env=(false,eval e env)::starEach es env:=by
 cases e<;>first | rfl | (cases h)
theorem om {e:Expr}{env:Env}(h:eZ e=true)(x:Value):foldedSetIterable e env x=pure x:=by
 cases e<;>first | rfl | (cases h)
theorem nM {e:Expr}(h:fR e=true):jj e:=by
 intro o i;cases e<;>first | rfl | (cases h)
theorem bN {f:Expr->Option Ex}{e:Expr}{es:List Expr}{cs:j5}(h:cO f (e::es)=some cs):notStar e=true/\∃ c d,f e=some c/\cO f es=some d/\cs = .cons c d:=by
 unfold cO at h;by_cases hs:notStar e=true
 ·rw[if_pos hs] at h;rw[ab] at h;obtain⟨c,h1,h2⟩:=h;rw[aa] at h2;obtain⟨d,h2,rfl⟩:=h2;exact⟨hs,c,d,h1,h2,rfl⟩
 ·rw[if_neg hs] at h;cases h
theorem cQ {f:Expr->Option Ex}{env:Env}{pos:Pos}:∀{es:List Expr}{cs:j5},cO f es=some cs->(backTo pos (starEach es env)).any (·.1)=false
 |[],cs,_=>rfl
 | e::es,cs,h=>by
  obtain⟨hs,c,d,_,h2,_⟩:=bN h;rw[bK hs];show (false || (backTo pos (starEach es env)).any (·.1))=false;rw[cQ h2];rfl
theorem bU {x:Str}(h:bV x=true):(x==("__debug__" : Str))=false/\(x==("__classdict__" : Str))=false/\x≠"__name__":=by
 unfold bV at h;rw[aj,aj] at h;obtain⟨⟨h1,h2⟩,h3⟩:=h;refine⟨by simpa using h1,by simpa using h2,fun e=>?_⟩;subst e;simp at h3
theorem yZ {X:Cx}{T:Tb}{c a b:Expr}{cc ca cb:Ex}{pos:Pos}(hc:PT X c (lR X.K T cc))(ha:PT X a (lR X.K T ca))(hb:PT X b (lR X.K T cb)):PT X (.IfExp c a b pos) (lR X.K T (.ite cc ca cb)):=by
 intro pins s σ H Q I h;obtain⟨P,env,F,re,p,bb,hev,ht,k⟩:=h;unfold ev at hev;obtain⟨q,h1,hev⟩:=Rs.bind_ok hev;obtain⟨kb,h2,hev⟩:=Rs.bind_ok hev;refine isTrue_IfExp (bW (hc pins s σ H (fun d H'=>d=kb/\aE H H') I ⟨P,env,F,re,q,kb,h1,cC h2,fun H' s=>⟨rfl,s⟩⟩) fun d s1 ⟨H1,I1,e,s⟩=>?_);subst e;cases d with
 |true=>exact ha pins s1 σ H1 Q I1 ⟨P,env,F,re.same s,p,bb,hev,ht,fun H' s'=>k H' (s.trans s')⟩
 |false=>exact hb pins s1 σ H1 Q I1 ⟨P,env,F,re.same s,p,bb,hev,ht,fun H' s'=>k H' (s.trans s')⟩
theorem uV {T:Tb}{a:Ex}{env:En}{p}(hev:fU T (.rng1 a) env = .ok p):p.2=[]/\∃ l,bQ T (.cons a .nil) env = .ok l/\((∃ j,l.map (·.1)=[.int j]/\fI j=true/\p.1=aQ 0 1 j.toNat)\/(∃ i j,l.map (·.1)=[.int i,.int j]/\fI i=true/\fI j=true/\p.1=aQ i 1 (j - i).toNat) \/
   ∃ i j k,l.map (·.1)=[.int i,.int j,.int k]/\fI i=true/\fI j=true/\k≠0/\k.natAbs<1073741824/\p.1=aQ i k (Builtin.Range.rangeSize i j k).toNat):=by
 unfold fU at hev;obtain⟨q,h1,hev⟩:=Rs.bind_ok hev;split at hev
 ·rename_i j hj;split at hev
  ·rename_i ho;cases hev;exact⟨rfl,[q],by unfold bQ;rw[h1];unfold bQ;rfl,.inl ⟨j,by simp[hj],ho,rfl⟩⟩
  ·cases hev
 ·cases hev
theorem tB {T:Tb}{a b:Ex}{env:En}{p}(hev:fU T (.rng2 a b) env = .ok p):p.2=[]/\∃ l,bQ T (.cons a (.cons b .nil)) env = .ok l/\((∃ j,l.map (·.1)=[.int j]/\fI j=true/\p.1=aQ 0 1 j.toNat)\/(∃ i j,l.map (·.1)=[.int i,.int j]/\fI i=true/\fI j=true/\p.1=aQ i 1 (j - i).toNat) \/
   ∃ i j k,l.map (·.1)=[.int i,.int j,.int k]/\fI i=true/\fI j=true/\k≠0/\k.natAbs<1073741824/\p.1=aQ i k (Builtin.Range.rangeSize i j k).toNat):=by
 unfold fU at hev;obtain⟨q,h1,hev⟩:=Rs.bind_ok hev;obtain⟨r,h2,hev⟩:=Rs.bind_ok hev;split at hev
 ·rename_i i j hi hj;split at hev
  ·rename_i ho;cases hev;rw[aj] at ho;exact⟨rfl,[q,r],by unfold bQ;rw[h1];unfold bQ;rw[h2];unfold bQ;rfl,.inr (.inl ⟨i,j,by simp[hi,hj],ho.1,ho.2,rfl⟩)⟩
  ·cases hev
 ·cases hev
theorem sC {T:Tb}{a b c:Ex}{env:En}{p}(hev:fU T (.rng3 a b c) env = .ok p):p.2=[]/\∃ l,bQ T (.cons a (.cons b (.cons c .nil))) env = .ok l/\((∃ j,l.map (·.1)=[.int j]/\fI j=true/\p.1=aQ 0 1 j.toNat)\/(∃ i j,l.map (·.1)=[.int i,.int j]/\fI i=true/\fI j=true/\p.1=aQ i 1 (j - i).toNat) \/
   ∃ i j k,l.map (·.1)=[.int i,.int j,.int k]/\fI i=true/\fI j=true/\k≠0/\k.natAbs<1073741824/\p.1=aQ i k (Builtin.Range.rangeSize i j k).toNat):=by
 unfold fU at hev;obtain⟨q,h1,hev⟩:=Rs.bind_ok hev;obtain⟨r,h2,hev⟩:=Rs.bind_ok hev;obtain⟨t,h3,hev⟩:=Rs.bind_ok hev;split at hev
 ·rename_i i j k hi hj hk;split at hev
  ·rename_i ho;cases hev;simp only[Bool.and_eq_true,bne_iff_ne,decide_eq_true_eq] at ho;exact⟨rfl,[q,r,t],by unfold bQ;rw[h1];unfold bQ;rw[h2];unfold bQ;rw[h3];unfold bQ;rfl,.inr (.inr ⟨i,j,k,by simp[hi,hj,hk],ho.1.1.1,ho.1.1.2,ho.1.2,ho.2,rfl⟩)⟩
  ·cases hev
 ·cases hev
def SE (X:Cx)(T:Tb)(e:Expr)(c:Ex):Prop:=PE X e (tE X.K T c)/\PT X e (lR X.K T c)
section
variable {X:Cx}{S:Sc}{T:Tb}
theorem dI {f:Expr->Option Ex}(hf:∀ e c,f e=some c->SE X T e c):∀{es:List Expr}{cs:j5},cO f es=some cs->PA X es (ue X.K T cs)
 |[],cs,h=>by cases h;exact uP
 | e::es,cs,h=>by
  obtain⟨hs,c,d,h1,h2,rfl⟩:=bN h;exact o4 (hf e c h1).1 (dI hf h2) (bK hs)
theorem xJ {f:Expr->Option Ex}{op:BoolOp}{pos:Pos}(hf:∀ e c,f e=some c->SE X T e c):∀{es:List Expr}{c:Ex},BS f op es=some c->PE X (.BoolOp op es pos) (tE X.K T c)/\PW X (.BoolOp op es pos) (lR X.K T c)
 |[],c,h=>by cases h
 | [a],c,h=>by
  have h:f a=some c:=h;have ⟨h1,h2⟩:=hf a c h;refine⟨AA h1,?_⟩;cases op with
  |And=>exact xh h2
  |Or=>exact zB h2
 | a::b::r,c,h=>by
  unfold BS at h;rw[ab] at h;obtain⟨ca,h1,h2⟩:=h;rw[aa] at h2;obtain⟨cb,h2,h3⟩:=h2;subst h3;have ⟨ia,ta⟩:=hf a ca h1;have ⟨ib,tb⟩:=xJ (pos:=pos) hf h2;cases op with
  |And=>exact⟨zA ia ib,As ta tb⟩
  |Or=>exact⟨BV ia ib,Bw ta tb⟩
theorem mj (C:Ctx X S T):∀{es:List Expr}{is:List Nat},jz S es=some is->Bc X es (eY is)/\(assignEach es X.env).length=is.length/\(assignEach es X.env).findIdx? (·.1)=none:=by
 intro es
 induction es with
 |nil=>intro is h;cases h;exact⟨vp,rfl,rfl⟩
 |cons e es ih =>
  intro is h;cases e with
  |Name x p =>
   unfold jz at h;by_cases hl:gN S.sc x=true
   ·rw[if_pos hl,ab] at h;obtain⟨i,h1,h2⟩:=h;rw[aa] at h2;obtain⟨js,h2,rfl⟩:=h2;obtain⟨a,b,c⟩:=ih h2;have hN:=C.nd;rw[<-C.N] at hN;have hi:=bC h1;rw[<-C.N] at hi;refine⟨rJ (pW hN hi (C.loc x hl).1 (C.loc x hl).2) a,?_,?_⟩
    ·show (assignEach es X.env).length+1=js.length+1;rw[b]
    ·show List.findIdx? (·.1) ((false,_)::assignEach es X.env)=none;rw[List.findIdx?_cons];simp[c]
   ·rw[if_neg hl] at h;cases h
  |_=>cases h
theorem sJ (C:Ctx X S T){e:Expr}{t:jd}(h:qv S e=some t):PG X e (oA X.K t):=by
 cases e with
 |Name x p =>
  unfold qv at h;dsimp only at h;by_cases hl:gN S.sc x=true
  ·rw[if_pos hl,aa] at h;obtain⟨i,h1,rfl⟩:=h;have hN:=C.nd;rw[<-C.N] at hN;have hi:=bC h1;rw[<-C.N] at hi;exact pW hN hi (C.loc x hl).1 (C.loc x hl).2
  ·rw[if_neg hl] at h;cases h
 |Tuple es a b =>
  unfold qv at h;rw[aa] at h;obtain⟨is,h1,rfl⟩:=h;obtain⟨a,b,c⟩:=mj C h1;exact rL C.calm a b c
 |_=>cases h
theorem xZ (C:Ctx X S T){f:Expr->Option Ex}(hf:∀ e c,f e=some c->SE X T e c){tg e:Expr}{it:qK}(h:AO S f (isTup tg) e=some it):PI X tg e (tI X.K T it):=by
 unfold AO at h;split at h
 ·rename_i x p es pos;by_cases hx:x = "range"
  ·subst hx;rw[if_pos rfl] at h;by_cases hg:lF S "range" = true
   ·rw[if_pos hg] at h;have hg2:mN S.sc "range" = true/\S.dS.contains "range" = true:=by
     unfold lF at hg
     rwa [aj] at hg
    cases hc:cO f es with
    |none=>rw[hc] at h;cases h
    |some cs =>
     rw[hc] at h;cases es with
     |nil=>cases hc;cases h
     |cons e0 rest =>
      obtain⟨hs,c0,d0,_,hd,rfl⟩:=bN hc;refine zS rfl (C.gl _ hg2.1) (C.dS _ hg2.2) (dI hf hc) (bK hs) (cQ hd) ?_;intro env p hev;cases d0 with
      |nil =>
       cases h;exact uV hev
      |cons c1 d1 =>
       cases d1 with
       |nil =>
        cases h;exact tB hev
       |cons c2 d2 =>
        cases d2 with
        |nil =>
         cases h;exact sC hev
        |cons c3 d3=>cases h
   ·rw[if_neg hg] at h;cases h
  rw[if_neg hx] at h;by_cases hx:x = "enumerate"
  ·subst hx;rw[if_pos rfl] at h;by_cases hg:(lF S "enumerate" && isTup tg)=true
   ·rw[if_pos hg] at h;rw[aj] at hg;have hg2:mN S.sc "enumerate" = true/\S.dS.contains "enumerate" = true:=by
     have:=hg.1;unfold lF at this
     rwa [aj] at this
    cases tg with
    |Tuple elts x1 tp =>
     split at h
     ·rename_i e0;by_cases hs:notStar e0=true
      ·rw[if_pos hs,aa] at h;obtain⟨c,h1,rfl⟩:=h;exact vg (C.gl _ hg2.1) (C.dS _ hg2.2) (o4 (hf _ _ h1).1 uP (bK hs)) (bK hs)
      ·rw[if_neg hs] at h;cases h
     ·cases h
    |_=>cases hg.2
   ·rw[if_neg hg] at h;cases h
  rw[if_neg hx] at h;by_cases hx:x = "reversed"
  ·subst hx;rw[if_pos rfl] at h;cases h
  rw[if_neg hx] at h;by_cases hx:x = "zip"
  ·subst hx;rw[if_pos rfl] at h;cases h
  ·rw[if_neg hx,aa] at h;obtain⟨c,h1,rfl⟩:=h;exact uG (hf _ _ h1).1
 ·by_cases hn:eZ e=true
  ·rw[if_pos hn,aa] at h;obtain⟨c,h1,rfl⟩:=h;exact uG (hf _ _ h1).1
  ·rw[if_neg hn] at h;cases h
end
theorem eX {env:Env}:∀{names:List (Str×NameKind)}{x:Str}{k:NameKind},names.lookup x=some k->k≠.free ->
  (names.map fun (n,k)=>if (k==NameKind.free&&env.scope.kind == .function&&env.kindOf n==some .cell) then (n,NameKind.cell) else (n,k)).lookup x=some k
 |[],_,_,h,_=>by simp at h
 | (n,k0)::r,x,k,h,hk=>by
  rw[aw];by_cases hc:(k0==NameKind.free&&env.scope.kind == .function&&env.kindOf n==some .cell)=true
  ·simp only[hc,if_true,List.lookup_cons] at h ⊢;cases hx:x==n with
   |true =>
    rw[hx] at h;cases h;rw[aj,aj] at hc;exact absurd (by simpa using hc.1.1) hk
   |false=>rw[hx] at h;exact eX h hk
  ·have hc:(k0==NameKind.free&&env.scope.kind == .function&&env.kindOf n==some .cell)=false:=by simpa using hc
   simp only[hc,Bool.false_eq_true,if_false,List.lookup_cons] at h ⊢;cases hx:x==n with
   |true=>rw[hx] at h;exact h
   |false=>rw[hx] at h;exact eX h hk
theorem iY:∀{l:List (Option Nat)}{p:List Nat},ij l=some p->l=p.map some
 |[],p,h=>by cases h;rfl
 | some i::r,p,h=>by
  simp only[ij,Option.map_eq_some_iff] at h;obtain⟨q,h1,rfl⟩:=h;rw[iY h1];rfl
 |none::r,p,h=>by cases h
theorem jR {S:Sc}{sc:Scope}(h:iH S sc=true):sc.kind = .function/\(∀ y∈sc.names,y.2 = .cell->sc.names.lookup y.1=some .cell)/\(∀ y∈sc.names,y.2 = .local->sc.names.lookup y.1=some .local) /\
  (∀ y∈sc.names,y.2 = .free->sc.names.lookup y.1=some .free/\(cG S.sc y.1=some .cell\/cG S.sc y.1=some .free))/\(aX sc++aY sc).Nodup:=by
 unfold iH at h;simp only[Bool.and_eq_true,List.all_eq_true,Bool.or_eq_true,beq_iff_eq,bne_iff_ne,decide_eq_true_eq,cG] at h;obtain⟨⟨⟨⟨h1,h2⟩,h3⟩,h4⟩,h5⟩:=h;refine⟨h1,fun y hy e=>?_,fun y hy e=>?_,fun y hy e=>?_,h5⟩
 ·rcases h2 y hy with h | h
  ·exact absurd e h
  ·exact h
 ·rcases h3 y hy with h | h
  ·exact absurd e h
  ·exact h
 ·rcases h4 y hy with h | h
  ·exact absurd e h
  ·exact h
section
variable {X:Cx}{S:Sc}{T:Tb}{sc:Scope}{pick:List Nat}
theorem oQ (C:Ctx X S T)(h:iH S sc=true)(hp:ij ((aY sc).map (idxOf S.N))=some pick):cT X sc (aX sc++aY sc) (cV (aX sc).length pick):=by
 obtain⟨h1,h2,h3,h4,h5⟩:=jR h;have hp:=iY hp;have hlen:(aY sc).length=pick.length:=by simpa using congrArg List.length hp
 refine⟨h1,h2,h3,by simp[cV,hlen],fun x hx=>C.cel x (h4 _ (PySem.mem_of_lookup hx) rfl).2,fun x hx=>(h4 _ hx rfl).1,fun i j x hi hx=>?_⟩;unfold cV at hi;by_cases hlt:i<(aX sc).length
 ·rw[List.getElem?_append_left (by simpa using hlt),List.getElem?_replicate] at hi;split at hi<;>cases hi
 ·have hle:=g6 hlt;rw[List.getElem?_append_right (by simpa using hle),List.length_replicate,<-hp,List.getElem?_map] at hi;rw[List.getElem?_append_right hle] at hx;rw[hx] at hi;simp only[Option.map_some,Option.some.injEq] at hi;have hm:=List.mem_of_getElem? hx;unfold aY at hm;rw[List.mem_map] at hm;obtain⟨p,hp1,rfl⟩:=hm;rw[List.mem_filter] at hp1;have hf:p.2 = .free:=by simpa using hp1.2
  refine⟨(h4 p hp1.1 hf).1,?_⟩;rw[C.N];exact bC hi
theorem qX (C:Ctx X S T)(h:iH S sc=true)(Ca:Addr)(s0:Shared)(H0:Hp)(ex:List Addr):Ctx (inner X sc (aX sc++aY sc) Ca s0 H0 ex) { S with N:=aX sc++aY sc,sc:=sc } T:=by
 obtain⟨h1,h2,h3,h4,h5⟩:=jR h;have keep:∀ x k,sc.names.lookup x=some k->k≠.free->(relabel sc X.env).names.lookup x=some k:=fun x k e hk=>eX e hk
 refine⟨rfl,h5,fun x hx=>?_,fun x hx=>?_,fun x hx=>?_,fun x hx=>?_,C.units,C.calm,C.fns,C.pK,C.dS⟩
 ·unfold ka cG at hx;dsimp only at hx;split at hx
  ·rename_i e;exact .inl (keep _ _ e (by simp))
  ·rename_i e;exact .inr (.inl (keep _ _ e (by simp)))
  ·rename_i e;exact .inr (dM e)
  ·cases hx
 ·unfold gN cG at hx;dsimp only at hx;split at hx
  ·rename_i e;exact⟨.inl (keep _ _ e (by simp)),.inr (keep _ _ e (by simp))⟩
  ·rename_i e;exact⟨.inr (keep _ _ e (by simp)),.inl (by show (sc.names.lookup x==some NameKind.cell)=true;rw[e];rfl)⟩
  ·cases hx
 ·unfold mN cG at hx;dsimp only at hx;split at hx
  ·rename_i e;exact keep _ _ e (by simp)
  ·cases hx
 ·unfold cG at hx;rcases hx with hx | hx
  ·exact .inl (keep _ _ hx (by simp))
  ·exact dM hx
end
theorem iN (n d:Nat)(o:Option Int):bD n d o=HT.bD n d o:=by cases o<;>rfl
theorem wI (n d:Nat)(hd:d<=n)(o:Option Int):bD n d o<=n\/∃ i,o=some i/\i<0/\(n:Int)<i+n:=by
 cases o with
 |none=>exact .inl hd
 |some i =>
  left;simp only[bD];split<;>omega
theorem lQ {n d:Nat}(hd:d<=n)(o:Option Int):bD n d o<=n:=by
 rcases wI n d hd o with h | ⟨i,_,h1,h2⟩
 ·exact h
 ·omega
theorem Aq (lo hi:Option Int)(n:Nat):Builtin.Str.strSliceIndices lo hi 1 n=(List.range (bD n n hi - bD n 0 lo)).map (bD n 0 lo + ·):=by
 unfold Builtin.Str.strSliceIndices;have h1:∀(o:Option Int) (d:Nat),d<=n->(match o with | none=>(d:Int) | some i=>if (1:Int) > 0 then max 0 (min (if i<0 then i+(n:Int) else i) n) else max (-1) (min (if i<0 then i+(n:Int) else i) (n - 1)))=((bD n d o:Nat):Int):=by
  intro o d hd;cases o with
  |none=>rfl
  |some i =>
   simp only[bD];rw[if_pos (by decide)];by_cases hi:i<0
   ·rw[if_pos hi,if_pos hi];omega
   ·rw[if_neg hi,if_neg hi];omega
 have e1:=h1 lo 0 (cn _);have e2:=h1 hi n (ai _);dsimp only;rw[if_pos (by decide),if_pos (by decide)];refine Eq.trans ?_ (sliceRange_one (bD n 0 lo) (bD n n hi));have gen:∀ a b a' b':Int,a=a'->b=b'->sliceRange a b 1=sliceRange a' b' 1:=fun a b a' b' h h'=>by rw[h,h']
 exact gen _ _ _ _ e1 e2
theorem AJ {X:Cx}:xx X (fun x lo hi H Q=>∃ z,x = .str z/\z.length<=lim/\Q (.str ⟨(cut z.cps.toList lo hi).toArray⟩) H):=by
 intro pins s σ H x v vl vu lo hi sl Q I rx hs pl pu h;obtain⟨z,rfl,hzl,q⟩:=h;obtain⟨t,rfl⟩:=rx;have part:∀{v:Value}{o:Option Int},IsPart v o->∃ l:Option (Int×Tok),partValue l=v/\l.map (·.1)=o:=fun h=>by
  cases h with
  |none=>exact⟨none,rfl,rfl⟩
  |int i t=>exact⟨some (i,t),rfl,rfl⟩
 obtain⟨l,rfl,rfl⟩:=part pl;obtain⟨u,rfl,rfl⟩:=part pu;refine⟨"str",_,PySem.F.slot_str_getitem.lookup,typeIs_str s z t,wpAny_getItem_str_slice (l:=l) (u:=u) (st:=none) hs rfl ?_⟩;have hp:slicePicked z l u none=(List.range (bD z.length z.length (u.map (·.1)) - bD z.length 0 (l.map (·.1)))).map (bD z.length 0 (l.map (·.1)) + ·):=Aq _ _ _;have hc:(slicePicked z l u none).filterMap (z.cps[·]?)=cut z.cps.toList (l.map (·.1)) (u.map (·.1)):=by
  rw[hp,pick_run];rfl
 unfold sliceMade;split
 ·rename_i hw;have hl:(slicePicked z l u none).length=z.length:=by
   have:=(aj _ _ ▸ hw).2;simpa using this
  rw[hp,ak,f9] at hl;have hz:(⟨(cut z.cps.toList (l.map (·.1)) (u.map (·.1))).toArray⟩:Str)=z:=by
   have a1:=lQ (n:=z.length) (cn _) (l.map (·.1));have a2:=lQ (n:=z.length) (ai _) (u.map (·.1));have:cut z.cps.toList (l.map (·.1)) (u.map (·.1))=z.cps.toList:=by
    have hlen:z.cps.toList.length=z.length:=rfl;unfold cut;rw[hlen];dsimp only;by_cases h0:z.length=0
    ·have:z.cps.toList=[]:=List.eq_nil_of_length_eq_zero (hlen.trans h0);rw[this];simp
    ·rw[show bD z.length 0 (l.map (·.1))=0 by omega,show bD z.length z.length (u.map (·.1))=z.length by omega,List.drop_zero,Nat.sub_zero];exact c9 (Nat.le_of_eq hlen)
   rw[this]
  rw[hz] at q;exact⟨.str z,H,I,⟨t,rfl⟩,q⟩
 ·rw[hc];refine⟨?_,.str _,H,I.tok _,⟨_,rfl⟩,q⟩;show (cut z.cps.toList (l.map (·.1)) (u.map (·.1))).toArray.size<=sizeLine;rw[ah];refine bh ?_ (dN hzl);unfold cut;rw[eo,et];exact bh (Nat.min_le_right _ _) (Nat.sub_le _ _)
section
variable {X:Cx}{T:Tb}{a:Expr}{ca:Ex}{lo hi:Option Expr}{cl ch:j7}{pos p2:Pos}
noncomputable def tO (K:Frag)(T:Tb)(c:j7):TO:=fun σ H Q=>∃ P env F,RE K P env σ H F/\∃ o,kf T c env = .ok o/\∀ H',aE H H'->Q o H'
theorem tV {X:Cx}{e:Option Expr}{t t':TO}(h:PO X e t)(k:∀ σ H Q,t' σ H Q->t σ H Q):PO X e t':=fun pins s σ H Q I q=>h pins s σ H Q I (k σ H Q q)
theorem wF:PO X none (tO X.K T .none):=tV wN fun σ H Q ⟨P,env,F,re,o,h,k⟩=>by
 unfold kf at h;cases h;exact k H (aE.refl _)
theorem wt (h:PE X a (tE X.K T ca)):PO X (some a) (tO X.K T (.some ca)):=tV (vR h) fun σ H Q ⟨P,env,F,re,o,h,k⟩=>by
 unfold kf at h;obtain⟨p,h1,h2⟩:=Rs.bind_ok h;refine⟨P,env,F,re,p,h1,fun v H' G s rp rt=>?_⟩;split at h2
 ·rename_i i hi;cases h2;rw[hi] at rp;obtain⟨rfl,rfl⟩:=rp.int_inv;exact⟨i,rfl,k H' s⟩
 ·cases h2
theorem Cf (ha:PE X a (tE X.K T ca))(hl:PO X lo (tO X.K T cl))(hh:PO X hi (tO X.K T ch)):PE X (.Subscript a (.Slice lo hi none p2) pos) (tE X.K T (.sl ca cl ch)):=by
 refine aZ (se (vG.or (AJ.or zY)) ha hl hh) fun σ H Q ⟨P,env,F,re,p,hev,k⟩=>?_
 unfold ev at hev;obtain⟨q,h1,hev⟩:=Rs.bind_ok hev;obtain⟨ol,h2,hev⟩:=Rs.bind_ok hev;obtain⟨oh,h3,hev⟩:=Rs.bind_ok hev;obtain⟨d,h4,hev⟩:=Rs.bind_ok hev;have h4:=cC h4;cases hev;refine⟨P,env,F,re,q,h1,fun v H1 G s rp rt=>⟨P,env,F,re.same s,ol,h2,fun H2 s2=>⟨P,env,F,re.same (s.trans s2),oh,h3,fun H3 s3=>?_⟩⟩⟩;have s23:=s2.trans s3;cases hq:q.1 with
 |lst xs =>
  rw[hq] at rp h4;cases h4;obtain⟨pa,vs,G',rfl,rfl,hr,rs⟩:=Rep.lst_inv (rp.same s23);refine .inl ⟨pa,vs,rfl,.inl hr,fun pn hn=>?_⟩;obtain⟨G1,r1,u1⟩:=rs.drop (bD xs.length 0 ol);obtain⟨G2,r2,u2⟩:=r1.take (bD xs.length xs.length oh - bD xs.length 0 ol);have hc:j8 vs ol oh=(vs.drop (bD xs.length 0 ol)).take (bD xs.length xs.length oh - bD xs.length 0 ol):=by
   unfold j8;rw[rs.len,iN,iN]
  rw[hc];have sub:∀ a∈G2,a∈pa::G':=fun a ha=>ae _ (u1.mem (u2.mem ha))
  obtain⟨rp',nv⟩:=fT (G0:=pa::G') r2 sub hn;have ar:Args X.K env F H H3 [q] [.ref pa] ((pa::G') ++ []):=.cons s (by rw[hq];exact rp) rt (.nil s23);rw[ax] at ar;exact k _ _ _ ((s.trans s23).trans nv.same) rp' (bB.new ar nv (by simp[aO]))
 |str z =>
  rw[hq] at rp h4;obtain⟨rfl,rfl⟩:=rp.str_inv;have h4:(if z.length<=lim then some (D.str ⟨(cut z.cps.toList ol oh).toArray⟩) else none)=some d:=h4;by_cases hz:z.length<=lim
  ·rw[if_pos hz] at h4;cases h4;exact .inr (.inl ⟨z,rfl,hz,k _ H3 [] (s.trans s23) (.str _) bB.nil⟩)
  ·rw[if_neg hz] at h4;cases h4
 |tup xs =>
  rw[hq] at rp h4;have h4:(if bD xs.length 0 ol=0/\bD xs.length xs.length oh=xs.length then none else some (D.tup (cut xs ol oh)))=some d:=h4;by_cases hw:bD xs.length 0 ol=0/\bD xs.length xs.length oh=xs.length
  ·rw[if_pos hw] at h4;cases h4
  ·rw[if_neg hw] at h4;cases h4;obtain⟨pa,vs,rfl,hr,rs⟩:=Rep.tup_inv (rp.same s23);refine .inr (.inr ⟨pa,vs,rfl,hr,by rw[<-rs.len,<-iN,<-iN];exact hw,fun pn hn=>?_⟩);obtain⟨G1,r1,u1⟩:=rs.drop (bD xs.length 0 ol);obtain⟨G2,r2,u2⟩:=r1.take (bD xs.length xs.length oh - bD xs.length 0 ol);have hc:j8 vs ol oh=(vs.drop (bD xs.length 0 ol)).take (bD xs.length xs.length oh - bD xs.length 0 ol):=by
    unfold j8;rw[rs.len,iN,iN]
   rw[hc];obtain⟨rp',nv⟩:=r6 (G0:=G) r2 (fun a ha=>u1.mem (u2.mem ha)) hn;have ar:Args X.K env F H H3 [q] [.ref pa] (G ++ []):=.cons s (by rw[hq];exact rp) rt (.nil s23);rw[ax] at ar;exact k _ _ _ ((s.trans s23).trans nv.same) rp' (bB.new ar nv (by simp[aO]))
 |_=>rw[hq] at h4;cases h4
end
section
variable {X:Cx}{S:Sc}{T:Tb}
theorem tW {f:Expr->Option Ex}(hf:∀ e c,f e=some c->SE X T e c){o:Option Expr}{c:j7}(h:uh f o=some c):PO X o (tO X.K T c):=by
 cases o with
 |none=>cases h;exact wF
 |some e =>
  have h:(f e).map j7.some=some c:=h;rw[aa] at h;obtain⟨d,h1,rfl⟩:=h;exact wt (hf e d h1).1
theorem zw {x id:String}{b:yl}{f:Expr->Option Ex}(hf:∀ e c,f e=some c->SE X T e c){e:Expr}{r:List Expr}{cs:j5}{p pos:Pos}(hr:fE X (.builtin id) (oj X.K b))(hv:bootBuiltins x=some (.builtin id))(hg:Gl X x)(hm:X.mg x=none)(hn:bV x=true)(ha:cO f (e::r)=some cs) :
  PE X (.Call (.Name x p) (e::r) [] pos) (tE X.K T (.blt b cs)):=by
 obtain⟨hs,_,_,_,h2,_⟩:=bN ha;obtain⟨n1,n2,n3⟩:=bU hn;exact aZ (mK hr hg hm hv (dI hf ha) n3 n1 (bK hs) (cQ h2)) fun σ H Q h=>m7 h
theorem bltT {x id:String}{b:yl}{f:Expr->Option Ex}(hf:∀ e c,f e=some c->SE X T e c){e:Expr}{r:List Expr}{cs:j5}{p pos:Pos}(hr:fE X (.type id) (oj X.K b))(hv:bootBuiltins x=some (.type id))(hg:Gl X x)(hm:X.mg x=none)(hn:bV x=true)(ha:cO f (e::r)=some cs) :
  PE X (.Call (.Name x p) (e::r) [] pos) (tE X.K T (.blt b cs)):=by
 obtain⟨hs,_,_,_,h2,_⟩:=bN ha;obtain⟨n1,n2,n3⟩:=bU hn;exact aZ (qt hr hg hm hv (dI hf ha) n3 n1 (bK hs) (cQ h2)) fun σ H Q h=>m7 h
theorem su {t:Str}{u:String}(h:yH t=some u):u∈fX/\bootBuiltins t=some (.type u):=by
 unfold yH at h;split at h
 ·rename_i e;cases h;subst e;exact⟨by decide,boot_int⟩
 split at h
 ·rename_i e;cases h;subst e;exact⟨by decide,boot_bool⟩
 split at h
 ·rename_i e;cases h;subst e;exact⟨by decide,boot_str⟩
 split at h
 ·rename_i e;cases h;subst e;exact⟨by decide,boot_list⟩
 split at h
 ·rename_i e;cases h;subst e;exact⟨by decide,boot_tuple⟩
 cases h
theorem vM (C:Ctx X S T){f:Expr->Option Ex}(hf:∀ e c,f e=some c->SE X T e c){x:Str}{es:List Expr}{c:Ex}{p pos:Pos}(h:pH S f x es=some c):PE X (.Call (.Name x p) es [] pos) (tE X.K T c):=by
 unfold pH at h;by_cases hk:(bV x&&mN S.sc x)=true
 ·rw[if_pos hk] at h;rw[aj] at hk;obtain⟨hn,hg⟩:=hk;have hg:=C.gl x hg;obtain⟨n1,n2,n3⟩:=bU hn;cases hi:idxOf S.fns x with
  |some i =>
   rw[hi] at h;dsimp only at h;rw[aa] at h;obtain⟨cs,h1,rfl⟩:=h;obtain⟨fa,fd,ps,k,FO,hr,hm,hkp,hb,hl⟩:=C.fns i x hi;cases es with
   |nil =>
    cases h1;refine aZ (rR FO hr hg hm hkp hb .nil xK n1) fun σ H Q h=>?_
    have:=lp hl h;obtain⟨P,env,F,re,l,hev,k⟩:=this;unfold bQ at hev;cases hev;exact k [] H [] (.nil (aE.refl _))
   |cons e r =>
    obtain⟨hs,_,_,_,h2,_⟩:=bN h1;exact aZ (vD FO hr hg hm hkp hb .nil xK (dI hf h1) n1 (bK hs) (cQ h2)) fun σ H Q h=>lp hl h
  |none =>
   rw[hi] at h;dsimp only at h;by_cases hb:S.dS.contains x=true
   ·rw[if_pos hb] at h;have hm:=C.dS x hb;by_cases hx:x = "isinstance"
    ·rw[if_pos hx] at h;subst hx;unfold B3 at h;split at h
     ·rename_i a t pt;by_cases hc:(mN S.sc t&&S.dS.contains t&&bV t&&notStar a)=true
      ·rw[if_pos hc] at h;simp only[Bool.and_eq_true] at hc;obtain⟨⟨⟨c1,c2⟩,c3⟩,c4⟩:=hc;rw[ab] at h;obtain⟨u,h1,h2⟩:=h;rw[aa] at h2;obtain⟨ca,h2,rfl⟩:=h2;obtain⟨hu,hbt⟩:=su h1;obtain⟨m1,m2,m3⟩:=bU c3;refine aZ (mK qx hg hm boot_isinstance (i7 (hf a ca h2).1 (i7 (vB (v:=.ty u) (C.gl t c1) (C.dS t c2) hbt rfl m3 m1) oF rfl) (bK c4)) n3 n1 (bK c4) rfl) fun σ H Q h=>rQ hu h
      ·rw[if_neg hc] at h;cases h
     ·cases h
    ·rw[if_neg hx] at h;by_cases hlr:x = "list"/\kT es=true
     ·rw[if_pos hlr] at h;obtain⟨rfl,_⟩:=hlr;cases h
     rw[if_neg hlr] at h;by_cases hlg:x = "list"/\km es=true
     ·rw[if_pos hlg] at h;obtain⟨rfl,_⟩:=hlg;cases h
     rw[if_neg hlg] at h;cases es with
     |nil=>cases h
     |cons e r =>
      dsimp only at h;rw[ab] at h;obtain⟨b,h1,h2⟩:=h;rw[aa] at h2;obtain⟨cs,h2,rfl⟩:=h2;unfold BQ at h1;split at h1
      ·rename_i e;cases h1;subst e;exact zw hf rf boot_len hg hm hn h2
      split at h1
      ·rename_i e;cases h1;subst e;exact bltT hf (oW C.calm) boot_list hg hm hn h2
      split at h1
      ·rename_i e;cases h1;subst e;exact zw hf (rn C.calm) boot_sum hg hm hn h2
      split at h1
      ·rename_i e;cases h1;subst e;exact zw hf lB boot_sorted hg hm hn h2
      cases h1
   ·rw[if_neg hb] at h;cases h
 ·rw[if_neg hk] at h;cases h
theorem zg {f:Expr->Option Ex}(hf:∀ e c,f e=some c->SE X T e c){o:Expr}{name:Str}{es:List Expr}{c:Ex}{apos cpos:Pos}(h:Af f o name es apos cpos=some c):PE X (.Call (.Attribute o name apos) es [] cpos) (tE X.K T c):=by
 cases h
theorem qo {own:Nat}{pick:List Nat}{t:jd}(h:rE own t=true)(i:Nat)(hi:t = .nm i\/∃ is,t = .tp is/\i∈is):(cV own pick)[i]? = some none:=by
 have:i<own:=by
  rcases hi with rfl | ⟨is,rfl,hm⟩
  ·simpa[rE] using h
  ·simp only[rE,List.all_eq_true,decide_eq_true_eq] at h;exact h i hm
 unfold cV;rw[List.getElem?_append_left (by simpa using this),List.getElem?_replicate,if_pos this]
structure kM (X:Cx)(S:Sc)(T:Tb)(elt tg iter:Expr)(ifs:List Expr)(sc:Scope)(c:Ex):Prop where
 ex:∃ pick t it ci ce,c = .comp (aX sc).length pick t it ci ce/\cT X sc (aX sc++aY sc) (cV (aX sc).length pick)/\PI X tg iter (tI X.K T it) /\
  (∀ C s0 H0 ex,PG (inner X sc (aX sc++aY sc) C s0 H0 ex) tg (oA X.K t)/\AQ (inner X sc (aX sc++aY sc) C s0 H0 ex) ifs (z9 X.K T ci)/\PE (inner X sc (aX sc++aY sc) C s0 H0 ex) elt (tE X.K T ce)) /\
  rE (aX sc).length t=true/\eZ iter=true
theorem j4 (C:Ctx X S T){f:Sc->Expr->Option Ex}(hf:∀{X:Cx}{S:Sc},Ctx X S T->∀ e c,f S e=some c->SE X T e c){elt tg iter:Expr}{ifs:List Expr}{sc:Scope}{c:Ex}(h:nF S f elt tg iter ifs sc=some c):kM X S T elt tg iter ifs sc c:=by
 unfold nF at h;by_cases hk:(iH S sc&&eZ iter)=true
 ·rw[if_pos hk] at h;rw[aj] at hk;rw[ab] at h;obtain⟨it,h1,h⟩:=h;rw[ab] at h;obtain⟨pick,h2,h⟩:=h;rw[ab] at h;obtain⟨t,h3,h⟩:=h;by_cases ho:rE (aX sc).length t=true
  ·rw[if_pos ho] at h;rw[ab] at h;obtain⟨ci,h4,h⟩:=h;rw[aa] at h;obtain⟨ce,h5,rfl⟩:=h;refine⟨pick,t,it,ci,ce,rfl,oQ C hk.1 h2,xZ C (hf C) h1,fun Ca s0 H0 ex=>?_,ho,hk.2⟩;have C':=qX C hk.1 Ca s0 H0 ex;refine⟨sJ C' h3,?_,(hf C' elt ce h5).1⟩;unfold AX at h4;split at h4
   ·cases h4;exact wj
   ·rw[aa] at h4;obtain⟨cc,h4,rfl⟩:=h4;exact vL (hf C' _ cc h4).2
   ·cases h4
  ·rw[if_neg ho] at h;cases h
 ·rw[if_neg hk] at h;cases h
theorem xn (C:Ctx X S T){elt tg iter:Expr}{ifs:List Expr}{sc:Scope}{c:Ex}{pos:Pos}(h:kM X S T elt tg iter ifs sc c):PE X (.ListComp elt [⟨tg,iter,ifs,0⟩] sc pos) (tE X.K T c):=by
 obtain⟨pick,t,it,ci,ce,rfl,h1,h2,h3,h4,h5⟩:=h;exact aZ (u9 h1 C.calm h2 h3 (kG (qo h4)) (om h5)) fun σ H Q h=>k4 h
theorem wG (C:Ctx X S T){f:Expr->Option Ex}(hf:∀ e c,f e=some c->SE X T e c){x kn:Str}{a d:Expr}{c:Ex}{p kp pos:Pos}(h:qh S f x a d kn=some c):PE X (.Call (.Name x p) [a] [⟨some kn,d,kp⟩] pos) (tE X.K T c):=by
 unfold qh at h;split at h
 ·rename_i e1;subst e1;split at h
  ·rename_i e2;subst e2;by_cases hgr:(lF S "max" && notStar a)=true
   ·rw[if_pos hgr,ab] at h;obtain⟨ca,h1,h⟩:=h;rw[aa] at h;obtain⟨cd,h2,rfl⟩:=h;rw[aj] at hgr;have hg2:mN S.sc "max" = true/\S.dS.contains "max" = true:=by
     have:=hgr.1;unfold lF at this
     rwa [aj] at this
    exact vP C.calm (C.gl _ hg2.1) (C.dS _ hg2.2) (hf a ca h1).1 (hf d cd h2).1 (bK hgr.2)
   ·rw[if_neg hgr] at h;cases h
  ·cases h
 ·cases h
theorem qY {k:Option Expr}{x:Str}(h:uL k=some x):∃ p,k=some (.Name x p):=by
 cases k with
 |none=>cases h
 |some e=>cases e<;>first | (cases h;exact⟨_,rfl⟩) | (cases h)
theorem sF {e:Expr}{v:Int}(h:zW e=some v):∃ a b,e = .Constant (.int v) a b:=by
 cases e with
 |Constant c a b=>cases c<;>first | (cases h;exact⟨_,_,rfl⟩) | (cases h)
 |_=>cases h
theorem pY (C:Ctx X S T){pos:Pos}:∀{ks:List (Option Expr)}{vs:List Expr}{l:List (Nat×Int)},rS S ks vs=some l->∃ us:List (V×Int),BX X pos ks vs (us.map fun q=>(tC q.1,tC (.int q.2)))/\Paired (fun (q:Nat×Int) (u:V×Int)=>q.2=u.2/\∀ H,Rep X.K H (T.gl q.1) u.1 []) l us/\ks.all (·.isSome)=true/\ks.length=vs.length/\ks.length=l.length
 |[],[],l,h=>by cases h;exact⟨[],vQ,.nil,rfl,rfl,rfl⟩
 | k::ks,e::vs,l,h=>by
  have hA:((uL k).bind fun x=>(zW e).bind fun v=>if bV x&&mN S.sc x then (idxOf S.pK x).bind fun i=>(rS S ks vs).map fun l=>(i,v)::l else none)=some l:=h;clear h;obtain⟨x,hx,hB⟩:=ab.mp hA;clear hA;obtain⟨v,hv,hD⟩:=ab.mp hB;clear hB;obtain⟨p,e1⟩:=qY hx;obtain⟨a,b,e2⟩:=sF hv;rw[e1,e2];by_cases hc:(bV x&&mN S.sc x)=true
  ·rw[if_pos hc] at hD;rw[aj] at hc;obtain⟨i,h1,hE⟩:=ab.mp hD;obtain⟨l',h2,rfl⟩:=aa.mp hE;obtain⟨us,g1,g2,g3,g4,g5⟩:=pY C (pos:=pos) h2;obtain⟨u,w,e1,e2,e3⟩:=C.pK i x h1;obtain⟨n1,n2,n3⟩:=bU hc.1;exact⟨(u,v)::us,tQ (pI (C.gl x hc.2) e1 e2 n1) nT g1,.cons ⟨rfl,e3⟩ g2,by rw[ef,g3];rfl,by rw[av,av,g4],by rw[av,av,g5]⟩
  ·rw[if_neg hc] at hD;cases hD
 |[],_::_,l,h=>by cases h
 |_::_,[],l,h=>by cases h
theorem my {Q:List (V×V)->Hp->Prop}{σ:L2.St}{H:Hp}:∀{us:List (V×Int)},Q (us.map fun q=>(q.1,.int q.2)) H->jK (us.map fun q=>(tC q.1,tC (.int q.2))) σ H Q
 |[],h=>h
 | (u,i)::us,h=>by
  show jK (us.map fun q=>(tC q.1,tC (.int q.2))) σ H (fun ps H3=>Q ((u,.int i)::ps) H3);exact my (us:=us) (Q:=fun ps H3=>Q ((u,.int i)::ps) H3) h
theorem vt {K:Frag}{gl:Nat->D}{l:List (Nat×Int)}{us:List (V×Int)}(r:Paired (fun (q:Nat×Int) (u:V×Int)=>q.2=u.2/\∀ H,Rep K H (gl q.1) u.1 []) l us) :
  ∀{ks ks':List (Int×MV)}{xs:List (Key×V)},vk gl l ks=some ks'->(∀ H,gG K H ks xs)->∃ kvs:List (Key×V),(us.map fun q=>(q.1,(.int q.2:V)))=kvs.map (fun kv=>(kV kv.1,kv.2))/\kvs.length=l.length/\∀ H,gG K H ks' (eR xs kvs):=by
 induction r with
 |nil=>intro ks ks' xs h k;cases h;exact⟨[],rfl,rfl,k⟩
 |@cons q u l us h0 t ih =>
  intro ks ks' xs h k;unfold vk at h;split at h
  ·rename_i i hi;have r1:=h0.2 fun _=>none
   rw[hi] at r1;obtain⟨e,_⟩:=r1.int_inv;obtain⟨kvs,e1,e2,e3⟩:=ih (xs:=putK xs (.inl i) (.int q.2)) h (fun H=>(k H).put i (m:=.int q.2) rfl);refine⟨(.inl i,.int q.2)::kvs,?_,by rw[av,av,e2],e3⟩;rw[aw,aw,e1,<-h0.1,e];rfl
  ·cases h
theorem y8 (C:Ctx X S T){pos:Pos}{ks:List (Option Expr)}{vs:List Expr}{l:List (Nat×Int)}(h:rS S ks vs=some l)(h0:ks≠[])(h15:ks.length<=15):PE X (.Dict ks vs pos) (tE X.K T (.ddsp l)):=by
 obtain⟨us,g1,g2,g3,g4,g5⟩:=pY C (pos:=pos) h;refine aZ (wR g1 g3 g4 h0 h15) fun σ H Q ⟨P,env,F,re,p,hev,k⟩=>?_
 unfold ev at hev;obtain⟨ks',h1,hev⟩:=Rs.bind_ok hev;cases hev;intro a ha;obtain⟨kvs,e1,e2,e3⟩:=vt g2 (cC h1) (xs:=[]) fun _=>trivial
 refine my ⟨aJ,kvs,e1,by omega,?_⟩;have eu:upd (upd H a (.dK [])) a (.dK (eR [] kvs))=upd H a (.dK (eR [] kvs)):=by
  funext b;by_cases e:b=a
  ·rw[e,aJ,aJ]
  ·rw[aG e,aG e,aG e]
 rw[eu];refine k _ _ [a] (aE.new ha) (.mpi (xs:=eR [] kvs) aJ (e3 _)) ⟨fun b hb=>?_,fun R hR=>⟨by simp,fun b hb=>?_,fun b hb=>?_⟩⟩
 ·obtain rfl:=List.mem_singleton.mp hb;exact .inl ha
 ·obtain rfl:=List.mem_singleton.mp hb;exact⟨.k _,aJ⟩
 ·obtain rfl:=List.mem_singleton.mp hb;exact .inl ha
theorem qI {b e:Expr}(h:oX b=some e):∃ q,b = .List [e] q/\∀ env,starEach [e] env=(false,eval e env)::starEach [] env:=by
 unfold oX at h;split at h
 ·split at h
  ·split at h
   ·cases h;exact⟨_,rfl,fun _=>rfl⟩
   ·cases h
  ·cases h
 ·cases h
theorem vK {a e:Expr}{ca ce:Ex}{pos q:Pos}(ha:PE X a (tE X.K T ca))(he:PE X e (tE X.K T ce))(hs:∀ env,starEach [e] env=(false,eval e env)::starEach [] env):PE X (.BinOp a .Add (.List [e] q) pos) (tE X.K T (.snoc ca ce)):=by
 refine aZ (xG qd ha (tL (i7 he oF (hs _)))) fun σ H Q ⟨P,env,F,re,p,hev,k⟩=>?_
 unfold ev at hev;obtain⟨x,h1,hev⟩:=Rs.bind_ok hev;obtain⟨y,h2,hev⟩:=Rs.bind_ok hev;obtain⟨d,h3,hev⟩:=Rs.bind_ok hev;cases hev;have h3:=cC h3;obtain⟨x1,xr⟩:=x;obtain⟨y1,yr⟩:=y;unfold xt at h3;dsimp only at h3;split at h3
 ·rename_i xs;split at h3
  ·rename_i hc;cases h3;rw[aj,decide_eq_true_iff] at hc;refine⟨P,env,F,re,_,h1,fun v H1 G1 s1 r1 t1=>?_⟩;obtain⟨pa,vs,G1',rfl,rfl,a1,a2⟩:=r1.lst_inv;have eG:G1'=[]:=a2.flat hc.1;subst eG;refine⟨P,env,F,re.same s1,_,h2,fun u H2 G2 s2 r2 t2=>⟨(show (1:Nat)<=sizeLine by decide),fun p' hp'=>?_⟩⟩;obtain⟨nd,ml,nw⟩:=t2.mv [] rfl;have s3:=aE.new (o:=.lst [u]) hp';have a1':Rd (upd H2 p' (.lst [u])) pa (.lst vs):=by
    rcases a1 with q | ⟨o,q⟩
    ·exact .inl ((s2.trans s3) _ _ q)
    ·exact .inr ⟨o,(s2.trans s3) _ _ q⟩
   refine⟨pa,p',vs,[u],rfl,rfl,a1',.inl aJ,?_,fun q0 hq0=>?_⟩
   ·have hl:=a2.len;rw[<-hl];exact dN hc.2
   ·have s4:=aE.new (o:=.lst (vs ++ [u])) hq0;have sAll:=s1.trans (s2.trans (s3.trans s4));have new1:∀ z∈G2,H z=none:=fun z hz=>by
     rcases nw z hz with w | ⟨i,_,_,hi,_⟩
     ·exact aE.no s1 w
     ·cases hi
    have nn2:∀ z∈G2,H2 z≠none:=fun z hz=>by
     obtain⟨m,e⟩:=ml z hz;rw[e];simp
    refine k (.ref q0) _ (q0::G2) sAll (.lst (.inl aJ) ?_) ⟨fun z hz=>?_,fun R hR=>⟨?_,fun z hz=>?_,fun z hz=>?_⟩⟩
    ·have ra:=a2.same (s2.trans (s3.trans s4));have rb:=r2.same (s3.trans s4);have:=ra.append (.cons rb .nil)
     rwa [cv,ax] at this
    ·rcases ft.mp hz with rfl | hz
     ·exact .inl (aE.no (s1.trans (s2.trans s3)) hq0)
     ·exact .inl (new1 z hz)
    ·refine List.nodup_cons.mpr ⟨fun hz=>?_,nd⟩;have:=aE.no s3 hq0;exact nn2 q0 hz this
    ·rcases ft.mp hz with rfl | hz
     ·exact⟨.l _,aJ⟩
     ·obtain⟨m,e⟩:=ml z hz;exact⟨m,(s3.trans s4) z _ e⟩
    ·rcases ft.mp hz with rfl | hz
     ·exact .inl (aE.no (s1.trans (s2.trans s3)) hq0)
     ·exact .inl (new1 z hz)
  ·cases h3
 ·cases h3
theorem dY:∀(n:Nat) {X:Cx}{S:Sc}{T:Tb}(C:Ctx X S T) (e:Expr) (c:Ex),cE n S e=some c->SE X T e c:=by
 intro n
 induction n with
 |zero=>intro X S T C e c h;cases h
 |succ n ih =>
  intro X S T C e c h;have ihX:=ih C;cases e with
  |Name x p =>
   have h:tH S x=some c:=h;unfold tH at h;by_cases hn:bV x=true
   ·rw[if_pos hn] at h;obtain⟨n1,n2,n3⟩:=bU hn;by_cases hv:ka S.sc x=true
    ·rw[if_pos hv,aa] at h;obtain⟨i,h1,rfl⟩:=h;have hi:=bC h1;rw[<-C.N] at hi;have:=yQ (T:=T) (pos:=p) hi (C.vis x hv) n1 n2;exact⟨this,bR this fun _=>rfl⟩
    ·rw[if_neg hv] at h;by_cases hg:mN S.sc x=true
     ·rw[if_pos hg,aa] at h;obtain⟨i,h1,rfl⟩:=h;obtain⟨v,u,g1,g2,g3⟩:=C.pK i x h1;have:=yV (pI (pos:=p) (C.gl x hg) g1 g2 n1) g3;exact⟨this,bR this fun _=>rfl⟩
     ·rw[if_neg hg] at h;cases h
   ·rw[if_neg hn] at h;cases h
  |Constant k x1 p =>
   have h:B2 k=some c:=h;cases k with
   |int i=>cases h;exact⟨fQ (T:=T) nT fun H=>Rep.int _,bR (fQ (T:=T) nT fun H=>Rep.int _) fun _=>rfl⟩
   |bool b=>cases h;exact⟨fQ (T:=T) yf fun H=>Rep.bl _,bR (fQ (T:=T) yf fun H=>Rep.bl _) fun _=>rfl⟩
   |none=>cases h;exact⟨fQ (T:=T) um fun H=>Rep.non,bR (fQ (T:=T) um fun H=>Rep.non) fun _=>rfl⟩
   |str s=>cases h;exact⟨fQ (T:=T) uI fun H=>Rep.str _,bR (fQ (T:=T) uI fun H=>Rep.str _) fun _=>rfl⟩
   |_=>cases h
  |BinOp a op b p =>
   have h:Ac (cE n S) a op b=some c:=h;unfold Ac at h;cases hlt:oX b with
   |none =>
    rw[hlt] at h;dsimp only at h;rw[ab] at h;obtain⟨ca,h1,h⟩:=h;rw[aa] at h;obtain⟨cb,h2,rfl⟩:=h;have:=yD (pos:=p) (wa op) (ihX a ca h1).1 (ihX b cb h2).1;exact⟨this,bR this fun _=>rfl⟩
   |some e =>
    rw[hlt] at h;dsimp only at h;by_cases ho:isAdd op=true
    ·rw[if_pos ho] at h;rw[ab] at h;obtain⟨ca,h1,h⟩:=h;rw[aa] at h;obtain⟨ce,h2,rfl⟩:=h;obtain⟨q,hq,hse⟩:=qI hlt;have ho:op = .Add:=by cases op<;>first | rfl | (cases ho)
     subst ho;rw[hq];have:=vK (pos:=p) (q:=q) (ihX a ca h1).1 (ihX e ce h2).1 hse;exact⟨this,bR this fun _=>rfl⟩
    ·rw[if_neg ho] at h;cases h
  |UnaryOp op a p =>
   have h:cUn op (cE n S a)=some c:=h;cases op with
   |USub =>
    have h:(cE n S a).map .neg=some c:=h;rw[aa] at h;obtain⟨ca,h1,rfl⟩:=h;have:=Ad (pos:=p) (ihX a ca h1).1;exact⟨this,bR this fun _=>rfl⟩
   |Not =>
    have h:(cE n S a).map .not=some c:=h;rw[aa] at h;obtain⟨ca,h1,rfl⟩:=h;exact⟨Aa (ihX a ca h1).1,zu (ihX a ca h1).2⟩
   |_=>cases h
  |BoolOp op es p =>
   have h:BS (cE n S) op es=some c:=h;have ⟨h1,h2⟩:=xJ (pos:=p) ihX h;exact⟨h1,h2.pt⟩
  |Compare a ops bs p =>
   have h:AV (cE n S) a ops bs=some c:=h;cases ops with
   |nil=>cases h
   |cons op r=>cases r with
    |nil=>cases bs with
     |nil=>cases h
     |cons b r2=>cases r2 with
      |cons _ _=>cases h
      |nil =>
       have h:uQ (cE n S) a op b=some c:=h;unfold uQ at h;by_cases hb:behindInMarks op b=true
       ·rw[if_pos hb] at h;cases h
       ·rw[if_neg hb] at h;have hb:behindInMarks op b=false:=by simpa using hb
        rw[ab] at h;obtain⟨ca,h1,h⟩:=h;rw[aa] at h;obtain⟨cb,h2,rfl⟩:=h;exact⟨Aw (pO op C.units) (ihX a ca h1).1 (ihX b cb h2).1 hb,zU C.units (ihX a ca h1).1 (ihX b cb h2).1 hb⟩
    |cons op' r2=>cases r2 with
     |cons _ _=>cases bs<;>cases h
     |nil=>cases bs with
      |nil=>cases h
      |cons b r3=>cases r3 with
       |nil=>cases h
       |cons d r4=>cases r4 with
        |cons _ _=>cases h
        |nil =>
         have h:xB (cE n S) a op op' b d=some c:=h;cases h
  |IfExp t a b p =>
   have h:((cE n S t).bind fun cc=>(cE n S a).bind fun ca=>(cE n S b).map fun cb=>.ite cc ca cb)=some c:=h;rw[ab] at h;obtain⟨cc,h1,h⟩:=h;rw[ab] at h;obtain⟨ca,h2,h⟩:=h;rw[aa] at h;obtain⟨cb,h3,rfl⟩:=h;exact⟨zl (ihX t cc h1).2 (ihX a ca h2).1 (ihX b cb h3).1,yZ (ihX t cc h1).2 (ihX a ca h2).2 (ihX b cb h3).2⟩
  |List es p =>
   have h:(cO (cE n S) es).map .lst=some c:=h;rw[aa] at h;obtain⟨cs,h1,rfl⟩:=h;have:=Ay (pos:=p) (dI ihX h1);exact⟨this,bR this fun _=>rfl⟩
  |Dict ks vs p =>
   have h:yk S ks vs=some c:=h;unfold yk at h;split at h
   ·cases h
   ·split at h
    ·rename_i hl;obtain⟨l,h1,rfl⟩:=aa.mp h;have:=y8 (pos:=p) C h1 (by simp) hl;exact⟨this,bR this fun _=>rfl⟩
    ·cases h
   ·cases h
  |Tuple es x1 p =>
   have h:(cO (cE n S) es).map .tup=some c:=h;rw[aa] at h;obtain⟨cs,h1,rfl⟩:=h;have:=Aj (pos:=p) (x1:=x1) (dI ihX h1);exact⟨this,bR this fun _=>rfl⟩
  |Subscript a b p =>
   have h:xQ (cE n S) a b=some c:=h;by_cases hb:fR b=true
   ·have h:(if fR b then (cE n S a).bind fun ca=>(cE n S b).map fun cb=>.ix ca cb else none)=some c:=by
     cases b<;>first | exact h | cases hb
    rw[if_pos hb] at h;rw[ab] at h;obtain⟨ca,h1,h⟩:=h;rw[aa] at h;obtain⟨cb,h2,rfl⟩:=h;have:=BA (pos:=p) (vE C.units.2) (ihX a ca h1).1 (ihX b cb h2).1 (nM hb);exact⟨this,bR this fun _=>rfl⟩
   ·cases b with
    |Slice lo hi st p2 =>
     cases st with
     |none =>
      have h:((cE n S a).bind fun ca=>(uh (cE n S) lo).bind fun l=>(uh (cE n S) hi).map fun h=>.sl ca l h)=some c:=h;rw[ab] at h;obtain⟨ca,h1,h⟩:=h;rw[ab] at h;obtain⟨cl,h2,h⟩:=h;rw[aa] at h;obtain⟨ch,h3,rfl⟩:=h;have:=Cf (pos:=p) (p2:=p2) (ihX a ca h1).1 (tW ihX h2) (tW ihX h3);exact⟨this,bR this fun _=>rfl⟩
     |some _=>cases h
    |_=>exact absurd rfl hb
  |Call g es ks pos =>
   have h:tz S (cE n S) g es ks pos=some c:=h;cases g with
   |Name x p =>
    have h:sL S (cE n S) x es ks=some c:=h;cases ks with
    |nil =>
     have h:pH S (cE n S) x es=some c:=h;have:=vM (p:=p) (pos:=pos) C ihX h;exact⟨this,bR this fun _=>rfl⟩
    |cons k r=>cases r with
     |cons _ _=>obtain⟨_,_,_⟩:=k;cases h
     |nil =>
      obtain⟨k,d,kp⟩:=k;cases k with
      |none=>cases h
      |some kn=>cases es with
       |nil=>cases h
       |cons a r2=>cases r2 with
        |cons _ _=>cases h
        |nil =>
         have h:qh S (cE n S) x a d kn=some c:=h;have:=wG (p:=p) (kp:=kp) (pos:=pos) C ihX h;exact⟨this,bR this fun _=>rfl⟩
   |Attribute o name apos =>
    cases ks with
    |nil =>
     have h:Af (cE n S) o name es apos pos=some c:=h;have:=zg (apos:=apos) (cpos:=pos) ihX h;exact⟨this,bR this fun _=>rfl⟩
    |cons _ _=>cases h
   |_=>cases h
  |ListComp elt gens sc pos =>
   have h:cLC S (cE n) elt sc gens=some c:=h;cases gens with
   |nil=>cases h
   |cons g r=>cases r with
    |cons _ _=>obtain⟨_,_,_,_⟩:=g;cases h
    |nil =>
     obtain⟨tg,iter,ifs,as⟩:=g;have h:(if as=0 then nF S (cE n) elt tg iter ifs sc else none)=some c:=h;by_cases ha:as=0
     ·rw[if_pos ha] at h;subst ha;have:=xn (pos:=pos) C (j4 C (fun C'=>ih C') h);exact⟨this,bR this fun _=>rfl⟩
     ·rw[if_neg ha] at h;cases h
  |_=>cases h
end
section
variable {X:Cx}{T:Tb}
end
structure oH (X:Cx)(S:Sc)(T:Tb):Prop where
 c:Ctx X S T
 sc:X.env.scope=S.sc
 fn:S.sc.kind = .function
 own:PassesOwn (model X.prog X.w) X.A X.env X.xe
noncomputable def yd (m:Str):Option mZ:=if m = "append" then some .append else none
noncomputable def sE (m:Str):Option mZ:=none
noncomputable def jS (n:Nat)(S:Sc):Expr->Option (Nat×j7)
 |.Name x _=>if bV x&&ka S.sc x then (idxOf S.N x).map fun i=>(i,.none) else none
 | .Subscript (.Name x _) e _=>if bV x&&ka S.sc x&&fR e then (idxOf S.N x).bind fun i=>(cE n S e).map fun c=>(i,.some c) else none
 |_=>none
noncomputable def tX:Expr->Bool
 | .Constant (.bool true) _ _=>true
 |.Tuple _ _ _=>true
 |.IfExp _ _ _ _=>true
 |_=>false
noncomputable def mvB (x:Str):Expr->Bool
 |.Name y _=>x==("_law_best" : Str)&&y==("_law_way" : Str)
 | .List (.Name y _::_) _=>x==("_law_rows" : Str)&&y==("_law_turned" : Str)
 |_=>false
noncomputable def xk (n:Nat)(S:Sc)(tg e:Expr):Option St:=match tg with
 |.Name x px=>match e with
  |.ListComp elt [⟨tg',iter,ifs,0⟩] sc p=>if gN S.sc x then (idxOf S.N x).bind fun i=>(cE n S (.ListComp elt [⟨tg',iter,ifs,0⟩] sc p)).map fun c=>.asg (.nm i) c false else none
  |e=>if eC e then none else if gN S.sc x then (idxOf S.N x).bind fun i=>(cE n S e).map fun c=>.asg (.nm i) c (mvB x e) else none
 |.Tuple es k p=>if eC e || isTup e then none else (jz S es).bind fun is=>(cE n S e).map fun c=>.asg (.tp is) c false
 |.Subscript o ix p=>if tX e then none else if eC e || !fR ix then none else (jS n S o).bind fun q=>(cE n S ix).bind fun ci=>(cE n S e).map fun c=>.setix q.1 q.2 ci c
 |_=>none
noncomputable def wb (n:Nat)(S:Sc)(o:Expr)(name:Str)(es:List Expr)(apos cpos:Pos):Option St :=
 if apos.endLine==cpos.line then (if es.isEmpty then (sE name).bind fun m=>(jS n S o).map fun q=>.mut q.1 q.2 m .nil else (yd name).bind fun m=>(jS n S o).bind fun q=>match es with
  |[a]=>(cO (cE n S) [a]).map fun cs=>.mut q.1 q.2 m cs
  |[a,b]=>(cO (cE n S) [a,b]).map fun cs=>.mut q.1 q.2 m cs
  |_=>none)
 else none
noncomputable def pR (n:Nat)(S:Sc)(o:Expr)(name:Str)(es:List Expr)(apos cpos:Pos):Option St:=match es with
 |_=>none
noncomputable def yW (n:Nat)(S:Sc)(tg:Expr)(op:Operator)(e:Expr):Option St:=match tg with
 |.Name x _=>if gN S.sc x&&(op == .Add || op == .Sub) then (idxOf S.N x).bind fun i=>(cE n S e).map fun c=>.aug i op c else none
 |_=>none
noncomputable def vF (n:Nat)(S:Sc)(tg e:Expr):Option St:=none
noncomputable def AL (n:Nat)(S:Sc)(e:Expr):Option St:=if eC e then none else (cE n S e).map .expr
noncomputable def Bo (n:Nat)(S:Sc):Expr->Option St
 |.Constant k x1 p=>(match k with
  |.str _=>some .pass
  |k=>AL n S (.Constant k x1 p))
 |.Call g es ks cpos=>(match g with
  |.Attribute o name apos=>(match ks with
   |[]=>(match pR n S o name es apos cpos with
    |some c=>some c
    |none=>wb n S o name es apos cpos)
   |k::ks=>AL n S (.Call (.Attribute o name apos) es (k::ks) cpos))
  |g=>AL n S (.Call g es ks cpos))
 |e=>AL n S e
noncomputable def cAs (n:Nat)(S:Sc)(e:Expr):List Expr->Option St
 |[]=>none
 |[tg]=>(match vF n S tg e with
  |some c=>some c
  |none=>xk n S tg e)
 |_::_::_=>none
noncomputable def cRet (n:Nat)(S:Sc):Option Expr->Option St
 |none=>some .retN
 |some e=>(cE n S e).map .ret
noncomputable def o7:jd->cX->Option Nat
 |_,_=>none
theorem sf {t:jd}{cb:cX}{x:Nat}(h:o7 t cb=some x):t = .nm x:=by
 cases h
noncomputable def Ci (n:Nat)(S:Sc)(tg iter:Expr)(ob:Option cX):List Stmt->Option St
 |[]=>if eZ iter then (qv S tg).bind fun t=>ob.bind fun cb=>(match o7 t cb with
  |some x=>(cE n S iter).map fun c=>.forw x c cb
  |none=>(AO S (cE n S) (isTup tg) iter).map fun it=>.forr t it cb) else none
 |_::_=>none
noncomputable def Bt (S:Sc):Expr->Option St->Option St
 |_,o=>o
theorem rH {S:Sc}{e:Expr}{o:Option St}{c:St}(h:Bt S e o=some c):o=some c:=h
noncomputable def cWhl (n:Nat)(S:Sc)(e:Expr)(ob:Option cX):List Stmt->Option St
 |[]=>none
 |_::_=>none
mutual
noncomputable def cS:Nat->Sc->Stmt->Option St
 |0,_,_=>none
 |n+1,S,st=>match st with
  |.Assign tgs e _=>cAs n S e tgs
  |.AugAssign tg op e _=>yW n S tg op e
  |.Expr e _=>Bo n S e
  |.Return o _=>cRet n S o
  |.If e a b _=>(cE n S e).bind fun c=>(qQ n S a).bind fun ca=>(qQ n S b).map fun cb=>.ite c ca cb
  |.For tg iter b oe _=>Bt S iter (Ci n S tg iter (qQ n S b) oe)
  |.While e b oe _=>cWhl n S e (qQ n S b) oe
  |.Pass _=>some .pass
  |.Raise _ _ _=>some (.expr (.neg (.cst .non)))
  |_=>none
noncomputable def qQ:Nat->Sc->List Stmt->Option cX
 |0,_,_=>none
 |_+1,_,[]=>some .nil
 |n+1,S,s::r=>(cS n S s).bind fun c=>(qQ n S r).map fun d=>.cons c d
end
theorem lN {e:Expr}{t:Option Expr}{l:Nat}{env:Env}(h:eC e=false):swapsWith e t l env=pure false:=by
 cases e<;>first | rfl | (cases h)
theorem k7 {e t:Expr}{l:Nat}{env:Env}(h:eC e=false):swapsWithSole [t] e l env=pure false:=lN h
section
variable {X:Cx}{S:Sc}{T:Tb}
theorem wH {st:Stmt}:PS X st (tS X.K T (.expr (.neg (.cst .non)))):=by
 intro pins s σ H D I h;obtain⟨P,Z,env,F,re,hz,zp,h⟩:=h;exact h.elim
theorem jg (C:Ctx X S T){n:Nat}{o:Expr}{q:Nat×j7}(h:jS n S o=some q):PE X o (kJ X.K T q.1 q.2):=by
 unfold jS at h;split at h
 ·rename_i x p;by_cases hk:(bV x&&ka S.sc x)=true
  ·rw[if_pos hk,aa] at h;rw[aj] at hk;obtain⟨i,h1,rfl⟩:=h;obtain⟨n1,n2,n3⟩:=bU hk.1;have hi:=bC h1;rw[<-C.N] at hi;exact yN hi (C.vis x hk.2) n1 n2
  ·rw[if_neg hk] at h;cases h
 ·rename_i x p e pos;by_cases hk:(bV x&&ka S.sc x&&fR e)=true
  ·rw[if_pos hk,ab] at h;rw[aj,aj] at hk;obtain⟨i,h1,h⟩:=h;rw[aa] at h;obtain⟨c,h2,rfl⟩:=h;obtain⟨n1,n2,n3⟩:=bU hk.1.1;have hi:=bC h1;rw[<-C.N] at hi;exact w4 hi (C.vis x hk.1.2) n1 n2 (dY n C e c h2).1 (nM hk.2)
  ·rw[if_neg hk] at h;cases h
 ·cases h
theorem iS {n:Nat}{o:Expr}{q:Nat×j7}{name:Str}{env:Env}(h:jS n S o=some q):attributeBase o name env (eval o env)=eval o env:=by
 unfold jS at h;split at h
 ·rfl
 ·rfl
 ·cases h
theorem yC (C:oH X S T){n:Nat}{tg e:Expr}{c:St}{pos:Pos}(h:xk n S tg e=some c):PS X (.Assign [tg] e pos) (tS X.K T c):=by
 have hN:=C.c.nd;rw[<-C.c.N] at hN;unfold xk at h;split at h
 ·rename_i x px;split at h
  ·rename_i elt tg' iter ifs sc p;by_cases hl:gN S.sc x=true
   ·rw[if_pos hl,ab] at h;obtain⟨i,h1,h⟩:=h;rw[aa] at h;obtain⟨ce,h2,rfl⟩:=h;have hi:=bC h1;rw[<-C.c.N] at hi;have hsw:swapsWith (.ListComp elt [⟨tg',iter,ifs,0⟩] sc p) (some (.Name x px)) pos.line X.env=pure (X.env.blockKind == .function&&X.env.kindOf x==some .local&&px.line==p.line && !(sc.names.any fun (n,k)=>n==x&&(k == .local || k == .cell))):=rfl;cases hb:(X.env.blockKind == .function&&X.env.kindOf x==some .local&&px.line==p.line && !(sc.names.any fun (n,k)=>n==x&&(k == .local || k == .cell))) with
    |false =>
     rw[hb] at hsw;exact rK hN hi (C.c.loc x hl).1 (dY n C.c _ _ h2).1 hsw (C.c.loc x hl).2
    |true =>
     rw[hb] at hsw;cases n with
     |zero=>cases h2
     |succ n =>
      have h2:nF S (cE n) elt tg' iter ifs sc=some ce:=h2;obtain⟨pick,t,it,ci,ce',rfl,g1,g2,g3,g4,g5⟩:=j4 C.c (fun C'=>dY n C') h2;refine cB (nQ g1 C.c.calm g2 g3 (kG (qo g4)) (om g5) hN hi (C.c.loc x hl).1 (C.c.loc x hl).2 hsw) fun D σ H h=>?_
      obtain⟨P,Z,env,F,re,hz,zp,h⟩:=h;unfold bL at h;obtain⟨p,hp,h⟩:=bX h;exact k4 ⟨P,env,F,re,p,hp,fun v H' G s rp rt=>nY re hz zp s rp rt h⟩
   ·rw[if_neg hl] at h;cases h
  ·by_cases hc:eC e=true
   ·rw[if_pos hc] at h;cases h
   ·rw[if_neg hc] at h;by_cases hl:gN S.sc x=true
    ·rw[if_pos hl,ab] at h;obtain⟨i,h1,h⟩:=h;rw[aa] at h;obtain⟨ce,h2,rfl⟩:=h;have hi:=bC h1;rw[<-C.c.N] at hi;exact rK hN hi (C.c.loc x hl).1 (dY n C.c _ _ h2).1 (lN (by simpa using hc)) (C.c.loc x hl).2
    ·rw[if_neg hl] at h;cases h
 ·rename_i es k p;by_cases hc:(eC e || isTup e)=true
  ·rw[if_pos hc] at h;cases h
  ·rw[if_neg hc,ab] at h;simp only[Bool.or_eq_true,not_or,Bool.not_eq_true] at hc;obtain⟨is,h1,h⟩:=h;rw[aa] at h;obtain⟨ce,h2,rfl⟩:=h;obtain⟨a1,a2,a3⟩:=mj C.c h1;refine vq (rL C.c.calm a1 a2 a3) (dY n C.c _ _ h2).1 (k7 hc.1) ?_ rfl;obtain⟨_,hc⟩:=hc;cases e<;>first | rfl | (cases hc)
 ·rename_i o ix p;by_cases ht:tX e=true
  ·rw[if_pos ht] at h;cases h
  rw[if_neg ht] at h;by_cases hc:(eC e || !fR ix)=true
  ·rw[if_pos hc] at h;cases h
  ·rw[if_neg hc,ab] at h;simp only[Bool.or_eq_true,not_or,Bool.not_eq_true,Bool.not_eq_false'] at hc;obtain⟨q,h1,h⟩:=h;rw[ab] at h;obtain⟨ci,h2,h⟩:=h;rw[aa] at h;obtain⟨ce,h3,rfl⟩:=h;refine cB (sW (dY n C.c _ _ h3).1 (zb (jg C.c h1) (dY n C.c _ _ h2).1 set_list ?_) (k7 hc.1) ?_ rfl) fun D σ H h=>uB h
   ·intro v;obtain⟨_,hc⟩:=hc;cases ix<;>first | rfl | (cases hc)
   ·cases e<;>rfl
 ·cases h
theorem zJ (C:oH X S T){n:Nat}{o:Expr}{name:Str}{es:List Expr}{c:St}{apos cpos pos:Pos}(h:wb n S o name es apos cpos=some c):PS X (.Expr (.Call (.Attribute o name apos) es [] cpos) pos) (tS X.K T c):=by
 unfold wb at h;by_cases hl:(apos.endLine==cpos.line)=true
 ·rw[if_pos hl] at h;by_cases he:es.isEmpty=true
  ·rw[if_pos he,ab] at h;have he:es=[]:=by simpa using he
   subst he;obtain⟨m,hm,h⟩:=h;rw[aa] at h;obtain⟨q,hq,rfl⟩:=h;have slot:∃ id,PySem.Slot "list" name id/\typeOf (.builtin id)=pure (.type "method_descriptor")/\MtR X id (uC X.K m):=by
    unfold sE at hm;cases hm
   obtain⟨id,s1,s2,s3⟩:=slot;exact cB (jb (zN gy s1 s2 s3 (jg C.c hq) (iS hq) hl) rfl) fun D σ H h=>qw h
  rw[if_neg he,ab] at h;obtain⟨m,hm,h⟩:=h;rw[ab] at h;obtain⟨q,hq,h⟩:=h;have slot:∃ id,PySem.Slot "list" name id/\typeOf (.builtin id)=pure (.type "method_descriptor")/\MtR X id (uC X.K m):=by
   unfold yd at hm;split at hm
   ·rename_i e;cases hm;subst e;exact⟨_,PySem.F.slot_list_append,by rfl,oK⟩
   cases hm
  obtain⟨id,s1,s2,s3⟩:=slot;split at h
  ·rename_i a;rw[aa] at h;obtain⟨cs,ha,rfl⟩:=h;obtain⟨n1,c1,d1,_,hd,_⟩:=bN ha;refine cB (jb (xT gy s1 s2 s3 (jg C.c hq) (dI (dY n C.c) ha) (iS hq) ?_ hl (bK n1) (cQ hd)) rfl) fun D σ H h=>jO h
   rw[bK n1];rfl
  ·rename_i a b;rw[aa] at h;obtain⟨cs,ha,rfl⟩:=h;obtain⟨n1,c1,d1,_,hd,_⟩:=bN ha;obtain⟨n2,_,_,_,_,_⟩:=bN hd;refine cB (jb (xT gy s1 s2 s3 (jg C.c hq) (dI (dY n C.c) ha) (iS hq) ?_ hl (bK n1) (cQ hd)) rfl) fun D σ H h=>jO h
   rw[bK n1,bK n2];rfl
  ·cases h
 ·rw[if_neg hl] at h;cases h
theorem vO (C:oH X S T){n:Nat}{o:Expr}{name:Str}{es:List Expr}{c:St}{apos cpos pos:Pos}(h:pR n S o name es apos cpos=some c):PS X (.Expr (.Call (.Attribute o name apos) es [] cpos) pos) (tS X.K T c):=by
 cases h
theorem yO (C:oH X S T){n:Nat}{tg e:Expr}{op:Operator}{c:St}{pos:Pos}(h:yW n S tg op e=some c):PS X (.AugAssign tg op e pos) (tS X.K T c):=by
 have hN:=C.c.nd;rw[<-C.c.N] at hN;unfold yW at h;split at h
 ·rename_i x px;by_cases hl:(gN S.sc x&&(op == .Add || op == .Sub))=true
  ·rw[if_pos hl,ab] at h;obtain⟨i,h1,h⟩:=h;rw[aa] at h;obtain⟨ce,h2,rfl⟩:=h;rw[aj,fh] at hl;have hi:=bC h1;rw[<-C.c.N] at hi;refine zq hN hi (C.c.loc x hl.1).1 (dY n C.c _ _ h2).1 (C.c.loc x hl.1).2 ?_;obtain⟨_,ho⟩:=hl;cases op<;>simp_all
  ·rw[if_neg hl] at h;cases h
 ·cases h
theorem zE (C:oH X S T){n:Nat}{tg e:Expr}{c:St}{pos:Pos}(h:vF n S tg e=some c):PS X (.Assign [tg] e pos) (tS X.K T c):=by
 cases h
theorem B4 (C:oH X S T):∀(n:Nat),(∀(st:Stmt) (c:St),cS n S st=some c->PS X st (tS X.K T c))/\∀(l:List Stmt) (c:cX),qQ n S l=some c->kI X l (AF X.K T c):=by
 intro n
 induction n with
 |zero=>exact⟨fun st c h=>(by cases h),fun l c h=>(by cases h)⟩
 |succ n ih =>
  obtain⟨i1,i2⟩:=ih;refine⟨fun st c h=>?_,fun l c h=>?_⟩
  ·cases st with
   |Assign tgs e p =>
    have h:cAs n S e tgs=some c:=h;cases tgs with
    |nil=>cases h
    |cons tg r=>cases r with
     |cons _ _=>cases h
     |nil =>
      have h:(match vF n S tg e with
       |some c=>some c
       |none=>xk n S tg e)=some c:=h
      cases hp:vF n S tg e with
      |some c'=>rw[hp] at h;cases h;exact zE C hp
      |none=>rw[hp] at h;exact yC C h
   |AugAssign tg op e p=>exact yO C h
   |Expr e p =>
    have h:Bo n S e=some c:=h;have plain:AL n S e=some c->PS X (.Expr e p) (tS X.K T c):=fun h=>by
     unfold AL at h;by_cases hc:eC e=true
     ·rw[if_pos hc] at h;cases h
     ·rw[if_neg hc,aa] at h;obtain⟨ce,h1,rfl⟩:=h;exact u3 (dY n C.c _ _ h1).1 (lN (by simpa using hc))
    cases e with
    |Constant k x1 q=>cases k with
     |str s=>cases h;exact yy
     |_=>exact plain h
    |Call g es ks q=>cases g with
     |Attribute o name apos=>cases ks with
      |nil =>
       have h:(match pR n S o name es apos q with
        |some c=>some c
        |none=>wb n S o name es apos q)=some c:=h
       cases ha:pR n S o name es apos q with
       |some c'=>rw[ha] at h;cases h;exact vO C ha
       |none=>rw[ha] at h;exact zJ C h
      |cons k ks=>exact plain h
     |_=>exact plain h
    |_=>exact plain h
   |Return o p=>cases o with
    |none=>cases h;exact vi
    |some e =>
     have h:(cE n S e).map .ret=some c:=h;rw[aa] at h;obtain⟨ce,h1,rfl⟩:=h;exact zD (dY n C.c _ _ h1).1
   |If e a b p =>
    have h:((cE n S e).bind fun c=>(qQ n S a).bind fun ca=>(qQ n S b).map fun cb=>St.ite c ca cb)=some c:=h;rw[ab] at h;obtain⟨cc,h1,h⟩:=h;rw[ab] at h;obtain⟨ca,h2,h⟩:=h;rw[aa] at h;obtain⟨cb,h3,rfl⟩:=h;exact zQ (dY n C.c _ _ h1).2 (i2 _ _ h2) (i2 _ _ h3)
   |For tg iter b oe p =>
    have key:∀ c,Ci n S tg iter (qQ n S b) oe=some c->PS X (.For tg iter b oe p) (tS X.K T c):=by
     intro c h;cases oe with
      |cons _ _=>cases h
      |nil =>
       have h:(if eZ iter then (qv S tg).bind fun t=>(qQ n S b).bind fun cb=>(match o7 t cb with
        |some x=>(cE n S iter).map fun c=>St.forw x c cb
        |none=>(AO S (cE n S) (isTup tg) iter).map fun it=>St.forr t it cb) else none)=some c:=h
       by_cases hs:eZ iter=true
       ·rw[if_pos hs,ab] at h;obtain⟨t,h1,h⟩:=h;rw[ab] at h;obtain⟨cb,h3,h⟩:=h;cases hx:o7 t cb with
        |some x =>
         rw[hx] at h;have h:(cE n S iter).map (fun c=>St.forw x c cb)=some c:=h;rw[aa] at h;obtain⟨ci,h2,rfl⟩:=h;have ht:=sf hx;subst ht;cases hx
        |none =>
         rw[hx] at h;have h:(AO S (cE n S) (isTup tg) iter).map (fun it=>St.forr t it cb)=some c:=h;rw[aa] at h;obtain⟨it,h2,rfl⟩:=h;exact zH C.own C.c.calm (xZ C.c (dY n C.c) h2) (sJ C.c h1) (i2 _ _ h3) (om hs)
       ·rw[if_neg hs] at h;cases h
    exact key c (rH (S:=S) (e:=iter) h)
   |While e b oe p=>cases oe with
    |cons _ _=>cases h
    |nil =>
     cases h
   |Pass p=>cases h;exact wD
   |Raise a b p=>cases h;exact wH
   |_=>cases h
  ·cases l with
   |nil=>cases h;exact vX
   |cons st r =>
    unfold qQ at h;rw[ab] at h;obtain⟨cc,h1,h⟩:=h;rw[aa] at h;obtain⟨cb,h3,rfl⟩:=h;exact sV (i1 _ _ h1) (i2 _ _ h3)
end
structure Df where
 nm:Str
 st:Stmt
 ps:List Str
 N:List Str
 body:cX
structure Pg where
 dfs:List Df
 pK:List Str
 dS:List Str
 gl:Nat->D
 fuel:Nat
noncomputable def Pg.fns (p:Pg):List Fn:=p.dfs.map fun d=>⟨d.ps.length,d.N.length,d.body⟩
noncomputable def Pg.run (p:Pg):Nat->Nat->List D->Rs (D×Bool):=Pc.run p.fns p.gl p.fuel
noncomputable def Pg.sc (p:Pg)(d:Df):Sc:=⟨d.N,aR d.st,p.dfs.map (·.nm),p.pK,p.dS⟩
noncomputable def Df.okB (p:Pg)(n:Nat)(d:Df):Bool :=
 decide ((aR d.st).kind = .function) && !(aR d.st).isCoroutine && !(aR d.st).isGenerator&&decide d.N.Nodup&&decide (d.N.take d.ps.length=d.ps)&&d.ps.all (fun x=>gN (aR d.st) x)&&(aR d.st).names.all (fun y=>decide (y.2≠.free))
structure Df.Ok (p:Pg)(d:Df):Prop where
 b:∃ n,qQ n (p.sc d) (cA d.st)=some d.body
 S:jf d.N d.ps (aR d.st)
 bd:∀(kV doc pm:Value) (an:Option Addr) (cdv ct:Value) (us:List Value),us.length=d.ps.length->bindArgs (PySem.W.fnOf d.nm d.nm (dG d.st) (cA d.st) (aR d.st) .none kV doc pm an cdv ct) ⟨us,[]⟩=pure (d.ps.zip us)
theorem nr {sc:Scope}{x:Str}(h:gN sc x=true):Loc sc x:=by
 unfold gN cG at h;split at h
 ·rename_i e;exact .inl e
 ·rename_i e;exact .inr e
 ·cases h
theorem sP {sc:Scope}{x:Str}(h:ka sc x=true):vI sc x:=by
 unfold ka cG at h;split at h
 ·rename_i e;exact .inl e
 ·rename_i e;exact .inr (.inl e)
 ·rename_i e;exact .inr (.inr e)
 ·cases h
theorem vJ {sc:Scope}{x:Str}(h:mN sc x=true):sc.names.lookup x=some .globalImplicit:=by
 unfold mN cG at h;split at h
 ·rename_i e;exact e
 ·cases h
theorem len0 {P:List Value->Prop}{us:List Value}(h:us.length=0)(f:P []):P us:=by
 cases us with
 |nil=>exact f
 |cons a r=>cases h
theorem qy {P:List Value->Prop}{us:List Value}(h:us.length=1)(f:∀ a,P [a]):P us:=by
 cases us with
 |nil=>cases h
 |cons a r=>exact len0 (P:=fun r=>P (a::r)) (Nat.succ.inj h) (f a)
theorem sH {P:List Value->Prop}{us:List Value}(h:us.length=2)(f:∀ a b,P [a,b]):P us:=by
 cases us with
 |nil=>cases h
 |cons a r=>exact qy (P:=fun r=>P (a::r)) (Nat.succ.inj h) (f a)
theorem Df.ok_of {p:Pg}{d:Df}{n:Nat}(h:d.okB p n=true)(hb:qQ n (p.sc d) (cA d.st)=some d.body)
  (bd:∀(kV doc pm:Value) (an:Option Addr) (cdv ct:Value) (us:List Value),us.length=d.ps.length->bindArgs (PySem.W.fnOf d.nm d.nm (dG d.st) (cA d.st) (aR d.st) .none kV doc pm an cdv ct) ⟨us,[]⟩=pure (d.ps.zip us)):d.Ok p:=by
 unfold Df.okB at h;simp only[Bool.and_eq_true,decide_eq_true_eq,Bool.not_eq_true',List.all_eq_true] at h;obtain⟨⟨⟨⟨⟨⟨h1,h2⟩,h3⟩,h4⟩,h5⟩,h6⟩,h7⟩:=h;exact⟨⟨n,hb⟩,⟨h1,h2,h3,h4,h5,fun x hx=>nr (h6 x hx),h7⟩,bd⟩
structure Pg.In (p:Pg)(K:Frag)(mg:Str->Option Value):Prop where
 fn:∀(i:Nat) (d:Df),p.dfs[i]? = some d->∃ f fd,L2.yi K d.nm d.nm d.st f fd/\mg d.nm=some (.ref f)
 gl:∀ i x,idxOf p.pK x=some i->∃ v u,mg x=some u/\RelV v u/\∀ H,Rep K H (p.gl i) v []
 blt:∀ x,p.dS.contains x=true->mg x=none
theorem iW {ds:List D}{n i:Nat}{d:D}{t:Tg}(h:(aN ds n)[i]? = some (some (d,t))):ds[i]? = some d/\t=bZ d []:=by
 unfold aN at h;by_cases hi:i<ds.length
 ·rw[List.getElem?_append_left (by simpa using hi),List.getElem?_map] at h;rw[List.getElem?_eq_getElem hi] at h ⊢;simp only[Option.map_some,Option.some.injEq,Prod.mk.injEq] at h;obtain⟨h1,h2⟩:=h;subst h1;exact⟨rfl,h2.symm⟩
 ·rw[List.getElem?_append_right (by simpa using Nat.le_of_not_lt hi),List.getElem?_replicate] at h;split at h<;>cases h
theorem aD.parts {K:Frag}{H:Hp}:∀{ds:List D}{vs:List V}{G:List Addr},aD K H ds vs G->∃ F:Nat->List Addr,(∀ i d,ds[i]? = some d->∃ v,vs[i]? = some v/\Rep K H d v (F i))/\(∀ i,ds[i]? = none->F i=[])/\∀ i,∀ a∈F i,a∈G
 |_,_,_,.nil=>⟨fun _=>[],fun i d h=>(by simp at h),fun _ _=>rfl,fun _ _ h=>(nomatch h)⟩
 | _,_,_,.cons (d:=d) (v:=v) (ds:=ds) (vs:=vs) (G:=G1) (G':=G2) r s=>by
  obtain⟨F,h1,h2,h3⟩:=aD.parts s;refine⟨fun i=>match i with | 0=>G1 | j+1=>F j,fun i e h=>?_,fun i h=>?_,fun i a h=>?_⟩
  ·cases i with
   |zero=>cases h;exact⟨v,rfl,r⟩
   |succ j=>exact h1 j e (by simpa using h)
  ·cases i with
   |zero=>cases h
   |succ j=>exact h2 j (by simpa using h)
  ·cases i with
   |zero=>exact bf _ h
   |succ j=>exact aq _ (h3 j a h)
theorem entry {K:Frag}{H:Hp}{ds:List D}{vs:List V}{G:List Addr}{N:List Str}(hr:aD K H ds vs G)(hl:ds.length<=N.length):∃ F,RE K (fun a=>H a≠none) (aN ds N.length) (L2.start N vs) H F/\∀ i,∀ a∈F i,a∈G:=by
 obtain⟨F,h1,h2,h3⟩:=hr.parts;have flat:∀ i d t,(aN ds N.length)[i]? = some (some (d,t))->aV t=true->F i=[]:=fun i d t h o=>by
  obtain⟨e1,e2⟩:=iW h;obtain⟨v,_,rp⟩:=h1 i d e1;unfold bZ at e2;by_cases hf:d.flat=true
  ·exact rp.flat hf
  ·rw[if_neg hf] at e2;subst e2;cases o
 refine⟨F,⟨?_,fun i d t h=>?_,fun i h=>?_,fun i d t h o=>?_,fun i d h a ha=>?_,fun a h=>h⟩,h3⟩
 ·simp only[aN,L2.start,List.length_append,List.length_map,List.length_replicate,hr.len]
 ·obtain⟨e1,e2⟩:=iW h;obtain⟨v,e3,rp⟩:=h1 i d e1;refine⟨v,?_,rp⟩;unfold L2.start;have hi:i<vs.length:=(List.getElem?_eq_some_iff.mp e3).1;rw[List.getElem?_append_left (by simpa using hi),List.getElem?_map,e3];rfl
 ·cases e:ds[i]? with
  |none=>exact h2 i e
  |some d =>
   refine absurd ?_ (h d (bZ d []));unfold aN;have hi:i<ds.length:=(List.getElem?_eq_some_iff.mp e).1;rw[List.getElem?_append_left (by simpa using hi),List.getElem?_map,e];rfl
 ·rw[flat i d t h o];exact⟨bw,fun _ h=>(nomatch h),fun _ h=>(nomatch h)⟩
 ·rw[flat i d _ h rfl] at ha;cases ha
theorem qz {α:Type}{g:α->Str}:∀{l:List α}{x:Str}{i:Nat},idxOf (l.map g) x=some i->∃ a,l[i]? = some a/\g a=x:=by
 intro l x i h;have:=bC h;rw[List.getElem?_map,aa] at this;exact this
theorem mU {H H':Hp}(e:iJ (fun a=>H a≠none) H H'):aE H H':=fun b u h=>(e.keep b (by rw[h];exact fun z=>(by cases z))).trans h
section
variable {p:Pg}{P:Program}{w:World}{K:Frag}{mg:Str->Option Value}{base:Heap}
theorem ze (hp:∀ d∈p.dfs,d.Ok p)(hi:p.In K mg)(hh:uX w K):∀(n i:Nat) (d:Df),p.dfs[i]? = some d->∀ f fd,L2.yi K d.nm d.nm d.st f fd->lA P w K mg base AH n f fd d.ps (An K d.ps.length (p.run n i)):=by
 intro n
 induction n with
 |zero =>
  intro i d hd f fd F;refine⟨fun vs H Q E h=>o8 h,fun A outer s H args us vs Q E hr he hb hv hs=>?_⟩;obtain⟨ds,G,_,_,r,h,_⟩:=hs;cases h
 |succ n ih =>
  intro i d hd f fd F;obtain⟨⟨m,hb⟩,S,_⟩:=hp d (List.mem_of_getElem? hd);refine F.ok S (fun vs H Q E h=>o8 h) fun cdv A outer s H vs Q E hr hs=>?_
  have C:oH (oq AH P w K mg base d.N d.nm (aR d.st) f cdv A outer s H E).nox (p.sc d) ⟨p.run n,p.gl,p.fuel⟩:=by
   refine⟨⟨rfl,S.nd,fun x h=>sP h,fun x h=>⟨nr h,.inl rfl⟩,fun x h=>vJ h,fun x h=>h,?_,rfl,fun j x hj=>?_,fun j x hj=>hi.gl j x hj,fun x h=>hi.blt x h⟩,rfl,S.kind,PassesOwn.never⟩
   ·exact⟨Nat.lt_of_le_of_lt (Nat.add_le_add_left (by decide:40<=64) _) hr.units,hh⟩
   ·obtain⟨e,he,hx⟩:=qz hj;obtain⟨f',fd',F',M'⟩:=hi.fn j e he;have B':=F'.binds (hp e (List.mem_of_getElem? he)).bd;subst hx;refine⟨f',fd',e.ps,n,ih j e he f' fd' F',hr,M',F'.kp,B',fun ds r h=>?_⟩;have h:p.run n j ds = .ok r:=h;cases n with
    |zero=>cases h
    |succ n =>
     unfold Pg.run Pc.run at h;have:p.fns[j]? = some ⟨e.ps.length,e.N.length,e.body⟩:=by unfold Pg.fns;rw[List.getElem?_map,he];rfl
     rw[this] at h;dsimp only at h;by_cases hl:ds.length=e.ps.length
     ·exact hl
     ·rw[if_neg hl] at h;cases h
  refine⟨_,(B4 C m).2 _ _ hb,?_⟩;obtain⟨ds,G,hl,rs,r,hrun,k⟩:=hs;unfold Pg.run Pc.run at hrun;have:p.fns[i]? = some ⟨d.ps.length,d.N.length,d.body⟩:=by unfold Pg.fns;rw[List.getElem?_map,hd];rfl
  rw[this] at hrun;dsimp only at hrun;rw[if_pos hl] at hrun;have hN:ds.length<=d.N.length:=by
   rw[hl,<-S.pre,eo];exact Nat.min_le_right _ _
  obtain⟨F0,re,hF⟩:=entry rs hN;refine⟨fun a=>H a≠none,fun a=>H a=none\/a∈G,aN ds d.N.length,F0,re,fun j a ha=>.inr (hF j a ha),fun a h=>.inl (Classical.not_not.mp h),?_⟩;show post K _ _ _ _ H _ (aF ⟨p.run n,p.gl,p.fuel⟩ d.body (aN ds d.N.length));have hrun:(match aF ⟨p.run n,p.gl,p.fuel⟩ d.body (aN ds d.N.length) with
   |.rt d fr=>Rs.ok (d,fr)
   |.nx _=>.ok (.non,true)
   |.xc e _=>.exc e
   |_=>.bad) = .ok r:=hrun
  cases hq:aF ⟨p.run n,p.gl,p.fuel⟩ d.body (aN ds d.N.length) with
  |rt dd fr =>
   rw[hq] at hrun;cases hrun;intro v H' G' rp ev z fz;exact k v H' G' (mU ev) rp z fun hf=>let ⟨a,b⟩:=fz hf;⟨a,fun x hx=>⟨Classical.not_not.mp (b x hx).1,(b x hx).2⟩⟩
  |nx e =>
   rw[hq] at hrun;cases hrun;intro σ' H' F' af;exact k .non H' [] (mU af.ev) .non (fun _ h=>(nomatch h)) fun _=>⟨bw,fun _ h=>(nomatch h)⟩
  |bk e=>rw[hq] at hrun;cases hrun
  |ct e=>rw[hq] at hrun;cases hrun
  |xc e e'=>rw[hq] at hrun;cases hrun
  |bad=>rw[hq] at hrun;cases hrun
end
noncomputable def noL (K:Frag):Bool:=K.all fun p=>match p.2.cls with
 |.type n=>!(n == "list")
 |_=>true
theorem lookup_mem:∀{K:Frag}{a:Addr}{o:Obj},K.lookup a=some o->(a,o)∈K
 |[],_,_,h=>by cases h
 | (b,x)::r,a,o,h=>by
  rw[bz] at h;cases e:a==b with
  |true =>
   rw[e] at h;cases h;rw[beq_iff_eq] at e;rw[e];exact ao
  |false=>rw[e] at h;exact ae _ (lookup_mem h)
theorem yI {K:Frag}{a:Addr}{o:Obj}(h:noL K=true)(l:K.lookup a=some o)(c:o.cls = .type "list"):False:=by
 unfold noL at h;rw[dg] at h;have:=h _ (lookup_mem l);rw[c] at this;simp at this
theorem kx {K:Frag}{H:Hp}:∀ ns:List Int,aD K H (ns.map D.int) (ns.map V.int) []
 |[]=>.nil
 |n::r=>.cons (.int n) (kx r)
theorem zR {K:Frag}{H:Hp}{a:Addr}{ns:List Int}{f:List D->Rs (D×Bool)}{E:XK}{fr:Bool}(hL:noL K=true)(hS:j6 K H a (ns.map V.int))(hf:f [.lst (ns.map D.int)] = .ok (.bl true,fr)):An K 1 f [.ref a] H (fun v _=>v = .bl true) E:=by
 rcases hS with h | ⟨o,its,n,h1,h2,_⟩
 ·refine⟨[.lst (ns.map D.int)],[a] ++ [],rfl,.cons (.lst h (kx ns)) .nil,(.bl true,fr),hf,fun v H' G' _ rp _ _=>?_⟩;exact rp.bl_inv.1
 ·exact (yI hL h1 h2).elim
noncomputable def qj (es:List DictEntry):Bool:=es.all (fun e=>match e.val with
  |.int _ _=>true
  |.none=>true
  |_=>false)&&es.any (fun e=>match e.key with
  |.str _ _=>true
  |_=>false)
noncomputable def noS (as:List Addr)(K:Frag):Bool:=K.all fun p=>as.contains p.1 || match p.2.data with
 |.dict es _=>!qj es.toList
 |_=>true
theorem eV.vals {es:List DictEntry}{kvs:List (Key×Option Int)}(h:eV es kvs):es.all (fun e=>match e.val with
  |.int _ _=>true
  |.none=>true
  |_=>false)=true:=by
 induction h with
 |nil=>rfl
 |cons hh hk hv r ih=>rw[ef,hv,ih];rfl
 |si hk hv r ih=>rw[ef,hv,ih];rfl
 |sn hk hv r ih=>rw[ef,hv,ih];rfl
theorem Cn {w:World}{K:Frag}(as:List Addr)(h:noS as K=true)(h0:∀ a∈as,∀ o es ep,K.lookup a=some o->o.data = .dict es ep->∀ e∈es.toList,∀ s t,e.key = .str s t->(a==sysModules)=false/\e.hash=hashStr w s):uX w K:=by
 intro a o es ep hl hd kvs he e hm s t hk;by_cases ha:a∈as
 ·exact h0 a ha o es ep hl hd e hm s t hk
 ·unfold noS at h;rw[dg] at h;have:=h _ (lookup_mem hl);dsimp only at this;rw[hd,show as.contains a=false by rw[Bool.eq_false_iff];intro z;exact ha (List.contains_iff_mem.mp z),Bool.false_or] at this;dsimp only at this;unfold qj at this;rw[he.vals,Bool.true_and,gh] at this;have h2:es.toList.any (fun e=>match e.key with
   |.str _ _=>true
   |_=>false)=true:=by
   rw[List.any_eq_true];exact⟨e,hm,by rw[hk]⟩
  rw[h2] at this;cases this
noncomputable def hashes (w:World):List DictEntry->Prop
 |[]=>True
 |e::r=>(match e.key with
  |.str s _=>e.hash=hashStr w s
  |_=>True)/\hashes w r
theorem Ck {w:World}{K:Frag}(h:noS [] K=true):uX w K:=Cn [] h fun a ha=>(nomatch ha)
def Has (K:Frag)(d:Df):Prop:=∃(f:Addr) (oc:Value) (od:Option Addr) (kV dc pm:Value) (an:Option Addr) (cd ct:Value) (sl:Array (Option Value)),
 PySem.W.nsIn K mainGlobals d.nm=some (some (.ref f))/\K.lookup f=some ⟨oc,od,.func (PySem.W.fnOf d.nm d.nm (dG d.st) (cA d.st) (aR d.st) .none kV dc pm an cd ct),sl⟩/\PySem.W.codeIn K cd d.nm=true/\PySem.W.keepIn K (.ref f)=true
def BU (K:Frag)(x:Str)(d:D):Prop:=∃ v u,PySem.W.nsIn K mainGlobals x=some (some u)/\RelV v u/\∀ H,Rep K H d v []
noncomputable def qA {α:Type}(P:α->Prop):List α->Prop
 |[]=>True
 |a::r=>P a/\qA P r
theorem fP {α:Type}{P:α->Prop}:∀{l:List α},qA P l->∀ a∈l,P a
 |[],_,a,h=>by cases h
 | b::r,⟨h1,h2⟩,a,h=>by
  rcases ft.mp h with rfl | h
  ·exact h1
  ·exact fP h2 a h
structure nZ (p:Pg)(K:Frag):Prop where
 fn:qA (Has K) p.dfs
 gl:∀ i x,idxOf p.pK x=some i->BU K x (p.gl i)
 blt:qA (fun x=>PySem.W.nsIn K mainGlobals x=some none) p.dS
theorem nZ.isin {p:Pg}{K:Frag}{h:Heap}{mg:Str->Option Value}(s:nZ p K)(X:K.In h)(G:h.Ns mainGlobals mg):p.In K mg where
 fn:=fun i d hd=>by
  obtain⟨f,oc,od,kV,dc,pm,an,cd,ct,sl,a,l,c,k⟩:=fP s.fn d (List.mem_of_getElem? hd);exact⟨f,_,yn (st:=d.st) l c k,PySem.W.mg_of X G a⟩
 gl:=fun i x hx=>by
  obtain⟨v,u,a,b,c⟩:=s.gl i x hx;exact⟨v,u,PySem.W.mg_of X G a,b,c⟩
 blt:=fun x hx=>PySem.W.mg_none_of X G (fP s.blt x (by simpa using hx))
theorem walk {l:PySem.W.OpenLaw}{q:Program}{loose:List Str}{XP:(Str->Option Value)->Heap->Prop}{YP:World->Heap->Prop}{d:DefRec}{K:Params->PySem.W.Frag}(p:Pg)(n i:Nat)(x:Str)(e:Df)(hn:l.most=some 63)(hdf:d.params.defaults=[])
  (hY:∀(w:World) (h:Heap),YP w h->(K w.params).In h) (hd:p.dfs[i]? = some e) (hps:e.ps=[x]) (hnm:d.name=e.nm) (hr:fL n callerA) (ok:qA (Df.Ok p) p.dfs) (st:∀ w:World,nZ p (K w.params)) (hL:∀ w:World,noL (K w.params)=true) (hH:∀ w:World,uX w (K w.params))
  (law:∀ ns:List Int,ns.length<=63->∃ fr,p.run n i [.lst (ns.map D.int)] = .ok (.bl true,fr)) :
  PySem.W.WalkO q loose XP YP l.row.toRowW d [] (fun f vs=>PySem.call f vs):=by
 refine L2.vj (n:=63) (k:=n) (x:=x) (CX:=fun _=>AH) (sp:=fun w=>An (K w.params) 1 (p.run n i)) hn (by decide) hdf hr hY (fun w mg fa h KX G hm=>?_) (fun w H a ns hl _ hS=>?_) fun _ _ _ _ _ z=>z
 ·have I:=(st w).isin KX G;obtain⟨f,fd,F,m⟩:=I.fn i e hd;rw[hnm,m] at hm;obtain rfl:f=fa:=by cases hm;rfl
  refine⟨fd,fun s u=>?_,fun base kb nb=>?_⟩
  ·obtain⟨oc,od,kV,doc,pm,an,cdv,ct,osl,rfl,lk,hcd⟩:=F.ex;have:=(fP ok e (List.mem_of_getElem? hd)).bd kV doc pm an cdv ct [u] (by rw[hps];rfl);rw[hps] at this;exact .of_eq this
  ·have:=ze (P:=l.prog) (w:=w) (base:=base) (fP ok) I (hH w) n i e hd f fd F;rw[hps] at this;exact this
 ·obtain⟨fr,h⟩:=law ns hl;exact zR (hL w) hS h
end Pc
end
section
namespace Pc
open PySem
theorem aA {α β:Type}(a:α)(f:α->Rs β):(Rs.ok a).bind f=f a:=rfl
theorem aW {α:Type}(env:En)(a:α)(k:α->Fl):fD env (.ok a) k=k a:=rfl
theorem aC (e:En)(k:En->Fl):(Fl.nx e).andThen k=k e:=rfl
theorem then_rt (d:D)(b:Bool)(k:En->Fl):(Fl.rt d b).andThen k = .rt d b:=rfl
theorem aM {α:Type}(a:α):gT (some a) = .ok a:=rfl
theorem dA (op:Operator)(i j:Int):rg op (.int i) (.int j)=(Pc.binI op i j).map .int:=by cases op<;>rfl
theorem bE (i:Int)(R:List Nat):ip (.int i) R = .mv []:=rfl
theorem jT:∀ l:List Int,D.flats (l.map D.int)=true
 |[]=>rfl
 |_::r=>jT r
theorem nz (n:Nat):∀ a b:List Int,a.length=b.length->ma (D.eqf (n+1)) (a.map D.int) (b.map D.int)=some (a==b)
 |[],[],_=>rfl
 | x::a,y::b,h=>by
  show (some (x==y)).bind (fun c=>(ma (D.eqf (n+1)) (a.map D.int) (b.map D.int)).map fun d=>c&&d)=_;rw[nz n a b (by simpa using h)];rfl
 |[],_::_,h=>by simp at h
 |_::_,[],h=>by simp at h
theorem pF (n:Nat)(a b:List Int):D.eqf (n+2) (.lst (a.map D.int)) (.lst (b.map D.int))=some (a==b):=by
 show (if (a.map D.int).length=(b.map D.int).length then ma (D.eqf (n+1)) (a.map D.int) (b.map D.int) else some false)=_;by_cases h:a.length=b.length
 ·rw[if_pos (by simpa using h),nz n a b h]
 ·rw[if_neg (by simpa using h)];have:(a==b)=false:=by
   rw[beq_eq_false_iff_ne];rintro rfl;exact h rfl
  rw[this]
theorem jX {t:jd}{R:List Nat}{b:En->Fl}(J:Nat->En->Prop):∀(l:List D) (k:Nat) (env:En),J k env ->
  (∀(i:Nat) (d:D) (e:En),l[i]? = some d->J (k+i) e->∃ e1 e2,bI R t d e=some e1/\b e1 = .nx e2/\J (k+i+1) e2)->∃ e,bP t R b l env = .nx e/\J (k+l.length) e
 |[],k,env,h,_=>⟨env,rfl,h⟩
 | d::r,k,env,h,st=>by
  obtain⟨e1,e2,h1,h2,h3⟩:=st 0 d env rfl h;obtain⟨e,q1,q2⟩:=jX J r (k+1) e2 h3 fun i d' e hi hj=>by
   have:=st (i+1) d' e (by simpa using hi) (by rw[show k+(i+1)=k+1+i by omega];exact hj);rw[show k+(i+1)+1=k+1+i+1 by omega] at this;exact this
  refine⟨e,?_,by rw[av,show k+(r.length+1)=k+1+r.length by omega];exact q2⟩;unfold bP;rw[h1];dsimp only;rw[h2];exact q1
end Pc
end
section
namespace Pc
open PySem PySem.Spec PyProof.Rows L2
theorem eE {K:Frag}{d:Df}{f:Addr}{oc:Value}{od:Option Addr}{kV dc pm:Value}{an:Option Addr}{cd ct:Value}{sl:Array (Option Value)}
 (a:PySem.W.nsIn K mainGlobals d.nm=some (some (.ref f))) (l:K.lookup f=some ⟨oc,od,.func (PySem.W.fnOf d.nm d.nm (dG d.st) (cA d.st) (aR d.st) .none kV dc pm an cd ct),sl⟩) (c:PySem.W.codeIn K cd d.nm=true) (k:PySem.W.keepIn K (.ref f)=true):Has K d :=
 ⟨f,oc,od,kV,dc,pm,an,cd,ct,sl,a,l,c,k⟩
end Pc
end
section
namespace Pc.Hd
open PySem PySem.W L2
noncomputable def sv (x:String)(t:Tok):Value:=.str (Str.ofString x) t
noncomputable def kv (P:Params)(x:String)(t:Tok)(v:Value):DictEntry:=⟨PyData.keyHash P (Str.ofString x),sv x t,v⟩
noncomputable def t7:Stmt->Str
 |.FunctionDef n ..=>n
 |_=>Str.ofString ""
noncomputable def fo (a:Addr)(s:Stmt)(m c:Value):Addr×Obj:=(a,⟨.type "function",none,.func { name:=t7 s,qualname:=t7 s,params:=dG s,body:=.stmts (cA s),scope:=aR s,globals:=mainGlobals,closure:=[],defaults:=.none,kwdefaults:=.none,pyModule:=m,code:=c },#[]⟩)
noncomputable def co (a:Addr)(vs:Array Value):Addr×Obj:=(a,⟨.type "code",none,.fields vs,#[]⟩)
noncomputable def di (a:Addr)(es:Array DictEntry)(n:Nat):Addr×Obj:=(a,⟨.type "dict",none,.dict es n,#[]⟩)
end Pc.Hd
end
section
namespace Fl64
noncomputable def dbl (a:Nat):Nat:=if 64<=2*a then (2*a)^^^67 else 2*a
noncomputable def BD:Nat->Nat->Nat->Nat->Nat
 |0,p,_,_=>p
 |n+1,p,d,l=>if l=0 then p else BD n (if l%2=1 then p^^^d else p) (dbl d) (l / 2)
noncomputable def tm (a b:Nat):Nat:=BD 6 0 a b
noncomputable def allB (n:Nat)(f:Nat->Bool):Bool:=match n with
 |0=>true
 |k+1=>f k&&allB k f
theorem zI {a b:Nat}(ha:a<64)(hb:b<64):a^^^b<64:=Nat.xor_lt_two_pow (n:=6) ha hb
end Fl64
end
section
namespace Pc
open PySem
theorem nJ:∀(n a b:Nat),a<2 ^ n->(a^^^b)+(a &&& b)=a ||| b
 | 0,a,b,h=>by
  have:a=0:=by simpa using h
  subst this;simp
 | n+1,a,b,h=>by
  have ih:=nJ n (a / 2) (b / 2) (by rw[Nat.pow_succ] at h;omega);have x1:(a^^^b) / 2=(a / 2)^^^(b / 2):=by have:=@Nat.shiftRight_xor_distrib 1 a b;simpa[Nat.shiftRight_eq_div_pow] using this
  have x2:(a &&& b) / 2=(a / 2) &&& (b / 2):=by have:=@Nat.shiftRight_and_distrib 1 a b;simpa[Nat.shiftRight_eq_div_pow] using this
  have x3:(a ||| b) / 2=(a / 2) ||| (b / 2):=by have:=@Nat.shiftRight_or_distrib 1 a b;simpa[Nat.shiftRight_eq_div_pow] using this
  have y1:=@Nat.xor_mod_two_pow a b 1;have y2:=@Nat.and_mod_two_pow a b 1;have y3:=@Nat.or_mod_two_pow a b 1;rw[Nat.pow_one] at y1 y2 y3;have z:(a%2^^^b%2)+(a%2 &&& b%2)=a%2 ||| b%2:=by
   rcases Nat.mod_two_eq_zero_or_one a with ha | ha<;>rcases Nat.mod_two_eq_zero_or_one b with hb | hb<;>rw[ha,hb]<;>rfl
  have d1:=Nat.div_add_mod (a^^^b) 2;have d2:=Nat.div_add_mod (a &&& b) 2;have d3:=Nat.div_add_mod (a ||| b) 2;rw[x1,y1] at d1;rw[x2,y2] at d2;rw[x3,y3] at d3;omega
theorem nW (a b:Nat):Builtin.bitAnd (a:Int) (b:Int)=((a &&& b:Nat):Int):=by
 unfold Builtin.bitAnd;rw[bu (gr a),bu (gr b)];rfl
theorem rm (a b:Nat):Builtin.bitOr (a:Int) (b:Int)=((a ||| b:Nat):Int):=by
 unfold Builtin.bitOr Builtin.bitAnd Builtin.bitNot;rw[ay (by omega),ay (by omega)];have e:∀ c:Nat,(-(-(c:Int) - 1) - 1).toNat=c:=fun c=>by omega
 show -(-((((-(-(a:Int) - 1) - 1).toNat ||| (-(-(b:Int) - 1) - 1).toNat:Nat):Int)) - 1) - 1=_;rw[e,e];omega
theorem vv (a b:Nat):Builtin.bitXor (a:Int) (b:Int)=((a^^^b:Nat):Int):=by
 unfold Builtin.bitXor;rw[nW,rm,<-nJ a a b (Nat.lt_two_pow_self)];omega
noncomputable abbrev sI (i:Int):Slot:=some (.int i,.own)
noncomputable abbrev sN (i:Nat):Slot:=some (.int (i:Int),.own)
noncomputable def ret (f:Fl):Rs (D×Bool):=match f with
 |.rt d fr=>.ok (d,fr)
 |.nx _=>.ok (.non,true)
 |.xc e _=>.exc e
 |_=>.bad
theorem eH {fns:List Fn}{gl:Nat->D}{fuel n i:Nat}{F:Fn}{ds:List D}(h:fns[i]? = some F)(hl:ds.length=F.ps):Pc.run fns gl fuel (n+1) i ds=ret (aF ⟨Pc.run fns gl fuel n,gl,fuel⟩ F.body (aN ds F.slots)):=by
 unfold Pc.run;rw[h];dsimp only;rw[if_pos hl];rfl
theorem iB {a m:Int}(h0:0<=a)(h1:a<m):∃ n:Nat,a=(n:Int)/\(n:Int)<m:=⟨a.toNat,by omega,by omega⟩
noncomputable abbrev sS (S:List D):Slot:=some (.lst S,.sh [])
theorem tR {x:Int}(h0:0<=x)(h1:x<2147483648):small x=true:=bu ⟨by omega,by omega⟩
theorem gP {n k:Nat}(h:k<n):gE n (k:Int)=some k:=by
 unfold gE;rw[if_pos (by omega),if_pos (by omega),dk]
theorem kC:∀(n:Nat) (a:Int) (i:Nat) (d:D),(aQ a 1 n)[i]? = some d->i<n/\d = .int (a+i)
 |0,a,i,d,h=>by simp[aQ] at h
 |n+1,a,0,d,h=>by simp[aQ] at h;exact⟨by omega,by rw[<-h];simp⟩
 | n+1,a,i+1,d,h=>by
  rw[aQ,List.getElem?_cons_succ] at h;obtain⟨h1,h2⟩:=kC n (a+1) i d h;refine⟨by omega,?_⟩;rw[h2];congr 1;omega
theorem tT (env:En):lock [] env=env:=by
 unfold lock;have:∀(l:En) (k:Nat),(l.mapIdx fun i (s:Slot)=>match s with
  | some (d,.own)=>if ([]:List Nat).contains i then some (d,.lk) else some (d,.own)
  |s=>s)=l:=fun l k=>by
  rw[List.mapIdx_eq_iff];intro i;cases h:l[i]? with
  |none=>rfl
  |some s =>
   cases s with
   |none=>rfl
   |some p=>obtain⟨d,t⟩:=p;cases t<;>rfl
 exact this env 0
theorem fin (T:Tb)(e:En):ret (aF T (.cons (.ret (.cst (.bl true))) .nil) e) = .ok (.bl true,true):=rfl
theorem oo (e0 env:En):unlock [] e0 env=env:=by
 unfold unlock;rw[List.mapIdx_eq_iff];intro i;cases h:env[i]? with
 |none=>rfl
 |some s =>
  cases s with
  |none=>rfl
  |some p =>
   obtain⟨d,t⟩:=p;cases t with
   |lk =>
    simp only[Option.map_some];split<;>rfl
   |own=>rfl
   |sh R=>rfl
theorem dF {T:Tb}{t:jd}{it:qK}{b:cX}{env e:En}{l:List D}(hit:fU T it env = .ok (l,[]))(h:bP t [] (aF T b) l env = .nx e):bL T (.forr t it b) env = .nx e:=by
 rw[bL,hit,aW];dsimp only;rw[tT,h];dsimp only;rw[oo]
noncomputable abbrev sq (M:List (List D)):D:=.lst (M.map D.lst)
noncomputable def okC:D->Bool
 |.int _=>true
 |.non=>true
 |_=>false
structure Sqr (n:Nat)(M:List (List D)):Prop where
 len:M.length=n
 row:∀ r∈M,r.length=n
 cell:∀ r∈M,∀ d∈r,okC d=true
noncomputable def Bp (M:List (List D)):List (List D):=M.map List.reverse
theorem jC {f:D->Rs (Option (D×Rt))}{g:D->D×Rt}:∀{l:List D},(∀ d∈l,f d = .ok (some (g d)))->eF f l = .ok (l.map g)
 |[],_=>rfl
 | d::l,h=>by
  simp only[List.map_cons,eF];rw[h d ao,jC fun j hj=>h j (ae _ hj)];rfl
theorem lG {T:Tb}{own:Nat}{pick:List Nat}{t:jd}{it:qK}{e:Ex}{env:En}{l:List D}{R:List Nat}{g:D->D×Rt}(hit:fU T it env = .ok (l,R))(hl:l.length<=lim)(hg:∀ d∈l,dQ (bI [] t d (cR env own pick)) (wY T .none) (ev T e) = .ok (some (g d)))(hf:∀ d∈l,((g d).1.flat || fZ (g d).2)=true) :
  ev T (.comp own pick t it .none e) env = .ok (.lst (l.map fun d=>(g d).1),.mv []):=by
 rw[ev,hit,aA,jC hg,aA];dsimp only;rw[if_pos hl,if_pos]
 ·rw[cg];rfl
 ·rw[List.all_map,dg];exact hf
theorem dZ {l:List D}(h:D.flats l=true)(R:List Nat):ip (.lst l) R = .mv []:=by
 unfold ip;rw[if_pos];exact h
theorem oC {T:Tb}{e:Ex}{env:En}{d:D}(h:ev T e env = .ok (d,.mv [])):ret (aF T (.cons (.ret e) .nil) env) = .ok (d,true):=by
 rw[aF,bL,h,aW];rfl
theorem fG {n:Nat}(h:n<=1000):n<=lim:=bh h (by decide)
theorem l7 (T:Tb)(env:En)(e:Ex)(j:Int)(r:Rt)(he:ev T e env = .ok (.int j,r))(h1:fI j=true):fU T (.rng1 e) env = .ok (aQ 0 1 j.toNat,[]):=by
 rw[fU,he,aA];show (if fI j=true then Rs.ok (aQ 0 1 j.toNat,[]) else .bad)=_;rw[if_pos h1]
theorem tK {n:Nat}(h:n<=1000):fI (n:Int)=true:=by
 unfold fI;exact bu ⟨gq (by decide) (gr n),Int.lt_of_le_of_lt (Int.ofNat_le.mpr h) (by decide)⟩
def aP (s:Slot):Prop:=s=none\/(∃ d,s=some (d,.own))\/(∃ d,s=some (d,.sh []))\/∃ d,s=some (d,.lk)
def Tame (env:En):Prop:=∀ s∈env,aP s
theorem aK:aP none:=.inl rfl
theorem aB (d:D):aP (some (d,.own)):=.inr (.inl ⟨d,rfl⟩)
theorem bJ (d:D):aP (some (d,.sh [])):=.inr (.inr (.inl ⟨d,rfl⟩))
theorem u7 (d:D):aP (some (d,.lk)):=.inr (.inr (.inr ⟨d,rfl⟩))
theorem Tame.nil:Tame []:=fun _ h=>(nomatch h)
theorem Tame.cons {s:Slot}{e:En}(h:aP s)(t:Tame e):Tame (s::e):=fun x hx=>by
 rcases ft.mp hx with rfl | hx
 ·exact h
 ·exact t x hx
theorem Tame.set {e:En}{s:Slot}(t:Tame e)(h:aP s)(i:Nat):Tame (e.set i s):=fun x hx=>by
 rcases gv hx with q | q
 ·exact t x q
 ·rw[q];exact h
theorem eI {env:En}(h:Tame env)(i:Nat)(d:D)(t:Tg):put env i d t=env.set i (some (d,t)):=by
 unfold put;have:env.map (fun (s:Slot)=>s.map fun (p:D×Tg)=>(p.1,p.2.drop i))=env:=by
  conv=>rhs;rw[<-List.map_id env]
  refine eg fun s hs=>?_
  rcases h s hs with rfl | ⟨d,rfl⟩ | ⟨d,rfl⟩ | ⟨d,rfl⟩<;>rfl
 rw[this]
theorem rj {env:En}(h:Tame env)(R:List Nat):kill R env=env.mapIdx fun i s=>if R.contains i then none else s:=by
 unfold kill;apply List.ext_getElem?;intro i;rw[List.getElem?_mapIdx,List.getElem?_mapIdx];cases q:env[i]? with
 |none=>rfl
 |some s =>
  rcases h s (List.mem_of_getElem? q) with rfl | ⟨d,rfl⟩ | ⟨d,rfl⟩ | ⟨d,rfl⟩
  ·simp
  ·simp[fV]
  ·simp[fV]
  ·simp[fV]
theorem jE {env:En}(h:Tame env)(x:Nat)(s:Slot):(kill [x] env).set x s=env.set x s:=by
 rw[rj h];apply List.ext_getElem?;intro i;by_cases hi:i=x
 ·subst hi;by_cases hl:i<env.length
  ·rw[List.getElem?_set_self (by simpa using hl),List.getElem?_set_self hl]
  ·rw[List.getElem?_eq_none (by simp;omega),List.getElem?_eq_none (by simp;omega)]
 ·rw[List.getElem?_set_ne (dh hi),List.getElem?_set_ne (dh hi),List.getElem?_mapIdx];cases q:env[i]? with
  |none=>rfl
  |some s=>simp[hi]
section
variable {T:Tb}{env:En}
theorem bO {i:Nat}{e:Ex}{d:D}(ht:Tame env)(hi:i<env.length)(h:ev T e env = .ok (d,.mv [])):bL T (.asg (.nm i) e false) env = .nx (env.set i (some (d,.own))):=by
 rw[bL,h,aW];show (if i<env.length then Fl.nx (put env i d .own) else .bad)=_;rw[if_pos hi,eI ht]
theorem cZ {i:Nat}{d:D}(ht:Tame env)(hi:i<env.length):bI [] (.nm i) d env=some (env.set i (some (d,bZ d []))):=by
 show (if i<env.length then some (put env i d (bZ d [])) else none)=_;rw[if_pos hi,eI ht]
theorem bF {i:Nat}{d:D}(h:env[i]? = some (some (d,.own)))(hf:d.flat=false):ev T (.var i) env = .ok (d,.mv [i]):=by
 rw[ev,h];dsimp only;rw[hf];rfl
theorem aL {i:Nat}{d:D}{t:Tg}(h:env[i]? = some (some (d,t)))(hf:d.flat=true):ev T (.var i) env = .ok (d,.mv []):=by
 rw[ev,h];dsimp only;rw[if_pos hf]
theorem wm {i:Nat}{d:D}{t:Tg}(h:env[i]? = some (some (d,t))):∃ R,ev T (.var i) env = .ok (d,R):=by
 rw[ev,h];exact⟨_,rfl⟩
theorem nh (xs:List D)(d:D):uu .append xs [d]=some (xs ++ [d]):=rfl
theorem A6 (xs ys:List D):uu .extend xs [.lst ys]=if D.flats ys then some (xs++ys) else none:=rfl
theorem i9 {x:Nat}{e:Ex}{xs:List D}{d:D}(ht:Tame env)(hx:env[x]? = some (some (.lst xs,.own)))(h:ev T e env = .ok (d,.mv []))(hl:xs.length+1<=lim):bL T (.mut x .none .append (.cons e .nil)) env = .nx (env.set x (some (.lst (xs ++ [d]),.own))):=by
 have ho:ownAt env x=some (.lst xs):=by unfold ownAt;rw[hx]
 have hs:bQ T (.cons e .nil) env = .ok [(d,.mv [])]:=by
  rw[bQ,h,aA];rfl
 rw[bL,ho];simp only[kf,aW,D.at1,hs,List.map_cons,List.map_nil,nh,aO,Rt.roots,List.flatten_cons,List.flatten_nil,List.append_nil,List.contains_nil,Bool.false_eq_true,if_false,mZ.copies,fF,cN,Option.map_some];have:(xs ++ [d]).length<=lim:=by rw[au];exact hl
 simp only[List.nodup_nil,decide_true,eW,List.all_nil,Bool.not_false,Bool.and_self,this,if_true,D.set1,Bool.true_and];rw[jE ht]
theorem uE {x:Nat}{p e:Ex}{xs ys:List D}{d:D}{i:Int}{j:Nat}{R:Rt}(ht:Tame env)(hx:env[x]? = some (some (.lst xs,.own)))(hp:ev T p env = .ok (.int i,R))(hi:Pc.gE xs.length i=some j)(hj:xs[j]? = some (.lst ys))(h:ev T e env = .ok (d,.mv []))(hl:ys.length+1<=lim) :
  bL T (.mut x (.some p) .append (.cons e .nil)) env = .nx (env.set x (some (.lst (xs.set j (.lst (ys ++ [d]))),.own))):=by
 have ho:ownAt env x=some (.lst xs):=by unfold ownAt;rw[hx]
 have hs:bQ T (.cons e .nil) env = .ok [(d,.mv [])]:=by
  rw[bQ,h,aA];rfl
 have hat:D.at1 (.lst xs) (some i)=some ys:=by simp[D.at1,hi,hj]
 rw[bL,ho];simp only[kf,hp,aA,aW,hat,hs,List.map_cons,List.map_nil,nh,aO,Rt.roots,List.flatten_cons,List.flatten_nil,List.append_nil,List.contains_nil,Bool.false_eq_true,if_false,mZ.copies,fF,cN,Option.map_some];have:(ys ++ [d]).length<=lim:=by rw[au];exact hl
 simp only[List.nodup_nil,decide_true,eW,List.all_nil,Bool.not_false,Bool.and_self,this,if_true,D.set1,hi,Bool.true_and];rw[jE ht]
theorem wZ {x:Nat}{k e:Ex}{xs:List D}{d:D}{l:Int}{m:Nat}{R':Rt}(ht:Tame env)(hx:env[x]? = some (some (.lst xs,.own)))(hk:ev T k env = .ok (.int l,R'))(hm:Pc.gE xs.length l=some m)(h:ev T e env = .ok (d,.mv []))(hl:xs.length<=lim) :
  bL T (.setix x .none k e) env = .nx (env.set x (some (.lst (xs.set m d),.own))):=by
 have ho:ownAt env x=some (.lst xs):=by unfold ownAt;rw[hx]
 have hll:(xs.set m d).length<=lim:=by rw[dn];exact hl
 rw[bL,ho];simp only[h,aW,kf,D.at1,hk,hm,fF,cN,Option.map_some,List.append_nil,List.nodup_nil,decide_true,eW,List.all_nil,List.contains_nil,Bool.not_false,Bool.and_self,hll,if_true,D.set1,Bool.true_and];rw[jE ht]
theorem ite_ff {c:Ex}{a:cX}{R:Rt}(h:ev T c env = .ok (.bl false,R)):bL T (.ite c a .nil) env = .nx env:=by
 rw[bL,h,aW];rfl
theorem iw {a b:Ex}{R R':Rt}(h:ev T a env = .ok (.bl false,R))(h':ev T b env = .ok (.bl false,R')):ev T (.or a b) env = .ok (.bl false,R'):=by
 rw[ev,h,aA,h']
theorem nk {a:Ex}{R:Rt}(h:ev T a env = .ok (.bl true,R)):ev T (.not a) env = .ok (.bl false,.mv []):=by
 rw[ev,h,aA];rfl
theorem cY {a b:Ex}{d:D}{R R':Rt}(h:ev T a env = .ok (d,R))(h':ev T b env = .ok (d,R'))(he:D.eqf 40 d d=some true):ev T (.cmp .NotEq a b) env = .ok (.bl false,.mv []):=by
 rw[ev,h,aA,h',aA];show (gT ((D.eqf 40 d d).map (!·))).bind _=_;rw[he];rfl
theorem rN {x:Nat}{d:D}(hx:env[x]? = some (some (d,.own))):lock [x] env=env.set x (some (d,.lk)):=by
 unfold lock;apply List.ext_getElem?;intro i;rw[List.getElem?_mapIdx];by_cases hi:i=x
 ·subst hi;have hl:i<env.length:=(List.getElem?_eq_some_iff.mp hx).1;rw[List.getElem?_set_self hl,hx];simp
 ·rw[List.getElem?_set_ne (dh hi)];cases q:env[i]? with
  |none=>rfl
  |some s =>
   cases s with
   |none=>rfl
   |some p =>
    obtain⟨d,t⟩:=p;cases t with
    |own=>simp[hi]
    |lk=>rfl
    |sh R=>rfl
theorem oU {x:Nat}{d d':D}{e:En}(hx:env[x]? = some (some (d,.own)))(he:e[x]? = some (some (d',.lk))):unlock [x] env e=e.set x (some (d',.own)):=by
 unfold unlock;apply List.ext_getElem?;intro i;rw[List.getElem?_mapIdx];by_cases hi:i=x
 ·subst hi;have hl:i<e.length:=(List.getElem?_eq_some_iff.mp he).1;rw[List.getElem?_set_self hl,he];simp[hx]
 ·rw[List.getElem?_set_ne (dh hi)];cases q:e[i]? with
  |none=>rfl
  |some s =>
   cases s with
   |none=>rfl
   |some p =>
    obtain⟨d,t⟩:=p;cases t with
    |own=>rfl
    |lk =>
     simp only[Option.map_some];split
     ·simp[hi]
     ·rfl
    |sh R=>rfl
theorem wC {t:jd}{it:qK}{b:cX}{e:En}{l:List D}{x:Nat}{d d':D}(hx:env[x]? = some (some (d,.own)))(hit:fU T it env = .ok (l,[x]))(h:bP t [x] (aF T b) l (env.set x (some (d,.lk))) = .nx e)(he:e[x]? = some (some (d',.lk))):bL T (.forr t it b) env = .nx (e.set x (some (d',.own))):=by
 rw[bL,hit,aW];dsimp only;rw[rN hx,h];dsimp only;rw[oU hx he]
theorem k9 {i j:Nat}{x y:D}{R:List Nat}(ht:Tame env)(hi:i<env.length)(hj:j<env.length)(fx:x.flat=true)(fy:y.flat=true):bI R (.tp [i,j]) (.tup [x,y]) env=some ((env.set i (some (x,.own))).set j (some (y,.own))):=by
 show bindM (fun d=>bZ d R) [i,j] [x,y] env=_;have tx:bZ x R = .own:=by unfold bZ;rw[if_pos fx]
 have ty:bZ y R = .own:=by unfold bZ;rw[if_pos fy]
 simp only[bindM,hi,if_true,tx,ty];rw[eI ht,if_pos (by rw[dn];exact hj),eI (ht.set (aB x) i)]
end
end Pc
end
section
namespace Pc
end Pc
namespace Pc.Sm
open PySem Pc
noncomputable def b6:cX:=(.cons (.ret (.bin .Mod (.bin .Mult (.bin .Add (.bin .Add (.var 0) (.bin .Mult (.var 1) (.var 1))) (.cst (.int (1)))) (.var 2)) (.cst (.int (2305843009213693951)))))
  .nil)
noncomputable def e7:Ex:=.comp 1 [] (.nm 0) (.seq (.sl (.var 0) .none (.some (.cst (.int (63)))))) .none (.bin .Mod (.var 0) (.cst (.int (1000003))))
noncomputable def b7:cX:=(.cons (.ret (.call 6 (.cons (.blt .sum (.cons e7 .nil)) (.cons (.bin .Mod (.blt .len (.cons (.var 0) .nil)) (.cst (.int (64)))) (.cons (.var 1) .nil)))))
  .nil)
noncomputable def b8:cX:=(.cons (.ret (.ix (.lst (.cons (.cst (.int (15))) (.cons (.cst (.int (15))) (.cons (.cst (.int (15))) (.cons (.cst (.int (19))) (.cons (.cst (.int (15))) (.cons (.cst (.int (15))) (.cons (.cst (.int (23))) (.cons (.cst (.int (15))) (.cons (.cst (.int (19))) (.cons (.cst (.int (15))) (.cons (.cst (.int (27))) (.cons (.cst (.int (15))) (.cons (.cst (.int (15))) (.cons (.cst (.int (19))) (.cons (.cst (.int (15))) (.cons (.cst (.int (31))) .nil))))))))))))))))) (.bin .Mod (.var 0) (.cst (.int (16))))))
  .nil)
noncomputable def b9c:cX:=(.cons (.asg (.nm 1) (.bin .Mod (.bin .Mult (.bin .Add (.var 1) (.var 5)) (.cst (.int (40692)))) (.cst (.int (2147483399)))) false)
  (.cons (.mut 4 .none .append (.cons (.ix (.lst (.cons (.cst (.int (0))) (.cons (.cst (.int (1))) (.cons (.cst (.int (0))) (.cons (.cst (.int (1))) (.cons (.cst .non) .nil)))))) (.bin .Mod (.bin .FloorDiv (.var 1) (.cst (.int (7)))) (.cst (.int (5))))) .nil))
  .nil))
noncomputable def s9:St:=.mut 2 .none .append (.cons (.var 4) .nil)
noncomputable def b9r:cX:=(.cons (.asg (.nm 4) (.lst .nil) false)
  (.cons (.forr (.nm 5) (.rng1 (.var 0)) b9c)
  (.cons s9
  .nil)))
noncomputable def b9:cX:=(.cons (.asg (.nm 2) (.lst .nil) false)
  (.cons (.forr (.nm 3) (.rng1 (.var 0)) b9r)
  (.cons (.ret (.var 2))
  .nil)))
theorem kh (p:D×Rt):List.map (fun x:D×Rt=>x.1) [p]=[p.1]:=rfl
theorem yT (p q:D×Rt):List.map (fun x:D×Rt=>x.1) [p,q]=[p.1,q.1]:=rfl
theorem pQ {T:Tb}{f:Nat}{e1:Ex}{env:En}{d1 r:D}{R1:Rt}(h1:ev T e1 env = .ok (d1,R1))(h:T.cl f [d1] = .ok (r,true)):ev T (.call f (.cons e1 .nil)) env = .ok (r,.mv []):=by
 have:bQ T (.cons e1 .nil) env = .ok [(d1,R1)]:=by
  rw[bQ,h1,aA];rfl
 rw[ev,this,aA,kh,h,aA];rfl
theorem gZ {T:Tb}{f:Nat}{e1 e2:Ex}{env:En}{d1 d2 r:D}{R1 R2:Rt}(h1:ev T e1 env = .ok (d1,R1))(h2:ev T e2 env = .ok (d2,R2))(h:T.cl f [d1,d2] = .ok (r,true)):ev T (.call f (.cons e1 (.cons e2 .nil))) env = .ok (r,.mv []):=by
 have:bQ T (.cons e1 (.cons e2 .nil)) env = .ok [(d1,R1),(d2,R2)]:=by
  rw[bQ,h1,aA,bQ,h2,aA];rfl
 rw[ev,this,aA,yT,h,aA];rfl
noncomputable def e8:Ex:=(.lst (.cons (.cst (.int (15))) (.cons (.cst (.int (15))) (.cons (.cst (.int (15))) (.cons (.cst (.int (19))) (.cons (.cst (.int (15))) (.cons (.cst (.int (15))) (.cons (.cst (.int (23))) (.cons (.cst (.int (15))) (.cons (.cst (.int (19))) (.cons (.cst (.int (15))) (.cons (.cst (.int (27))) (.cons (.cst (.int (15))) (.cons (.cst (.int (15))) (.cons (.cst (.int (19))) (.cons (.cst (.int (15))) (.cons (.cst (.int (31))) .nil)))))))))))))))))
theorem sum_ints:∀(l:List Int) (a:Int),oS a (l.map D.int)=some (a+l.sum)
 |[],a=>by simp[oS]
 | x::r,a=>by
  rw[aw,oS,sum_ints r,fq];congr 1;omega
noncomputable abbrev sO (L:List D):Slot:=some (.lst L,.own)
end Pc.Sm
end
section
namespace Fl64
def Gr (l:List Nat):Prop:=∀ g∈l,g<64
noncomputable def hor (x w:Nat)(l:List Nat):Nat:=l.foldl (fun w g=>tm w x^^^g) w
noncomputable abbrev wth (x:Nat)(l:List Nat):Nat:=hor x 0 l
noncomputable def pw (x:Nat):Nat->Nat
 |0=>1
 |n+1=>tm (pw x n) x
noncomputable def wQ (c:Nat):List Nat:=(List.range' 1 c).map (pw 2)
theorem wc {l:List Nat}(h:Gr l)(p:Nat):l.getD p 0<64:=by
 rw[List.getD_eq_getElem?_getD];cases q:l[p]? with
 |none=>decide
 |some g=>exact h g (List.mem_of_getElem? q)
theorem yJ {l:List Nat}(h:Gr l){p g:Nat}(hg:g<64):Gr (l.set p (l.getD p 0^^^g)):=fun z hz=>by
 rcases gv hz with q | q
 ·exact h z q
 ·rw[q];exact zI (wc h p) hg
def isC (l:List Nat)(c:Nat):Prop:=∀ x∈wQ c,wth x l=0
noncomputable instance (l:List Nat) (c:Nat):Decidable (isC l c):=by unfold isC;infer_instance
end Fl64
end
section
namespace Pc.Gr
open PySem Pc Pc.Sm
noncomputable abbrev gD (gs:List Nat):List D:=gs.map fun (g:Nat)=>D.int (g:Int)
noncomputable abbrev gI (gs:List Nat):List Int:=gs.map fun (g:Nat)=>(g:Int)
theorem lu (gs:List Nat):gD gs=(gI gs).map D.int:=by rw[cg];rfl
theorem pT (gs:List Nat):D.flats (gD gs)=true:=by rw[lu];exact jT _
theorem Ao (gs:List Nat):D.eqf 40 (.lst (gD gs)) (.lst (gD gs))=some true:=by rw[lu,pF 38];simp
theorem eJ (a b:List Nat):gD (a++b)=gD a++gD b:=cw ..
theorem cJ (a:List Nat):(gD a).length=a.length:=ak ..
noncomputable abbrev sG (gs:List Nat):Slot:=some (.lst (gD gs),.sh [])
noncomputable abbrev oG (gs:List Nat):Slot:=some (.lst (gD gs),.own)
theorem Ab {gs:List Nat}{i:Nat}(h:i<gs.length):(gD gs)[i]? = some (.int ((gs.getD i 0:Nat):Int)):=by
 rw[List.getElem?_map,List.getD_eq_getElem?_getD,List.getElem?_eq_getElem h];rfl
theorem A9 {gs:List Nat}{i:Nat}(h:i<gs.length):AR (.lst (gD gs)) (.int (i:Int))=some (.int ((gs.getD i 0:Nat):Int)):=by
 show (Pc.gE (gD gs).length (i:Int)).bind (fun j=>(gD gs)[j]?)=_;rw[gP (by rw[cJ];exact h)];exact Ab h
theorem y0 (gs:List Nat)(i g:Nat):(gD gs).set i (.int (g:Int))=gD (gs.set i g):=by rw[gD,gD,List.map_set]
noncomputable abbrev AS (k:Nat)(gs:List Nat):List D:=(gs.zipIdx k).map fun (q:Nat×Nat)=>D.tup [.int (q.2:Int),.int (q.1:Int)]
theorem zZ (gs:List Nat):((gD gs).zipIdx.map fun (q:D×Nat)=>D.tup [.int q.2,q.1])=AS 0 gs:=by
 rw[gD,List.zipIdx_map,cg];rfl
theorem mw (k g:Nat)(gs:List Nat):AS k (g::gs) = .tup [.int (k:Int),.int (g:Int)]::AS (k+1) gs:=by
 rw[AS,List.zipIdx_cons,aw]
theorem Cj (gs:List Nat):jx .len [.lst (gD gs)]=some (.int (gs.length:Int)):=by
 show some (D.int ((gD gs).length:Int))=_;rw[cJ]
theorem sX {T:Tb}{env:En}{i:Nat}{gs:List Nat}{t:Tg}(h:env[i]? = some (some (.lst (gD gs),t))):ev T (.blt .len (.cons (.var i) .nil)) env = .ok (.int (gs.length:Int),.mv []):=by
 obtain⟨R,hv⟩:=wm (T:=T) h;have h1:bQ T (.cons (.var i) .nil) env = .ok [(.lst (gD gs),R)]:=by
  rw[bQ,hv,aA];rfl
 rw[ev,h1,aA,kh,Cj,aM,aA,bE]
theorem hW:∀(m a:Nat),aQ (a:Int) 1 m=(List.range' a m).map fun (k:Nat)=>D.int (k:Int)
 |0,a=>rfl
 | m+1,a=>by
  rw[aQ,List.range'_succ,aw,<-hW m (a+1)];congr 2
structure CE (d:List Nat)(c:Nat)(D l:List Nat)(e:En):Prop where
 te:Tame e
 len:e.length=8
 h0:e[0]? = some (sG d)
 h2:e[2]? = some (oG D)
 h3:e[3]? = some (oG l)
end Pc.Gr
end
section
namespace Fl64
end Fl64
namespace Pc.Lw
open PySem Pc Pc.Sm Pc.Gr
noncomputable def bWh:cX:=(.cons (.ret (.and (.blt (.isi "int") (.cons (.var 0) .nil)) (.not (.blt (.isi "bool") (.cons (.var 0) .nil)))))
  .nil)
theorem BE {T:Tb}(x:Int):Pc.ret (aF T bWh (aN [.int x] 1)) = .ok (.bl true,true):=rfl
noncomputable def bCe:cX:=(.cons (.ite (.cmp .Lt (.var 1) (.blt .len (.cons (.var 0) .nil))) (.cons (.ret (.ix (.var 0) (.var 1)))
  .nil) .nil)
  (.cons (.ret (.bin .Mult (.cst (.int (1000003))) (.bin .Add (.var 1) (.cst (.int (1))))))
  .nil))
theorem xN (ns:List Int):jx .len [.lst (ns.map D.int)]=some (.int (ns.length:Int)):=by
 show some (D.int ((ns.map D.int).length:Int))=_;rw[ak]
theorem Cr {ns:List Int}{k:Nat}(h:k<ns.length):AR (.lst (ns.map D.int)) (.int (k:Int))=some (.int ns[k]):=by
 show (Pc.gE (ns.map D.int).length (k:Int)).bind (fun j=>(ns.map D.int)[j]?)=_;rw[gP (by rw[ak];exact h)];simp[h]
theorem Co {T:Tb}(ns:List Int)(k:Nat):∃ v:Int,Pc.ret (aF T bCe (aN [.lst (ns.map D.int),.int (k:Int)] 2)) = .ok (.int v,true):=by
 have hst:aN [.lst (ns.map D.int),.int (k:Int)] 2=[sS (ns.map D.int),sI (k:Int)]:=rfl;rw[hst];have el:ev T (.blt .len (.cons (.var 0) .nil)) [sS (ns.map D.int),sI (k:Int)] = .ok (.int (ns.length:Int),.mv []):=by
  have h1:bQ T (.cons (.var 0) .nil) [sS (ns.map D.int),sI (k:Int)] = .ok [(.lst (ns.map D.int),.sh [])]:=rfl;rw[ev,h1,aA,kh,xN,aM,aA,bE]
 have v1:ev T (.var 1) [sS (ns.map D.int),sI (k:Int)] = .ok (.int (k:Int),.mv []):=aL rfl rfl;have ec:ev T (.cmp .Lt (.var 1) (.blt .len (.cons (.var 0) .nil))) [sS (ns.map D.int),sI (k:Int)] = .ok (.bl (decide ((k:Int)<(ns.length:Int))),.mv []):=by
  rw[ev,v1,aA,el,aA];rfl
 unfold bCe;rw[aF,bL,ec,aW];by_cases h:k<ns.length
 ·rw[bu (show (k:Int)<(ns.length:Int) by omega)];have e:ev T (.ix (.var 0) (.var 1)) [sS (ns.map D.int),sI (k:Int)] = .ok (.int ns[k],.mv []):=by
   have v0:ev T (.var 0) [sS (ns.map D.int),sI (k:Int)] = .ok (.lst (ns.map D.int),.sh []):=rfl;rw[ev,v0,aA,v1,aA,Cr h,aM,aA];rfl
  refine⟨ns[k],?_⟩;show Pc.ret ((aF T (.cons (.ret (.ix (.var 0) (.var 1))) .nil) [sS (ns.map D.int),sI (k:Int)]).andThen _)=_;rw[aF,bL,e,aW];rfl
 ·rw[ay (show ¬ (k:Int)<(ns.length:Int) by omega)];refine⟨1000003*((k:Int)+1),?_⟩;show Pc.ret ((Fl.nx [sS (ns.map D.int),sI (k:Int)]).andThen _)=_;rw[aC];refine oC ?_;have s1:small 1000003=true:=by decide
  generalize (k:Int)=K;simp[ev,aA,D.flat,dA,Pc.binI,aM,bE,s1]
noncomputable def bMx:cX:=(.cons (.asg (.nm 2) (.bin .Mod (.bin .Mult (.bin .Add (.bin .Add (.bin .Mod (.var 0) (.cst (.int (2147483647)))) (.bin .Mult (.cst (.int (7919))) (.var 1))) (.cst (.int (1)))) (.cst (.int (48271)))) (.cst (.int (2147483647)))) false)
  (.cons (.ret (.bin .FloorDiv (.bin .Mod (.bin .Mult (.var 2) (.bin .Add (.bin .Mod (.var 2) (.cst (.int (1009)))) (.cst (.int (1))))) (.cst (.int (2147483629)))) (.cst (.int (3)))))
  .nil))
theorem BZ {T:Tb}(c k:Int):∃ v:Int,0<=v/\Pc.ret (aF T bMx (aN [.int c,.int k] 3)) = .ok (.int v,true):=by
 have hst:aN [.int c,.int k] 3=[sI c,sI k,none]:=rfl;rw[hst];have s1:small 7919=true:=by decide
 have s2:small 48271=true:=by decide
 have g1:bL T (.asg (.nm 2) (.bin .Mod (.bin .Mult (.bin .Add (.bin .Add (.bin .Mod (.var 0) (.cst (.int (2147483647)))) (.bin .Mult (.cst (.int (7919))) (.var 1))) (.cst (.int (1)))) (.cst (.int (48271)))) (.cst (.int (2147483647)))) false) [sI c,sI k,none] = .nx [sI c,sI k,sI ((c%2147483647+7919*k+1)*48271%2147483647)]:=by
  simp[bL,ev,aA,aW,aM,dA,Pc.binI,D.flat,bE,lH,put,Tg.drop,s1,s2]
 have so:small ((c%2147483647+7919*k+1)*48271%2147483647)=true:=tR (by omega) (by omega);generalize (c%2147483647+7919*k+1)*48271%2147483647=o at g1 so;refine⟨o*(o%1009+1)%2147483629 / 3,by omega,?_⟩;unfold bMx;rw[aF,g1,aC];refine oC ?_;simp[ev,aA,D.flat,dA,Pc.binI,aM,bE,so]
def yh (T:Tb)(mx:Nat):Prop:=∀ c k:Int,∃ v:Int,0<=v/\T.cl mx [.int c,.int k] = .ok (.int v,true)
noncomputable def eRw:Ex:=.comp 1 [] (.nm 0) (.rng1 (.var 1)) .none (.bin .Mod (.bin .Mult (.cst (.int (7))) (.var 0)) (.cst (.int (64))))
noncomputable def vS (mx:Nat):cX:=(.cons (.setix 3 .none (.bin .Mod (.var 2) (.var 1)) (.bin .BitXor (.ix (.var 3) (.bin .Mod (.var 2) (.var 1))) (.bin .Mod (.bin .FloorDiv (.call mx (.cons (.ix (.var 0) (.var 2)) (.cons (.var 2) .nil))) (.cst (.int (97)))) (.cst (.int (64))))))
  .nil)
noncomputable def bRw (mx:Nat):cX:=(.cons (.asg (.nm 3) eRw false)
  (.cons (.forr (.nm 2) (.rng1 (.blt .len (.cons (.var 0) .nil))) (vS mx))
  (.cons (.ret (.var 3))
  .nil)))
theorem wW {T:Tb}{mx:Nat}(hmx:yh T mx)(ns:List Int)(n:Nat)(hn:0<n)(hn':n<=1000)(k:Nat)(hk:k<ns.length){gs:List Nat}(hg:Fl64.Gr gs)(hgl:gs.length=n)(o:Slot)(ho:aP o) :
  ∃ gs',Fl64.Gr gs'/\gs'.length=n/\bI [] (.nm 2) (.int (k:Int)) [sS (ns.map D.int),sN n,o,oG gs]=some [sS (ns.map D.int),sN n,sN k,oG gs]/\aF T (vS mx) [sS (ns.map D.int),sN n,sN k,oG gs] = .nx [sS (ns.map D.int),sN n,sN k,oG gs']:=by
 have hb:=cZ (i:=2) (d:=.int (k:Int)) (env:=[sS (ns.map D.int),sN n,o,oG gs]) (.cons (bJ _) (.cons (aB _) (.cons ho (.cons (aB _) .nil)))) (by simp);have te:Tame [sS (ns.map D.int),sN n,sN k,oG gs]:=.cons (bJ _) (.cons (aB _) (.cons (aB _) (.cons (aB _) .nil)));obtain⟨v,hv,hm⟩:=hmx ns[k] k;have v0:ev T (.var 0) [sS (ns.map D.int),sN n,sN k,oG gs] = .ok (.lst (ns.map D.int),.sh []):=rfl;have v1:ev T (.var 1) [sS (ns.map D.int),sN n,sN k,oG gs] = .ok (.int (n:Int),.mv []):=aL rfl rfl;have v2:ev T (.var 2) [sS (ns.map D.int),sN n,sN k,oG gs] = .ok (.int (k:Int),.mv []):=aL rfl rfl;have v3:ev T (.var 3) [sS (ns.map D.int),sN n,sN k,oG gs] = .ok (.lst (gD gs),.mv [3]):=bF rfl rfl;have e1:ev T (.bin .Mod (.var 2) (.var 1)) [sS (ns.map D.int),sN n,sN k,oG gs] = .ok (.int ((k%n:Nat):Int),.mv []):=by
  rw[ev,v2,aA,v1,aA,dA];have:Pc.binI .Mod (k:Int) (n:Int)=some ((k%n:Nat):Int):=by
   show (if 0<(n:Int) then some ((k:Int)%(n:Int)) else none)=_;rw[if_pos (by omega)];simp
  rw[this];rfl
 have hlt:k%n<gs.length:=by rw[hgl];exact Nat.mod_lt _ hn
 have e2:ev T (.ix (.var 3) (.bin .Mod (.var 2) (.var 1))) [sS (ns.map D.int),sN n,sN k,oG gs] = .ok (.int ((gs.getD (k%n) 0:Nat):Int),.mv []):=by
  rw[ev,v3,aA,e1,aA,A9 hlt,aM,aA];rfl
 have e3:ev T (.ix (.var 0) (.var 2)) [sS (ns.map D.int),sN n,sN k,oG gs] = .ok (.int ns[k],.mv []):=by
  rw[ev,v0,aA,v2,aA,Cr hk,aM,aA];rfl
 have e4:=gZ e3 v2 hm;obtain⟨w,hw,hw'⟩:=iB (a:=v / 97%64) (m:=64) (by omega) (by omega);have e5:ev T (.bin .Mod (.bin .FloorDiv (.call mx (.cons (.ix (.var 0) (.var 2)) (.cons (.var 2) .nil))) (.cst (.int (97)))) (.cst (.int (64)))) [sS (ns.map D.int),sN n,sN k,oG gs] = .ok (.int (w:Int),.mv []):=by
  have q:ev T (.bin .FloorDiv (.call mx (.cons (.ix (.var 0) (.var 2)) (.cons (.var 2) .nil))) (.cst (.int (97)))) [sS (ns.map D.int),sN n,sN k,oG gs] = .ok (.int (v / 97),.mv []):=by
   rw[ev,e4,aA];rfl
  rw[ev,q,aA,<-hw];rfl
 have e6:ev T (.bin .BitXor (.ix (.var 3) (.bin .Mod (.var 2) (.var 1))) (.bin .Mod (.bin .FloorDiv (.call mx (.cons (.ix (.var 0) (.var 2)) (.cons (.var 2) .nil))) (.cst (.int (97)))) (.cst (.int (64))))) [sS (ns.map D.int),sN n,sN k,oG gs] = .ok (.int ((gs.getD (k%n) 0^^^w:Nat):Int),.mv []):=by
  rw[ev,e2,aA,e5,aA,dA];show (gT (some (D.int (Builtin.bitXor ((gs.getD (k%n) 0:Nat):Int) (w:Int))))).bind _=_;rw[vv];rfl
 have st:=wZ (T:=T) (x:=3) te rfl e1 (gP (by rw[cJ];exact hlt)) e6 (by rw[cJ,hgl];exact fG hn');refine⟨gs.set (k%n) (gs.getD (k%n) 0^^^w),Fl64.yJ hg (by omega),by rw[dn];exact hgl,hb,?_⟩;unfold vS;rw[aF,st,aC,y0];rfl
theorem BP {T:Tb}{mx:Nat}(hmx:yh T mx)(ns:List Int)(hl:ns.length<=63)(n:Nat)(hn:0<n)(hn':n<=1000):∃ gs,Fl64.Gr gs/\gs.length=n/\Pc.ret (aF T (bRw mx) (aN [.lst (ns.map D.int),.int (n:Int)] 4)) = .ok (.lst (gD gs),true):=by
 have hst:aN [.lst (ns.map D.int),.int (n:Int)] 4=[sS (ns.map D.int),sN n,none,none]:=rfl;rw[hst];have v1:ev T (.var 1) [sS (ns.map D.int),sN n,none,none] = .ok (.int (n:Int),.mv []):=aL rfl rfl;have hit:fU T (.rng1 (.var 1)) [sS (ns.map D.int),sN n,none,none] = .ok ((List.range' 0 n).map (fun (k:Nat)=>D.int (k:Int)),[]):=by
  have:=l7 T _ _ _ _ v1 (tK hn');rw[dk] at this;rw[this,<-hW n 0];rfl
 have he:ev T eRw [sS (ns.map D.int),sN n,none,none] = .ok (.lst (gD ((List.range' 0 n).map fun k=>7*k%64)),.mv []):=by
  unfold eRw;rw[lG (g:=fun d=>match d with | .int k=>(.int ((7*k.toNat%64:Nat):Int),.mv []) | _=>(.non,.mv [])) hit (by rw[ak,List.length_range'];exact fG hn') (fun d hd=>?_) (fun d hd=>?_)]
  ·rw[gD,cg,cg];congr 2
  ·obtain⟨k,hk,rfl⟩:=List.mem_map.mp hd;have hb:bI [] (.nm 0) (.int (k:Int)) (cR [sS (ns.map D.int),sN n,none,none] 1 [])=some [sN k]:=rfl;rw[hb];have e:ev T (.bin .Mod (.bin .Mult (.cst (.int (7))) (.var 0)) (.cst (.int (64)))) [sN k] = .ok (.int ((7*k%64:Nat):Int),.mv []):=by
    have s7:small 7=true:=by decide
    have q:((7*k%64:Nat):Int)=7*(k:Int)%64:=by omega
    rw[q];show ev T (.bin .Mod (.bin .Mult (.cst (.int (7))) (.var 0)) (.cst (.int (64)))) [sI (k:Int)]=_;generalize (k:Int)=K;simp[ev,aA,D.flat,dA,Pc.binI,aM,bE,s7]
   simp only[dQ,wY,aA,if_true,e,Int.toNat_natCast]
  ·obtain⟨k,hk,rfl⟩:=List.mem_map.mp hd;rfl
 have g1:bL T (.asg (.nm 3) eRw false) [sS (ns.map D.int),sN n,none,none] = .nx [sS (ns.map D.int),sN n,none,oG ((List.range' 0 n).map fun k=>7*k%64)]:=bO (.cons (bJ _) (.cons (aB _) (.cons aK (.cons aK .nil)))) (by simp) he;have hg0:Fl64.Gr ((List.range' 0 n).map fun k=>7*k%64):=fun z hz=>by
  obtain⟨k,_,rfl⟩:=List.mem_map.mp hz;exact Nat.mod_lt _ (by decide)
 obtain⟨e,q1,q2⟩:=jX (t:=.nm 2) (R:=[]) (b:=aF T (vS mx)) (fun _ e=>∃ gs o,Fl64.Gr gs/\gs.length=n/\aP o/\e=[sS (ns.map D.int),sN n,o,oG gs]) (aQ 0 1 ns.length) 0 [sS (ns.map D.int),sN n,none,oG ((List.range' 0 n).map fun k=>7*k%64)] ⟨_,none,hg0,by simp,aK,rfl⟩ (fun i d e hi hj=>by
  obtain⟨gs,o,a1,a2,a3,rfl⟩:=hj;obtain⟨i1,rfl⟩:=kC _ _ _ _ hi;rw[Int.zero_add];obtain⟨gs',b1,b2,b3,b4⟩:=wW hmx ns n hn hn' i i1 a1 a2 o a3;exact⟨_,_,b3,b4,gs',_,b1,b2,aB _,rfl⟩)
 obtain⟨gs,o,a1,a2,a3,rfl⟩:=q2;have hlen:fU T (.rng1 (.blt .len (.cons (.var 0) .nil))) [sS (ns.map D.int),sN n,none,oG ((List.range' 0 n).map fun k=>7*k%64)] = .ok (aQ 0 1 ns.length,[]):=by
  have el:ev T (.blt .len (.cons (.var 0) .nil)) [sS (ns.map D.int),sN n,none,oG ((List.range' 0 n).map fun k=>7*k%64)] = .ok (.int (ns.length:Int),.mv []):=by
   have h1:bQ T (.cons (.var 0) .nil) [sS (ns.map D.int),sN n,none,oG ((List.range' 0 n).map fun k=>7*k%64)] = .ok [(.lst (ns.map D.int),.sh [])]:=rfl;rw[ev,h1,aA,kh,xN,aM,aA,bE]
  have:=l7 T _ _ _ _ el (tK (by omega));rw[dk] at this;exact this
 have g2:=dF hlen q1;have v3:ev T (.var 3) [sS (ns.map D.int),sN n,o,oG gs] = .ok (.lst (gD gs),.mv [3]):=bF rfl rfl;refine⟨gs,a1,a2,?_⟩;unfold bRw;rw[aF,g1,aC,aF,g2,aC,aF,bL,v3,aW];rfl
def CEok (T:Tb)(ce:Nat):Prop:=∀(ns:List Int) (k:Nat),∃ v:Int,T.cl ce [.lst (ns.map D.int),.int (k:Int)] = .ok (.int v,true)
def isF (gs:List Nat)(k m:Nat):Prop:=∀ x∈(List.range' (k+1) m).map (Fl64.pw 2),Fl64.wth x gs=0
noncomputable instance (gs:List Nat) (k m:Nat):Decidable (isF gs k m):=by unfold isF;infer_instance
noncomputable def zc (wh:Nat):cX:=(.cons (.ite (.or (.not (.call wh (.cons (.var 2) .nil))) (.or (.cmp .Lt (.var 2) (.cst (.int (0)))) (.cmp .Gt (.var 2) (.cst (.int (63)))))) (.cons (.ret (.cst (.bl false)))
  .nil) .nil)
  .nil)
noncomputable def bLG (wh:Nat):cX:=(.cons (.ite (.or (.not (.blt (.isi "list") (.cons (.var 0) .nil))) (.cmp .NotEq (.blt .len (.cons (.var 0) .nil)) (.var 1))) (.cons (.ret (.cst (.bl false)))
  .nil) .nil)
  (.cons (.forr (.nm 2) (.seq (.var 0)) (zc wh))
  (.cons (.ret (.cst (.bl true)))
  .nil)))
def BO (T:Tb)(wh:Nat):Prop:=∀ x:Int,T.cl wh [.int x] = .ok (.bl true,true)
theorem Bg {T:Tb}{wh:Nat}(hwh:BO T wh){gs:List Nat}(hg:Fl64.Gr gs)(n:Nat)(hn:gs.length=n):Pc.ret (aF T (bLG wh) (aN [.lst (gD gs),.int (n:Int)] 3)) = .ok (.bl true,true):=by
 have hst:aN [.lst (gD gs),.int (n:Int)] 3=[sG gs,sN n,none]:=rfl;rw[hst];have e0:ev T (.blt (.isi "list") (.cons (.var 0) .nil)) [sG gs,sN n,none] = .ok (.bl true,.mv []):=rfl;have el:=sX (T:=T) (env:=[sG gs,sN n,none]) (i:=0) (gs:=gs) (t:=.sh []) rfl;rw[hn] at el;have v1:ev T (.var 1) [sG gs,sN n,none] = .ok (.int (n:Int),.mv []):=aL rfl rfl;have g1:=ite_ff (T:=T) (a:=(.cons (.ret (.cst (.bl false))) .nil)) (iw (nk e0) (cY el v1 (by simp[D.eqf])));obtain⟨e,q1,_⟩:=jX (t:=.nm 2) (R:=[]) (b:=aF T (zc wh)) (fun _ e=>∃ o,aP o/\e=[sG gs,sN n,o]) (gD gs) 0 [sG gs,sN n,none] ⟨none,aK,rfl⟩ (fun i d e hi hj=>by
  obtain⟨o,ho,rfl⟩:=hj;rw[List.getElem?_map,aa] at hi;obtain⟨g,hgi,rfl⟩:=hi;have g64:=hg g (List.mem_of_getElem? hgi);refine⟨[sG gs,sN n,sN g],[sG gs,sN n,sN g],cZ (.cons (bJ _) (.cons (aB _) (.cons ho .nil))) (by simp),?_,_,aB _,rfl⟩;have v2:ev T (.var 2) [sG gs,sN n,sN g] = .ok (.int (g:Int),.mv []):=aL rfl rfl;have c1:ev T (.cmp .Lt (.var 2) (.cst (.int (0)))) [sG gs,sN n,sN g] = .ok (.bl false,.mv []):=by
   have v:ev T (.cst (.int (0))) [sG gs,sN n,sN g] = .ok (.int 0,.mv []):=rfl;rw[ev,v2,aA,v,aA];show (gT (some (decide ((g:Int)<0)))).bind _=_;rw[ay (by omega)];rfl
  have c2:ev T (.cmp .Gt (.var 2) (.cst (.int (63)))) [sG gs,sN n,sN g] = .ok (.bl false,.mv []):=by
   have v:ev T (.cst (.int (63))) [sG gs,sN n,sN g] = .ok (.int 63,.mv []):=rfl;rw[ev,v2,aA,v,aA];show (gT (some (decide ((63:Int)<(g:Int))))).bind _=_;rw[ay (by omega)];rfl
  unfold zc;rw[aF,ite_ff (iw (nk (pQ v2 (hwh _))) (iw c1 c2)),aC];rfl)
 have hit:fU T (.seq (.var 0)) [sG gs,sN n,none] = .ok (gD gs,[]):=rfl;have g2:=dF hit q1;unfold bLG;rw[aF,g1,aC,aF,g2,aC];exact fin _ _
end Pc.Lw
end
section
namespace Fl64
noncomputable def sm:List (Nat×Nat)->Nat->Nat
 |[],_=>0
 |p::r,j=>tm p.1 (pw p.2 j)^^^sm r j
end Fl64
end
section
namespace Pc.Lw
open PySem Pc Pc.Sm Pc.Gr
noncomputable abbrev cp (i:Nat):Ex:=.blt .list (.cons (.var i) .nil)
theorem o5 {T:Tb}{env:En}{a b:Ex}{d:D}{R R':Rt}(h:ev T a env = .ok (d,R))(h':ev T b env = .ok (d,R'))(he:D.eqf 40 d d=some true):ev T (.cmp .Eq a b) env = .ok (.bl true,.mv []):=by
 rw[ev,h,aA,h',aA];show (gT (D.eqf 40 d d)).bind _=_;rw[he];rfl
theorem zM {T:Tb}{env:En}{a b:Ex}{R R':Rt}(h:ev T a env = .ok (.bl true,R))(h':ev T b env = .ok (.bl true,R')):ev T (.and a b) env = .ok (.bl true,R'):=by
 rw[ev,h,aA,h']
theorem bH {T:Tb}{env:En}(d:D):ev T (.cst d) env = .ok (d,.mv []):=by rw[ev]
theorem iD {T:Tb}{env:En}{a b:Ex}{x y:Int}{R R':Rt}(h:ev T a env = .ok (.int x,R))(h':ev T b env = .ok (.int y,R')):ev T (.bin .Add a b) env = .ok (.int (x+y),.mv []):=by
 rw[ev,h,aA,h',aA];rfl
theorem jN {T:Tb}{env:En}{a b:Ex}{x y:Int}{R R':Rt}(hy:0<y)(h:ev T a env = .ok (.int x,R))(h':ev T b env = .ok (.int y,R')):ev T (.bin .Mod a b) env = .ok (.int (x%y),.mv []):=by
 rw[ev,h,aA,h',aA,dA];have:Pc.binI .Mod x y=some (x%y):=by
  show (if 0<y then some (x%y) else none)=_;rw[if_pos hy]
 rw[this];rfl
theorem lY {T:Tb}{env:En}{a b:Ex}{x y:Int}{R R':Rt}(hy:0<y)(hy':y<1073741824)(h:ev T a env = .ok (.int x,R))(h':ev T b env = .ok (.int y,R')):ev T (.bin .FloorDiv a b) env = .ok (.int (x / y),.mv []):=by
 rw[ev,h,aA,h',aA,dA];have:Pc.binI .FloorDiv x y=some (x / y):=by
  show (if 0<y/\y<1073741824 then some (x / y) else none)=_;rw[if_pos ⟨hy,hy'⟩]
 rw[this];rfl
theorem ou {T:Tb}{env:En}{a b:Ex}{gs:List Nat}{i:Nat}{R R':Rt}(hi:i<gs.length)(h:ev T a env = .ok (.lst (gD gs),R))(h':ev T b env = .ok (.int (i:Int),R')):ev T (.ix a b) env = .ok (.int ((gs.getD i 0:Nat):Int),.mv []):=by
 rw[ev,h,aA,h',aA,A9 hi,aM,aA];rfl
end Pc.Lw
end
section
namespace Dl
noncomputable def turn (rows:List (List Nat))(k:Nat):List Nat:=rows.filterMap fun r=>r[k]?
noncomputable def bS (rows:List (List Nat)):Nat->Nat->List Nat
 |_,0=>[]
 |k,m+1=>turn rows k++bS rows (k+1) m
theorem qW {rows:List (List Nat)}{k:Nat}(h:∀ r∈rows,r.length<=k):turn rows k=[]:=by
 unfold turn;rw[List.filterMap_eq_nil_iff];exact fun r hr=>List.getElem?_eq_none (h r hr)
theorem kX {rows:List (List Nat)}:∀(m k:Nat),(∀ r∈rows,r.length<=k)->bS rows k m=[]
 |0,_,_=>rfl
 | m+1,k,h=>by
  rw[bS,qW h,kX m (k+1) fun r hr=>f6 (h r hr)];rfl
theorem m9 (rows:List (List Nat)):∀(m k n:Nat),bS rows k (m+n)=bS rows k m++bS rows (k+m) n
 |0,k,n=>by rw[g9,Nat.add_zero];rfl
 | m+1,k,n=>by
  rw[show m+1+n=(m+n)+1 by omega,bS,bS,m9 rows m (k+1) n,ag,show k+1+m=k+(m+1) by omega]
theorem kZ {rows:List (List Nat)}{M N:Nat}(h:∀ r∈rows,r.length<=M)(hN:M<=N):bS rows 0 N=bS rows 0 M:=by
 obtain⟨d,rfl⟩:∃ d,N=M+d:=⟨N - M,by omega⟩;rw[m9,kX d (0+M) (fun r hr=>by rw[g9];exact h r hr),ax]
noncomputable def fH (cs:List Nat)(k:Nat):Nat->List (Nat×Nat)
 |j=>match cs with
  |[]=>[]
  |c::r=>(if k<c then [(j,k)] else [])++fH r k (j+1)
noncomputable def aS (cs:List Nat):Nat->Nat->List (Nat×Nat)
 |_,0=>[]
 |k,m+1=>fH cs k 0++aS cs (k+1) m
noncomputable def lay:List (Nat×Nat)->List Nat->List (List Nat)->List (List Nat)
 |s::ss,g::gs,acc=>lay ss gs (acc.set s.1 (acc.getD s.1 [] ++ [g]))
 |_,_,acc=>acc
theorem jF:∀(s1 s2:List (Nat×Nat)) (g1 g2:List Nat) (acc:List (List Nat)),s1.length=g1.length->lay (s1++s2) (g1++g2) acc=lay s2 g2 (lay s1 g1 acc)
 |[],_,[],_,_,_=>rfl
 |s::s1,s2,g::g1,g2,acc,h=>jF s1 s2 g1 g2 _ (by simpa using h)
theorem lL:∀(rows:List (List Nat)) (k j:Nat),(fH (rows.map List.length) k j).length=(turn rows k).length
 |[],_,_=>rfl
 | r::rows,k,j=>by
  have ih:=lL rows k (j+1);rw[aw,fH,au,ih];unfold turn;rw[dq];by_cases h:k<r.length
  ·rw[if_pos h,List.getElem?_eq_getElem h];simp;omega
  ·rw[if_neg h,List.getElem?_eq_none (by omega)];simp
theorem m4:∀(rows:List (List Nat)) (k:Nat) (pre:List (List Nat)),lay (fH (rows.map List.length) k pre.length) (turn rows k) (pre++rows.map (List.take k))=pre++rows.map (List.take (k+1))
 |[],_,pre=>rfl
 | r::rows,k,pre=>by
  rw[aw,fH];unfold turn;rw[dq];have ih:=m4 rows k (pre ++ [r.take (k+1)]);rw[au,cf,ag,ag] at ih;by_cases h:k<r.length
  ·rw[if_pos h,List.getElem?_eq_getElem h];dsimp only;rw[List.cons_append,cv,lay];dsimp only;have hg:(pre++(r::rows).map (List.take k)).getD pre.length []=r.take k:=by
    rw[List.getD_eq_getElem?_getD,List.getElem?_append_right (ai _),Nat.sub_self];rfl
   have hs:(pre++(r::rows).map (List.take k)).set pre.length (r.take k ++ [r[k]])=pre++([r.take (k+1)]++rows.map (List.take k)):=by
    rw[List.set_append_right _ _ (ai _),Nat.sub_self,List.take_succ_eq_append_getElem h];rfl
   rw[hg,hs,aw];exact ih
  ·rw[if_neg h,List.getElem?_eq_none (by omega)];dsimp only;rw[cv];have e:r.take k=r.take (k+1):=by rw[c9 (by omega),c9 (by omega)]
   rw[aw,aw,e];exact ih
theorem nE (rows:List (List Nat)):∀(m k:Nat),lay (aS (rows.map List.length) k m) (bS rows k m) (rows.map (List.take k))=rows.map (List.take (k+m))
 |0,k=>by rw[Nat.add_zero];cases rows<;>rfl
 | m+1,k=>by
  have h:=m4 rows k [];rw[cv,cv] at h;rw[aS,bS,jF _ _ _ _ _ (lL rows k 0)];have h':lay (fH (rows.map List.length) k 0) (turn rows k) (rows.map (List.take k))=rows.map (List.take (k+1)):=h;rw[h',nE rows m (k+1),show k+1+m=k+(m+1) by omega]
theorem wu {rows:List (List Nat)}{N:Nat}(h:∀ r∈rows,r.length<=N):lay (aS (rows.map List.length) 0 N) (bS rows 0 N) (rows.map fun _=>[])=rows:=by
 have:=nE rows N 0;rw[g9] at this;have e:rows.map (List.take 0)=rows.map fun _=>([]:List Nat):=eg fun r _=>List.take_zero
 rw[<-e,this]
 conv=>rhs;rw[<-List.map_id rows]
 exact eg fun r hr=>c9 (h r hr)
theorem iP (rows:List (List Nat)):∀(m k:Nat),(aS (rows.map List.length) k m).length=(bS rows k m).length
 |0,_=>rfl
 |m+1,k=>by rw[aS,bS,au,au,lL,iP rows m (k+1)]
theorem ux {rows:List (List Nat)}{k g:Nat}(h:g∈turn rows k):∃ r∈rows,g∈r:=by
 unfold turn at h;obtain⟨r,hr,e⟩:=List.mem_filterMap.mp h;exact⟨r,hr,List.mem_of_getElem? e⟩
theorem mT {rows:List (List Nat)}:∀(m k:Nat) {g:Nat},g∈bS rows k m->∃ r∈rows,g∈r
 | m+1,k,g,h=>by
  rw[bS,dm] at h;exact h.elim ux (mT m (k+1))
noncomputable def parts:List Nat->List Nat->List (List Nat)
 |[],_=>[]
 |x::xs,d=>d.take x::parts xs (d.drop x)
theorem kR:∀(xs d:List Nat) (p:List Nat),p∈parts xs d->∀ g∈p,g∈d
 | x::xs,d,p,h,g,hg=>by
  rw[parts,ft] at h;rcases h with rfl | h
  ·exact List.mem_of_mem_take hg
  ·exact List.mem_of_mem_drop (kR xs (d.drop x) p h g hg)
end Dl
end
section
namespace Pc.Nw
open PySem Pc Pc.Sm Pc.Lw Pc.Gr
theorem wJ {T:Tb}{env:En}{x:Nat}{e:Ex}{a b:Int}{t:Tg}{R:Rt}(ht:Tame env)(hx:env[x]? = some (some (.int a,t)))(h:ev T e env = .ok (.int b,R)):bL T (.aug x .Add e) env = .nx (env.set x (some (.int (a+b),.own))):=by
 have hi:intAt env x=some a:=by unfold intAt;rw[hx]
 have hl:x<env.length:=by
  obtain⟨h1,_⟩:=List.getElem?_eq_some_iff.mp hx;exact h1
 rw[bL,hi];dsimp only;rw[h,aW];show lH (.nm x) false env (.int (a+b),.mv [])=_;unfold lH;dsimp only;rw[if_pos hl,eI ht]
end Pc.Nw
end
section
namespace K21
open PySem Pc Pc.Sm Pc.Lw Pc.Gr
noncomputable def b0i:cX:=(.cons (.ite (.cmp .Lt (.var 3) (.blt .len (.cons (.var 2) .nil))) (.cons (.mut 1 .none .append (.cons (.ix (.var 2) (.var 3)) .nil)) .nil) .nil) .nil)
noncomputable def b0o:cX:=(.cons (.forr (.nm 2) (.seq (.var 0)) b0i) .nil)
noncomputable def e0:Ex:=(.blt .maxd (.cons (.comp 1 [] (.nm 0) (.seq (.var 0)) .none (.blt .len (.cons (.var 0) .nil))) (.cons (.cst (.int (0))) .nil)))
noncomputable def b0:cX:=(.cons (.asg (.nm 1) (.lst .nil) false) (.cons (.forr (.nm 3) (.rng1 e0) b0o) (.cons (.ret (.var 1)) .nil)))
noncomputable def b1i:cX:=(.cons (.ite (.cmp .Lt (.var 5) (.var 2)) (.cons (.mut 3 (.some (.var 6)) .append (.cons (.ix (.var 0) (.var 4)) .nil)) (.cons (.aug 4 .Add (.cst (.int (1)))) .nil)) .nil) .nil)
noncomputable def b1o:cX:=(.cons (.forr (.tp [6,2]) (.enum (.var 1)) b1i) .nil)
noncomputable def e1:Ex:=(.blt .maxd (.cons (.var 1) (.cons (.cst (.int (0))) .nil)))
noncomputable def b1:cX:=(.cons (.asg (.nm 3) (.comp 1 [] (.nm 0) (.seq (.var 1)) .none (.lst .nil)) false) (.cons (.asg (.nm 4) (.cst (.int (0))) false) (.cons (.forr (.nm 5) (.rng1 e1) b1o) (.cons (.ret (.var 3)) .nil))))
noncomputable def b2:cX:=bWh
noncomputable def b3:cX:=bCe
noncomputable def b4:cX:=bMx
noncomputable def b5:cX:=bRw 4
noncomputable def b6:cX:=bLG 2
noncomputable def c3:Ex:=(.bin .Mod (.bin .FloorDiv (.var 1) (.cst (.int (5)))) (.cst (.int (3))))
noncomputable def b7l:cX:=(.cons (.asg (.nm 4) (.call 4 (.cons (.call 3 (.cons (.var 0) (.cons (.bin .Add (.var 3) (.cst (.int (1)))) .nil))) (.cons (.bin .Add (.var 3) (.cst (.int (2)))) .nil))) false)
  (.cons (.asg (.nm 5) (.bin .Mod (.bin .FloorDiv (.var 4) (.cst (.int (7)))) (.cst (.int (64)))) false)
  (.cons (.ite (.cmp .Gt c3 (.cst (.int (0)))) (.cons (.asg (.nm 5) (.bin .Mod (.bin .Add (.bin .FloorDiv (.var 1) (.cst (.int (15)))) (.bin .Mod (.bin .FloorDiv (.var 4) (.cst (.int (7)))) (.cst (.int (2))))) (.cst (.int (64)))) false) .nil) .nil)
  (.cons (.mut 2 .none .append (.cons (.var 5) .nil)) .nil))))
noncomputable def b7:cX:=(.cons (.asg (.nm 1) (.call 4 (.cons (.call 3 (.cons (.var 0) (.cons (.cst (.int (0))) .nil))) (.cons (.cst (.int (1))) .nil))) false)
  (.cons (.asg (.nm 2) (.lst .nil) false)
  (.cons (.forr (.nm 3) (.rng1 (.bin .Add (.cst (.int (1))) (.bin .Mod (.var 1) (.cst (.int (5)))))) b7l)
  (.cons (.ret (.var 2)) .nil))))
noncomputable def c8:Ex:=(.comp 1 [2] (.nm 0) (.rng1 (.blt .len (.cons (.ix (.var 0) (.var 2)) .nil))) .none (.tup (.cons (.var 0) (.cons (.var 1) .nil))))
noncomputable def b8l:cX:=(.cons (.asg (.nm 1) (.bin .Add (.var 1) c8) false) .nil)
noncomputable def d8:Ex:=(.comp 2 [0] (.tp [0,1]) (.seq (.blt .sorted (.cons (.var 1) .nil))) .none (.ix (.ix (.var 2) (.var 1)) (.var 0)))
noncomputable def b8:cX:=(.cons (.asg (.nm 1) (.lst .nil) false) (.cons (.forr (.nm 2) (.rng1 (.blt .len (.cons (.var 0) .nil))) b8l) (.cons (.ret d8) .nil)))
noncomputable def no:cX:=(.cons (.ret (.cst (.bl false))) .nil)
noncomputable def w1:St:=(.asg (.nm 1) (.call 7 (.cons (.var 0) .nil)) false)
noncomputable def w2:St:=(.asg (.nm 2) (.call 5 (.cons (.var 0) (.cons (.bin .Add (.blt .sum (.cons (.var 1) .nil)) (.cst (.int (1)))) .nil))) false)
noncomputable def Cd:cX:=(.cons (.mut 3 .none .append (.cons (.sl (.var 2) (.some (.var 4)) (.some (.bin .Add (.var 4) (.var 5)))) .nil)) (.cons (.asg (.nm 4) (.bin .Add (.var 4) (.var 5)) false) .nil))
noncomputable def w5:St:=(.forr (.nm 5) (.seq (.var 1)) Cd)
noncomputable def w6:St:=(.asg (.nm 6) (.comp 1 [] (.nm 0) (.seq (.var 3)) .none (.blt .list (.cons (.var 0) .nil))) false)
noncomputable def w7:St:=(.asg (.nm 7) (.call 8 (.cons (.var 3) .nil)) false)
noncomputable def w8:St:=(.asg (.nm 8) (.call 0 (.cons (.var 6) .nil)) false)
noncomputable def w9:St:=(.ite (.or (.cmp .NotEq (.var 6) (.var 3)) (.or (.not (.call 6 (.cons (.var 8) (.cons (.blt .len (.cons (.var 7) .nil)) .nil)))) (.cmp .NotEq (.var 8) (.var 7)))) no .nil)
noncomputable def w10:St:=(.mut 8 .none .append (.cons (.cst (.int (1))) .nil))
noncomputable def w11:St:=(.ite (.or (.cmp .NotEq (.var 6) (.var 3)) (.cmp .NotEq (.call 0 (.cons (.var 6) .nil)) (.var 7))) no .nil)
noncomputable def l2:Ex:=(.lst (.cons (.var 7) (.cons (.var 1) .nil)))
noncomputable def p1:Ex:=(.call 1 (.cons (.ix (.var 6) (.cst (.int (0)))) (.cons (.ix (.var 6) (.cst (.int (1)))) .nil)))
noncomputable def w12:St:=(.asg (.nm 6) (.lst (.cons (.blt .list (.cons (.var 7) .nil)) (.cons (.blt .list (.cons (.var 1) .nil)) .nil))) false)
noncomputable def w13:St:=(.asg (.nm 9) p1 false)
noncomputable def w14:St:=(.ite (.or (.cmp .NotEq (.var 6) l2) (.or (.not (.blt (.isi "list") (.cons (.var 9) .nil))) (.cmp .NotEq (.blt .len (.cons (.var 9) .nil)) (.blt .len (.cons (.var 3) .nil))))) no .nil)
noncomputable def b9k:cX:=(.cons (.ite (.or (.not (.call 6 (.cons (.ix (.var 9) (.var 10)) (.cons (.blt .len (.cons (.ix (.var 3) (.var 10)) .nil)) .nil)))) (.cmp .NotEq (.ix (.var 9) (.var 10)) (.ix (.var 3) (.var 10)))) no .nil)
  (.cons (.mut 9 (.some (.var 10)) .append (.cons (.cst (.int (1))) .nil)) .nil))
noncomputable def w15:St:=(.forr (.nm 10) (.rng1 (.blt .len (.cons (.var 3) .nil))) b9k)
noncomputable def w16:Ex:=(.and (.cmp .Eq (.var 6) l2) (.cmp .Eq p1 (.var 3)))
noncomputable def b9:cX:=(.cons w1 (.cons w2 (.cons (.asg (.nm 3) (.lst .nil) false) (.cons (.asg (.nm 4) (.cst (.int (0))) false) (.cons w5 (.cons w6 (.cons w7 (.cons w8 (.cons w9 (.cons w10 (.cons w11 (.cons w12 (.cons w13 (.cons w14 (.cons w15 (.cons (.ret w16) .nil))))))))))))))))
noncomputable def fns:List Fn:=[⟨1,4,b0⟩,⟨2,7,b1⟩,⟨1,1,b2⟩,⟨2,2,b3⟩,⟨2,3,b4⟩,⟨2,4,b5⟩,⟨2,3,b6⟩,⟨1,6,b7⟩,⟨1,3,b8⟩,⟨1,11,b9⟩]
noncomputable def gl:Nat->D
 |_=>.non
noncomputable abbrev T (n:Nat):Tb:=⟨Pc.run fns gl 1000 n,gl,1000⟩
theorem vH (n:Nat):(T n).cl=Pc.run fns gl 1000 n:=rfl
theorem h2 (n:Nat):BO (T (n+1)) 2:=fun x=>by
 rw[vH,eH (F:=⟨1,1,b2⟩) rfl rfl];exact BE x
theorem h3 (n:Nat):CEok (T (n+1)) 3:=fun ns k=>by
 obtain⟨v,h⟩:=Co (T:=T n) ns k;refine⟨v,?_⟩;rw[vH,eH (F:=⟨2,2,b3⟩) rfl rfl];exact h
theorem h4 (n:Nat):yh (T (n+1)) 4:=fun c k=>by
 obtain⟨v,h',h⟩:=BZ (T:=T n) c k;refine⟨v,h',?_⟩;rw[vH,eH (F:=⟨2,3,b4⟩) rfl rfl];exact h
theorem h5 (k:Nat)(ns:List Int)(hl:ns.length<=63)(n:Nat)(hn:0<n)(hn':n<=1000):∃ gs,Fl64.Gr gs/\gs.length=n/\(T (k+2)).cl 5 [.lst (ns.map D.int),.int (n:Int)] = .ok (.lst (gD gs),true):=by
 obtain⟨gs,a,b,h⟩:=BP (h4 k) ns hl n hn hn';refine⟨gs,a,b,?_⟩;rw[vH,eH (F:=⟨2,4,b5⟩) rfl rfl];exact h
theorem h6 (n:Nat){gs:List Nat}(hg:Fl64.Gr gs)(m:Nat)(hm:gs.length=m):(T (n+2)).cl 6 [.lst (gD gs),.int (m:Int)] = .ok (.bl true,true):=by
 rw[vH,eH (F:=⟨2,3,b6⟩) rfl rfl];exact Bg (h2 n) hg m hm
theorem qL {T:Tb}{env:En}{e:Ex}{m:Nat}{R:Rt}(h:ev T e env = .ok (.int (m:Int),R))(hm:m<=1000):fU T (.rng1 e) env = .ok (aQ ((0:Nat):Int) 1 m,[]):=by
 rw[l7 _ _ _ _ _ h (tK hm),dk];rfl
theorem cI {t:jd}{R:List Nat}{b:En->Fl}{x:D}{l:List D}{e e1 e2:En}(h1:bI R t x e=some e1)(h2:b e1 = .nx e2):bP t R b (x::l) e=bP t R b l e2:=by
 conv=>lhs;unfold bP
 rw[h1];dsimp only;rw[h2]
theorem cU (k m:Nat):aQ (k:Int) 1 (m+1) = .int (k:Int)::aQ ((k+1:Nat):Int) 1 m:=by
 rw[aQ,show (k:Int)+1=((k+1:Nat):Int) by omega]
noncomputable abbrev rD (rows:List (List Nat)):List D:=rows.map fun r=>D.lst (gD r)
noncomputable abbrev E4 (rows:List (List Nat))(L:List Nat)(a2 a3:Slot):En:=[some (.lst (rD rows),.sh []),oG L,a2,a3]
theorem lT {rows:List (List Nat)}{L:List Nat}{a2 a3:Slot}(h2:aP a2)(h3:aP a3):Tame (E4 rows L a2 a3):=.cons (bJ _) (.cons (aB _) (.cons h2 (.cons h3 .nil)))
theorem tG {env:En}{i:Nat}{xs:List D}(ht:Tame env)(hi:i<env.length):bI [] (.nm i) (.lst xs) env=some (env.set i (some (.lst xs,.sh []))):=cZ ht hi
theorem in1 (T:Tb)(rows:List (List Nat))(L r:List Nat)(k:Nat)(hL:L.length<=900):aF T b0i (E4 rows L (sG r) (sN k)) = .nx (E4 rows (L++(r[k]?).toList) (sG r) (sN k)):=by
 have e1:ev T (.blt .len (.cons (.var 2) .nil)) (E4 rows L (sG r) (sN k)) = .ok (.int (r.length:Int),.mv []):=sX rfl;have e2:ev T (.cmp .Lt (.var 3) (.blt .len (.cons (.var 2) .nil))) (E4 rows L (sG r) (sN k)) = .ok (.bl (decide ((k:Int)<(r.length:Int))),.mv []):=by
  rw[ev,aL (d:=.int (k:Int)) (t:=.own) rfl rfl,aA,e1,aA];rfl
 unfold b0i;by_cases h:k<r.length
 ·rw[bu (show (k:Int)<(r.length:Int) by omega)] at e2;have v2:ev T (.var 2) (E4 rows L (sG r) (sN k)) = .ok (.lst (gD r),.sh []):=rfl;have e3:=ou h v2 (aL (T:=T) (env:=E4 rows L (sG r) (sN k)) (i:=3) (d:=.int (k:Int)) (t:=.own) rfl rfl);have g:=i9 (x:=1) (lT (bJ _) (aB _)) rfl e3 (by rw[cJ];exact fG (by omega));have g':bL T (.mut 1 .none .append (.cons (.ix (.var 2) (.var 3)) .nil)) (E4 rows L (sG r) (sN k)) = .nx (E4 rows (L++(r[k]?).toList) (sG r) (sN k)):=by
   rw[g,List.getElem?_eq_getElem h];show Fl.nx [some (.lst (rD rows),.sh []),some (.lst (gD L ++ [.int ((r.getD k 0:Nat):Int)]),.own),sG r,sN k]=Fl.nx [some (.lst (rD rows),.sh []),some (.lst (gD (L ++ [r[k]])),.own),sG r,sN k];rw[eJ,List.getD_eq_getElem?_getD,List.getElem?_eq_getElem h];rfl
  rw[aF,bL,e2,aW];dsimp only[truth];rw[aF,g',aC];rfl
 ·rw[ay (show ¬ (k:Int)<(r.length:Int) by omega)] at e2;rw[aF,ite_ff e2,aC,List.getElem?_eq_none (by omega)];show Fl.nx _=_;rw[Option.toList_none,ax]
theorem xA (T:Tb)(rows:List (List Nat))(k:Nat):∀(rs:List (List Nat)) (L:List Nat) (a2:Slot),aP a2->L.length+rs.length<=900->∃ a2',aP a2'/\bP (.nm 2) [] (aF T b0i) (rD rs) (E4 rows L a2 (sN k)) = .nx (E4 rows (L++Dl.turn rs k) a2' (sN k))
 |[],L,a2,h,_=>⟨a2,h,by rw[show Dl.turn [] k=[] from rfl,ax];rfl⟩
 | r::rs,L,a2,h,hl=>by
  rw[av] at hl;have hl2:(L++(r[k]?).toList).length+rs.length<=900:=by
   rw[au];have:(r[k]?).toList.length<=1:=by cases r[k]?<;>simp
   omega
  obtain⟨a2',t',q⟩:=xA T rows k rs (L++(r[k]?).toList) (sG r) (bJ _) hl2;refine⟨a2',t',?_⟩;have hb:bI [] (.nm 2) (.lst (gD r)) (E4 rows L a2 (sN k))=some (E4 rows L (sG r) (sN k)):=tG (lT h (aB _)) (show (2:Nat)<4 by decide);rw[rD,aw,cI hb (in1 T rows L r k (by omega)),q];have:Dl.turn (r::rs) k=(r[k]?).toList++Dl.turn rs k:=by
   unfold Dl.turn;rw[dq];cases r[k]?<;>rfl
  rw[this,ag]
theorem iL:∀(l:List Nat) (a:Nat),∃ M:Nat,iz (a:Int) (gD l)=some (M:Int)/\a<=M/\(∀ x∈l,x<=M)/\(M=a\/M∈l)
 |[],a=>⟨a,rfl,ai _,fun _ h=>(nomatch h),.inl rfl⟩
 | x::l,a=>by
  show ∃ M:Nat,iz (if (x:Int) > (a:Int) then (x:Int) else (a:Int)) (gD l)=some (M:Int)/\_;by_cases h:x > a
  ·rw[if_pos (by omega)];obtain⟨M,e,h1,h2,h3⟩:=iL l x;refine⟨M,e,by omega,fun y hy=>?_,?_⟩
   ·rcases ft.mp hy with rfl | hy
    ·exact h1
    ·exact h2 y hy
   ·rcases h3 with rfl | h3
    ·exact .inr ao
    ·exact .inr (ae _ h3)
  ·rw[if_neg (by omega)];obtain⟨M,e,h1,h2,h3⟩:=iL l a;refine⟨M,e,h1,fun y hy=>?_,?_⟩
   ·rcases ft.mp hy with rfl | hy
    ·omega
    ·exact h2 y hy
   ·rcases h3 with rfl | h3
    ·exact .inl rfl
    ·exact .inr (ae _ h3)
theorem mz (l:List Nat):∃ M:Nat,jx .maxd [.lst (gD l),.int 0]=some (.int (M:Int))/\(∀ x∈l,x<=M)/\(M=0\/M∈l):=by
 cases l with
 |nil=>exact⟨0,rfl,fun _ h=>(nomatch h),.inl rfl⟩
 |cons x l =>
  obtain⟨M,e,h1,h2,h3⟩:=iL l x;refine⟨M,?_,fun y hy=>?_,?_⟩
  ·show (iz (x:Int) (gD l)).map D.int=_;rw[e];rfl
  ·rcases ft.mp hy with rfl | hy
   ·exact h1
   ·exact h2 y hy
  ·rcases h3 with rfl | h3
   ·exact .inr ao
   ·exact .inr (ae _ h3)
theorem iA {rows:List (List Nat)}:∀(m k:Nat),(Dl.bS rows k m).length<=m*rows.length
 |0,_=>by simp[Dl.bS]
 | m+1,k=>by
  rw[Dl.bS,au];have h1:=iA (rows:=rows) m (k+1);have h2:(Dl.turn rows k).length<=rows.length:=List.length_filterMap_le _ _;rw[Nat.add_mul];omega
theorem sg (T:Tb)(rows:List (List Nat))(hr:rows.length<=5):∀(m k:Nat) (L:List Nat) (a2 a3:Slot),aP a2->aP a3->L.length+5*m<=800->∃ a2' a3',aP a2'/\aP a3'/\bP (.nm 3) [] (aF T b0o) (aQ (k:Int) 1 m) (E4 rows L a2 a3) = .nx (E4 rows (L++Dl.bS rows k m) a2' a3')
 |0,k,L,a2,a3,h2,h3,_=>⟨a2,a3,h2,h3,by rw[Dl.bS,ax];rfl⟩
 | m+1,k,L,a2,a3,h2,h3,hl=>by
  obtain⟨b2,u2,q⟩:=xA T rows k rows L a2 h2 (by omega);have hlen:(Dl.turn rows k).length<=rows.length:=List.length_filterMap_le _ _;obtain⟨c2,c3,v2,v3,q'⟩:=sg T rows hr m (k+1) (L++Dl.turn rows k) b2 (sN k) u2 (aB _) (by rw[au];omega);refine⟨c2,c3,v2,v3,?_⟩;have hb:bI [] (.nm 3) (.int (k:Int)) (E4 rows L a2 a3)=some (E4 rows L a2 (sN k)):=cZ (lT h2 h3) (show (3:Nat)<4 by decide);have hit:fU T (.seq (.var 0)) (E4 rows L a2 (sN k)) = .ok (rD rows,[]):=rfl;have hs:aF T b0o (E4 rows L a2 (sN k)) = .nx (E4 rows (L++Dl.turn rows k) b2 (sN k)):=by
   unfold b0o;rw[aF,dF hit q,aC];rfl
  rw[cU,cI hb hs,q',Dl.bS,ag]
theorem r0 (n:Nat)(rows:List (List Nat))(hr:rows.length<=5)(hl:∀ r∈rows,r.length<=64):(T (n+1)).cl 0 [.lst (rD rows)] = .ok (.lst (gD (Dl.bS rows 0 64)),true):=by
 rw[vH,eH (F:=⟨1,4,b0⟩) rfl rfl];have hst:aN [.lst (rD rows)] 4=[some (.lst (rD rows),.sh []),none,none,none]:=rfl;dsimp only;rw[hst];have g1:bL (T n) (.asg (.nm 1) (.lst .nil) false) [some (.lst (rD rows),.sh []),none,none,none] = .nx (E4 rows [] none none):=rfl;obtain⟨M,hM,hM1,hM2⟩:=mz (rows.map List.length);have hM64:M<=64:=by
  rcases hM2 with rfl | h
  ·omega
  ·obtain⟨r,hr,rfl⟩:=List.mem_map.mp h;exact hl r hr
 have ec:ev (T n) (.comp 1 [] (.nm 0) (.seq (.var 0)) .none (.blt .len (.cons (.var 0) .nil))) (E4 rows [] none none) = .ok (.lst (gD (rows.map List.length)),.mv []):=by
  have hit:fU (T n) (.seq (.var 0)) (E4 rows [] none none) = .ok (rD rows,[]):=rfl;rw[lG (g:=fun d=>match d with | .lst xs=>(.int (xs.length:Int),.mv []) | _=>(.non,.mv [])) hit (by rw[ak];exact fG (by omega)) (fun d hd=>?_) (fun d hd=>?_)]
  ·congr 2;show D.lst _=D.lst ((rows.map List.length).map fun (g:Nat)=>D.int (g:Int));rw[cg,cg];congr 1;refine eg fun r _=>?_
   show D.int ((gD r).length:Int)=D.int (r.length:Int);rw[cJ]
  ·obtain⟨r,_,rfl⟩:=List.mem_map.mp hd;rfl
  ·obtain⟨r,_,rfl⟩:=List.mem_map.mp hd;rfl
 have em:ev (T n) e0 (E4 rows [] none none) = .ok (.int (M:Int),.mv []):=by
  unfold e0;rw[ev,bQ,bQ,bQ,ec,aA,bH,aA,aA,aA,aA,yT];dsimp only;rw[hM,aM,aA,bE]
 obtain⟨a2,a3,t2,t3,q⟩:=sg (T n) rows hr M 0 [] none none aK aK (by simp;omega);have hit:fU (T n) (.rng1 e0) (E4 rows [] none none) = .ok (aQ ((0:Nat):Int) 1 M,[]):=qL em (by omega);rw[cv,<-Dl.kZ (N:=64) (fun r hr=>hM1 _ (List.mem_map_of_mem hr)) hM64] at q;have g2:=dF hit q;unfold b0;rw[aF,g1,aC,aF,g2,aC];have v1:ev (T n) (.var 1) (E4 rows (Dl.bS rows 0 64) a2 a3) = .ok (.lst (gD (Dl.bS rows 0 64)),.mv [1]):=bF rfl rfl;rw[aF,bL,v1,aW];rfl
theorem r9:∀(s1 s2:List (Nat×Nat)) (gs:List Nat) (acc:List (List Nat)),s1.length<=gs.length->Dl.lay (s1++s2) gs acc=Dl.lay s2 (gs.drop s1.length) (Dl.lay s1 gs acc)
 |[],_,gs,acc,_=>by cases gs<;>rfl
 |s::s1,s2,[],_,h=>by rw[av,du] at h;omega
 |s::s1,s2,g::gs,acc,h=>r9 s1 s2 gs _ (by simpa using h)
theorem p9:∀(ss:List (Nat×Nat)) (gs:List Nat) (acc:List (List Nat)),(Dl.lay ss gs acc).length=acc.length
 |[],gs,acc=>by cases gs<;>rfl
 |s::ss,[],acc=>rfl
 |s::ss,g::gs,acc=>by rw[Dl.lay,p9,dn]
theorem ph {acc:List (List Nat)}{k:Nat}(h:∀ r∈acc,r.length<=k)(i:Nat):(acc.getD i []).length<=k:=by
 rw[List.getD_eq_getElem?_getD];cases e:acc[i]? with
 |none=>exact cn _
 |some r=>exact h r (List.mem_of_getElem? e)
theorem yj {acc:List (List Nat)}{k i g:Nat}(h:∀ r∈acc,r.length<=k):∀ r∈acc.set i (acc.getD i [] ++ [g]),r.length<=k+1:=fun r hr=>by
 rcases gv hr with h' | rfl
 ·exact f6 (h r h')
 ·rw[au,cf];exact Nat.succ_le_succ (ph h _)
noncomputable abbrev E7 (F cts:List Nat)(a2:Slot)(acc:List (List Nat))(p:Nat)(a5 a6:Slot):En:=[sG F,sG cts,a2,sO (rD acc),sN p,a5,a6]
theorem jc {F cts:List Nat}{a2:Slot}{acc:List (List Nat)}{p:Nat}{a5 a6:Slot}(h2:aP a2)(h5:aP a5)(h6:aP a6):Tame (E7 F cts a2 acc p a5 a6):=.cons (bJ _) (.cons (bJ _) (.cons h2 (.cons (aB _) (.cons (aB _) (.cons h5 (.cons h6 .nil))))))
theorem pin (T:Tb)(F cts:List Nat)(acc:List (List Nat))(c p k j:Nat)(hp:k<c->p<F.length)(hj:j<acc.length)(hle:(acc.getD j []).length<=900):aF T b1i (E7 F cts (sN c) acc p (sN k) (sN j)) = .nx (if k<c then E7 F cts (sN c) (acc.set j (acc.getD j [] ++ [F.getD p 0])) (p+1) (sN k) (sN j) else E7 F cts (sN c) acc p (sN k) (sN j)):=by
 have v5:ev T (.var 5) (E7 F cts (sN c) acc p (sN k) (sN j)) = .ok (.int (k:Int),.mv []):=aL rfl rfl;have v2:ev T (.var 2) (E7 F cts (sN c) acc p (sN k) (sN j)) = .ok (.int (c:Int),.mv []):=aL rfl rfl;have e2:ev T (.cmp .Lt (.var 5) (.var 2)) (E7 F cts (sN c) acc p (sN k) (sN j)) = .ok (.bl (decide ((k:Int)<(c:Int))),.mv []):=by
  rw[ev,v5,aA,v2,aA];rfl
 unfold b1i;by_cases h:k<c
 ·rw[bu (show (k:Int)<(c:Int) by omega)] at e2;rw[if_pos h];have v0:ev T (.var 0) (E7 F cts (sN c) acc p (sN k) (sN j)) = .ok (.lst (gD F),.sh []):=rfl;have v4:ev T (.var 4) (E7 F cts (sN c) acc p (sN k) (sN j)) = .ok (.int (p:Int),.mv []):=aL rfl rfl;have v6:ev T (.var 6) (E7 F cts (sN c) acc p (sN k) (sN j)) = .ok (.int (j:Int),.mv []):=aL rfl rfl;have x1:=ou (hp h) v0 v4;have hg:(rD acc)[j]? = some (.lst (gD (acc.getD j []))):=by
   rw[List.getElem?_map,List.getElem?_eq_getElem hj,List.getD_eq_getElem?_getD,List.getElem?_eq_getElem hj];rfl
  have g:=uE (x:=3) (jc (aB (.int (c:Int))) (aB (.int (k:Int))) (aB (.int (j:Int)))) rfl v6 (by rw[ak];exact gP hj) hg x1 (by rw[cJ];exact fG (by omega));have g':bL T (.mut 3 (.some (.var 6)) .append (.cons (.ix (.var 0) (.var 4)) .nil)) (E7 F cts (sN c) acc p (sN k) (sN j)) = .nx (E7 F cts (sN c) (acc.set j (acc.getD j [] ++ [F.getD p 0])) p (sN k) (sN j)):=by
   rw[g];show Fl.nx [sG F,sG cts,sN c,sO ((rD acc).set j (.lst (gD (acc.getD j []) ++ [.int ((F.getD p 0:Nat):Int)]))),sN p,sN k,sN j]=Fl.nx [sG F,sG cts,sN c,sO (rD (acc.set j (acc.getD j [] ++ [F.getD p 0]))),sN p,sN k,sN j];rw[rD,rD,List.map_set,eJ];rfl
  generalize acc.set j (acc.getD j [] ++ [F.getD p 0])=acc' at *;have g2:=Pc.Nw.wJ (T:=T) (x:=4) (jc (F:=F) (cts:=cts) (acc:=acc') (p:=p) (aB (.int (c:Int))) (aB (.int (k:Int))) (aB (.int (j:Int)))) rfl (bH (.int 1));have g2':bL T (.aug 4 .Add (.cst (.int (1)))) (E7 F cts (sN c) acc' p (sN k) (sN j)) = .nx (E7 F cts (sN c) acc' (p+1) (sN k) (sN j)):=by
   rw[g2,show (p:Int)+1=((p+1:Nat):Int) by omega];rfl
  rw[aF,bL,e2,aW];dsimp only[truth];rw[aF,g',aC,aF,g2',aC];rfl
 ·rw[ay (show ¬ (k:Int)<(c:Int) by omega)] at e2;rw[if_neg h,aF,ite_ff e2,aC];rfl
theorem ud (T:Tb)(F cts:List Nat)(k:Nat):∀(cs:List Nat) (j:Nat) (acc:List (List Nat)) (p:Nat) (a2 a6:Slot),aP a2->aP a6->j+cs.length=acc.length->p+(Dl.fH cs k j).length<=F.length->F.length<=800->(∀ r∈acc,r.length<=p) ->
  ∃ a2' a6',aP a2'/\aP a6'/\(∀ r∈Dl.lay (Dl.fH cs k j) (F.drop p) acc,r.length<=p+(Dl.fH cs k j).length)/\bP (.tp [6,2]) [] (aF T b1i) (AS j cs) (E7 F cts a2 acc p (sN k) a6) = .nx (E7 F cts a2' (Dl.lay (Dl.fH cs k j) (F.drop p) acc) (p+(Dl.fH cs k j).length) (sN k) a6')
 | [],j,acc,p,a2,a6,h2,h6,_,_,_,hr=>by
  have e:Dl.lay (Dl.fH [] k j) (F.drop p) acc=acc:=by
   show Dl.lay [] _ _=_;cases F.drop p<;>rfl
  rw[e];exact⟨a2,a6,h2,h6,hr,rfl⟩
 | c::cs,j,acc,p,a2,a6,h2,h6,hj,hp,hF,hr=>by
  rw[Dl.fH,au] at hp;rw[av] at hj;rw[Dl.fH];have hb:bI [] (.tp [6,2]) (.tup [.int (j:Int),.int (c:Int)]) (E7 F cts a2 acc p (sN k) a6)=some (E7 F cts (sN c) acc p (sN k) (sN j)):=k9 (jc h2 (aB _) h6) (show (6:Nat)<7 by decide) (show (2:Nat)<7 by decide) rfl rfl;have hin:=pin T F cts acc c p k j (fun h=>by rw[if_pos h] at hp;simp at hp;omega) (by omega) (Nat.le_trans (ph hr _) (by omega));by_cases h:k<c
  ·rw[if_pos h] at hp hin ⊢;have hpl:p<F.length:=by simp at hp;omega
   obtain⟨b2,b6,u2,u6,ur,q⟩:=ud T F cts k cs (j+1) (acc.set j (acc.getD j [] ++ [F.getD p 0])) (p+1) (sN c) (sN j) (aB _) (aB _) (by rw[List.length_set];omega) (by simp at hp;omega) hF (yj hr);have ed:Dl.lay ([(j,k)]++Dl.fH cs k (j+1)) (F.drop p) acc=Dl.lay (Dl.fH cs k (j+1)) (F.drop (p+1)) (acc.set j (acc.getD j [] ++ [F.getD p 0])):=by
    rw[bj hpl,List.getD_eq_getElem?_getD (l:=F),List.getElem?_eq_getElem hpl];rfl
   have el:p+([(j,k)]++Dl.fH cs k (j+1)).length=p+1+(Dl.fH cs k (j+1)).length:=by simp;omega
   rw[ed,el];exact⟨b2,b6,u2,u6,ur,by rw[mw,cI hb hin,q]⟩
  ·rw[if_neg h] at hp hin ⊢;obtain⟨b2,b6,u2,u6,ur,q⟩:=ud T F cts k cs (j+1) acc p (sN c) (sN j) (aB _) (aB _) (by omega) (by simpa using hp) hF hr;exact⟨b2,b6,u2,u6,ur,by rw[mw,cI hb hin,q];rfl⟩
theorem t9 (T:Tb)(F cts:List Nat)(hF:F.length<=800):∀(m k:Nat) (acc:List (List Nat)) (p:Nat) (a2 a5 a6:Slot),aP a2->aP a5->aP a6->cts.length=acc.length->p+(Dl.aS cts k m).length<=F.length->(∀ r∈acc,r.length<=p) ->
  ∃ a2' p' a5' a6',aP a2'/\aP a5'/\aP a6'/\bP (.nm 5) [] (aF T b1o) (aQ (k:Int) 1 m) (E7 F cts a2 acc p a5 a6) = .nx (E7 F cts a2' (Dl.lay (Dl.aS cts k m) (F.drop p) acc) p' a5' a6')
 | 0,k,acc,p,a2,a5,a6,h2,h5,h6,_,_,_=>by
  have e:Dl.lay (Dl.aS cts k 0) (F.drop p) acc=acc:=by
   show Dl.lay [] _ _=_;cases F.drop p<;>rfl
  rw[e];exact⟨a2,p,a5,a6,h2,h5,h6,rfl⟩
 | m+1,k,acc,p,a2,a5,a6,h2,h5,h6,hc,hp,hr=>by
  rw[Dl.aS,au] at hp;obtain⟨b2,b6,u2,u6,ur,q⟩:=ud T F cts k cts 0 acc p a2 a6 h2 h6 (by omega) (by omega) hF hr;obtain⟨c2,p',c5,c6,v2,v5,v6,q'⟩:=t9 T F cts hF m (k+1) (Dl.lay (Dl.fH cts k 0) (F.drop p) acc) (p+(Dl.fH cts k 0).length) b2 (sN k) b6 u2 (aB _) u6 (by rw[p9];exact hc) (by omega) ur;refine⟨c2,p',c5,c6,v2,v5,v6,?_⟩;have hb:bI [] (.nm 5) (.int (k:Int)) (E7 F cts a2 acc p a5 a6)=some (E7 F cts a2 acc p (sN k) a6):=cZ (jc h2 h5 h6) (show (5:Nat)<7 by decide);have hit:fU T (.enum (.var 1)) (E7 F cts a2 acc p (sN k) a6) = .ok (AS 0 cts,[]):=by
   rw[<-zZ];rfl
  have hs:aF T b1o (E7 F cts a2 acc p (sN k) a6) = .nx (E7 F cts b2 (Dl.lay (Dl.fH cts k 0) (F.drop p) acc) (p+(Dl.fH cts k 0).length) (sN k) b6):=by
   unfold b1o;rw[aF,dF hit q,aC];rfl
  rw[cU,cI hb hs,q',Dl.aS,r9 _ _ _ _ (by rw[et];omega),gb]
theorem r1 (n:Nat){rows:List (List Nat)}(hr:rows.length<=5)(hl:∀ r∈rows,r.length<=64):(T (n+1)).cl 1 [.lst (gD (Dl.bS rows 0 64)),.lst (gD (rows.map List.length))] = .ok (.lst (rD rows),true):=by
 rw[vH,eH (F:=⟨2,7,b1⟩) rfl rfl];have tn:=aK;obtain⟨M,hM,hM1,hM2⟩:=mz (rows.map List.length);have hM64:M<=64:=by
  rcases hM2 with rfl | h
  ·omega
  ·obtain⟨r,hr,rfl⟩:=List.mem_map.mp h;exact hl r hr
 have hlM:∀ r∈rows,r.length<=M:=fun r hr=>hM1 _ (List.mem_map_of_mem hr)
 rw[Dl.kZ hlM hM64];have hLay:=Dl.wu hlM;have hsl:=Dl.iP rows M 0;have hdl:=iA (rows:=rows) M 0;have hd8:(Dl.bS rows 0 M).length<=800:=bh hdl (bh (Nat.mul_le_mul hM64 hr) (by decide));have hmap:rows.map (fun _=>([]:List Nat))=(rows.map List.length).map fun _=>[]:=by rw[cg];rfl
 rw[hmap] at hLay;have hcl:(rows.map List.length).length<=5:=by rw[ak];exact hr
 generalize Dl.bS rows 0 M=F at *;generalize rows.map List.length=cts at *;have hst:aN [.lst (gD F),.lst (gD cts)] 7=[sG F,sG cts,none,none,none,none,none]:=rfl;dsimp only;rw[hst];have e3:ev (T n) (.comp 1 [] (.nm 0) (.seq (.var 1)) .none (.lst .nil)) [sG F,sG cts,none,none,none,none,none] = .ok (.lst (rD (cts.map fun _=>[])),.mv []):=by
  have hit:fU (T n) (.seq (.var 1)) [sG F,sG cts,none,none,none,none,none] = .ok (gD cts,[]):=rfl;rw[lG (g:=fun _=>(.lst [],.mv [])) hit (by rw[cJ];exact fG (by omega)) (fun d hd=>?_) (fun d hd=>rfl)]
  ·unfold gD rD;rw[cg,cg];rfl
  ·obtain⟨g,_,rfl⟩:=List.mem_map.mp hd;rfl
 have g1:=bO (i:=3) (Tame.cons (bJ (.lst (gD F))) (.cons (bJ (.lst (gD cts))) (.cons tn (.cons tn (.cons tn (.cons tn (.cons tn .nil))))))) (show (3:Nat)<7 by decide) e3;have hA0:∀ r∈cts.map (fun _=>([]:List Nat)),r.length<=0:=fun r hr=>by
  obtain⟨_,_,rfl⟩:=List.mem_map.mp hr;exact ai _
 have hAl:(cts.map (fun _=>([]:List Nat))).length=cts.length:=ak ..;generalize cts.map (fun _=>([]:List Nat))=A at *;have g1':bL (T n) (.asg (.nm 3) (.comp 1 [] (.nm 0) (.seq (.var 1)) .none (.lst .nil)) false) [sG F,sG cts,none,none,none,none,none] = .nx [sG F,sG cts,none,sO (rD A),none,none,none]:=g1;have g2:bL (T n) (.asg (.nm 4) (.cst (.int (0))) false) [sG F,sG cts,none,sO (rD A),none,none,none] = .nx (E7 F cts none A 0 none none):=rfl;have em:ev (T n) e1 (E7 F cts none A 0 none none) = .ok (.int (M:Int),.mv []):=by
  have v1:ev (T n) (.var 1) (E7 F cts none A 0 none none) = .ok (.lst (gD cts),.sh []):=rfl;unfold e1;rw[ev,bQ,bQ,bQ,v1,aA,bH,aA,aA,aA,aA,yT];dsimp only;rw[hM,aM,aA,bE]
 obtain⟨a2,p',a5,a6,t2,t5,t6,q⟩:=t9 (T n) F cts hd8 M 0 A 0 none none none tn tn tn hAl.symm (by omega) hA0;rw[List.drop_zero,hLay] at q;have g3:=dF (qL em (by omega)) q;unfold b1;rw[aF,g1',aC,aF,g2,aC,aF,g3,aC];have v3:ev (T n) (.var 3) (E7 F cts a2 rows p' a5 a6) = .ok (.lst (rD rows),.mv [3]):=bF rfl rfl;rw[aF,bL,v3,aW];rfl
noncomputable abbrev E6 (S:List D)(d:Int)(L:List Nat)(a3 a4 a5:Slot):En:=[some (.lst S,.sh []),sI d,oG L,a3,a4,a5]
theorem iE {S:List D}{d:Int}{L:List Nat}{a3 a4 a5:Slot}(h3:aP a3)(h4:aP a4)(h5:aP a5):Tame (E6 S d L a3 a4 a5):=.cons (bJ _) (.cons (aB _) (.cons (aB _) (.cons h3 (.cons h4 (.cons h5 .nil)))))
theorem in7 (n:Nat)(ns:List Int)(d:Int)(L:List Nat)(k:Nat)(a4 a5:Slot)(t4:aP a4)(t5:aP a5)(hL:L.length<=900):∃(c:Nat) (e:Int),c<64/\aF (T (n+1)) b7l (E6 (ns.map D.int) d L (sN k) a4 a5) = .nx (E6 (ns.map D.int) d (L ++ [c]) (sN k) (sI e) (sN c)):=by
 have to:=aB;obtain⟨v,hv⟩:=h3 n ns (k+1);obtain⟨e,he,hm⟩:=h4 n v ((k:Int)+2);generalize ns.map D.int=S at *;have x1:∀ c2 a4 a5,ev (T (n+1)) (.bin .Add (.var 3) (.cst (.int c2))) (E6 S d L (sN k) a4 a5) = .ok (.int ((k:Int)+c2),.mv []):=fun c2 a4 a5=>iD (aL rfl rfl) (bH _)
 have c1:ev (T (n+1)) (.call 3 (.cons (.var 0) (.cons (.bin .Add (.var 3) (.cst (.int (1)))) .nil))) (E6 S d L (sN k) a4 a5) = .ok (.int v,.mv []):=by
  refine gZ (d1:=.lst S) (R1:=.sh []) rfl (x1 1 a4 a5) ?_;rw[show (k:Int)+1=((k+1:Nat):Int) by omega];exact hv
 have c2:=gZ (f:=4) c1 (x1 2 a4 a5) hm;have g1:=bO (i:=4) (iE (S:=S) (d:=d) (L:=L) (to (.int (k:Int))) t4 t5) (show (4:Nat)<6 by decide) c2;have g1':bL (T (n+1)) (.asg (.nm 4) (.call 4 (.cons (.call 3 (.cons (.var 0) (.cons (.bin .Add (.var 3) (.cst (.int (1)))) .nil))) (.cons (.bin .Add (.var 3) (.cst (.int (2)))) .nil))) false) (E6 S d L (sN k) a4 a5) = .nx (E6 S d L (sN k) (sI e) a5):=g1;have v4:∀ a5,ev (T (n+1)) (.var 4) (E6 S d L (sN k) (sI e) a5) = .ok (.int e,.mv []):=fun a5=>aL rfl rfl
 have v1:∀ a5,ev (T (n+1)) (.var 1) (E6 S d L (sN k) (sI e) a5) = .ok (.int d,.mv []):=fun a5=>aL rfl rfl
 have e7:∀ a5,ev (T (n+1)) (.bin .FloorDiv (.var 4) (.cst (.int (7)))) (E6 S d L (sN k) (sI e) a5) = .ok (.int (e / 7),.mv []):=fun a5=>lY (by omega) (by omega) (v4 a5) (bH _)
 obtain⟨c,hc,hc'⟩:=iB (a:=e / 7%64) (m:=64) (by omega) (by omega);have e5:=jN (y:=64) (by omega) (e7 a5) (bH (.int 64));rw[hc] at e5;have g2:=bO (i:=5) (iE (S:=S) (d:=d) (L:=L) (to (.int (k:Int))) (to (.int e)) t5) (show (5:Nat)<6 by decide) e5;have g2':bL (T (n+1)) (.asg (.nm 5) (.bin .Mod (.bin .FloorDiv (.var 4) (.cst (.int (7)))) (.cst (.int (64)))) false) (E6 S d L (sN k) (sI e) a5) = .nx (E6 S d L (sN k) (sI e) (sN c)):=g2;have fin:∀ q:Nat,aF (T (n+1)) (.cons (.mut 2 .none .append (.cons (.var 5) .nil)) .nil) (E6 S d L (sN k) (sI e) (sN q)) = .nx (E6 S d (L ++ [q]) (sN k) (sI e) (sN q)):=fun q=>by
  have v5:ev (T (n+1)) (.var 5) (E6 S d L (sN k) (sI e) (sN q)) = .ok (.int (q:Int),.mv []):=aL rfl rfl;have g:=i9 (x:=2) (iE (to _) (to _) (to _)) rfl v5 (by rw[cJ];exact fG (by omega));have g':bL (T (n+1)) (.mut 2 .none .append (.cons (.var 5) .nil)) (E6 S d L (sN k) (sI e) (sN q)) = .nx (E6 S d (L ++ [q]) (sN k) (sI e) (sN q)):=by
   rw[g];show Fl.nx [some (.lst S,.sh []),sI d,some (.lst (gD L ++ [.int (q:Int)]),.own),sN k,sI e,sN q]=Fl.nx [some (.lst S,.sh []),sI d,some (.lst (gD (L ++ [q])),.own),sN k,sI e,sN q];rw[eJ];rfl
  rw[aF,g',aC];rfl
 have ec:ev (T (n+1)) (.cmp .Gt c3 (.cst (.int (0)))) (E6 S d L (sN k) (sI e) (sN c)) = .ok (.bl (decide (d / 5%3 > 0)),.mv []):=by
  have:=jN (y:=3) (by omega) (lY (y:=5) (by omega) (by omega) (v1 (sN c)) (bH (.int 5))) (bH (.int 3));unfold c3;rw[ev,this,aA,bH,aA];rfl
 unfold b7l;by_cases h:d / 5%3 > 0
 ·rw[bu h] at ec;have e2:=jN (y:=2) (by omega) (e7 (sN c)) (bH (.int 2));have e3:=iD (lY (y:=15) (by omega) (by omega) (v1 (sN c)) (bH (.int 15))) e2;obtain⟨c',hc2,hc2'⟩:=iB (a:=(d / 15+e / 7%2)%64) (m:=64) (by omega) (by omega);have e4:=jN (y:=64) (by omega) e3 (bH (.int 64));rw[hc2] at e4;have g3:=bO (i:=5) (iE (S:=S) (d:=d) (L:=L) (to (.int (k:Int))) (to (.int e)) (to (.int (c:Int)))) (show (5:Nat)<6 by decide) e4;have g3':bL (T (n+1)) (.asg (.nm 5) (.bin .Mod (.bin .Add (.bin .FloorDiv (.var 1) (.cst (.int (15)))) (.bin .Mod (.bin .FloorDiv (.var 4) (.cst (.int (7)))) (.cst (.int (2))))) (.cst (.int (64)))) false) (E6 S d L (sN k) (sI e) (sN c)) = .nx (E6 S d L (sN k) (sI e) (sN c')):=g3;refine⟨c',e,by omega,?_⟩;have g4:bL (T (n+1)) (.ite (.cmp .Gt c3 (.cst (.int (0)))) (.cons (.asg (.nm 5) (.bin .Mod (.bin .Add (.bin .FloorDiv (.var 1) (.cst (.int (15)))) (.bin .Mod (.bin .FloorDiv (.var 4) (.cst (.int (7)))) (.cst (.int (2))))) (.cst (.int (64)))) false) .nil) .nil) (E6 S d L (sN k) (sI e) (sN c)) = .nx (E6 S d L (sN k) (sI e) (sN c')):=by
   rw[bL,ec,aW];dsimp only[truth];rw[aF,g3',aC];rfl
  rw[aF,g1',aC,aF,g2',aC,aF,g4,aC];exact fin c'
 ·rw[ay h] at ec;refine⟨c,e,by omega,?_⟩;rw[aF,g1',aC,aF,g2',aC,aF,ite_ff ec,aC];exact fin c
theorem ya (n:Nat)(ns:List Int)(d:Int):∀(m k:Nat) (L:List Nat) (a3 a4 a5:Slot),aP a3->aP a4->aP a5->L.length+m<=800->(∀ c∈L,c<64)->∃ L' a3' a4' a5',L'.length=L.length+m/\(∀ c∈L',c<64)/\bP (.nm 3) [] (aF (T (n+1)) b7l) (aQ (k:Int) 1 m) (E6 (ns.map D.int) d L a3 a4 a5) = .nx (E6 (ns.map D.int) d L' a3' a4' a5')
 |0,k,L,a3,a4,a5,_,_,_,_,h=>⟨L,a3,a4,a5,rfl,h,rfl⟩
 | m+1,k,L,a3,a4,a5,t3,t4,t5,hl,h=>by
  obtain⟨c,e,hc,q⟩:=in7 n ns d L k a4 a5 t4 t5 (by omega);obtain⟨L',b3,b4,b5,l1,l2,q'⟩:=ya n ns d m (k+1) (L ++ [c]) (sN k) (sI e) (sN c) (aB _) (aB _) (aB _) (by rw[au,cf];omega) (fun x hx=>by
   rcases dm.mp hx with hx | hx
   ·exact h x hx
   ·rw[List.mem_singleton.mp hx];exact hc)
  refine⟨L',b3,b4,b5,by rw[l1,au,cf];omega,l2,?_⟩;have hb:bI [] (.nm 3) (.int (k:Int)) (E6 (ns.map D.int) d L a3 a4 a5)=some (E6 (ns.map D.int) d L (sN k) a4 a5):=cZ (iE t3 t4 t5) (show (3:Nat)<6 by decide);rw[cU,cI hb q,q']
theorem r7 (n:Nat)(ns:List Int):∃ cts:List Nat,cts.length<=5/\(∀ c∈cts,c<64)/\(T (n+2)).cl 7 [.lst (ns.map D.int)] = .ok (.lst (gD cts),true):=by
 obtain⟨v,hv⟩:=h3 n ns 0;obtain⟨d,hd,hm⟩:=h4 n v 1;obtain⟨m,hm1,hm2⟩:=iB (a:=d%5) (m:=5) (by omega) (by omega);obtain⟨L,a3,a4,a5,l1,l2,q⟩:=ya n ns d (m+1) 0 [] none none none aK aK aK (by simp;omega) (fun c h=>nomatch h);refine⟨L,by rw[l1];simp;omega,l2,?_⟩;rw[vH,eH (F:=⟨1,6,b7⟩) rfl rfl];have hst:aN [.lst (ns.map D.int)] 6=[some (.lst (ns.map D.int),.sh []),none,none,none,none,none]:=rfl;dsimp only;rw[hst];generalize ns.map D.int=S at *;have tn:=aK;have c1:ev (T (n+1)) (.call 3 (.cons (.var 0) (.cons (.cst (.int (0))) .nil))) [some (.lst S,.sh []),none,none,none,none,none] = .ok (.int v,.mv []):=gZ (d1:=.lst S) (R1:=.sh []) rfl (bH _) hv;have c2:=gZ (f:=4) c1 (bH (.int 1)) hm;have g1:=bO (i:=1) (Tame.cons (bJ (.lst S)) (.cons tn (.cons tn (.cons tn (.cons tn (.cons tn .nil)))))) (show (1:Nat)<6 by decide) c2;have g1':bL (T (n+1)) (.asg (.nm 1) (.call 4 (.cons (.call 3 (.cons (.var 0) (.cons (.cst (.int (0))) .nil))) (.cons (.cst (.int (1))) .nil))) false) [some (.lst S,.sh []),none,none,none,none,none] = .nx [some (.lst S,.sh []),sI d,none,none,none,none]:=g1;have g2:bL (T (n+1)) (.asg (.nm 2) (.lst .nil) false) [some (.lst S,.sh []),sI d,none,none,none,none] = .nx (E6 S d [] none none none):=rfl;have em:ev (T (n+1)) (.bin .Add (.cst (.int (1))) (.bin .Mod (.var 1) (.cst (.int (5))))) (E6 S d [] none none none) = .ok (.int ((m+1:Nat):Int),.mv []):=by
  rw[iD (bH (.int 1)) (jN (y:=5) (by omega) (aL (d:=.int d) (t:=.own) rfl rfl) (bH (.int 5))),hm1,show (1:Int)+(m:Int)=((m+1:Nat):Int) by omega]
 have g3:=dF (qL em (by omega)) q;unfold b7;rw[aF,g1',aC,aF,g2,aC,aF,g3,aC];have v2:ev (T (n+1)) (.var 2) (E6 S d L a3 a4 a5) = .ok (.lst (gD L),.mv [2]):=bF rfl rfl;rw[aF,bL,v2,aW];rfl
noncomputable def jm:List Nat->Nat->List (Nat×Nat)
 |[],_=>[]
 |c::cs,j=>(List.range c).map (fun k=>(k,j))++jm cs (j+1)
noncomputable def qM (s:Nat×Nat):Int:=64*(s.1:Int)+(s.2:Int)
noncomputable abbrev sw (s:Nat×Nat):Nat×Nat:=(s.2,s.1)
theorem jU (cs:List Nat):∀(m k:Nat),Dl.aS cs k (m+1)=Dl.aS cs k m++Dl.fH cs (k+m) 0
 | 0,k=>by
  rw[Dl.aS,Dl.aS,Dl.aS,Nat.add_zero,ax,cv]
 | m+1,k=>by
  rw[Dl.aS,jU cs m (k+1),Dl.aS,ag,show k+1+m=k+(m+1) by omega]
noncomputable def uZ (m:Nat):List Nat->Nat->List (Nat×Nat)
 |[],_=>[]
 |c::cs,j=>(List.range (min c m)).map (fun k=>(k,j))++uZ m cs (j+1)
theorem pV (m:Nat):∀(cs:List Nat) (j:Nat),(uZ (m+1) cs j).Perm (uZ m cs j++(Dl.fH cs m j).map sw)
 |[],_=>.refl _
 | c::cs,j=>by
  have ih:=pV m cs (j+1);rw[uZ,uZ,Dl.fH,cw];have e:(List.range (min c (m+1))).map (fun k=>(k,j))=(List.range (min c m)).map (fun k=>(k,j))++(if m<c then [(j,m)] else []).map sw:=by
   by_cases h:m<c
   ·rw[if_pos h,show min c (m+1)=min c m+1 by omega,List.range_succ,cw,show min c m=m by omega];rfl
   ·rw[if_neg h,show min c (m+1)=min c m by omega,f7,ax]
  rw[e,ag,ag];refine dt _ ?_;refine ((dt _ ih).trans ?_);rw[<-ag,<-ag];exact gc _ fi
theorem p6:∀(cs:List Nat) (j:Nat),uZ 0 cs j=[]
 |[],_=>rfl
 |c::cs,j=>by rw[uZ,p6 cs (j+1),Nat.min_zero];rfl
theorem qf (cs:List Nat):∀ m:Nat,(uZ m cs 0).Perm ((Dl.aS cs 0 m).map sw)
 |0=>by rw[p6];exact .refl _
 | m+1=>by
  rw[jU,cw,g9];exact (pV m cs 0).trans (gc _ (qf cs m))
theorem tD {m:Nat}:∀(cs:List Nat) (j:Nat),(∀ c∈cs,c<=m)->uZ m cs j=jm cs j
 |[],_,_=>rfl
 | c::cs,j,h=>by
  rw[uZ,jm,tD cs (j+1) fun x hx=>h x (ae _ hx),ie (h c ao)]
theorem lO:∀(cs:List Nat) (k j:Nat),∀ s∈Dl.fH cs k j,j<=s.1/\s.1<j+cs.length/\s.2=k
 |[],_,_,s,h=>by simp[Dl.fH] at h
 | c::cs,k,j,s,h=>by
  rw[Dl.fH,dm] at h;rw[av];rcases h with h | h
  ·split at h
   ·have:s=(j,k):=by simpa using h
    subst this;exact⟨Nat.le_refl _,by dsimp only;omega,rfl⟩
   ·simp at h
  ·obtain⟨a,b,c⟩:=lO cs k (j+1) s h;exact⟨by omega,by omega,c⟩
theorem pJ:∀(cs:List Nat) (k j:Nat),((Dl.fH cs k j).map fun s=>qM (sw s)).Pairwise (·<=·)
 |[],_,_=>by simp[Dl.fH]
 | c::cs,k,j=>by
  rw[Dl.fH,cw];refine List.pairwise_append.mpr ⟨?_,pJ cs k (j+1),fun x hx y hy=>?_⟩
  ·split
   ·exact g7 _ _
   ·exact .nil
  ·obtain⟨s,hs,rfl⟩:=List.mem_map.mp hy;obtain⟨a,_,b⟩:=lO cs k (j+1) s hs;split at hx
   ·have:x=qM (k,j):=by simpa using hx
    subst this;unfold qM sw;dsimp only;omega
   ·simp at hx
theorem gU (cs:List Nat):∀(m k:Nat),∀ s∈Dl.aS cs k m,k<=s.2/\s.1<cs.length/\s.2<k+m
 |0,_,s,h=>by simp[Dl.aS] at h
 | m+1,k,s,h=>by
  rw[Dl.aS,dm] at h;rcases h with h | h
  ·obtain⟨_,b,c⟩:=lO cs k 0 s h;exact⟨by omega,by omega,by omega⟩
  ·obtain⟨a,b,c⟩:=gU cs m (k+1) s h;exact⟨by omega,b,by omega⟩
theorem lh (cs:List Nat)(h5:cs.length<=64):∀(m k:Nat),((Dl.aS cs k m).map fun s=>qM (sw s)).Pairwise (·<=·)
 |0,_=>by simp[Dl.aS]
 | m+1,k=>by
  rw[Dl.aS,cw];refine List.pairwise_append.mpr ⟨pJ cs k 0,lh cs h5 m (k+1),fun x hx y hy=>?_⟩;obtain⟨s,hs,rfl⟩:=List.mem_map.mp hx;obtain⟨t,ht,rfl⟩:=List.mem_map.mp hy;obtain⟨_,b,c⟩:=lO cs k 0 s hs;obtain⟨a',_,_⟩:=gU cs m (k+1) t ht;unfold qM sw;dsimp only;omega
theorem uA {cs:List Nat}(h5:cs.length<=64)(h:∀ c∈cs,c<=64):dB ((jm cs 0).map qM)=(Dl.aS cs 0 64).map fun s=>qM (sw s):=by
 refine PySem.W.lks_uniq ?_ (fC _) (lh cs h5 64 0);refine (dX _).trans ?_;have:=(qf cs 64).map qM
 rwa [tD cs 0 h,cg] at this
theorem sM (k:Nat):∀(rows pre:List (List Nat)),(Dl.fH (rows.map List.length) k pre.length).map (fun s=>((pre++rows).getD s.1 []).getD s.2 0)=Dl.turn rows k
 |[],pre=>rfl
 | r::rows,pre=>by
  have ih:=sM k rows (pre ++ [r]);rw[au,cf,ag] at ih;have ih:(Dl.fH (rows.map List.length) k (pre.length+1)).map (fun s=>((pre++r::rows).getD s.1 []).getD s.2 0)=Dl.turn rows k:=ih;rw[aw,Dl.fH,cw,ih];unfold Dl.turn;rw[dq];by_cases h:k<r.length
  ·rw[if_pos h,List.getElem?_eq_getElem h];have e:(pre++r::rows).getD pre.length []=r:=by
    rw[List.getD_eq_getElem?_getD,List.getElem?_append_right (ai _),Nat.sub_self];rfl
   show [((pre++r::rows).getD pre.length []).getD k 0]++_=r[k]::_;rw[e,List.getD_eq_getElem?_getD,List.getElem?_eq_getElem h];rfl
  ·rw[if_neg h,List.getElem?_eq_none (by omega)];rfl
theorem mQ (rows:List (List Nat)):∀(m k:Nat),(Dl.aS (rows.map List.length) k m).map (fun s=>(rows.getD s.1 []).getD s.2 0)=Dl.bS rows k m
 |0,_=>rfl
 | m+1,k=>by
  rw[Dl.aS,cw,mQ rows m (k+1),Dl.bS];congr 1;exact sM k rows []
theorem rX (k:Nat):∀(rows pre:List (List Nat)),∀ s∈Dl.fH (rows.map List.length) k pre.length,s.2<((pre++rows).getD s.1 []).length
 |[],pre,s,h=>by simp[Dl.fH] at h
 | r::rows,pre,s,h=>by
  rw[aw,Dl.fH,dm] at h;rcases h with h | h
  ·split at h
   ·rename_i hk;have:s=(pre.length,k):=by simpa using h
    subst this;have e:(pre++r::rows).getD pre.length []=r:=by
     rw[List.getD_eq_getElem?_getD,List.getElem?_append_right (ai _),Nat.sub_self];rfl
    rw[e];exact hk
   ·simp at h
  ·have:=rX k rows (pre ++ [r]) s (by rw[au,cf];exact h);rw[ag] at this;exact this
theorem mP (rows:List (List Nat)):∀(m k:Nat),∀ s∈Dl.aS (rows.map List.length) k m,s.2<(rows.getD s.1 []).length
 |0,_,s,h=>by simp[Dl.aS] at h
 | m+1,k,s,h=>by
  rw[Dl.aS,dm] at h;rcases h with h | h
  ·exact rX k rows [] s h
  ·exact mP rows m (k+1) s h
theorem la {α:Type}{f:D->Rs (Option (D×Rt))}{g r:α->D}:∀{l:List α},(∀ a∈l,f (g a) = .ok (some (r a,.mv [])))->eF f (l.map g) = .ok (l.map fun a=>(r a,Rt.mv []))
 |[],_=>rfl
 | a::l,h=>by
  simp only[List.map_cons,eF];rw[h a ao,la fun j hj=>h j (ae _ hj)];rfl
theorem uc {α:Type}{T:Tb}{own:Nat}{pick:List Nat}{t:jd}{it:qK}{e:Ex}{env:En}{l:List α}{R:List Nat}{g r:α->D}(hit:fU T it env = .ok (l.map g,R))(hl:l.length<=1000)
  (hg:∀ a∈l,∃ env',bI [] t (g a) (cR env own pick)=some env'/\ev T e env' = .ok (r a,.mv [])):ev T (.comp own pick t it .none e) env = .ok (.lst (l.map r),.mv []):=by
 rw[ev,hit,aA,la (r:=r) fun a ha=>?_,aA]
 ·dsimp only;rw[if_pos (by rw[ak];exact fG hl),if_pos,cg]
  ·rfl
  ·rw[List.all_map,dg];intro a _;show ((r a).flat || true)=true;rw[Bool.or_true]
 ·obtain⟨env',h1,h2⟩:=hg a ha;unfold dQ;rw[h1];dsimp only;rw[wY,aA,if_pos rfl,h2,aA]
noncomputable abbrev pD (s:Nat×Nat):D:=.tup [.int (s.1:Int),.int (s.2:Int)]
noncomputable abbrev E3 (rows:List (List Nat))(sp:List (Nat×Nat))(a2:Slot):En:=[some (.lst (rD rows),.sh []),sO (sp.map pD),a2]
theorem pS {rows:List (List Nat)}{sp:List (Nat×Nat)}{a2:Slot}(h:aP a2):Tame (E3 rows sp a2):=.cons (bJ _) (.cons (aB _) (.cons h .nil))
theorem mI:∀ l:List (Nat×Nat),D.flats (l.map pD)=true
 |[]=>rfl
 |_::l=>mI l
theorem mM:∀ l:List (Nat×Nat),D.flats (l.map fun s=>pD (sw s))=true
 |[]=>rfl
 |_::l=>mM l
theorem uf {T:Tb}{env:En}{a b:Ex}{rows:List (List Nat)}{j:Nat}{R:List Nat}{R':Rt}(hj:j<rows.length)(h:ev T a env = .ok (.lst (rD rows),.sh R))(h':ev T b env = .ok (.int (j:Int),R')):ev T (.ix a b) env = .ok (.lst (gD (rows.getD j [])),.sh R):=by
 have hx:AR (.lst (rD rows)) (.int (j:Int))=some (.lst (gD (rows.getD j []))):=by
  show ((Pc.gE (rD rows).length (j:Int)).bind fun i=>(rD rows)[i]?)=_;rw[ak,gP hj];show (rD rows)[j]? = _;rw[List.getElem?_map,List.getElem?_eq_getElem hj,List.getD_eq_getElem?_getD,List.getElem?_eq_getElem hj];rfl
 rw[ev,h,aA,h',aA,hx,aM,aA];rfl
theorem jh {T:Tb}{env:En}{a b:Ex}{rows:List (List Nat)}{j:Nat}{R R':Rt}(hj:j<rows.length)(h:ev T a env = .ok (.lst (rD rows),R))(h':ev T b env = .ok (.int (j:Int),R')):∃ R2,ev T (.ix a b) env = .ok (.lst (gD (rows.getD j [])),R2):=by
 have hx:AR (.lst (rD rows)) (.int (j:Int))=some (.lst (gD (rows.getD j []))):=by
  show ((Pc.gE (rD rows).length (j:Int)).bind fun i=>(rD rows)[i]?)=_;rw[ak,gP hj];show (rD rows)[j]? = _;rw[List.getElem?_map,List.getElem?_eq_getElem hj,List.getD_eq_getElem?_getD,List.getElem?_eq_getElem hj];rfl
 rw[ev,h,aA,h',aA,hx,aM,aA];exact⟨_,rfl⟩
theorem lM {T:Tb}{env:En}{e:Ex}{gs:List Nat}{R:Rt}(h:ev T e env = .ok (.lst (gD gs),R)):ev T (.blt .len (.cons e .nil)) env = .ok (.int (gs.length:Int),.mv []):=by
 rw[ev,bQ,bQ,h,aA,aA,aA,kh];show (gT (some (D.int ((gD gs).length:Int)))).bind _=_;rw[aM,aA,bE,cJ]
theorem i6 {T:Tb}{env:En}{e:Ex}{rows:List (List Nat)}{R:Rt}(h:ev T e env = .ok (.lst (rD rows),R)):ev T (.blt .len (.cons e .nil)) env = .ok (.int (rows.length:Int),.mv []):=by
 rw[ev,bQ,bQ,h,aA,aA,aA,kh];show (gT (some (D.int ((rD rows).length:Int)))).bind _=_;rw[aM,aA,bE,ak]
theorem kH:∀(m k:Nat),aQ (k:Int) 1 m=(List.range' k m).map fun (x:Nat)=>D.int (x:Int)
 |0,_=>rfl
 |m+1,k=>by rw[cU,kH m (k+1),List.range'_succ];rfl
theorem in8 (T:Tb)(rows:List (List Nat))(sp:List (Nat×Nat))(j:Nat)(hj:j<rows.length)(hl:(rows.getD j []).length<=64)(hs:sp.length<=800):aF T b8l (E3 rows sp (sN j)) = .nx (E3 rows (sp++(List.range (rows.getD j []).length).map fun k=>(k,j)) (sN j)):=by
 have v2:ev T (.var 2) (E3 rows sp (sN j)) = .ok (.int (j:Int),.mv []):=aL rfl rfl;have x1:=lM (uf hj (show ev T (.var 0) (E3 rows sp (sN j)) = .ok (.lst (rD rows),.sh []) from rfl) v2);generalize hm:(rows.getD j []).length=m at *;have hit:fU T (.rng1 (.blt .len (.cons (.ix (.var 0) (.var 2)) .nil))) (E3 rows sp (sN j)) = .ok ((List.range m).map fun (x:Nat)=>D.int (x:Int),[]):=by
  rw[qL x1 (by omega),kH,List.range_eq_range']
 have ec:ev T c8 (E3 rows sp (sN j)) = .ok (.lst (((List.range m).map fun k=>(k,j)).map pD),.mv []):=by
  rw[cg];exact uc hit (by rw[f9];omega) fun k _=>⟨[sN k,some (.int (j:Int),.sh [])],rfl,rfl⟩
 have hq:((List.range m).map (fun k=>(k,j))).length=m:=by rw[ak,f9]
 generalize (List.range m).map (fun k=>(k,j))=q at *;have v1:ev T (.var 1) (E3 rows sp (sN j)) = .ok (.lst (sp.map pD),.mv [1]):=bF rfl rfl;have hb:rg .Add (.lst (sp.map pD)) (.lst (q.map pD))=some (.lst ((sp++q).map pD)):=by
  show ck ((sp.map pD).length+(q.map pD).length) (.lst (sp.map pD++q.map pD))=_;unfold ck;rw[if_pos (by rw[ak,ak];exact fG (by omega)),cw]
 have ea:ev T (.bin .Add (.var 1) c8) (E3 rows sp (sN j)) = .ok (.lst ((sp++q).map pD),.mv []):=by
  rw[ev,v1,aA,ec,aA,hb,aM,aA,dZ (mI _)]
 have g:bL T (.asg (.nm 1) (.bin .Add (.var 1) c8) false) (E3 rows sp (sN j)) = .nx (E3 rows (sp++q) (sN j)):=bO (pS (aB _)) (show (1:Nat)<3 by decide) ea;unfold b8l;rw[aF,g,aC];rfl
theorem sk:∀(cs:List Nat) (j:Nat),(jm cs j).length=cs.sum
 |[],_=>rfl
 |c::cs,j=>by rw[jm,au,ak,f9,sk,fq]
theorem xy (T:Tb)(rows:List (List Nat))(hl:∀ r∈rows,r.length<=64):∀(m j:Nat) (sp:List (Nat×Nat)) (a2:Slot),aP a2->j+m=rows.length->sp.length+64*m<=800->∃ a2',aP a2'/\bP (.nm 2) [] (aF T b8l) (aQ (j:Int) 1 m) (E3 rows sp a2) = .nx (E3 rows (sp++jm ((rows.drop j).map List.length) j) a2')
 |0,j,sp,a2,t,hj,_=>⟨a2,t,by rw[fe (by omega),f7,jm,ax];rfl⟩
 | m+1,j,sp,a2,t,hj,hs=>by
  have hlt:j<rows.length:=by omega
  have hg:rows.getD j []=rows[j]:=by rw[List.getD_eq_getElem?_getD,List.getElem?_eq_getElem hlt];rfl
  have h64:(rows.getD j []).length<=64:=by rw[hg];exact hl _ (List.getElem_mem hlt)
  have hin:=in8 T rows sp j hlt h64 (by omega);obtain⟨b2,u2,q⟩:=xy T rows hl m (j+1) (sp++(List.range (rows.getD j []).length).map fun k=>(k,j)) (sN j) (aB _) (by omega) (by rw[au,ak,f9];omega);refine⟨b2,u2,?_⟩;have hb:bI [] (.nm 2) (.int (j:Int)) (E3 rows sp a2)=some (E3 rows sp (sN j)):=cZ (pS t) (show (2:Nat)<3 by decide);rw[cU,cI hb hin,q,bj hlt,aw,jm,ag,hg]
theorem mV:∀{l:List (Nat×Nat)},(∀ s∈l,s.2<64)->iI (l.map pD)=some (l.map qM)
 |[],_=>rfl
 | s::l,h=>by
  have h1:=h s ao;show (((dR [.int (s.1:Int),.int (s.2:Int)]).bind BC).bind fun k=>(iI (l.map pD)).map fun l=>k::l)=_;rw[mV fun t ht=>h t (ae _ ht)];have e:(dR [.int (s.1:Int),.int (s.2:Int)]).bind BC=some (qM s):=by
   show (if 0<=(s.2:Int)/\(s.2:Int)<64 then some (64*(s.1:Int)+(s.2:Int)) else none)=_;rw[if_pos (by omega)];rfl
  rw[e];rfl
theorem yR {s:Nat×Nat}(h:s.2<64):vo (qM s)=pD s:=by
 unfold vo qM;rw[show (64*(s.1:Int)+(s.2:Int)) / 64=(s.1:Int) by omega,show (64*(s.1:Int)+(s.2:Int))%64=(s.2:Int) by omega]
theorem xY:∀(cs:List Nat) (j:Nat),∀ s∈jm cs j,s.2<j+cs.length
 |[],_,s,h=>nomatch h
 | c::cs,j,s,h=>by
  rw[jm,dm] at h;rw[av];rcases h with h | h
  ·obtain⟨k,_,rfl⟩:=List.mem_map.mp h;dsimp only;omega
  ·have:=xY cs (j+1) s h;omega
theorem oE:∀{l:List Nat}{m:Nat},(∀ c∈l,c<=m)->l.sum<=m*l.length
 |[],_,_=>by simp
 | c::l,m,h=>by
  have:=oE (l:=l) fun x hx=>h x (ae _ hx)
  have:=h c ao;rw[fq,av,Nat.mul_add];omega
theorem rh {cs:List Nat}(h5:cs.length<=5)(h:∀ c∈cs,c<=64):j3 [.lst ((jm cs 0).map pD)]=some (.lst ((Dl.aS cs 0 64).map fun s=>pD (sw s))):=by
 have hi:=uA (cs:=cs) (by omega) h;have hs:(Dl.aS cs 0 64).map (fun s=>pD (sw s))=((Dl.aS cs 0 64).map fun s=>qM (sw s)).map vo:=by
  rw[cg];refine eg fun s hs=>?_
  have:=(gU cs 64 0 s hs).2.1;exact (yR (s:=sw s) (by dsimp only[sw];omega)).symm
 have hr:=mV (l:=jm cs 0) fun s hs=>by have:=xY cs 0 s hs;omega
 have hl:(jm cs 0).length<1000:=by
  rw[sk];have:=oE h;have:64*cs.length<=64*5:=gn _ h5;omega
 rw[hs,<-hi];cases hj:jm cs 0 with
 |nil=>rfl
 |cons s l =>
  rw[<-hj];have hk:dR ((jm cs 0).map pD)=none:=by rw[hj];rfl
  show (match dR ((jm cs 0).map pD) with
   |some ns=>if ns.length<64 then some (D.lst ((dB ns).map .int)) else none
   |none=>(kQ ((jm cs 0).map pD)).map .lst)=_
  rw[hk];dsimp only;unfold kQ;rw[ak,if_pos hl,hr];rfl
theorem r8 (n:Nat){rows:List (List Nat)}(hr:rows.length<=5)(hl:∀ r∈rows,r.length<=64):(T (n+1)).cl 8 [.lst (rD rows)] = .ok (.lst (gD (Dl.bS rows 0 64)),true):=by
 rw[vH,eH (F:=⟨1,3,b8⟩) rfl rfl];have hst:aN [.lst (rD rows)] 3=[some (.lst (rD rows),.sh []),none,none]:=rfl;dsimp only;rw[hst];have g1:bL (T n) (.asg (.nm 1) (.lst .nil) false) [some (.lst (rD rows),.sh []),none,none] = .nx (E3 rows [] none):=rfl;have x0:=i6 (show ev (T n) (.var 0) (E3 rows [] none) = .ok (.lst (rD rows),.sh []) from rfl);obtain⟨a2,t2,q⟩:=xy (T n) rows hl rows.length 0 [] none aK (by omega) (by simp;omega);rw[List.drop_zero,cv] at q;have g2:=dF (qL x0 (by omega)) q;have hcs:∀ c∈rows.map List.length,c<=64:=fun c hc=>by
  obtain⟨r,h,rfl⟩:=List.mem_map.mp hc;exact hl r h
 have so:=rh (cs:=rows.map List.length) (by rw[ak];exact hr) hcs;have ha:=mQ rows 64 0;have hin:=gU (rows.map List.length) 64 0;have hlen:(Dl.aS (rows.map List.length) 0 64).length<=1000:=by
  rw[Dl.iP];have:=iA (rows:=rows) 64 0;have:64*rows.length<=64*5:=gn _ hr;omega
 have hgt:∀ s∈Dl.aS (rows.map List.length) 0 64,s.2<(rows.getD s.1 []).length:=fun s hs=>mP rows 64 0 s hs
 rw[ak] at hin;generalize jm (rows.map List.length) 0=sp at *;generalize Dl.aS (rows.map List.length) 0 64=SS at *;have v1:ev (T n) (.var 1) (E3 rows sp a2) = .ok (.lst (sp.map pD),.mv [1]):=bF rfl rfl;have es:ev (T n) (.blt .sorted (.cons (.var 1) .nil)) (E3 rows sp a2) = .ok (.lst (SS.map fun s=>pD (sw s)),.mv []):=by
  rw[ev,bQ,bQ,v1,aA,aA,aA,kh];show (gT (j3 [.lst (sp.map pD)])).bind _=_;rw[so,aM,aA,dZ (mM SS)]
 have hit:fU (T n) (.seq (.blt .sorted (.cons (.var 1) .nil))) (E3 rows sp a2) = .ok (SS.map fun s=>pD (sw s),[]):=by
  rw[fU,es,aA];rfl
 have ed:ev (T n) d8 (E3 rows sp a2) = .ok (.lst (gD (Dl.bS rows 0 64)),.mv []):=by
  unfold gD;rw[<-ha,cg];refine uc hit hlen fun s hs=>?_
  refine⟨[sN s.2,sN s.1,some (.lst (rD rows),.sh [])],k9 (.cons aK (.cons aK (.cons (bJ _) .nil))) (show (0:Nat)<3 by decide) (show (1:Nat)<3 by decide) rfl rfl,?_⟩;have v2:ev (T n) (.var 2) [sN s.2,sN s.1,some (.lst (rD rows),.sh [])] = .ok (.lst (rD rows),.sh []):=rfl;have y1:=uf (hin s hs).2.1 v2 (aL (T:=T n) (i:=1) (d:=.int (s.1:Int)) (t:=.own) rfl rfl);exact ou (hgt s hs) y1 (aL (d:=.int (s.2:Int)) (t:=.own) rfl rfl)
 unfold b8;rw[aF,g1,aC,aF,g2,aC];rw[aF,bL,ed,aW];rfl
theorem jn:∀(xs d:List Nat),xs.sum<=d.length->(Dl.parts xs d).map List.length=xs
 |[],_,_=>rfl
 | x::xs,d,h=>by
  rw[fq] at h;rw[Dl.parts,aw,jn xs (d.drop x) (by rw[et];omega),eo,ie (by omega)]
theorem tN:∀ l:List Nat,(gI l).sum=((l.sum:Nat):Int)
 |[]=>rfl
 | x::l=>by
  show (x:Int)+(gI l).sum=_;rw[tN l,fq];omega
theorem zm {T:Tb}{env:En}{e:Ex}{l:List Nat}{R:Rt}(h:ev T e env = .ok (.lst (gD l),R)):ev T (.blt .sum (.cons e .nil)) env = .ok (.int (l.sum:Nat),.mv []):=by
 rw[ev,bQ,bQ,h,aA,aA,aA,kh];have:jx .sum [.lst (gD l)]=some (.int (l.sum:Nat)):=by
  show (oS 0 (gD l)).map D.int=_;rw[lu,sum_ints,tN,Int.zero_add];rfl
 dsimp only;rw[this,aM,aA,bE]
theorem uF (l:List Nat)(s x:Nat)(h:s+x<=l.length):slD (.lst (gD l)) (some (s:Int)) (some ((s:Int)+(x:Int)))=some (.lst (gD ((l.drop s).take x))):=by
 show some (D.lst (cut (gD l) _ _))=_;congr 2;unfold cut;have h1:bD (gD l).length 0 (some (s:Int))=s:=by
  unfold bD;dsimp only;rw[if_neg (by omega),cJ,dk];omega
 have h2:bD (gD l).length (gD l).length (some ((s:Int)+(x:Int)))=s+x:=by
  unfold bD;dsimp only;rw[if_neg (by omega),cJ,show ((s:Int)+(x:Int)).toNat=s+x by omega];omega
 dsimp only;rw[h1,h2,show s+x - s=x by omega];unfold gD;rw[List.map_take,List.map_drop]
theorem tU (n:Nat):∀ M:List (List Nat),ma (D.eqf (n+2)) (rD M) (rD M)=some true
 |[]=>rfl
 | r::M=>by
  show (D.eqf (n+2) (.lst (gD r)) (.lst (gD r))).bind (fun a=>(ma (D.eqf (n+2)) (rD M) (rD M)).map fun b=>a&&b)=_;rw[lu,pF,en,tU n M];rfl
theorem rW (M:List (List Nat)):D.eqf 40 (.lst (rD M)) (.lst (rD M))=some true:=by
 show (if (rD M).length=(rD M).length then ma (D.eqf 39) (rD M) (rD M) else some false)=_;rw[if_pos rfl];exact tU 37 M
noncomputable abbrev EL (S:List D)(a1 a2 a3 a4 a5 a6 a7 a8 a9 a10:Slot):En:=[some (.lst S,.sh []),a1,a2,a3,a4,a5,a6,a7,a8,a9,a10]
theorem dD {S:List D}{a1 a2 a3 a4 a5 a6 a7 a8 a9 a10:Slot}(h1:aP a1)(h2:aP a2)(h3:aP a3)(h4:aP a4)(h5:aP a5)(h6:aP a6)(h7:aP a7)(h8:aP a8)(h9:aP a9)(h10:aP a10):Tame (EL S a1 a2 a3 a4 a5 a6 a7 a8 a9 a10):=.cons (bJ _) (.cons h1 (.cons h2 (.cons h3 (.cons h4 (.cons h5 (.cons h6 (.cons h7 (.cons h8 (.cons h9 (.cons h10 .nil))))))))))
noncomputable abbrev oR (M:List (List Nat)):Slot:=sO (rD M)
theorem uD {env:En}{i:Nat}{x:Int}{R:List Nat}(ht:Tame env)(hi:i<env.length):bI R (.nm i) (.int x) env=some (env.set i (sI x)):=by
 show (if i<env.length then some (put env i (.int x) .own) else none)=_;rw[if_pos hi,eI ht]
section
variable (T:Tb)(S:List D)(a1:Slot)(gs:List Nat)
noncomputable abbrev EA (M:List (List Nat))(st:Nat)(a5:Slot):En:=EL S a1 (oG gs) (oR M) (sN st) a5 none none none none none
theorem ji (t1:aP a1){M:List (List Nat)}{st:Nat}{a5:Slot}(h:aP a5):Tame (EA S a1 gs M st a5):=dD t1 (aB _) (aB _) (aB _) h aK aK aK aK aK
theorem in9 (t1:aP a1)(M:List (List Nat))(hr:M.length<=10)(st x:Nat)(hx:st+x<=gs.length):aF T Cd (EA S a1 gs M st (sN x)) = .nx (EA S a1 gs (M ++ [(gs.drop st).take x]) (st+x) (sN x)):=by
 have to:=aB;have v4:∀ M,ev T (.var 4) (EA S a1 gs M st (sN x)) = .ok (.int (st:Int),.mv []):=fun M=>aL rfl rfl
 have v5:∀ M,ev T (.bin .Add (.var 4) (.var 5)) (EA S a1 gs M st (sN x)) = .ok (.int ((st:Int)+(x:Int)),.mv []):=fun M=>iD (v4 M) (aL rfl rfl)
 have es:ev T (.sl (.var 2) (.some (.var 4)) (.some (.bin .Add (.var 4) (.var 5)))) (EA S a1 gs M st (sN x)) = .ok (.lst (gD ((gs.drop st).take x)),.mv []):=by
  have v2:ev T (.var 2) (EA S a1 gs M st (sN x)) = .ok (.lst (gD gs),.mv [2]):=bF rfl rfl;rw[ev,v2,aA,kf,v4,aA];dsimp only;rw[aA,kf,v5,aA];dsimp only;rw[aA,uF gs st x hx,aM,aA,dZ (pT _)]
 generalize (gs.drop st).take x=p at *;have g1:=i9 (x:=3) (ji S a1 gs t1 (M:=M) (st:=st) (to (.int (x:Int)))) rfl es (by rw[ak];exact fG (by omega));have g1':bL T (.mut 3 .none .append (.cons (.sl (.var 2) (.some (.var 4)) (.some (.bin .Add (.var 4) (.var 5)))) .nil)) (EA S a1 gs M st (sN x)) = .nx (EA S a1 gs (M ++ [p]) st (sN x)):=by
  rw[g1];show Fl.nx (EL S a1 (oG gs) (sO (rD M ++ [.lst (gD p)])) (sN st) (sN x) none none none none none)=Fl.nx (EL S a1 (oG gs) (sO (rD (M ++ [p]))) (sN st) (sN x) none none none none none);rw[rD,rD,cw];rfl
 generalize M ++ [p]=M' at *;have g2:=bO (i:=4) (ji S a1 gs t1 (M:=M') (st:=st) (to (.int (x:Int)))) (show (4:Nat)<11 by decide) (v5 M');have g2':bL T (.asg (.nm 4) (.bin .Add (.var 4) (.var 5)) false) (EA S a1 gs M' st (sN x)) = .nx (EA S a1 gs M' (st+x) (sN x)):=by
  rw[g2,show (st:Int)+(x:Int)=((st+x:Nat):Int) by omega];rfl
 unfold Cd;rw[aF,g1',aC,aF,g2',aC];rfl
theorem xo (t1:aP a1)(Rt:List Nat):∀(xs:List Nat) (M:List (List Nat)) (st:Nat) (a5:Slot),aP a5->st+xs.sum<=gs.length->M.length+xs.length<=10->∃ st' a5',aP a5'/\bP (.nm 5) Rt (aF T Cd) (gD xs) (EA S a1 gs M st a5) = .nx (EA S a1 gs (M++Dl.parts xs (gs.drop st)) st' a5')
 |[],M,st,a5,t,_,_=>⟨st,a5,t,by rw[Dl.parts,ax];rfl⟩
 | x::xs,M,st,a5,t,hs,hr=>by
  rw[fq] at hs;rw[av] at hr;obtain⟨st',b5,u5,q⟩:=xo t1 Rt xs (M ++ [(gs.drop st).take x]) (st+x) (sN x) (aB _) (by omega) (by rw[au,cf];omega);refine⟨st',b5,u5,?_⟩;have hb:bI Rt (.nm 5) (.int (x:Int)) (EA S a1 gs M st a5)=some (EA S a1 gs M st (sN x)):=uD (ji S a1 gs t1 t) (show (5:Nat)<11 by decide);rw[gD,aw,cI hb (in9 T S a1 gs t1 M (by omega) st x (by omega))];show bP (.nm 5) Rt (aF T Cd) (gD xs) _=_;rw[q,Dl.parts,ag,gb];rfl
end
section
variable (n:Nat)(S:List D)(cts gs:List Nat)(R:List (List Nat))(st:Nat)(a5:Slot)(W:List D)(dl fd:List Nat)
noncomputable abbrev EB (B:List (List Nat))(a10:Slot):En:=EL S (oG cts) (oG gs) (oR R) (sN st) a5 (sO W) (oG dl) (oG fd) (oR B) a10
theorem pA {B:List (List Nat)}{a10:Slot}(t5:aP a5)(h:aP a10):Tame (EB S cts gs R st a5 W dl fd B a10):=dD (aB _) (aB _) (aB _) (aB _) t5 (aB _) (aB _) (aB _) (aB _) h
theorem in9k (t5:aP a5)(B:List (List Nat))(k:Nat)(hk:k<R.length)(hB:k<B.length)(hs:B.getD k []=R.getD k [])(hg:Fl64.Gr (R.getD k []))(hl:(R.getD k []).length<=64):aF (T (n+2)) b9k (EB S cts gs R st a5 W dl fd B (sN k)) = .nx (EB S cts gs R st a5 W dl fd (B.set k (R.getD k [] ++ [1])) (sN k)):=by
 have to:=aB;have v10:ev (T (n+2)) (.var 10) (EB S cts gs R st a5 W dl fd B (sN k)) = .ok (.int (k:Int),.mv []):=aL rfl rfl;have v9:ev (T (n+2)) (.var 9) (EB S cts gs R st a5 W dl fd B (sN k)) = .ok (.lst (rD B),.mv [9]):=bF rfl rfl;have v3:ev (T (n+2)) (.var 3) (EB S cts gs R st a5 W dl fd B (sN k)) = .ok (.lst (rD R),.mv [3]):=bF rfl rfl;obtain⟨R1,x1⟩:=jh hB v9 v10;obtain⟨R2,x2⟩:=jh hk v3 v10;rw[hs] at x1;have x3:=lM x2;have c6:=h6 n hg _ rfl;generalize hr:R.getD k []=r at *;have e1:=gZ (f:=6) x1 x3 c6;have g1:=ite_ff (a:=no) (iw (nk e1) (cY x1 x2 (Ao r)));have hj:(rD B)[k]? = some (.lst (gD r)):=by
  rw[List.getElem?_map,List.getElem?_eq_getElem hB,<-hs,List.getD_eq_getElem?_getD,List.getElem?_eq_getElem hB];rfl
 have g2:=uE (x:=9) (pA S cts gs R st a5 W dl fd (B:=B) t5 (to (.int (k:Int)))) rfl v10 (by rw[ak];exact gP hB) hj (bH (.int 1)) (by rw[cJ];exact fG (by omega));have g2':bL (T (n+2)) (.mut 9 (.some (.var 10)) .append (.cons (.cst (.int (1))) .nil)) (EB S cts gs R st a5 W dl fd B (sN k)) = .nx (EB S cts gs R st a5 W dl fd (B.set k (r ++ [1])) (sN k)):=by
  rw[g2];show Fl.nx (EL S (oG cts) (oG gs) (oR R) (sN st) a5 (sO W) (oG dl) (oG fd) (sO ((rD B).set k (.lst (gD r ++ [.int 1])))) (sN k))=Fl.nx (EL S (oG cts) (oG gs) (oR R) (sN st) a5 (sO W) (oG dl) (oG fd) (sO (rD (B.set k (r ++ [1])))) (sN k));rw[rD,rD,List.map_set,eJ];rfl
 unfold b9k;rw[aF,g1,aC,aF,g2',aC];rfl
theorem ug (t5:aP a5)(hg:∀ r∈R,Fl64.Gr r)(hl:∀ r∈R,r.length<=64):∀(m k:Nat) (B:List (List Nat)) (a10:Slot),aP a10->k+m=R.length->B.length=R.length->B.drop k=R.drop k->∃ B' a10',aP a10'/\bP (.nm 10) [] (aF (T (n+2)) b9k) (aQ (k:Int) 1 m) (EB S cts gs R st a5 W dl fd B a10) = .nx (EB S cts gs R st a5 W dl fd B' a10')
 |0,k,B,a10,t,_,_,_=>⟨B,a10,t,rfl⟩
 | m+1,k,B,a10,t,hk,hB,hd=>by
  have h1:k<R.length:=by omega
  have h2:k<B.length:=by omega
  rw[bj h1,bj h2] at hd;obtain⟨d1,d2⟩:=List.cons.inj hd;have e1:R.getD k []=R[k]:=by rw[List.getD_eq_getElem?_getD,List.getElem?_eq_getElem h1];rfl
  have e2:B.getD k []=B[k]:=by rw[List.getD_eq_getElem?_getD,List.getElem?_eq_getElem h2];rfl
  have hin:=in9k n S cts gs R st a5 W dl fd t5 B k h1 h2 (by rw[e1,e2,d1]) (by rw[e1];exact hg _ (List.getElem_mem h1)) (by rw[e1];exact hl _ (List.getElem_mem h1));obtain⟨B',b10,u,q⟩:=ug t5 hg hl m (k+1) (B.set k (R.getD k [] ++ [1])) (sN k) (aB _) (by omega) (by rw[dn];exact hB) (by rw[List.drop_set_of_lt (by omega)];exact d2);refine⟨B',b10,u,?_⟩;have hb:bI [] (.nm 10) (.int (k:Int)) (EB S cts gs R st a5 W dl fd B a10)=some (EB S cts gs R st a5 W dl fd B (sN k)):=cZ (pA S cts gs R st a5 W dl fd t5 t) (show (10:Nat)<11 by decide);rw[cU,cI hb hin,q]
end
theorem jw {T:Tb}{env:En}{e:Ex}{l:List Nat}{R:Rt}(h:ev T e env = .ok (.lst (gD l),R)):ev T (.blt .list (.cons e .nil)) env = .ok (.lst (gD l),.mv []):=by
 rw[ev,bQ,bQ,h,aA,aA,aA,kh];show (gT (some (D.lst (gD l)))).bind _=_;rw[aM,aA,dZ (pT _)]
theorem law (ns:List Int)(hl:ns.length<=63):∃ fr,Pc.run fns gl 1000 8 9 [.lst (ns.map D.int)] = .ok (.bl true,fr):=by
 rw[eH (F:=⟨1,11,b9⟩) rfl rfl];have hst:aN [.lst (ns.map D.int)] 11=EL (ns.map D.int) none none none none none none none none none none:=rfl;dsimp only;rw[hst];have tn:=aK;have to:=aB;obtain⟨cts,k1,k2,c7⟩:=r7 5 ns;have hsum:cts.sum<=320:=by
  have:=oE (l:=cts) (m:=64) fun c hc=>fm (k2 c hc)
  have:64*cts.length<=64*5:=gn _ k1;omega
 obtain⟨gs,hg,hgl,c5⟩:=h5 5 ns hl (cts.sum+1) (by omega) (by omega);obtain⟨st',a5,t5,q5⟩:=xo (T 7) (ns.map D.int) (some (.lst (gD cts),.lk)) gs (u7 _) [1] cts [] 0 none tn (by omega) (by simp;omega);rw[cv,List.drop_zero] at q5;have hR:=jn cts gs (by omega);have hRl:(Dl.parts cts gs).length<=5:=by rw[<-ak (f:=List.length),hR];exact k1
 have hR64:∀ r∈Dl.parts cts gs,r.length<=64:=fun r hr=>by
  have:r.length∈cts:=by rw[<-hR];exact List.mem_map_of_mem hr
  exact fm (k2 _ this)
 have hRg:∀ r∈Dl.parts cts gs,Fl64.Gr r:=fun r hr g hg'=>hg g (Dl.kR _ _ r hr g hg')
 generalize Dl.parts cts gs=R at *;have c8:=r8 6 hRl hR64;have c0:=r0 6 R hRl hR64;have c1:=r1 6 hRl hR64;rw[hR] at c1;have hdg:Fl64.Gr (Dl.bS R 0 64):=fun g hg=>by
  obtain⟨r,hr,hgr⟩:=Dl.mT _ _ hg;exact hRg r hr g hgr
 have hdl:(Dl.bS R 0 64).length<=800:=by
  have:=iA (rows:=R) 64 0;have:64*R.length<=64*5:=gn _ hRl;omega
 have c6:=h6 5 hdg _ rfl;generalize Dl.bS R 0 64=dl at *;generalize ns.map D.int=S at *;have v0:∀ a1 a2 a3 a4 a5 a6 a7 a8 a9 a10,ev (T 7) (.var 0) (EL S a1 a2 a3 a4 a5 a6 a7 a8 a9 a10) = .ok (.lst S,.sh []):=fun _ _ _ _ _ _ _ _ _ _=>rfl
 have q1:bL (T 7) w1 (EL S none none none none none none none none none none) = .nx (EL S (oG cts) none none none none none none none none none):=bO (dD tn tn tn tn tn tn tn tn tn tn) (show (1:Nat)<11 by decide) (pQ (f:=7) (v0 _ _ _ _ _ _ _ _ _ _) c7);have v1:∀ a2 a3 a4 a5 a6 a7 a8 a9 a10,ev (T 7) (.var 1) (EL S (oG cts) a2 a3 a4 a5 a6 a7 a8 a9 a10) = .ok (.lst (gD cts),.mv [1]):=fun _ _ _ _ _ _ _ _ _=>bF rfl rfl
 have x2:ev (T 7) (.bin .Add (.blt .sum (.cons (.var 1) .nil)) (.cst (.int (1)))) (EL S (oG cts) none none none none none none none none none) = .ok (.int ((cts.sum+1:Nat):Int),.mv []):=by
  rw[iD (zm (v1 none none none none none none none none none)) (bH (.int 1)),show ((cts.sum:Nat):Int)+1=((cts.sum+1:Nat):Int) by omega]
 have q2:bL (T 7) w2 (EL S (oG cts) none none none none none none none none none) = .nx (EL S (oG cts) (oG gs) none none none none none none none none):=bO (dD (to _) tn tn tn tn tn tn tn tn tn) (show (2:Nat)<11 by decide) (gZ (f:=5) (v0 _ _ _ _ _ _ _ _ _ _) x2 c5);have q3:bL (T 7) (.asg (.nm 3) (.lst .nil) false) (EL S (oG cts) (oG gs) none none none none none none none none) = .nx (EL S (oG cts) (oG gs) (oR []) none none none none none none none):=rfl;have q4:bL (T 7) (.asg (.nm 4) (.cst (.int (0))) false) (EL S (oG cts) (oG gs) (oR []) none none none none none none none) = .nx (EA S (oG cts) gs [] 0 none):=rfl;have hit5:fU (T 7) (.seq (.var 1)) (EA S (oG cts) gs [] 0 none) = .ok (gD cts,[1]):=by
  rw[fU,v1,aA];rfl
 have q5':bL (T 7) w5 (EA S (oG cts) gs [] 0 none) = .nx (EA S (oG cts) gs R st' a5):=wC (x:=1) (d:=.lst (gD cts)) (d':=.lst (gD cts)) rfl hit5 q5 rfl;have v3:∀ a6 a7 a8 a9 a10,ev (T 7) (.var 3) (EL S (oG cts) (oG gs) (oR R) (sN st') a5 a6 a7 a8 a9 a10) = .ok (.lst (rD R),.mv [3]):=fun _ _ _ _ _=>bF rfl rfl
 have x6:ev (T 7) (.comp 1 [] (.nm 0) (.seq (.var 3)) .none (.blt .list (.cons (.var 0) .nil))) (EA S (oG cts) gs R st' a5) = .ok (.lst (rD R),.mv []):=by
  have hit:fU (T 7) (.seq (.var 3)) (EA S (oG cts) gs R st' a5) = .ok (R.map fun r=>D.lst (gD r),[3]):=by
   rw[fU,v3,aA];rfl
  exact uc hit (by omega) fun r _=>⟨[some (.lst (gD r),.sh [])],rfl,jw (R:=.sh []) rfl⟩
 have q6:bL (T 7) w6 (EA S (oG cts) gs R st' a5) = .nx (EL S (oG cts) (oG gs) (oR R) (sN st') a5 (oR R) none none none none):=bO (ji S (oG cts) gs (to _) t5) (show (6:Nat)<11 by decide) x6;have q7:bL (T 7) w7 (EL S (oG cts) (oG gs) (oR R) (sN st') a5 (oR R) none none none none) = .nx (EL S (oG cts) (oG gs) (oR R) (sN st') a5 (oR R) (oG dl) none none none):=bO (dD (to _) (to _) (to _) (to _) t5 (to _) tn tn tn tn) (show (7:Nat)<11 by decide) (pQ (f:=8) (v3 _ _ _ _ _) c8);have v6:∀ a7 a8 a9 a10,ev (T 7) (.var 6) (EL S (oG cts) (oG gs) (oR R) (sN st') a5 (oR R) a7 a8 a9 a10) = .ok (.lst (rD R),.mv [6]):=fun _ _ _ _=>bF rfl rfl
 have x8:∀ a7 a8 a9 a10,ev (T 7) (.call 0 (.cons (.var 6) .nil)) (EL S (oG cts) (oG gs) (oR R) (sN st') a5 (oR R) a7 a8 a9 a10) = .ok (.lst (gD dl),.mv []):=fun a7 a8 a9 a10=>pQ (f:=0) (v6 a7 a8 a9 a10) c0
 have q8:bL (T 7) w8 (EL S (oG cts) (oG gs) (oR R) (sN st') a5 (oR R) (oG dl) none none none) = .nx (EL S (oG cts) (oG gs) (oR R) (sN st') a5 (oR R) (oG dl) (oG dl) none none):=bO (dD (to _) (to _) (to _) (to _) t5 (to _) (to _) tn tn tn) (show (8:Nat)<11 by decide) (x8 _ _ _ _);have v7:∀ a6 a8 a9 a10,ev (T 7) (.var 7) (EL S (oG cts) (oG gs) (oR R) (sN st') a5 a6 (oG dl) a8 a9 a10) = .ok (.lst (gD dl),.mv [7]):=fun _ _ _ _=>bF rfl rfl
 have v8:ev (T 7) (.var 8) (EL S (oG cts) (oG gs) (oR R) (sN st') a5 (oR R) (oG dl) (oG dl) none none) = .ok (.lst (gD dl),.mv [8]):=bF rfl rfl;have x9:=gZ (f:=6) v8 (lM (v7 (oR R) (oG dl) none none)) c6;have q9:bL (T 7) w9 (EL S (oG cts) (oG gs) (oR R) (sN st') a5 (oR R) (oG dl) (oG dl) none none) = .nx (EL S (oG cts) (oG gs) (oR R) (sN st') a5 (oR R) (oG dl) (oG dl) none none):=ite_ff (iw (cY (v6 _ _ _ _) (v3 _ _ _ _ _) (rW R)) (iw (nk x9) (cY v8 (v7 _ _ _ _) (Ao dl))));have q10:∃ fd,bL (T 7) w10 (EL S (oG cts) (oG gs) (oR R) (sN st') a5 (oR R) (oG dl) (oG dl) none none) = .nx (EL S (oG cts) (oG gs) (oR R) (sN st') a5 (oR R) (oG dl) (oG fd) none none):=by
  refine⟨dl ++ [1],?_⟩;have g:=i9 (x:=8) (dD (S:=S) (to (.lst (gD cts))) (to (.lst (gD gs))) (to (.lst (rD R))) (to (.int (st':Int))) t5 (to (.lst (rD R))) (to (.lst (gD dl))) (to (.lst (gD dl))) tn tn) rfl (bH (T:=T 7) (.int 1)) (by rw[cJ];exact fG (by omega));unfold w10;rw[g];show Fl.nx (EL S (oG cts) (oG gs) (oR R) (sN st') a5 (oR R) (oG dl) (some (.lst (gD dl ++ [.int 1]),.own)) none none)=Fl.nx (EL S (oG cts) (oG gs) (oR R) (sN st') a5 (oR R) (oG dl) (some (.lst (gD (dl ++ [1])),.own)) none none);rw[eJ];rfl
 obtain⟨fd,q10⟩:=q10;have q11:bL (T 7) w11 (EL S (oG cts) (oG gs) (oR R) (sN st') a5 (oR R) (oG dl) (oG fd) none none) = .nx (EL S (oG cts) (oG gs) (oR R) (sN st') a5 (oR R) (oG dl) (oG fd) none none):=ite_ff (iw (cY (v6 _ _ _ _) (v3 _ _ _ _ _) (rW R)) (cY (x8 _ _ _ _) (v7 _ _ _ _) (Ao dl)));have x12:ev (T 7) (.lst (.cons (.blt .list (.cons (.var 7) .nil)) (.cons (.blt .list (.cons (.var 1) .nil)) .nil))) (EL S (oG cts) (oG gs) (oR R) (sN st') a5 (oR R) (oG dl) (oG fd) none none) = .ok (.lst (rD [dl,cts]),.mv []):=by
  rw[ev,bQ,jw (v7 _ _ _ _),aA,bQ,jw (v1 _ _ _ _ _ _ _ _ _),aA,bQ,aA,aA,aA];rfl
 have q12:bL (T 7) w12 (EL S (oG cts) (oG gs) (oR R) (sN st') a5 (oR R) (oG dl) (oG fd) none none) = .nx (EL S (oG cts) (oG gs) (oR R) (sN st') a5 (oR [dl,cts]) (oG dl) (oG fd) none none):=bO (dD (to _) (to _) (to _) (to _) t5 (to _) (to _) (to _) tn tn) (show (6:Nat)<11 by decide) x12;have v6':∀ a9 a10,ev (T 7) (.var 6) (EL S (oG cts) (oG gs) (oR R) (sN st') a5 (oR [dl,cts]) (oG dl) (oG fd) a9 a10) = .ok (.lst (rD [dl,cts]),.mv [6]):=fun _ _=>bF rfl rfl
 have x13:∀ a9 a10,ev (T 7) p1 (EL S (oG cts) (oG gs) (oR R) (sN st') a5 (oR [dl,cts]) (oG dl) (oG fd) a9 a10) = .ok (.lst (rD R),.mv []):=fun a9 a10=>by
  obtain⟨R1,y1⟩:=jh (rows:=[dl,cts]) (j:=0) (by simp) (v6' a9 a10) (bH (.int 0));obtain⟨R2,y2⟩:=jh (rows:=[dl,cts]) (j:=1) (by simp) (v6' a9 a10) (bH (.int 1));exact gZ (f:=1) y1 y2 c1
 have q13:bL (T 7) w13 (EL S (oG cts) (oG gs) (oR R) (sN st') a5 (oR [dl,cts]) (oG dl) (oG fd) none none) = .nx (EB S cts gs R st' a5 (rD [dl,cts]) dl fd R none):=bO (dD (to _) (to _) (to _) (to _) t5 (to _) (to _) (to _) tn tn) (show (9:Nat)<11 by decide) (x13 none none);have v9:∀ B a10,ev (T 7) (.var 9) (EB S cts gs R st' a5 (rD [dl,cts]) dl fd B a10) = .ok (.lst (rD B),.mv [9]):=fun _ _=>bF rfl rfl
 have x14:∀ B a10,∃ R1,ev (T 7) l2 (EB S cts gs R st' a5 (rD [dl,cts]) dl fd B a10) = .ok (.lst (rD [dl,cts]),R1):=fun B a10=>by
  unfold l2;rw[ev,bQ,v7,aA,bQ,v1,aA,bQ,aA,aA,aA];exact⟨_,rfl⟩
 obtain⟨R14,y14⟩:=x14 R none;have xi:ev (T 7) (.blt (.isi "list") (.cons (.var 9) .nil)) (EB S cts gs R st' a5 (rD [dl,cts]) dl fd R none) = .ok (.bl true,.mv []):=by
  rw[ev,bQ,bQ,v9,aA,aA,aA,kh];rfl
 have q14:bL (T 7) w14 (EB S cts gs R st' a5 (rD [dl,cts]) dl fd R none) = .nx (EB S cts gs R st' a5 (rD [dl,cts]) dl fd R none):=ite_ff (iw (cY (v6' _ _) y14 (rW _)) (iw (nk xi) (cY (i6 (v9 _ _)) (i6 (v3 _ _ _ _ _)) (by simp[D.eqf]))));obtain⟨B',a10,t10,q15⟩:=ug 5 S cts gs R st' a5 (rD [dl,cts]) dl fd t5 hRg hR64 R.length 0 R none tn (by omega) rfl rfl;have q15':bL (T 7) w15 (EB S cts gs R st' a5 (rD [dl,cts]) dl fd R none) = .nx (EB S cts gs R st' a5 (rD [dl,cts]) dl fd B' a10):=dF (qL (i6 (v3 _ _ _ _ _)) (by omega)) q15;obtain⟨R16,y16⟩:=x14 B' a10;have q16:ev (T 7) w16 (EB S cts gs R st' a5 (rD [dl,cts]) dl fd B' a10) = .ok (.bl true,.mv []):=zM (o5 (v6' _ _) y16 (rW _)) (o5 (x13 _ _) (v3 _ _ _ _ _) (rW R));refine⟨true,?_⟩;unfold b9;rw[aF,q1,aC,aF,q2,aC,aF,q3,aC,aF,q4,aC,aF,q5',aC,aF,q6,aC,aF,q7,aC,aF,q8,aC,aF,q9,aC,aF,q10,aC,aF,q11,aC,aF,q12,aC,aF,q13,aC,aF,q14,aC,aF,q15',aC];exact oC q16
end K21
end
section
namespace K21
open PySem PySem.Spec PyProof.Rows L2 Pc
noncomputable abbrev st (i:Nat):Stmt:=PySem.Challenge.pw_patchsquare_k21_rows_by_turns.main.body.getD i (.Pass ⟨0,0,0,0⟩)
noncomputable def dS:List Str:=["range","len","isinstance","int","bool","list","max","sorted","sum","enumerate"]
noncomputable def pK:List Str:=[]
noncomputable def df0:Df:=⟨"dealt_rows",st 1,["rows"],["rows","dealt","row","turn"],b0⟩
noncomputable def df1:Df:=⟨"parted_rows",st 2,["grains","counts"],["grains","counts","count","rows","place","turn","number"],b1⟩
noncomputable def df2:Df:=⟨"_law_whole",st 4,["_law_x"],["_law_x"],b2⟩
noncomputable def df3:Df:=⟨"_law_cell",st 5,["_law_script","_law_k"],["_law_script","_law_k"],b3⟩
noncomputable def df4:Df:=⟨"_law_mixed",st 6,["_law_cell_here","_law_k"],["_law_cell_here","_law_k","_law_once"],b4⟩
noncomputable def df5:Df:=⟨"_law_row",st 7,["_law_script","_law_many"],["_law_script","_law_many","_law_k","_law_row_here"],b5⟩
noncomputable def df6:Df:=⟨"_law_grains",st 8,["_law_found","_law_many"],["_law_found","_law_many","_law_grain"],b6⟩
noncomputable def df7:Df:=⟨"_law_counts",st 9,["_law_script"],["_law_script","_law_d","_law_counts_here","_law_k","_law_e","_law_count"],b7⟩
noncomputable def df8:Df:=⟨"_law_due",st 10,["_law_rows"],["_law_rows","_law_spots","_law_number"],b8⟩
noncomputable def df9:Df:=⟨"law",st 11,["_law_script"],["_law_script","_law_counts_here","_law_grains_here","_law_rows","_law_at","_law_count","_law_handed","_law_due_here","_law_found","_law_back","_law_k"],b9⟩
noncomputable def p:Pg:=⟨[df0,df1,df2,df3,df4,df5,df6,df7,df8,df9],pK,dS,gl,1000⟩
theorem ok:qA (Df.Ok p) p.dfs :=
 ⟨
   Df.ok_of (n:=60) (by decide +kernel) rfl (fun _ _ _ _ _ _ us hl=>@qy (fun us=>bindArgs _ ⟨us,[]⟩=pure (List.zip _ us)) us hl (fun _=>rfl)),
   Df.ok_of (n:=60) (by decide +kernel) rfl (fun _ _ _ _ _ _ us hl=>@sH (fun us=>bindArgs _ ⟨us,[]⟩=pure (List.zip _ us)) us hl (fun _ _=>rfl)),
   Df.ok_of (n:=60) (by decide +kernel) rfl (fun _ _ _ _ _ _ us hl=>@qy (fun us=>bindArgs _ ⟨us,[]⟩=pure (List.zip _ us)) us hl (fun _=>rfl)),
   Df.ok_of (n:=60) (by decide +kernel) rfl (fun _ _ _ _ _ _ us hl=>@sH (fun us=>bindArgs _ ⟨us,[]⟩=pure (List.zip _ us)) us hl (fun _ _=>rfl)),
   Df.ok_of (n:=60) (by decide +kernel) rfl (fun _ _ _ _ _ _ us hl=>@sH (fun us=>bindArgs _ ⟨us,[]⟩=pure (List.zip _ us)) us hl (fun _ _=>rfl)),
   Df.ok_of (n:=60) (by decide +kernel) rfl (fun _ _ _ _ _ _ us hl=>@sH (fun us=>bindArgs _ ⟨us,[]⟩=pure (List.zip _ us)) us hl (fun _ _=>rfl)),
   Df.ok_of (n:=60) (by decide +kernel) rfl (fun _ _ _ _ _ _ us hl=>@sH (fun us=>bindArgs _ ⟨us,[]⟩=pure (List.zip _ us)) us hl (fun _ _=>rfl)),
   Df.ok_of (n:=60) (by decide +kernel) rfl (fun _ _ _ _ _ _ us hl=>@qy (fun us=>bindArgs _ ⟨us,[]⟩=pure (List.zip _ us)) us hl (fun _=>rfl)),
   Df.ok_of (n:=60) (by decide +kernel) rfl (fun _ _ _ _ _ _ us hl=>@qy (fun us=>bindArgs _ ⟨us,[]⟩=pure (List.zip _ us)) us hl (fun _=>rfl)),
   Df.ok_of (n:=60) (by decide +kernel) rfl (fun _ _ _ _ _ _ us hl=>@qy (fun us=>bindArgs _ ⟨us,[]⟩=pure (List.zip _ us)) us hl (fun _=>rfl)),
   trivial⟩
theorem plaw (ns:List Int)(hl:ns.length<=63):∃ fr,p.run 8 9 [.lst (ns.map D.int)] = .ok (.bl true,fr):=law ns hl
end K21
namespace K21
open PySem PySem.W Pc.Hd
noncomputable def K (P:Params):Frag:=[(2,{ cls:=Value.none,data:=Data.dict #[] }),
 di 3 #[kv P "__name__" 165 (sv "law_patchsquare_k21_rows_by_turns" 201),kv P "__doc__" 166 .none,kv P "__package__" 167 .none,kv P "__loader__" 168 (.builtin "__main__.__loader__#opaque"),kv P "__spec__" 169 .none,kv P "__annotations__" 170 (.ref 6),kv P "__builtins__" 171 (.ref 4),kv P "__file__" 173 (sv "/claim/cut.py" 172),kv P "__cached__" 174 .none,kv P "dealt_rows" 194 (.ref 19),kv P "parted_rows" 200 (.ref 24),kv P "_law_whole" 209 (.ref 31),kv P "_law_cell" 217 (.ref 38),kv P "_law_mixed" 226 (.ref 45),kv P "_law_row" 232 (.ref 50),kv P "_law_grains" 241 (.ref 57),kv P "_law_counts" 253 (.ref 64),kv P "_law_due" 259 (.ref 69),kv P "law" 265 (.ref 74)] 19,
 di 6 #[] 0,
 co 18 #[(sv "dealt_rows" 189),(sv "dealt_rows" 190),(sv "/claim/cut.py" 191),(.int 2 0),(.int 1 0),(.int 0 0),(.int 0 0),(.int 3 0),(.ref 15),(.bool true),(.int 181 0),(.ref 16),.none,.none,.none,(.ref 17),(.int 192 0),(.int 2 0),(sv "/claim/cut.py" 193)],
 fo 19 (st 1) (sv "patchsquare.blocks" 187) (.ref 18),
 co 23 #[(sv "parted_rows" 195),(sv "parted_rows" 196),(sv "/claim/cut.py" 197),(.int 9 0),(.int 2 0),(.int 0 0),(.int 0 0),(.int 3 0),(.ref 20),(.bool true),(.int 181 0),(.ref 21),.none,.none,.none,(.ref 22),(.int 198 0),(.int 9 0),(sv "/claim/cut.py" 199)],
 fo 24 (st 2) (sv "patchsquare.blocks" 187) (.ref 23),
 co 30 #[(sv "_law_whole" 203),(sv "_law_whole" 204),(sv "/claim/cut.py" 205),(.int 19 0),(.int 1 0),(.int 0 0),(.int 0 0),(.int 3 0),(.ref 25),(.bool true),(.int 181 0),(.ref 26),.none,(.ref 27),(.ref 28),(.ref 29),(.int 207 0),(.int 19 0),(sv "/claim/cut.py" 208)],
 fo 31 (st 4) (sv "law_patchsquare_k21_rows_by_turns" 201) (.ref 30),
 co 37 #[(sv "_law_cell" 210),(sv "_law_cell" 211),(sv "/claim/cut.py" 212),(.int 21 0),(.int 2 0),(.int 0 0),(.int 0 0),(.int 3 0),(.ref 32),(.bool true),(.int 181 0),(.ref 33),.none,(.ref 34),(.ref 35),(.ref 36),(.int 215 0),(.int 21 0),(sv "/claim/cut.py" 216)],
 fo 38 (st 5) (sv "law_patchsquare_k21_rows_by_turns" 201) (.ref 37),
 co 44 #[(sv "_law_mixed" 218),(sv "_law_mixed" 219),(sv "/claim/cut.py" 220),(.int 25 0),(.int 2 0),(.int 0 0),(.int 0 0),(.int 3 0),(.ref 39),(.bool true),(.int 181 0),(.ref 40),.none,(.ref 41),(.ref 42),(.ref 43),(.int 224 0),(.int 25 0),(sv "/claim/cut.py" 225)],
 fo 45 (st 6) (sv "law_patchsquare_k21_rows_by_turns" 201) (.ref 44),
 co 49 #[(sv "_law_row" 227),(sv "_law_row" 228),(sv "/claim/cut.py" 229),(.int 28 0),(.int 2 0),(.int 0 0),(.int 0 0),(.int 3 0),(.ref 46),(.bool true),(.int 181 0),(.ref 47),.none,.none,.none,(.ref 48),(.int 230 0),(.int 28 0),(sv "/claim/cut.py" 231)],
 fo 50 (st 7) (sv "law_patchsquare_k21_rows_by_turns" 201) (.ref 49),
 co 56 #[(sv "_law_grains" 233),(sv "_law_grains" 234),(sv "/claim/cut.py" 235),(.int 33 0),(.int 2 0),(.int 0 0),(.int 0 0),(.int 3 0),(.ref 51),(.bool true),(.int 181 0),(.ref 52),.none,(.ref 53),(.ref 54),(.ref 55),(.int 239 0),(.int 33 0),(sv "/claim/cut.py" 240)],
 fo 57 (st 8) (sv "law_patchsquare_k21_rows_by_turns" 201) (.ref 56),
 co 63 #[(sv "_law_counts" 242),(sv "_law_counts" 243),(sv "/claim/cut.py" 244),(.int 40 0),(.int 1 0),(.int 0 0),(.int 0 0),(.int 3 0),(.ref 58),(.bool true),(.int 181 0),(.ref 59),.none,(.ref 60),(.ref 61),(.ref 62),(.int 251 0),(.int 40 0),(sv "/claim/cut.py" 252)],
 fo 64 (st 9) (sv "law_patchsquare_k21_rows_by_turns" 201) (.ref 63),
 co 68 #[(sv "_law_due" 254),(sv "_law_due" 255),(sv "/claim/cut.py" 256),(.int 50 0),(.int 1 0),(.int 0 0),(.int 0 0),(.int 3 0),(.ref 65),(.bool true),(.int 181 0),(.ref 66),.none,.none,.none,(.ref 67),(.int 257 0),(.int 50 0),(sv "/claim/cut.py" 258)],
 fo 69 (st 10) (sv "law_patchsquare_k21_rows_by_turns" 201) (.ref 68),
 co 73 #[(sv "law" 260),(sv "law" 261),(sv "/claim/cut.py" 262),(.int 55 0),(.int 1 0),(.int 0 0),(.int 0 0),(.int 3 0),(.ref 70),(.bool true),(.int 181 0),(.ref 71),.none,.none,.none,(.ref 72),(.int 263 0),(.int 55 0),(sv "/claim/cut.py" 264)],
 fo 74 (st 11) (sv "law_patchsquare_k21_rows_by_turns" 201) (.ref 73)]
noncomputable def as:List Addr:=[2,3,6,18,19,23,24,30,31,37,38,44,45,49,50,56,57,63,64,68,69,73,74]
noncomputable def Q:Program:={ PySem.Challenge.pw_patchsquare_k21_rows_by_turns with main:={ PySem.Challenge.pw_patchsquare_k21_rows_by_turns.main with body:=[st 1,st 2,st 4,st 5,st 6,st 7,st 8,st 9,st 10,st 11] } }
noncomputable def H:Hook:=kHook K as (fun _=>rfl)
end K21
open PySem PySem.W PyProof.Rows
theorem K21.left:LeftO PySem.Challenge.pw_patchsquare_k21_rows_by_turns K21.Q [] (fun s=>xlAt K21.Q [] s&&recOk (RowW.records PySem.Challenge.rw_patchsquare_k21_rows_by_turns.row.toRowW) s) (Hook.obs K21.H) (Hook.val K21.H) 880:=by
 intro w
 kernel_rfl
theorem PySem.Challenge.cw_patchsquare_k21_rows_by_turns_holds : PySem.Challenge.rw_patchsquare_k21_rows_by_turns.Holds := by
 refine holds_law (by decide +kernel) fun said=>?_
 refine holds_open (q:=K21.Q) (loose:=[]) (XP:=XL K21.Q []) (YP:=Hook.says K21.H) K21.left (Hook.of K21.H) (Hook.keeps K21.H) (fun s e=>xl_of s (Bool.and_eq_true_iff.mp e).1) XL.keeps (by rfl) (by rfl) (by rfl) (fun s e=>recFacts_of (Bool.and_eq_true_iff.mp e).2) (by rfl) said (by decide +kernel) ⟨rfl,rfl,rfl,rfl,rfl,by decide +kernel⟩ ?hw ?hc
 case hw=>w_witness2
 refine Pc.walk (l:=PySem.Challenge.rw_patchsquare_k21_rows_by_turns) K21.p 8 9 "_law_script" K21.df9 rfl rfl (fun w h Y=>PySem.W.kIn_of Y) rfl rfl rfl ⟨rfl,by decide,by decide⟩ K21.ok ?st ?nl ?hh K21.plaw
 case nl=>intro w;rfl
 case hh=>intro w;exact Pc.Ck rfl
 case st =>
  intro w;refine⟨⟨?d0,?d1,?d2,?d3,?d4,?d5,?d6,?d7,?d8,?d9,trivial⟩,fun i x h=>(by cases h),⟨?e0,?e1,?e2,?e3,?e4,?e5,?e6,?e7,?e8,?e9,trivial⟩⟩
  case d0=>refine' Pc.eE ?a ?l ?c ?k;(case a=>rfl);(case l=>rfl);(case c=>rfl);(case k=>rfl)
  case d1=>refine' Pc.eE ?a ?l ?c ?k;(case a=>rfl);(case l=>rfl);(case c=>rfl);(case k=>rfl)
  case d2=>refine' Pc.eE ?a ?l ?c ?k;(case a=>rfl);(case l=>rfl);(case c=>rfl);(case k=>rfl)
  case d3=>refine' Pc.eE ?a ?l ?c ?k;(case a=>rfl);(case l=>rfl);(case c=>rfl);(case k=>rfl)
  case d4=>refine' Pc.eE ?a ?l ?c ?k;(case a=>rfl);(case l=>rfl);(case c=>rfl);(case k=>rfl)
  case d5=>refine' Pc.eE ?a ?l ?c ?k;(case a=>rfl);(case l=>rfl);(case c=>rfl);(case k=>rfl)
  case d6=>refine' Pc.eE ?a ?l ?c ?k;(case a=>rfl);(case l=>rfl);(case c=>rfl);(case k=>rfl)
  case d7=>refine' Pc.eE ?a ?l ?c ?k;(case a=>rfl);(case l=>rfl);(case c=>rfl);(case k=>rfl)
  case d8=>refine' Pc.eE ?a ?l ?c ?k;(case a=>rfl);(case l=>rfl);(case c=>rfl);(case k=>rfl)
  case d9=>refine' Pc.eE ?a ?l ?c ?k;(case a=>rfl);(case l=>rfl);(case c=>rfl);(case k=>rfl)
  case e0=>dsimp only;rfl
  case e1=>dsimp only;rfl
  case e2=>dsimp only;rfl
  case e3=>dsimp only;rfl
  case e4=>dsimp only;rfl
  case e5=>dsimp only;rfl
  case e6=>dsimp only;rfl
  case e7=>dsimp only;rfl
  case e8=>dsimp only;rfl
  case e9=>dsimp only;rfl
end
