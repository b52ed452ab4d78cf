import PyProof.Rows.All
import Wide.All
import OpenK.AllK
import Wide.FinOn
import Lean
import PyProof.EqAt
import PyProof.EqKinds
import PyProof.TupleCall
import PySem.Syntax
import PySem.Str
import PySem.Sem
import PySem.Builtin.Int.W1All
import PySem.Builtin.Str.Common
import PySem.Builtin.Range.Common
import KE.IntText
import KE.KSortAsk
import PyProof.IsRules
import PyProof.NeKinds
import PyProof.DictWalks
import PyProof.EnumMake
import PyProof.EnumFor
import PyProof.ZipIter
import PyProof.Rows.EnumRows
import PyProof.Rows.FactsT2
import KE.KRevIter
import PyProof.CompFree
import PyProof.CompUse
import PyProof.Cells
import PyProof.ConsumeWalk
import PyProof.IsInstanceH
import PyProof.IsiNone
import PyProof.SumWalkG
import PyProof.Rows.SumGenD
import KE.KDictList
import KE.KSortTup
import KE.KSorted
import KE.KSort
import PyProof.Draws
import PyProof.Rows.SetFrom
import PyProof.FactsAll.set_1
import PyProof.CollectWalk
import PyProof.Rows.SortWalk
import PyProof.ListRange
import PyProof.MinMaxWalk
import PyProof.WalkInts
import PyProof.Conv_int_bool
import PyProof.Rows.CallKwBuiltin
import KE.KIntText
import PyProof.CallStr
import PyProof.Rows.SeqMore
import PyProof.Rows.StrJoin2
import PyProof.Rows.StrSplitAre
import PyProof.Rows.StrSplitJoin
import PySem.Challenge.RW_patchsquare_k33_taken_back
set_option Elab.async false
set_option linter.all false
set_option maxRecDepth 100000
set_option maxHeartbeats 0
abbrev aa:=@Option.map_eq_some_iff
abbrev ab:=@List.length_map
abbrev ae:=@Option.bind_eq_some_iff
abbrev ag:=@Bool.and_eq_true
abbrev ah:=@List.mem_cons_of_mem
abbrev ai:=@List.mem_cons_self
abbrev aj:=@List.size_toArray
abbrev ak:=@List.mem_append_right
abbrev ao:=@List.map_cons
abbrev aq:=@List.length_append
abbrev au:=@Nat.le_refl
abbrev av:=@List.length_cons
abbrev aw:=@List.append_nil
abbrev ax:=@Nat.ne_of_lt
abbrev ay:=@Array.length_toList
abbrev az:=@Bool.false_ne_true
abbrev ba:=@List.mem_of_getElem
abbrev be:=@Nat.lt_of_lt_of_le
abbrev bf:=@List.mem_append_left
abbrev bh:=@Bool.false_eq_true
abbrev bj:=@decide_eq_false
abbrev bp:=@Option.map_some
abbrev bq:=@List.not_mem_nil
abbrev br:=@Nat.le_trans
abbrev bu:=@List.nodup_nil
abbrev bw:=@decide_eq_true_eq
abbrev bz:=@List.map_append
abbrev cf:=@List.length_nil
abbrev cg:=@List.mem_cons
abbrev cj:=@Option.some.inj
abbrev cm:=@PySem.mem_of_lookup
abbrev cn:=@Option.some.injEq
abbrev cq:=@Int.toNat_natCast
abbrev cu:=@List.all_eq_true
abbrev cv:=@List.length_set
abbrev cw:=@List.lookup_cons
abbrev cx:=@if_true
abbrev cy:=@PyProof.Rows.callWith_type1
abbrev cz:=@List.map_map
abbrev c8:=@List.flatten_cons
abbrev c9:=@decide_eq_true
abbrev da:=@List.map_nil
abbrev de:=@List.replicate_succ
abbrev df:=@Ne.symm
abbrev dg:=@Nat.zero_le
abbrev dh:=@List.append_assoc
abbrev dk:=@List.length_replicate
abbrev dm:=@List.ext_getElem
abbrev dn:=@Nat.lt_succ_of_lt
abbrev dq:=@List.length_singleton
abbrev du:=@Nat.lt_irrefl
abbrev dw:=@List.any_cons
abbrev dz:=@List.all_cons
abbrev ef:=@List.nodup_append
abbrev eh:=@or_false
abbrev et:=@if_false
abbrev fe:=@List.mem_map_of_mem
abbrev fh:=@List.zip_cons_cons
abbrev fi:=@List.mem_or_eq_of_mem_set
abbrev fk:=@bne_self_eq_false
abbrev fq:=@beq_self_eq_true
abbrev ft:=@List.getElem_mem
abbrev fu:=@List.length_zip
abbrev fv:=@List.flatMap_cons
abbrev fw:=@Bool.not_eq_true'
abbrev f6:=@beq_iff_eq
abbrev f7:=@List.length_take
abbrev f9:=@PyProof.Rows.F.plain_set_update_loop
abbrev gb:=@List.nil_append
abbrev gc:=@Int.emod_nonneg
abbrev gd:=@Bool.or_eq_true
abbrev gh:=@List.mem_singleton
abbrev gj:=@List.lookup_append
abbrev gm:=@Int.emod_lt_of_pos
abbrev gn:=@of_decide_eq_true
abbrev gp:=@Nat.ne_of_gt
abbrev gq:=@List.length_range
abbrev gr:=@List.contains_nil
abbrev gu:=@Nat.lt_succ_self
abbrev gx:=@List.nil_sublist
abbrev gy:=@Bool.true_and
abbrev ic:=@congrArg
abbrev ie:=@List.eq_nil_of_length_eq_zero
abbrev ig:=@List.mem_append
abbrev ij:=@List.map_congr_left
abbrev ik:=@Nat.succ.inj
abbrev il:=@Nat.le_of_lt
abbrev ip:=@Bool.not_false
abbrev iq:=@List.drop_eq_getElem_cons
abbrev ir:=@Option.isSome_map
abbrev iu:=@Nat.le_of_succ_le
abbrev iw:=@Bool.and_self
abbrev iy:=@PySem.F.plainAttrs_list
abbrev iz:=@Nat.le_of_not_lt
abbrev i4:=@List.pairwise_singleton
abbrev i5:=@List.length_drop
abbrev i6:=@Nat.zero_add
abbrev i7:=@Nat.le_of_eq
abbrev i8:=@List.range_succ_eq_map
abbrev i9:=@List.all_nil
abbrev ja:=@Nat.not_lt_zero
abbrev jb:=@List.of_mem_zip
abbrev jc:=@List.mem_filter
abbrev jd:=@List.foldl_cons
abbrev je:=@List.length_filter_le
section
namespace L2
open PySem PySem.Spec PyProof.Rows
noncomputable abbrev Key:=Sum Int Str
noncomputable def ku:Key->Value->Bool
 |.inl k,v=>Value.isInt k v
 |.inr x,v=>Value.isStrOf x v
noncomputable def keyH (w:World):Key->Int
 |.inl k=>hashInt k
 |.inr x=>hashStr w x
theorem bA:∀{k:Key}{v:Value},ku k v=true->(∃ i t,k=Sum.inl i/\v=Value.int i t)\/(∃ x t,k=Sum.inr x/\v=Value.str x t)
 | .inl i,v,h=>by
  obtain⟨t,e⟩:=Value.isInt_shape (k:=i) (v:=v) h;exact .inl ⟨i,t,rfl,e⟩
 | .inr x,v,h=>by
  obtain⟨t,e⟩:=Value.isStrOf_shape (x:=x) (v:=v) h;exact .inr ⟨x,t,rfl,e⟩
theorem uA (i:Int)(t:Tok):ku (.inl i) (.int i t)=true:=by simp[ku,Value.isInt]
theorem vf (x:Str)(t:Tok):ku (.inr x) (.str x t)=true:=by simp[ku,Value.isStrOf]
theorem Ds (a b:Int):decide ((Sum.inl a:Key)=Sum.inl b)=(a==b):=by
 by_cases e:a=b
 .subst e;simp
 .have h:¬ (Sum.inl a:Key)=Sum.inl b:=fun q=>e (Sum.inl.inj q)
  rw[bj h];exact (beq_eq_false_iff_ne.mpr e).symm
theorem DI (a b:Str):decide ((Sum.inr a:Key)=Sum.inr b)=decide (a=b):=by
 by_cases e:a=b
 .subst e;simp
 .have h:¬ (Sum.inr a:Key)=Sum.inr b:=fun q=>e (Sum.inr.inj q)
  rw[bj h,bj e]
theorem DT (a:Int)(b:Str):decide ((Sum.inl a:Key)=Sum.inr b)=false:=bj (fun q=>nomatch q)
theorem Dm (a:Str)(b:Int):decide ((Sum.inr a:Key)=Sum.inl b)=false:=bj (fun q=>nomatch q)
noncomputable def aN (prog:Program)(w:World):PySem.KeyKind prog w Key where
 is:=ku
 hash:=keyH w
 inj:=fun v a b ha hb=>by
  rcases bA ha with ⟨i,t,rfl,rfl⟩ | ⟨x,t,rfl,rfl⟩
  .rcases bA hb with ⟨j,u,rfl,e⟩ | ⟨y,u,rfl,e⟩
   .injection e with e1 _;rw[e1]
   .exact nomatch e
  .rcases bA hb with ⟨j,u,rfl,e⟩ | ⟨y,u,rfl,e⟩
   .exact nomatch e
   .injection e with e1 _;rw[e1]
 byValue:=fun k v h=>by
  rcases bA h with ⟨i,t,rfl,rfl⟩ | ⟨x,t,rfl,rfl⟩<;>rfl
 pyHash:=fun hv h=>by
  rcases bA hv with ⟨i,t,rfl,rfl⟩ | ⟨x,t,rfl,rfl⟩
  .exact wpAny_pyHash_int h
  .exact wpAny_pyHash_str h
 eqBool:=fun hu hv h=>by
  rcases bA hu with ⟨i,t,rfl,rfl⟩ | ⟨x,t,rfl,rfl⟩
  .rcases bA hv with ⟨j,u,rfl,rfl⟩ | ⟨y,u,rfl,rfl⟩
   .rw[Ds] at h;exact wpAny_eqBool_int h
   .rw[DT] at h;exact SeqAt.EqAt.int_str i t y u _ _ _ _ h
  .rcases bA hv with ⟨j,u,rfl,rfl⟩ | ⟨y,u,rfl,rfl⟩
   .rw[Dm] at h;exact SeqAt.EqAt.str_int x t j u _ _ _ _ h
   .rw[DI] at h;exact wpAny_eqBool_str h
 «strs»:=fun k x t v h=>by
  rcases bA h with ⟨i,u,rfl,e⟩ | ⟨y,u,rfl,e⟩
  .exact nomatch e
  .injection e with e1 _
   subst e1;cases v<;>rfl
theorem dY (prog:Program)(w:World)(i:Int)(t:Tok):(aN prog w).is (.inl i) (.int i t)=true:=uA i t
theorem dB (prog:Program)(w:World)(x:Str)(t:Tok):(aN prog w).is (.inr x) (.str x t)=true:=vf x t
end L2
namespace L2
open PySem PySem.Spec PyProof.Rows
inductive V where
 | non | bl (b:Bool) | int (i:Int) | str (x:Str) | byt (b:Array UInt8) | flt (b:UInt64) | ref (a:Addr) | ty (n:String)
 deriving DecidableEq
noncomputable def RelV:V->Value->Prop
 |.non,u=>u=Value.none
 |.bl b,u=>u=Value.bool b
 |.int i,u=>∃ t,u=Value.int i t
 |.str x,u=>∃ t,u=Value.str x t
 |.byt b,u=>∃ t,u=Value.bytes b t
 |.flt b,u=>∃ t,u=Value.float b t
 |.ref a,u=>u=Value.ref a
 |.ty n,u=>u=Value.type n
noncomputable abbrev aL:List V->List Value->Prop:=Paired RelV
theorem aL.length {xs:List V}{us:List Value}(r:aL xs us):xs.length=us.length:=Paired.length r
theorem aL.get:∀{xs:List V}{us:List Value}{i:Nat}{x:V},aL xs us->xs[i]? = some x->∃ u,us[i]? = some u/\RelV x u
 |_,_,_,_,.nil,e=>by simp at e
 |_,_,0,_,.cons r _,e=>by simp at e;subst e;exact⟨_,rfl,r⟩
 | _,_,i+1,x,.cons _ t,e=>by
  obtain⟨u,h1,h2⟩:=aL.get (i:=i) (x:=x) t (by simpa using e);exact⟨u,by simpa using h1,h2⟩
theorem aL.set {x:V}{u:Value}(r:RelV x u):∀{xs:List V}{us:List Value}(i:Nat),aL xs us->aL (xs.set i x) (us.set i u)
 |_,_,_,.nil=>.nil
 |_,_,0,.cons _ t=>.cons r t
 |_,_,i+1,.cons q t=>.cons q (aL.set r i t)
theorem aL.append:∀{xs ys:List V}{us ws:List Value},aL xs us->aL ys ws->aL (xs++ys) (us++ws)
 |_,_,_,_,.nil,s=>s
 |_,_,_,_,.cons r t,s=>.cons r (aL.append t s)
theorem aL.take:∀{xs:List V}{us:List Value}(n:Nat),aL xs us->aL (xs.take n) (us.take n)
 |_,_,0,_=>.nil
 |_,_,_+1,.nil=>.nil
 |_,_,n+1,.cons r t=>.cons r (aL.take n t)
theorem aL.drop:∀{xs:List V}{us:List Value}(n:Nat),aL xs us->aL (xs.drop n) (us.drop n)
 |_,_,0,r=>r
 |_,_,_+1,.nil=>.nil
 |_,_,n+1,.cons _ t=>aL.drop n t
noncomputable def vz:Option V->Option Value->Prop
 |some v,some u=>RelV v u
 |none,none=>True
 |_,_=>False
def KV {κ:Type}:List (κ×V)->List (κ×Value)->Prop:=Paired fun (p:κ×V) (q:κ×Value)=>p.1=q.1/\RelV p.2 q.2
noncomputable def kV:Key->V
 |.inl i=>.int i
 |.inr x=>.str x
inductive HO where
 | lst (xs:List V)
 | tup (xs:List V)
 | dK (kvs:List (Key×V)) | dT (kvs:List (List Key×V))
 | set (S:Int->Bool) (n:Nat)
 | ins (C dx:Addr) (fs:List (Str×V))
 | own (x:Addr)
 | xd (fs:List (Str×V))
 | met (f x:Addr)
 | rng (lo hi:Int)
 | frz (o:Obj) (u:HO)
 | tbl (ps:Array Value)
 | ext (φ:Heap->Prop)
noncomputable abbrev Hp:=Addr->Option HO
noncomputable def upd (H:Hp)(a:Addr)(o:HO):Hp:=fun b=>if b=a then some o else H b
variable {H:Hp}{a:Addr}{o:HO}
theorem aK:upd H a o a=some o:=by unfold upd;rw[if_pos rfl]
variable {b:Addr}
theorem aJ (h:b≠a):upd H a o b=H b:=by unfold upd;rw[if_neg h]
variable {u:HO}
theorem Fv (h:H a=some o)(h':H b=some u)(d:o≠u):a≠b:=by
 intro e;subst e;rw[h] at h';exact d (cj h')
theorem bT (h:H a=some o)(h':H b=none):a≠b:=by
 intro e;subst e;rw[h] at h';cases h'
section
variable (P:Program)(w:World)
noncomputable def bZ (H:Hp)(h:Heap)(a:Addr):HO->Prop
 |.lst xs=>xs.length<=sizeLine/\∃(its:List Value) (n:Nat),aL xs its/\h.get? a=some { cls:=.type "list",data:=.seq its.toArray n }
 |.tup xs=>xs.length<=sizeLine/\∃ its:List Value,aL xs its/\IsTup h a its.toArray
 |.dK kvs=>kvs.length<=sizeLine/\(a==sysModules)=false/\∃ vs,KV kvs vs/\h.DictOf (aN P w) a vs
 | .dT kvs=>kvs.length<=sizeLine/\(a==sysModules)=false/\∃ xs:List (List Key×Addr×Value),
   Paired (fun (p:List Key×V) (q:List Key×Addr×Value)=>p.1=q.1/\H q.2.1=some (.tup (p.1.map kV))/\RelV p.2 q.2.2) kvs xs /\
   ∃ o es ep,h.get? a=some o/\o.ExactDict/\o.data = .dict es ep/\es.toList=xs.map (entryOfKey (tupleKind (aN P w)))/\(xs.map (·.1)).Nodup
 |.set S n=>h.SetOf (intKind P w) a S n
 | .ins C dx fs=>H dx=some (.own a)/\fs.length<=1000/\dx≠a/\h.get? a=some (PySem.W.instObj C dx) /\
   ∃ mA,h.Ns1 dx mA/\(∀ f,vz (fs.lookup f) (mA f))/\PySem.Within mA (fs.map (·.1))
 |.own _=>∃ o,h.get? a=some o
 |.xd fs=>∃ mA,h.Ns1 a mA/\∀ f,vz (fs.lookup f) (mA f)
 |.rng lo hi=>∃ t u v,h.get? a=some { cls:=.type "range",data:=.fields #[.int lo t,.int hi u,.int 1 v] }
 |.frz o u=>h.get? a=some o/\bZ H h a u
 |.tbl ps=>h.get? a=some { cls:=.none,data:=.fields ps }
 |.met f x=>h.get? a=some (PySem.W.methodObj (.ref f) (.ref x))
 |.ext φ=>φ h/\(∃ o,h.get? a=some o)/\∀ h1 h2:Heap,φ h1->(∀ o,h1.get? a=some o->h2.get? a=some o)->φ h2
def jJ (H:Hp)(h:Heap):Prop:=∀ a o,H a=some o->bZ P w H h a o
end
section
variable {P:Program}{w:World}{H H':Hp}{h h':Heap}{a:Addr}{o:HO}
theorem bZ.lt (x:bZ P w H h a o):a<h.objs.size:=by
 cases o with
 |lst xs=>obtain⟨_,_,_,_,e⟩:=x;exact Heap.lt_size e
 |tup xs=>obtain⟨_,_,_,p⟩:=x;exact p.lt
 |dK kvs=>obtain⟨_,_,_,_,o,_,_,e,_⟩:=x;exact Heap.lt_size e
 |dT kvs=>obtain⟨_,_,_,_,o,_,_,e,_⟩:=x;exact Heap.lt_size e
 |set S n=>obtain⟨o,_,_,_,e,_⟩:=x;exact Heap.lt_size e
 |ins C dx fs=>obtain⟨_,_,_,e,_⟩:=x;exact Heap.lt_size e
 |own y=>obtain⟨_,e⟩:=x;exact Heap.lt_size e
 |xd fs=>obtain⟨_,⟨_,_,_,e,_⟩,_⟩:=x;exact Heap.lt_size e
 |rng lo hi=>obtain⟨_,_,_,e⟩:=x;exact Heap.lt_size e
 |frz ob u=>obtain⟨e,_⟩:=x;exact Heap.lt_size e
 |tbl ps=>exact Heap.lt_size (show h.get? a=some _ from x)
 |met f y=>exact Heap.lt_size (show h.get? a=some _ from x)
 |ext φ=>obtain⟨_,⟨_,e⟩,_⟩:=x;exact Heap.lt_size e
theorem Paired.mapP {α β:Type}{F G:α->β->Prop}:∀{l₁:List α}{l₂:List β},Paired F l₁ l₂->(∀ a b,F a b->G a b)->Paired G l₁ l₂
 |_,_,.nil,_=>.nil
 |_,_,.cons r t,f=>.cons (f _ _ r) (Paired.mapP t f)
theorem bZ.stay (x:bZ P w H h a o)(k:∀ b u,(b=a\/H b=some (.own a))->h.get? b=some u->h'.get? b=some u)
  (ho:∀ b,H b=some (.own a)->H' b=some (.own a)) (ht:∀ b xs,H b=some (.tup xs)->H' b=some (.tup xs)):bZ P w H' h' a o:=by
 induction o with
 |lst xs=>obtain⟨z,its,n,r,e⟩:=x;exact⟨z,its,n,r,k _ _ (.inl rfl) e⟩
 |tup xs=>obtain⟨z,its,r,ob,e,c⟩:=x;exact⟨z,its,r,ob,k _ _ (.inl rfl) e,c⟩
 |dK kvs=>obtain⟨z,y,vs,r,ob,es,ep,e,c⟩:=x;exact⟨z,y,vs,r,ob,es,ep,k _ _ (.inl rfl) e,c⟩
 |dT kvs =>
  obtain⟨z,y,xs,r,ob,es,ep,e,c⟩:=x;exact⟨z,y,xs,Paired.mapP r fun p q z=>⟨z.1,ht _ _ z.2.1,z.2.2⟩,ob,es,ep,k _ _ (.inl rfl) e,c⟩
 |set S n=>obtain⟨ob,es,ep,t,e,c⟩:=x;exact⟨ob,es,ep,t,k _ _ (.inl rfl) e,c⟩
 |ins C dx fs =>
  obtain⟨d,z,ne,e,mA,⟨od,es,ep,e2,c⟩,r⟩:=x;exact⟨ho _ d,z,ne,k _ _ (.inl rfl) e,mA,⟨od,es,ep,k _ _ (.inr d) e2,c⟩,r⟩
 |own y=>obtain⟨ob,e⟩:=x;exact⟨ob,k _ _ (.inl rfl) e⟩
 |xd fs=>obtain⟨mA,⟨od,es,ep,e,c⟩,r⟩:=x;exact⟨mA,⟨od,es,ep,k _ _ (.inl rfl) e,c⟩,r⟩
 |rng lo hi=>obtain⟨t,u,v,e⟩:=x;exact⟨t,u,v,k _ _ (.inl rfl) e⟩
 |frz ob u ih=>obtain⟨e,q⟩:=x;exact⟨k _ _ (.inl rfl) e,ih q⟩
 |tbl ps =>
  have e:h.get? a=some { cls:=.none,data:=.fields ps }:=x;show h'.get? a=some { cls:=.none,data:=.fields ps };exact k a _ (.inl rfl) e
 |met f y =>
  have e:h.get? a=some (PySem.W.methodObj (.ref f) (.ref y)):=x;show h'.get? a=some (PySem.W.methodObj (.ref f) (.ref y));exact k a _ (.inl rfl) e
 |ext φ=>obtain⟨p,⟨o,e⟩,st⟩:=x;exact⟨st _ _ p fun o q=>k _ _ (.inl rfl) q,⟨o,k _ _ (.inl rfl) e⟩,st⟩
theorem jJ.lt (x:jJ P w H h)(e:H a=some o):a<h.objs.size:=(x a o e).lt
theorem jJ.fresh (x:jJ P w H h)(e:h.objs.size<=a):H a=none:=by
 cases q:H a with
 |none=>rfl
 |some u=>exact absurd (be (x.lt q) e) (du _)
theorem jJ.kept (x:jJ P w H h)(k:∀ b u,h.get? b=some u->h'.get? b=some u):jJ P w H h':=fun a o e =>
 (x a o e).stay (fun b u _ q=>k b u q) (fun _ q=>q) fun _ _ q=>q
theorem jJ.laid (x:jJ P w H h)(k:∀ b u,h.get? b=some u->h'.get? b=some u)(hp:h.objs.size<=a)(new:bZ P w (upd H a o) h' a o):jJ P w (upd H a o) h':=fun b u e=>by
 have hn:=x.fresh hp;by_cases hb:b=a
 .subst hb;rw[aK] at e;cases e;exact new
 .rw[aJ hb] at e;exact (x b u e).stay (fun c v _ q=>k c v q) (fun c q=>by rw[aJ (bT q hn)];exact q) fun c xs q=>by rw[aJ (bT q hn)];exact q
end
def Rd (H:Hp)(a:Addr)(u:HO):Prop:=H a=some u\/∃ o,H a=some (.frz o u)
variable {h:Heap}
theorem Rd.ok {P:Program}{w:World}(r:Rd H a u)(x:jJ P w H h):bZ P w H h a u:=by
 rcases r with r | ⟨o,r⟩
 .exact x a u r
 .obtain⟨_,q⟩:=x a _ r;exact q
noncomputable def o9:Option HO->Prop
 | some (.lst _)=>True
 | some (.dK _)=>True
 | some (.dT _)=>True
 | some (.set _ _)=>True
 | some (.ins _ _ _)=>True
 | some (.ext _)=>True
 |_=>False
section
variable {P:Program}{w:World}{H:Hp}{h h':Heap}{x e:Addr}{o':HO}
theorem jJ.write (ok:jJ P w H h)(mu:o9 (H x))(he:e=x\/H e=some (.own x))(k:∀ b u,b≠e->h.get? b=some u->h'.get? b=some u)(heo:∃ u,h'.get? e=some u)
  (new:bZ P w (upd H x o') h' x o'):jJ P w (upd H x o') h':=fun b u q=>by
 have nown:∀ c y,H c=some (.own y)->c≠x:=fun c y r z=>by subst z;rw[r] at mu;exact mu
 have ntup:∀ c xs,H c=some (.tup xs)->c≠x:=fun c xs r z=>by subst z;rw[r] at mu;exact mu
 by_cases hb:b=x
 .subst hb;rw[aK] at q;cases q;exact new
 .rw[aJ hb] at q;by_cases hbe:b=e
  .have q':H b=some (.own x):=by
    rcases he with z | z
    .exact absurd (hbe.trans z) hb
    .rw[hbe];exact z
   rw[q] at q';cases q';obtain⟨v,hv⟩:=heo;exact⟨v,by rw[hbe];exact hv⟩
  .refine (ok b u q).stay (fun c v hc r=>k c v ?_ r) (fun c r=>by rw[aJ (nown c b r)];exact r) fun c xs r=>by rw[aJ (ntup c xs r)];exact r
   rcases hc with rfl | hc
   .exact hbe
   .rintro rfl;rcases he with z | z
    .exact nown c b hc z
    .rw[hc] at z;cases z;exact hb rfl
end
structure Un (fs ex:List Addr)(H H':Hp)(h h':Heap):Prop where
 keep:∀ b o,h.get? b=some o->H b=none->b∉fs->b∉ex->h'.get? b=some o
 slot:∀ b o,h.get? b=some o->H b=none->b∈fs->b∉ex->∃ sl,h'.get? b=some { o with slots:=sl }
 free:∀ b o,h.get? b=some o->H b=none->b∉ex->H' b=none
 there:∀ b o,h.get? b=some o->b∉ex->∃ o',h'.get? b=some o'
 tups:∀ b xs,H b=some (.tup xs)->H' b=some (.tup xs)
 frzs:∀ b o u,H b=some (.frz o u)->H' b=some (.frz o u)
 tbls:∀ b ps,H b=some (.tbl ps)->∃ more,H' b=some (.tbl (ps++more))
section
variable {fs fs' ex ex':List Addr}{H H1 H2:Hp}{h h1 h2 h':Heap}{a x e:Addr}{o:HO}
theorem Un.any (u:Un fs ex H H1 h h1){ob:Obj}(q:h.get? b=some ob)(n:H b=none)(hx:b∉ex):∃ sl,h1.get? b=some { ob with slots:=sl }:=by
 by_cases hb:b∈fs
 .exact u.slot b ob q n hb hx
 .exact⟨ob.slots,u.keep b ob q n hb hx⟩
theorem Un.kept (k:∀ b u,h.get? b=some u->h'.get? b=some u):Un fs ex H H h h' :=
 ⟨fun b ob q _ _ _=>k b ob q,fun b ob q _ _ _=>⟨ob.slots,k b ob q⟩,fun _ _ _ n _=>n,fun b ob q _=>⟨ob,k b ob q⟩,fun _ _ q=>q,fun _ _ _ q=>q,fun _ ps q=>⟨#[],by rw[q];simp⟩⟩
theorem Un.refl:Un fs ex H H h h:=Un.kept fun _ _ q=>q
theorem Un.laid (k:∀ b u,h.get? b=some u->h'.get? b=some u)(hp:h.objs.size<=a)(hn:H a=none):Un fs ex H (upd H a o) h h' where
 keep:=fun b u q _ _ _=>k b u q
 slot:=fun b u q _ _ _=>⟨u.slots,k b u q⟩
 free:=fun b u q n _=>by rw[aJ (ax (be (Heap.lt_size q) hp))];exact n
 there:=fun b u q _=>⟨u,k b u q⟩
 tups:=fun b xs q=>by rw[aJ (bT q hn)];exact q
 frzs:=fun b u xs q=>by rw[aJ (bT q hn)];exact q
 tbls:=fun b ps q=>⟨#[],by rw[aJ (bT q hn),q];simp⟩
theorem Un.write (mu:o9 (H x))(he:e=x\/H e=some (.own x))(k:∀ b u,b≠e->h.get? b=some u->h'.get? b=some u)(heo:∃ u,h'.get? e=some u):Un fs ex H (upd H x o) h h':=by
 have hx:∀ b,H b=none->b≠x:=fun b n z=>by subst z;rw[n] at mu;exact mu
 have hb:∀ b,H b=none->b≠e:=fun b n z=>by
  subst z;rcases he with r | r
  .exact hx b n r
  .rw[n] at r;cases r
 have hm:∀ b u,H b=some u->¬ o9 (some u)->b≠x:=fun b u q nm z=>by subst z;rw[q] at mu;exact nm mu
 refine⟨fun b u q n _ _=>k b u (hb b n) q,fun b u q n _ _=>⟨u.slots,k b u (hb b n) q⟩,fun b u q n _=>by rw[aJ (hx b n)];exact n,fun b u q _=>?_,
  fun b xs q=>by rw[aJ (hm b _ q fun z=>z)];exact q,fun b u xs q=>by rw[aJ (hm b _ q fun z=>z)];exact q,fun b ps q=>⟨#[],by rw[aJ (hm b _ q fun z=>z),q];simp⟩⟩
 by_cases hbe:b=e
 .subst hbe;exact heo
 .exact⟨u,k b u hbe q⟩
end
noncomputable def trk (h:Heap)(H:Hp):List Addr:=(List.range h.objs.size).filter fun a=>(H a).isSome
noncomputable def oQ (h:Heap)(H:Hp):Heap:=PySem.W.hideAll h (trk h H)
theorem uz (h:Heap)(H:Hp):(oQ h H).objs.size=h.objs.size:=PySem.W.hideAll_size _ _
theorem wb {o:Obj}(e:h.get? b=some o)(n:H b=none):(oQ h H).get? b=some o :=
 PySem.W.hideAll_get _ e fun hm=>by
  have q:(H b).isSome=true:=(jc.mp hm).2;rw[n] at q;simp at q
theorem AS {o:Obj}(e:(oQ h H).get? b=some o):h.get? b=some o/\H b=none:=by
 have e':h.get? b=some o:=PySem.W.of_hideAll (trk h H) e;refine⟨e',?_⟩;cases q:H b with
 |none=>rfl
 |some x =>
  have hm:b∈trk h H:=List.mem_filter.mpr ⟨List.mem_range.mpr (Heap.lt_size e'),by simp[q]⟩;have z:(oQ h H).get? b=none:=PySem.W.hideAll_none (trk h H) hm;rw[z] at e;cases e
noncomputable def AO (g h:Heap)(L:Addr):List (Addr×Obj):=(List.range h.objs.size).filterMap fun a=>if a=L\/(g.get? a).isSome=true then none else (h.get? a).map fun o=>(a,o)
noncomputable def rest (g h:Heap)(L d:Addr):List (Addr×Obj):=(AO g h L).filter fun p=>decide (p.1≠d)
end L2
namespace L2
open PySem PySem.Spec PyProof.Rows
structure Mod (K:PySem.W.Frag)(mg:Str->Option Value)(base:Heap):Prop where
 kin:K.In base
 glob:base.Ns mainGlobals mg
 blt:∃ mb,base.Ns builtinsNs mb/\∀ x:Str,x≠"__name__"->mb x=bootBuiltins x
 nolimit:base.NoLimit
structure Cx where
 prog:Program
 w:World
 K:PySem.W.Frag
 mg:Str->Option Value
 base:Heap
 A:Around
 N:List Str
 s₀:Shared
 H₀:Hp
 env:Env
 outer:List Env
 stack:List Env
 ex:List Addr
 fn:Str->Bool
 calm:Bool
 pn:List (Addr×Obj)
 xe:Value->Shared->Prop
noncomputable def wq (l:List Env):List Addr:=l.filterMap (·.frame)
noncomputable abbrev Cx.fs (X:Cx):List Addr:=wq X.outer
def B2 (sc:Scope)(x:Str):Prop:=sc.names.lookup x=some .local\/sc.names.lookup x=some .cell\/sc.names.lookup x=some .free
def Loc (sc:Scope)(x:Str):Prop:=sc.names.lookup x=some .local\/sc.names.lookup x=some .cell
noncomputable def Look (env:Env)(h:Heap)(m:Str->Option Value)(x:Str)(u:Value):Prop :=
 (env.kindOf x=some .local/\m x=some u)\/((env.kindOf x=some .cell\/env.kindOf x=some .free)/\∃ c,env.cells.lookup x=some c/\h.IsCell c (some u))
structure Cx.Ok (X:Cx):Prop where
 mod:Mod X.K X.mg X.base
 kind:X.env.scope.kind = .function
 glob:X.env.globals=mainGlobals
 blt:X.env.builtins=builtinsNs
 above:X.s₀.heap.objs.size<=X.env.locals
 inj:∀ x y c,X.env.cells.lookup x=some c->X.env.cells.lookup y=some c->x=y
 has:∀ x,(X.env.kindOf x=some .cell\/X.env.kindOf x=some .free)->∃ c,X.env.cells.lookup x=some c
 cab:∀ x c,X.fn x=true->X.env.cells.lookup x=some c->X.s₀.heap.objs.size<=c
 hd:X.calm=true->X.A.handled=none
 frames:X.A.frames=some X.stack
 stk:X.stack=X.outer\/(X.stack=X.env::X.outer/\X.env.frame=some X.env.locals)
 exf:∀ b∈X.ex,b≠X.env.locals/\∀ x c,X.env.cells.lookup x=some c->c≠b
 bs:∀ b o,X.base.get? b=some o->X.s₀.heap.get? b=some o/\X.H₀ b=none
 bsz:X.base.objs.size<=X.s₀.heap.objs.size
 noex:∀ b o,X.base.get? b=some o->b∉X.ex
 exfs:∀ b∈X.ex,b∉X.fs
 funs:X.s₀.heap.FunFrames X.base X.outer
 frf:∀ b∈X.fs,X.H₀ b=none
structure Inv (X:Cx)(pins:List (Addr×Obj))(σ:List (Option V))(H:Hp)(s:Shared):Prop where
 ok:X.Ok
 os:s.os=X.s₀.os
 bare:AllBare s.gens
 base:Un X.fs X.ex X.H₀ H X.s₀.heap s.heap
 loc:∃ m,s.heap.Ns X.env.locals m/\∀(i:Nat) (x:Str) (v:V),X.N[i]? = some x->σ[i]? = some (some v)->B2 X.env.scope x->∃ u,RelV v u/\Look X.env s.heap m x u
 cell:∀ x c,X.env.cells.lookup x=some c->∃ v,s.heap.IsCell c v
 free:H X.env.locals=none
 freeC:∀ x c,X.env.cells.lookup x=some c->H c=none
 pin:∀ p∈X.pn++pins,s.heap.get? p.1=some p.2/\H p.1=none/\p.1≠X.env.locals/\p.1∉X.fs/\∀ v,p.2.data≠.cell v
 hok:jJ X.prog X.w H s.heap
 len:σ.length=X.N.length
variable {A:Around}{M:Model}{i t':Nat}{u:Value}{x:Str}
section
variable {X:Cx}{pins:List (Addr×Obj)}{σ:List (Option V)}{H H':Hp}{s:Shared}{h':Heap}
theorem Cx.Ok.nofr (ok:X.Ok){b:Addr}{o:Obj}(e:X.base.get? b=some o):b∉X.fs:=fun hb=>by
 have:=(ok.funs.mem hb).1;rw[e] at this;cases this
theorem Inv.bs (I:Inv X pins σ H s):∀ b o,X.base.get? b=some o->s.heap.get? b=some o/\H b=none:=fun b o e =>
 ⟨I.base.keep b o (I.ok.bs b o e).1 (I.ok.bs b o e).2 (I.ok.nofr e) (I.ok.noex b o e),I.base.free b o (I.ok.bs b o e).1 (I.ok.bs b o e).2 (I.ok.noex b o e)⟩
theorem Inv.bk (I:Inv X pins σ H s):∀ b o,X.base.get? b=some o->s.heap.get? b=some o:=fun b o e=>(I.bs b o e).1
theorem Inv.mod (I:Inv X pins σ H s):Mod X.K X.mg X.base:=I.ok.mod
theorem Inv.kIn (I:Inv X pins σ H s):X.K.In s.heap:=I.ok.mod.kin.keeps I.bk
theorem Inv.lt (I:Inv X pins σ H s):X.env.locals<s.heap.objs.size:=let ⟨_,hn,_⟩:=I.loc;hn.lt
theorem Inv.sz (I:Inv X pins σ H s):X.s₀.heap.objs.size<=s.heap.objs.size:=br I.ok.above (il I.lt)
theorem Inv.nofs (I:Inv X pins σ H s){a:Addr}(h:s.heap.objs.size<=a):a∉X.fs:=fun hb=>by
 obtain⟨_,o,ho,_⟩:=I.ok.funs.mem hb;exact absurd (be (Heap.lt_size ho) (br I.sz h)) (du _)
theorem Inv.cne (I:Inv X pins σ H s):∀ x c,X.env.cells.lookup x=some c->c≠X.env.locals:=fun x c e z=>by
 obtain⟨v,o,ho,hd⟩:=I.cell x c e;obtain⟨m,⟨o',es,ep,ho',hd',_⟩,_⟩:=I.loc;rw[z,ho'] at ho;cases ho;rw[hd'] at hd;cases hd
theorem Inv.funs (I:Inv X pins σ H s):s.heap.FunFrames X.base X.outer:=by
 have all:∀(l:List Env),(∀ b∈wq l,b∈X.fs)->X.s₀.heap.FunFrames X.base l->s.heap.FunFrames X.base l:=by
  intro l
  induction l with
  |nil=>intro _ _;trivial
  |cons env r ih =>
   intro hs hl;obtain⟨hk,⟨L,o,hf,hn,ho,hd⟩,hr⟩:=hl;have hL:L∈X.fs:=hs L (by unfold wq;rw[List.filterMap_cons,hf];exact ai);obtain⟨sl,e⟩:=I.base.slot L o ho (I.ok.frf L hL) hL fun z=>I.ok.exfs L z hL
   exact⟨hk,⟨L,_,hf,hn,e,hd⟩,ih (fun b hb=>hs b (by unfold wq;rw[List.filterMap_cons,hf];exact ah _ hb)) hr⟩
 exact all X.outer (fun _ hb=>hb) I.ok.funs
theorem Inv.stack (I:Inv X pins σ H s):s.heap.FunFrames X.base X.stack:=by
 rcases I.ok.stk with e | ⟨e,hf⟩
 .rw[e];exact I.funs
 .rw[e];obtain⟨m,hn,_⟩:=I.loc;refine .cons (by rw[I.ok.kind];decide) hf hn ?_ I.funs;exact Heap.get?_none_of_le (br I.ok.bsz I.ok.above)
theorem Inv.stkSub (I:Inv X pins σ H s):∀ b∈wq X.stack,b∈X.env.locals::X.fs:=fun b hb=>by
 rcases I.ok.stk with e | ⟨e,hf⟩
 .rw[e] at hb;exact ah _ hb
 .rw[e] at hb;unfold wq at hb;rw[List.filterMap_cons,hf] at hb;exact hb
theorem Inv.stkFree (I:Inv X pins σ H s):∀ b∈wq X.stack,H b=none:=fun b hb=>by
 rcases cg.mp (I.stkSub b hb) with e | hb
 .rw[e];exact I.free
 .obtain⟨_,o,ho,_⟩:=I.ok.funs.mem hb;exact I.base.free b o ho (I.ok.frf b hb) fun z=>I.ok.exfs b z hb
theorem Inv.step {g':Array GenState}{d':Drawn}{ch:List Addr}(I:Inv X pins σ H s)
  (hch:∀ b∈ch,(b∈X.ex\/X.s₀.heap.objs.size<=b)/\b≠X.env.locals/\(∀ x c,X.env.cells.lookup x=some c->c≠b)/\∀ p∈X.pn++pins,p.1≠b)
  (keep:∀ b o,b≠X.env.locals->b∉X.fs->b∉ch->s.heap.get? b=some o->H b=none->h'.get? b=some o)
  (slot:∀ b o,b≠X.env.locals->b∈X.fs->b∉ch->s.heap.get? b=some o->H b=none->∃ sl,h'.get? b=some { o with slots:=sl }) (free:∀ b o,b∉ch->s.heap.get? b=some o->H b=none->H' b=none)
  (there:∀ b o,b∉ch->s.heap.get? b=some o->∃ o',h'.get? b=some o')
  (tups:∀ b xs,H b=some (.tup xs)->H' b=some (.tup xs)) (frzs:∀ b o u,H b=some (.frz o u)->H' b=some (.frz o u)) (tbls:∀ b ps,H b=some (.tbl ps)->∃ more,H' b=some (.tbl (ps++more)))
  (ns:∀ m,s.heap.Ns X.env.locals m->h'.Ns X.env.locals m) (hok:jJ X.prog X.w H' h') (hg:AllBare g') :
  Inv X pins σ H' { s with heap:=h',gens:=g',drawn:=d',toks:=t' }:=by
 have neL:∀ b o,X.s₀.heap.get? b=some o->b≠X.env.locals:=fun b o e=>ax (be (Heap.lt_size e) I.ok.above)
 have neC:∀ b o,X.s₀.heap.get? b=some o->b∉X.ex->b∉ch:=fun b o e hx hb=>by
  rcases (hch b hb).1 with z | z
  .exact hx z
  .exact absurd (be (Heap.lt_size e) z) (du _)
 have cellK:∀ x c,X.env.cells.lookup x=some c->∀ v,s.heap.IsCell c v->h'.IsCell c v:=fun x c e v ⟨o,ho,hd⟩=>by
  have nch:c∉ch:=fun z=>(hch c z).2.2.1 x c e rfl
  by_cases hc:c∈X.fs
  .obtain⟨sl,q⟩:=slot c o (I.cne x c e) hc nch ho (I.freeC x c e);exact⟨_,q,hd⟩
  .exact⟨o,keep c o (I.cne x c e) hc nch ho (I.freeC x c e),hd⟩
 refine⟨I.ok,I.os,hg,⟨fun b o e n hb hx=>?_,fun b o e n hb hx=>?_,fun b o e n hx=>?_,fun b o e hx=>?_,fun b xs e=>tups b xs (I.base.tups b xs e),fun b o xs e=>frzs b o xs (I.base.frzs b o xs e),fun b ps e=>?_⟩,?_,fun x c e=>?_,?_,fun x c e=>?_,fun p hp=>?_,hok,I.len⟩
 .exact keep b o (neL b o e) hb (neC b o e hx) (I.base.keep b o e n hb hx) (I.base.free b o e n hx)
 .obtain⟨sl,e1⟩:=I.base.slot b o e n hb hx;obtain⟨sl',e2⟩:=slot b _ (neL b o e) hb (neC b o e hx) e1 (I.base.free b o e n hx);exact⟨sl',e2⟩
 .obtain⟨o',e1⟩:=I.base.there b o e hx;exact free b o' (neC b o e hx) e1 (I.base.free b o e n hx)
 .obtain⟨o',e1⟩:=I.base.there b o e hx;exact there b o' (neC b o e hx) e1
 .obtain⟨m1,e1⟩:=I.base.tbls b ps e;obtain⟨m2,e2⟩:=tbls b _ e1;exact⟨m1++m2,by rw[e2,Array.append_assoc]⟩
 .obtain⟨m,hn,hl⟩:=I.loc;refine⟨m,ns m hn,fun i x v e1 e2 e3=>?_⟩;obtain⟨u,r,l⟩:=hl i x v e1 e2 e3;refine⟨u,r,?_⟩;rcases l with l | ⟨k,c,e,z⟩
  .exact .inl l
  .exact .inr ⟨k,c,e,cellK x c e _ z⟩
 .obtain⟨v,z⟩:=I.cell x c e;exact⟨v,cellK x c e v z⟩
 .obtain⟨m,⟨o,_,_,ho,_⟩,_⟩:=I.loc;exact free _ o (fun z=>(hch _ z).2.1 rfl) ho I.free
 .obtain⟨v,o,ho,hd⟩:=I.cell x c e;exact free c o (fun z=>(hch c z).2.2.1 x c e rfl) ho (I.freeC x c e)
 .obtain⟨e,n,ne,nf,d⟩:=I.pin p hp;have nch:p.1∉ch:=fun z=>(hch p.1 z).2.2.2 p hp rfl
  exact⟨keep p.1 p.2 ne nf nch e n,free p.1 p.2 nch e n,ne,nf,d⟩
theorem Inv.un {t':Nat}(I:Inv X pins σ H s)(u:Un X.fs [] H H' s.heap h')(hok:jJ X.prog X.w H' h'):Inv X pins σ H' { s with heap:=h',toks:=t' }:=by
 obtain⟨m,⟨o,es,ep,ho,r⟩,_⟩:=id I.loc;obtain⟨sl,hL⟩:=u.any ho I.free (by simp);exact I.step (g':=s.gens) (d':=s.drawn) (ch:=[]) (fun _ z=>nomatch z) (fun b o _ hb _ e n=>u.keep b o e n hb (by simp)) (fun b o _ hb _ e n=>u.slot b o e n hb (by simp)) (fun b o _ e n=>u.free b o e n (by simp)) (fun b o _ e=>u.there b o e (by simp)) u.tups u.frzs u.tbls (fun m' hm=>by
  obtain⟨o',es',ep',ho',r'⟩:=hm;rw[ho] at ho';cases ho';exact⟨_,es',ep',hL,r'⟩) hok I.bare
theorem Inv.call {g':Array GenState}{t':Nat}{d':Drawn}{ch:List Addr}(I:Inv X pins σ H s)(u:Un (wq X.stack) ch H H' s.heap h')(hok:jJ X.prog X.w H' h')(hg:AllBare g')
  (hch:∀ b∈ch,(b∈X.ex\/X.s₀.heap.objs.size<=b)/\b≠X.env.locals/\(∀ x c,X.env.cells.lookup x=some c->c≠b)/\∀ p∈X.pn++pins,p.1≠b) :
  Inv X pins σ H' { s with heap:=h',gens:=g',drawn:=d',toks:=t' }:=by
 obtain⟨m,⟨o,es,ep,ho,r⟩,_⟩:=id I.loc;obtain⟨sl,hL⟩:=u.any ho I.free fun z=>(hch _ z).2.1 rfl
 exact I.step (ch:=ch) hch (fun b o hL hb hc e n=>u.keep b o e n (fun z=>(cg.mp (I.stkSub b z)).elim hL hb) hc) (fun b o _ _ hc e n=>u.any e n hc) (fun b o hc e n=>u.free b o e n hc) (fun b o hc e=>u.there b o e hc) u.tups u.frzs u.tbls (fun m' hm=>by
  obtain⟨o',es',ep',ho',r'⟩:=hm;rw[ho] at ho';cases ho';exact⟨_,es',ep',hL,r'⟩) hok hg
theorem Inv.turned {t':Nat}{it:Addr}(I:Inv X pins σ H s)(k:∀ b o,b≠it->s.heap.get? b=some o->h'.get? b=some o)(hn:H it=none)(hL:it≠X.env.locals)
  (h1:it∈X.ex\/X.s₀.heap.objs.size<=it) (h2:∀ x c,X.env.cells.lookup x=some c->c≠it) (h3:∀ p∈X.pn++pins,p.1≠it):Inv X pins σ H { s with heap:=h',toks:=t' }:=by
 have nit:∀ b u,H b=some u->b≠it:=fun b u e z=>by rw[z,hn] at e;cases e
 refine I.step (g':=s.gens) (d':=s.drawn) (ch:=[it]) (fun b hb=>?_) (fun b o _ _ hc e _=>k b o (fun z=>hc (by simp[z])) e) (fun b o _ _ hc e _=>⟨o.slots,k b o (fun z=>hc (by simp[z])) e⟩) (fun _ _ _ _ n=>n)
  (fun b o hc e=>⟨o,k b o (fun z=>hc (by simp[z])) e⟩) (fun _ _ e=>e) (fun _ _ _ e=>e) (fun b ps e=>⟨#[],by rw[e];simp⟩) (fun m hm=>?_) (fun b u e=>?_) I.bare
 .have e:b=it:=by simpa using hb
  subst e;exact⟨h1,hL,h2,h3⟩
 .obtain⟨o,es,ep,ho,r⟩:=hm;exact⟨o,es,ep,k _ o (df hL) ho,r⟩
 .refine (I.hok b u e).stay (fun c v hc q=>k c v ?_ q) (fun _ q=>q) fun _ _ q=>q
  rcases hc with z | z
  .rw[z];exact nit b u e
  .exact nit c _ z
theorem Inv.tok (I:Inv X pins σ H s)(t:Nat):Inv X pins σ H { s with toks:=t }:=I.un (h':=s.heap) (t':=t) Un.refl I.hok
theorem Inv.kept {t':Nat}(I:Inv X pins σ H s)(k:∀ b u,s.heap.get? b=some u->h'.get? b=some u):Inv X pins σ H { s with heap:=h',toks:=t' }:=I.un (Un.kept k) (I.hok.kept k)
theorem Inv.laid {a:Addr}{o:HO}{t':Nat}(I:Inv X pins σ H s)(k:∀ b u,s.heap.get? b=some u->h'.get? b=some u)(hp:s.heap.objs.size<=a)(new:bZ X.prog X.w (upd H a o) h' a o) :
  Inv X pins σ (upd H a o) { s with heap:=h',toks:=t' }:=I.un (Un.laid k hp (I.hok.fresh hp)) (I.hok.laid k hp new)
theorem Inv.write {x e:Addr}{o:HO}(I:Inv X pins σ H s)(mu:o9 (H x))(he:e=x\/H e=some (.own x))(k:∀ b u,b≠e->s.heap.get? b=some u->h'.get? b=some u)(heo:∃ u,h'.get? e=some u)
  (new:bZ X.prog X.w (upd H x o) h' x o):Inv X pins σ (upd H x o) { s with heap:=h',toks:=t' }:=I.un (Un.write mu he k heo) (I.hok.write mu he k heo new)
theorem Inv.weak {σ':List (Option V)}(I:Inv X pins σ H s)(hl:σ'.length=σ.length)(w:∀(i:Nat) v,σ'[i]? = some (some v)->σ[i]? = some (some v)):Inv X pins σ' H s :=
 ⟨I.ok,I.os,I.bare,I.base,let ⟨m,hn,hl'⟩:=I.loc;⟨m,hn,fun i x v e1 e2 e3=>hl' i x v e1 (w i v e2) e3⟩,I.cell,I.free,I.freeC,I.pin,I.hok,hl.trans I.len⟩
theorem Inv.pins_of {pins':List (Addr×Obj)}(I:Inv X pins σ H s)(h:∀ p∈pins',s.heap.get? p.1=some p.2/\H p.1=none/\p.1≠X.env.locals/\p.1∉X.fs/\∀ v,p.2.data≠.cell v):Inv X pins' σ H s :=
 ⟨I.ok,I.os,I.bare,I.base,I.loc,I.cell,I.free,I.freeC,fun p hp=>(ig.mp hp).elim (fun z=>I.pin p (bf _ z)) (h p),I.hok,I.len⟩
theorem pZ {N:List Str}(hN:N.Nodup){j:Nat}(a:N[i]? = some x)(b:N[j]? = some x):i=j:=by
 obtain⟨h1,e1⟩:=List.getElem?_eq_some_iff.mp a;obtain⟨h2,e2⟩:=List.getElem?_eq_some_iff.mp b;exact (List.getElem_inj hN).mp (e1.trans e2.symm)
theorem ux {E:Value->Shared->Prop}{v:V}{Q:Unit->Shared->Prop}(I:Inv X pins σ H s)(hN:X.N.Nodup)(hi:X.N[i]? = some x)(hx:Loc X.env.scope x)(r:RelV v u)
  (h:∀ s',Inv X pins (σ.set i (some v)) H s'->(∃ a,Heap.SameBut a s.heap s'.heap/\(a=X.env.locals\/X.env.cells.lookup x=some a))->Q () s') (hf:X.fn x=true\/X.env.scope.names.lookup x=some .local:=by first | exact .inl rfl | exact .inr rfl | assumption):wpAny M A (storeName X.env x u) Q E s:=by
 obtain⟨m,hn,hl⟩:=id I.loc;have hcls:(X.env.scope.kind == .class || (X.env.scope.kind == .module&&X.env.locals != X.env.globals))=false:=by rw[I.ok.kind];rfl
 have hiσ:i<σ.length:=by rw[I.len];exact (List.getElem?_eq_some_iff.mp hi).1
 have cne:=I.cne;have tracked:∀{a:Addr}{h':Heap},(∃ o,s.heap.get? a=some o/\H a=none)->Heap.SameBut a s.heap h'->jJ X.prog X.w H h':=fun {a h'} ha hs b ob e=>by
  obtain⟨_,_,hfree⟩:=ha;refine (I.hok b ob e).stay (fun c w' hc q=>(hs.2 c ?_).trans q) (fun _ q=>q) fun _ _ q=>q
  rintro rfl;rcases hc with rfl | hc
  .rw[hfree] at e;cases e
  .rw[hfree] at hc;cases hc
 rcases hx with hk | hk
 .refine wpAny_storeName_local hk hn (fun h' hn' hs=>?_) hcls;obtain⟨oL,_,_,hoL,_⟩:=id hn;refine h _ ⟨I.ok,I.os,I.bare,⟨fun b o e n hb hx=>?_,fun b o e n hb hx=>?_,I.base.free,fun b o e hx=>?_,I.base.tups,I.base.frzs,I.base.tbls⟩,⟨_,hn',fun j y v' e1 e2 e3=>?_⟩,fun y c e=>?_,I.free,I.freeC,fun p hp=>?_,tracked ⟨oL,hoL,I.free⟩ hs,by simpa using I.len⟩ ⟨_,hs,.inl rfl⟩
  .exact (hs.2 b (ax (be (Heap.lt_size e) I.ok.above))).trans (I.base.keep b o e n hb hx)
  .obtain⟨sl,e1⟩:=I.base.slot b o e n hb hx;exact⟨sl,(hs.2 b (ax (be (Heap.lt_size e) I.ok.above))).trans e1⟩
  .obtain⟨o',e1⟩:=I.base.there b o e hx;exact⟨o',(hs.2 b (ax (be (Heap.lt_size e) I.ok.above))).trans e1⟩
  .by_cases hj:j=i
   .subst hj;rw[hi] at e1;cases e1;rw[List.getElem?_set_self hiσ] at e2;cases e2;exact⟨u,r,.inl ⟨hk,by simp⟩⟩
   .rw[List.getElem?_set_ne (df hj)] at e2;obtain⟨u',r',q⟩:=hl j y v' e1 e2 e3;refine⟨u',r',?_⟩;rcases q with ⟨k,e⟩ | ⟨k,c,e,z⟩
    .refine .inl ⟨k,?_⟩;have:y≠x:=fun e=>hj (pZ hN e1 (e ▸ hi))
     simp[this,e]
    .exact .inr ⟨k,c,e,z.sameBut hs (cne y c e)⟩
  .obtain⟨w',z⟩:=I.cell y c e;exact⟨w',z.sameBut hs (cne y c e)⟩
  .obtain⟨e,n,ne,nf,d⟩:=I.pin p hp;exact⟨(hs.2 p.1 ne).trans e,n,ne,nf,d⟩
 .have hfn:X.fn x=true:=by
   rcases hf with z | z
   .exact z
   .rw[z] at hk;cases hk
  obtain⟨c,hc⟩:=I.ok.has x (.inl hk);obtain⟨w',z⟩:=I.cell x c hc;refine wpAny_storeName_cell I.ok.kind hk hc z (fun h' hc' hs=>?_);obtain⟨oc,hoc,hocd⟩:=id z;refine h { s with heap:=h' } ⟨I.ok,I.os,I.bare,⟨fun b o e n hb hx=>?_,fun b o e n hb hx=>?_,I.base.free,fun b o e hx=>?_,I.base.tups,I.base.frzs,I.base.tbls⟩,⟨m,hn.sameBut hs (Ne.symm (cne x c hc)),fun j y v' e1 e2 e3=>?_⟩,fun y c' e=>?_,I.free,I.freeC,fun p hp=>?_,tracked ⟨oc,hoc,I.freeC x c hc⟩ hs,by simpa using I.len⟩ ⟨c,hs,.inr hc⟩
  .exact (hs.2 b (ax (be (Heap.lt_size e) (I.ok.cab x c hfn hc)))).trans (I.base.keep b o e n hb hx)
  .obtain⟨sl,e1⟩:=I.base.slot b o e n hb hx;exact⟨sl,(hs.2 b (ax (be (Heap.lt_size e) (I.ok.cab x c hfn hc)))).trans e1⟩
  .obtain⟨o',e1⟩:=I.base.there b o e hx;exact⟨o',(hs.2 b (ax (be (Heap.lt_size e) (I.ok.cab x c hfn hc)))).trans e1⟩
  .by_cases hj:j=i
   .subst hj;rw[hi] at e1;cases e1;rw[List.getElem?_set_self hiσ] at e2;cases e2;exact⟨u,r,.inr ⟨.inl hk,c,hc,hc'⟩⟩
   .rw[List.getElem?_set_ne (df hj)] at e2;obtain⟨u',r',q⟩:=hl j y v' e1 e2 e3;refine⟨u',r',?_⟩;rcases q with q | ⟨k,c',e,z'⟩
    .exact .inl q
    .refine .inr ⟨k,c',e,z'.sameBut hs ?_⟩;rintro rfl;exact hj (pZ hN e1 (I.ok.inj _ _ _ e hc ▸ hi))
  .by_cases hcc:c'=c
   .subst hcc;exact⟨_,hc'⟩
   .obtain⟨w2,z2⟩:=I.cell y c' e;exact⟨w2,z2.sameBut hs hcc⟩
  .obtain⟨e,n,ne,nf,d⟩:=I.pin p hp;refine⟨(hs.2 p.1 ?_).trans e,n,ne,nf,d⟩;intro q;rw[q,hoc] at e;have q':oc=p.2:=cj e;exact d w' (by rw[<-q'];exact hocd)
theorem kS {E:Value->Shared->Prop}{v:V}{Q:Unit->Shared->Prop}(I:Inv X pins σ H s)(hN:X.N.Nodup)(hi:X.N[i]? = some x)(hx:Loc X.env.scope x)(r:RelV v u)
  (h:∀ s',Inv X pins (σ.set i (some v)) H s'->Q () s') (hf:X.fn x=true\/X.env.scope.names.lookup x=some .local:=by first | exact .inl rfl | exact .inr rfl | assumption):wpAny M A (storeName X.env x u) Q E s :=
 ux I hN hi hx r (fun s' I' _=>h s' I') hf
theorem Inv.call' {s':Shared}{ch:List Addr}(I:Inv X pins σ H s)(ho:s'.os=s.os)(u:Un (wq X.stack) ch H H' s.heap s'.heap)(hok:jJ X.prog X.w H' s'.heap)(hg:AllBare s'.gens)
  (hch:∀ b∈ch,(b∈X.ex\/X.s₀.heap.objs.size<=b)/\b≠X.env.locals/\(∀ x c,X.env.cells.lookup x=some c->c≠b)/\∀ p∈X.pn++pins,p.1≠b):Inv X pins σ H' s':=by
 obtain⟨h',g',d',t',o'⟩:=s';have e:o'=s.os:=ho;subst e;exact I.call (g':=g') (t':=t') (d':=d') u hok hg hch
end
noncomputable abbrev XK:=Value->Option Addr->Hp->Prop
noncomputable abbrev St:=List (Option V)
noncomputable abbrev VK:=V->Hp->Prop
noncomputable abbrev TE:=St->Hp->VK->Prop
noncomputable abbrev TT:=St->Hp->(Bool->Hp->Prop)->Prop
noncomputable abbrev TA:=St->Hp->(List V->Hp->Prop)->Prop
structure Ends where
 nx:St->Hp->Prop
 rt:VK
 bk:St->Hp->Prop:=fun _ _=>False
 ct:St->Hp->Prop:=fun _ _=>False
noncomputable abbrev TS:=Ends->St->Hp->Prop
def EP (X:Cx)(pins:List (Addr×Obj))(σ:St)(Q:VK)(u:Value)(s':Shared):Prop:=∃ v H',Inv X pins σ H' s'/\RelV v u/\Q v H'
def TP (X:Cx)(pins:List (Addr×Obj))(σ:St)(Q:Bool->Hp->Prop)(b:Bool)(s':Shared):Prop:=∃ H',Inv X pins σ H' s'/\Q b H'
def AP (X:Cx)(pins:List (Addr×Obj))(σ:St)(Q:List V->Hp->Prop)(us:List Value)(s':Shared):Prop:=∃ vs H',Inv X pins σ H' s'/\aL vs us/\Q vs H'
noncomputable def SP (X:Cx)(pins:List (Addr×Obj))(D:Ends)(f:Flow)(s':Shared):Prop :=
 match f with
 |.next=>∃ σ' H',Inv X pins σ' H' s'/\D.nx σ' H'
 |.brk=>∃ σ' H',Inv X pins σ' H' s'/\D.bk σ' H'
 |.cont=>∃ σ' H',Inv X pins σ' H' s'/\D.ct σ' H'
 |.ret u=>∃ v σ' H',Inv X pins σ' H' s'/\RelV v u/\D.rt v H'
noncomputable def PE (X:Cx)(e:Expr)(t:TE):Prop :=
 ∀(pins:List (Addr×Obj)) (s:Shared) (σ:St) (H:Hp) (Q:VK),Inv X pins σ H s->t σ H Q->wpAny (model X.prog X.w) X.A (eval e X.env) (EP X pins σ Q) X.xe s
noncomputable def PT (X:Cx)(e:Expr)(t:TT):Prop :=
 ∀(pins:List (Addr×Obj)) (s:Shared) (σ:St) (H:Hp) (Q:Bool->Hp->Prop),Inv X pins σ H s->t σ H Q->wpAny (model X.prog X.w) X.A (isTrue e X.env (eval e X.env)) (TP X pins σ Q) X.xe s
noncomputable def PW (X:Cx)(e:Expr)(t:TT):Prop :=
 ∀(whole:Sem Value) (pins:List (Addr×Obj)) (s:Shared) (σ:St) (H:Hp) (Q:Bool->Hp->Prop),Inv X pins σ H s->t σ H Q->wpAny (model X.prog X.w) X.A (isTrue e X.env whole) (TP X pins σ Q) X.xe s
theorem PW.pt {X:Cx}{e:Expr}{t:TT}(h:PW X e t):PT X e t:=h _
noncomputable def PA (X:Cx)(es:List Expr)(t:TA):Prop :=
 ∀(pos:Pos) (pins:List (Addr×Obj)) (s:Shared) (σ:St) (H:Hp) (Q:List V->Hp->Prop),Inv X pins σ H s->t σ H Q->wpAny (model X.prog X.w) X.A (spliced (backTo pos (starEach es X.env))) (AP X pins σ Q) X.xe s
noncomputable def PS (X:Cx)(st:Stmt)(t:TS):Prop :=
 ∀(pins:List (Addr×Obj)) (s:Shared) (σ:St) (H:Hp) (D:Ends),Inv X pins σ H s->t D σ H->wpAny (model X.prog X.w) X.A (exec st X.env) (SP X pins D) X.xe s
noncomputable def mY (X:Cx)(st:List Stmt)(t:TS):Prop :=
 ∀(pins:List (Addr×Obj)) (s:Shared) (σ:St) (H:Hp) (D:Ends),Inv X pins σ H s->t D σ H->wpAny (model X.prog X.w) X.A (execs st X.env) (SP X pins D) X.xe s
theorem cH {α:Type}{t:Sem α}{Q Q':α->Shared->Prop}{E:Value->Shared->Prop}{s:Shared}(h:wpAny M A t Q E s)(hQ:∀ a s,Q a s->Q' a s):wpAny M A t Q' E s:=wpAny_mono h hQ fun _ _ x=>x
end L2
namespace L2
open PySem PySem.Spec PyProof.Rows
variable {H:Hp}{pins:List (Addr×Obj)}{pos:Pos}{s:Shared}{u:Value}{x:Str}
section
variable {X:Cx}
def tVar (i:Nat):TE:=fun σ H Q=>∃ v,σ[i]? = some (some v)/\Q v H
def tC (v:V):TE:=fun _ H Q=>Q v H
theorem rX {i:Nat}(hN:X.N[i]? = some x)(hv:B2 X.env.scope x)(hd:(x==("__debug__" : Str))=false:=by decide) (hcd:(x==("__classdict__" : Str))=false:=by decide):PE X (.Name x pos) (tVar i):=by
 intro pins s σ H Q I h;obtain⟨v,e,h⟩:=h;obtain⟨m,hn,hl⟩:=I.loc;obtain⟨u,r,l⟩:=hl i x v hN e hv;have fin:EP X pins σ Q u s:=⟨v,H,I,r,h⟩;rcases l with ⟨hk,hm⟩ | ⟨hk,c,hc,hcell⟩
 .exact wpAny_Name (wpAny_loadName_local I.ok.kind hk hn hm fin) hd
 .rcases hk with hk | hk
  .exact wpAny_Name (wpAny_loadName_cell I.ok.kind hk hc hcell fin) hd
  .exact wpAny_Name (wpAny_loadName_free I.ok.kind hk hc hcell fin hcd) hd
theorem rN {i j pos}:PE X (.Constant (.int i) j pos) (tC (.int i)):=fun _ _ _ H _ I h=>wpAny_Constant_int ⟨.int i,H,I.tok _,⟨_,rfl⟩,h⟩
theorem BF {b j pos}:PE X (.Constant (.bool b) j pos) (tC (.bl b)):=fun _ _ _ H _ I h=>Constant_bool ⟨.bl b,H,I,rfl,h⟩
theorem vN {j pos}:PE X (.Constant .none j pos) (tC .non):=fun _ _ _ H _ I h=>Constant_none ⟨.non,H,I,rfl,h⟩
theorem wH {x j pos}:PE X (.Constant (.str x) j pos) (tC (.str x)):=fun _ _ _ H _ I h=>Calls.Constant_str ⟨.str x,H,I.tok _,⟨_,rfl⟩,h⟩
def Gl (X:Cx)(x:Str):Prop:=X.env.kindOf x=some .globalImplicit
theorem ou {E:Value->Shared->Prop}{σ:St}{Q:Value->Shared->Prop}(I:Inv X pins σ H s)(hg:Gl X x)(hm:X.mg x=some u)(h:Q u s)
  (hd:(x==("__debug__" : Str))=false:=by decide):wpAny (model X.prog X.w) X.A (eval (.Name x pos) X.env) Q E s :=
 Calls.Name_function_global I.ok.kind hg (Calls.loadGlobal_global (by rw[I.ok.glob];exact I.mod.glob.keeps I.bk) hm h) hd
theorem fC {E:Value->Shared->Prop}{σ:St}{Q:Value->Shared->Prop}(I:Inv X pins σ H s)(hg:Gl X x)(hm:X.mg x=none)(hv:bootBuiltins x=some u)(h:Q u s)
  (hn:x≠"__name__":=by decide) (hd:(x==("__debug__" : Str))=false:=by decide):wpAny (model X.prog X.w) X.A (eval (.Name x pos) X.env) Q E s:=by
 obtain⟨mb,h1,h2⟩:=I.mod.blt;exact Calls.Name_function_global I.ok.kind hg (Calls.loadGlobal_builtin (by rw[I.ok.glob];exact I.mod.glob.keeps I.bk) hm (by rw[I.ok.blt];exact h1.keeps I.bk) ((h2 x hn).trans hv) h) hd
theorem sy {v:V}{pos:Pos}(hg:Gl X x)(hm:X.mg x=some u)(r:RelV v u)(hd:(x==("__debug__" : Str))=false:=by decide):PE X (.Name x pos) (tC v) :=
 fun _ _ _ H _ I h=>ou I hg hm ⟨v,H,I,r,h⟩ hd
theorem A2 {v:V}(hg:Gl X x)(hm:X.mg x=none)(hv:bootBuiltins x=some u)(r:RelV v u)(hn:x≠"__name__":=by decide) (hd:(x==("__debug__" : Str))=false:=by decide):PE X (.Name x pos) (tC v) :=
 fun _ _ _ H _ I h=>fC I hg hm hv ⟨v,H,I,r,h⟩ hn hd
variable {a b:Expr}{ta tb:TE}{pos:Pos}
def tB (t:TE):TT:=fun σ H Q=>t σ H fun x H1=>∃ c,x = .bl c/\Q c H1
variable {tA tB':TT}{rest:List Expr}
def tAnd (t u:TT):TT:=fun σ H Q=>t σ H fun c H1=>if c=true then u σ H1 Q else Q false H1
def tOr (t u:TT):TT:=fun σ H Q=>t σ H fun c H1=>if c=true then Q true H1 else u σ H1 Q
def tNot (t:TT):TT:=fun σ H Q=>t σ H fun c H1=>Q (!c) H1
theorem Br (ha:PT X a tA):PW X (.BoolOp .And [a] pos) tA:=by
 intro wh pins s σ H Q I h;refine isTrue_and (cH (ha pins s σ H Q I h) fun c s1 e=>?_);cases c with
 |true=>exact isTrue_and_nil e
 |false=>exact e
theorem DZ (ha:PT X a tA):PW X (.BoolOp .Or [a] pos) tA:=by
 intro wh pins s σ H Q I h;refine isTrue_or (cH (ha pins s σ H Q I h) fun c s1 e=>?_);cases c with
 |false=>exact isTrue_or_nil e
 |true=>exact e
theorem DV (ha:PT X a tA)(hb:PW X (.BoolOp .And (b::rest) pos) tB'):PW X (.BoolOp .And (a::b::rest) pos) (tAnd tA tB'):=by
 intro wh pins s σ H Q I h;refine isTrue_and (cH (ha pins s σ H _ I h) fun c s1 ⟨H1,I1,q1⟩=>?_);cases c with
 |true=>exact hb wh pins s1 σ H1 Q I1 q1
 |false=>exact⟨H1,I1,q1⟩
theorem Gd (ha:PT X a tA)(hb:PW X (.BoolOp .Or (b::rest) pos) tB'):PW X (.BoolOp .Or (a::b::rest) pos) (tOr tA tB'):=by
 intro wh pins s σ H Q I h;refine isTrue_or (cH (ha pins s σ H _ I h) fun c s1 ⟨H1,I1,q1⟩=>?_);cases c with
 |true=>exact⟨H1,I1,q1⟩
 |false=>exact hb wh pins s1 σ H1 Q I1 q1
theorem CI (ha:PT X a tA):PT X (.UnaryOp .Not a pos) (tNot tA):=by
 intro pins s σ H Q I h;exact isTrue_not (ha pins s σ H (fun c H1=>Q (!c) H1) I h)
def Ey (ta tb:TE):TE:=fun σ H Q=>ta σ H fun x H1=>∃ c,x = .bl c/\if c=true then tb σ H1 Q else Q (.bl false) H1
def tOrV (ta tb:TE):TE:=fun σ H Q=>ta σ H fun x H1=>∃ c,x = .bl c/\if c=true then Q (.bl true) H1 else tb σ H1 Q
def F7 (ta:TE):TE:=fun σ H Q=>ta σ H fun x H1=>∃ c,x = .bl c/\Q (.bl (!c)) H1
theorem C9 {op}{t:TE}(h:PE X a t):PE X (.BoolOp op [a] pos) t:=fun pins s σ H Q I hw=>BoolOp_one (h pins s σ H Q I hw)
theorem DE (ha:PE X a ta)(hb:PE X (.BoolOp .And (b::rest) pos) tb):PE X (.BoolOp .And (a::b::rest) pos) (Ey ta tb):=by
 intro pins s σ H Q I h;refine BoolOp_and (cH (ha pins s σ H _ I h) fun v s1 ⟨x,H1,I1,r1,q1⟩=>?_);obtain⟨c,rfl,q1⟩:=q1;cases r1;refine wpAny_truthy_bool ?_;cases c with
 |true=>exact hb pins s1 σ H1 Q I1 q1
 |false=>exact⟨.bl false,H1,I1,rfl,q1⟩
theorem Ez (ha:PE X a ta)(hb:PE X (.BoolOp .Or (b::rest) pos) tb):PE X (.BoolOp .Or (a::b::rest) pos) (tOrV ta tb):=by
 intro pins s σ H Q I h;refine BoolOp_or (cH (ha pins s σ H _ I h) fun v s1 ⟨x,H1,I1,r1,q1⟩=>?_);obtain⟨c,rfl,q1⟩:=q1;cases r1;refine wpAny_truthy_bool ?_;cases c with
 |false=>exact hb pins s1 σ H1 Q I1 q1
 |true=>exact⟨.bl true,H1,I1,rfl,q1⟩
theorem DJ (ha:PE X a ta):PE X (.UnaryOp .Not a pos) (F7 ta):=by
 intro pins s σ H Q I h;refine UnaryOp_ (cH (ha pins s σ H _ I h) fun v s1 ⟨x,H1,I1,r1,q1⟩=>?_);obtain⟨c,rfl,q1⟩:=q1;cases r1;exact not_of (wpAny_truthy_bool ⟨.bl (!c),H1,I1,rfl,q1⟩)
def tIf (t:TT)(ta tb:TE):TE:=fun σ H Q=>t σ H fun c H1=>if c=true then ta σ H1 Q else tb σ H1 Q
theorem yH {c:Expr}(hc:PT X c tA)(ha:PE X a ta)(hb:PE X b tb):PE X (.IfExp c a b pos) (tIf tA ta tb):=by
 intro pins s σ H Q I h;refine wpAny_IfExp (cH (hc pins s σ H _ I h) fun d s1 ⟨H1,I1,q1⟩=>?_);cases d with
 |true=>exact ha pins s1 σ H1 Q I1 q1
 |false=>exact hb pins s1 σ H1 Q I1 q1
end
end L2
namespace L2
open PySem PySem.Spec PyProof.Rows
noncomputable def iX (K:PySem.W.Frag)(H:Hp)(a:Addr)(xs:List V):Prop :=
 Rd H a (.lst xs) \/
  ∃(o:Obj) (its:Array Value) (n:Nat),K.lookup a=some o/\o.cls = .type "list"/\o.dict=none/\o.data = .seq its n/\its.size<=sizeLine/\aL xs its.toList
noncomputable def iT (K:PySem.W.Frag)(H:Hp)(a:Addr)(xs:List V):Prop :=
 Rd H a (.tup xs) \/
  ∃(o:Obj) (its:Array Value) (n:Nat),K.lookup a=some o/\o.cls = .type "tuple"/\o.data = .seq its n/\its.size<=sizeLine/\aL xs its.toList
noncomputable def absV:Value->Option V
 |.none=>some .non
 |.bool b=>some (.bl b)
 |.int i _=>some (.int i)
 |.str x _=>some (.str x)
 |.bytes b _=>some (.byt b)
 |.float b _=>some (.flt b)
 |.ref a=>some (.ref a)
 |.type n=>some (.ty n)
 |_=>none
variable {u:Value}
theorem RelV.abs {x:V}(r:RelV x u):absV u=some x:=by
 cases x with
 |non=>cases r;rfl
 |bl _=>cases r;rfl
 |int _=>obtain⟨t,rfl⟩:=r;rfl
 |str _=>obtain⟨t,rfl⟩:=r;rfl
 |byt _=>obtain⟨t,rfl⟩:=r;rfl
 |flt _=>obtain⟨t,rfl⟩:=r;rfl
 |ref _=>cases r;rfl
 |ty _=>cases r;rfl
theorem RelV.inj {x y:V}{u:Value}(r:RelV x u)(q:RelV y u):x=y:=cj (r.abs.symm.trans q.abs)
theorem aL.inj:∀{xs ys:List V}{us:List Value},aL xs us->aL ys us->xs=ys
 |_,_,_,.nil,.nil=>rfl
 |_,_,_,.cons r t,.cons r' t'=>by rw[r.inj r',aL.inj t t']
section
variable {X:Cx}{pins:List (Addr×Obj)}{σ:St}{H:Hp}{s:Shared}{a:Addr}{xs ys:List V}
theorem Inv.list (I:Inv X pins σ H s)(h:iX X.K H a xs):∃ its:List Value,aL xs its/\PlainL s.heap a its.toArray/\xs.length<=sizeLine:=by
 rcases h with h | ⟨o,its,n,hk,hc,hd,hs,hz,r⟩
 .obtain⟨z,its,n,r,e⟩:=h.ok I.hok;exact⟨its,r,⟨_,n,e,rfl,rfl,rfl⟩,z⟩
 .refine⟨its.toList,r,⟨o,n,I.kIn a o hk,hc,hd,by simpa using hs⟩,?_⟩;have e:=r.length;simp only[Array.length_toList] at e;omega
theorem Inv.tuple (I:Inv X pins σ H s)(h:iT X.K H a xs):∃ its:List Value,aL xs its/\IsTup s.heap a its.toArray/\xs.length<=sizeLine:=by
 rcases h with h | ⟨o,its,n,hk,hc,hs,hz,r⟩
 .obtain⟨z,its,r,p⟩:=h.ok I.hok;exact⟨its,r,p,z⟩
 .refine⟨its.toList,r,⟨o,I.kIn a o hk,hc,n,by simpa using hs⟩,?_⟩;have e:=r.length;simp only[Array.length_toList] at e;omega
theorem Inv.list_inj (I:Inv X pins σ H s)(h:iX X.K H a xs)(h':iX X.K H a ys):xs=ys:=by
 obtain⟨its,r,⟨o,n,e,_,_,d⟩,_⟩:=I.list h;obtain⟨its',r',⟨o',n',e',_,_,d'⟩,_⟩:=I.list h';rw[e] at e';cases e';rw[d] at d';injection d' with d1 _
 have:its=its':=by simpa using congrArg Array.toList d1
 subst this;exact r.inj r'
theorem Inv.tuple_inj (I:Inv X pins σ H s)(h:iT X.K H a xs)(h':iT X.K H a ys):xs=ys:=by
 obtain⟨its,r,⟨o,e,_,n,d⟩,_⟩:=I.tuple h;obtain⟨its',r',⟨o',e',_,n',d'⟩,_⟩:=I.tuple h';rw[e] at e';cases e';rw[d] at d';injection d' with d1 _
 have:its=its':=by simpa using congrArg Array.toList d1
 subst this;exact r.inj r'
end
noncomputable abbrev Cx.wish (X:Cx)(E:Value->Shared->Prop):Cx:={ X with xe:=E }
noncomputable abbrev Cx.nox (X:Cx):Cx:=X.wish fun _ _=>False
variable {X:Cx}
theorem Cx.Ok.wish (ok:X.Ok)(E:Value->Shared->Prop):(X.wish E).Ok :=
 ⟨ok.mod,ok.kind,ok.glob,ok.blt,ok.above,ok.inj,ok.has,ok.cab,ok.hd,ok.frames,ok.stk,ok.exf,ok.bs,ok.bsz,ok.noex,ok.exfs,ok.funs,ok.frf⟩
theorem Cx.Ok.unwish {E:Value->Shared->Prop}(ok:(X.wish E).Ok):X.Ok :=
 ⟨ok.mod,ok.kind,ok.glob,ok.blt,ok.above,ok.inj,ok.has,ok.cab,ok.hd,ok.frames,ok.stk,ok.exf,ok.bs,ok.bsz,ok.noex,ok.exfs,ok.funs,ok.frf⟩
section
variable {X:Cx}{pins:List (Addr×Obj)}{σ:St}{H:Hp}{s:Shared}{E:Value->Shared->Prop}
theorem Inv.wish (I:Inv X pins σ H s)(E:Value->Shared->Prop):Inv (X.wish E) pins σ H s:=⟨I.ok.wish E,I.os,I.bare,I.base,I.loc,I.cell,I.free,I.freeC,I.pin,I.hok,I.len⟩
theorem Inv.unwish (I:Inv (X.wish E) pins σ H s):Inv X pins σ H s:=⟨I.ok.unwish,I.os,I.bare,I.base,I.loc,I.cell,I.free,I.freeC,I.pin,I.hok,I.len⟩
theorem SP.unwish {D:Ends}{f:Flow}{s':Shared}(h:SP (X.wish E) pins D f s'):SP X pins D f s':=by
 cases f with
 |next=>obtain⟨σ',H',I,q⟩:=h;exact⟨σ',H',I.unwish,q⟩
 |brk=>obtain⟨σ',H',I,q⟩:=h;exact⟨σ',H',I.unwish,q⟩
 |cont=>obtain⟨σ',H',I,q⟩:=h;exact⟨σ',H',I.unwish,q⟩
 |ret u=>obtain⟨v,σ',H',I,r,q⟩:=h;exact⟨v,σ',H',I.unwish,r,q⟩
theorem mY.nox {st:List Stmt}{t:TS}(h:mY X.nox st t):mY X st t:=fun pins s σ H D I hw =>
 wpAny_mono (h pins s σ H D (I.wish _) hw) (fun _ _ q=>q.unwish) fun _ _ z=>False.elim z
end
variable {H:Hp}{pins:List (Addr×Obj)}{s:Shared}
section
variable {X:Cx}{st:Stmt}{rest:List Stmt}{t u:TS}{e:Expr}{te:TE}{pos:Pos}
def yC:TS:=fun D σ H=>D.nx σ H
def tSeq (t u:TS):TS:=fun D σ H=>t { D with nx:=u D } σ H
theorem AQ:mY X [] yC:=fun _ _ σ H _ I h=>wpAny_execs_nil ⟨σ,H,I,h⟩
theorem xf (h1:PS X st t)(h2:mY X rest u):mY X (st::rest) (tSeq t u):=by
 intro pins s σ H D I h;refine wpAny_execs_cons (cH (h1 pins s σ H { D with nx:=u D } I h) fun f s1 q=>?_);cases f with
 |next =>
  obtain⟨σ',H',I',q⟩:=q;exact h2 pins s1 σ' H' D I' q
 |ret v=>exact q
 |brk=>exact q
 |cont=>exact q
theorem zA:PS X (.Pass pos) yC:=fun _ _ σ H _ I h=>wpAny_Pass ⟨σ,H,I,h⟩
theorem Inv.quiet {σ:St}(I:Inv X pins σ H s):interactive X.env=false:=by simp[interactive,I.ok.kind]
theorem Ce {x j pos pos'}:PS X (.Expr (.Constant (.str x) j pos) pos') yC:=fun _ s σ H _ I h=>wpAny_Expr (Calls.Constant_str (show SP X _ _ .next { s with toks:=s.toks+1 } from ⟨σ,H,I.tok _,h⟩)) I.quiet
def yB (te:TE):TS:=fun D σ H=>te σ H fun _ H1=>D.nx σ H1
theorem kH (he:PE X e te)(hs:swapsWith e none pos.line X.env=pure false:=by rfl):PS X (.Expr e pos) (yB te):=by
 intro pins s σ H D I h;exact wpAny_Expr_any (cH (he pins s σ H _ I h) fun v s1 ⟨x,H1,I1,r1,q1⟩=>⟨σ,H1,I1,q1⟩) I.quiet hs
def tRet (te:TE):TS:=fun D σ H=>te σ H D.rt
theorem DC (he:PE X e te):PS X (.Return (some e) pos) (tRet te):=by
 intro pins s σ H D I h;exact wpAny_Return_some (cH (he pins s σ H _ I h) fun v s1 ⟨x,H1,I1,r1,q1⟩=>⟨x,σ,H1,I1,r1,q1⟩)
def EU:TS:=fun D _ H=>D.rt .non H
theorem Bb:PS X (.Return none pos) EU:=fun _ _ σ H _ I h=>wpAny_Return_none ⟨.non,σ,H,I,rfl,h⟩
def tIfS (c:TT)(t u:TS):TS:=fun D σ H=>c σ H fun b H1=>if b=true then t D σ H1 else u D σ H1
theorem EI {c:Expr}{a b:List Stmt}{tc:TT}(hc:PT X c tc)(ha:mY X a t)(hb:mY X b u):PS X (.If c a b pos) (tIfS tc t u):=by
 intro pins s σ H D I h;refine wpAny_If (cH (hc pins s σ H _ I h) fun d s1 ⟨H1,I1,q1⟩=>?_);cases d with
 |true=>exact ha pins s1 σ H1 D I1 q1
 |false=>exact hb pins s1 σ H1 D I1 q1
end
noncomputable abbrev TG:=V->St->Hp->(St->Hp->Prop)->Prop
noncomputable abbrev BE:=List V->St->Hp->(St->Hp->Prop)->Prop
noncomputable def PG (X:Cx)(target:Expr)(t:TG):Prop :=
 ∀(pins:List (Addr×Obj)) (s:Shared) (σ:St) (H:Hp) (v:V) (u:Value) (Q:St->Hp->Prop),Inv X pins σ H s->RelV v u->t v σ H Q ->
  wpAny (model X.prog X.w) X.A (assign target X.env u) (fun _ s'=>∃ σ' H',Inv X pins σ' H' s'/\Q σ' H') X.xe s
noncomputable def F6 (X:Cx)(ts:List Expr)(t:BE):Prop :=
 ∀(pins:List (Addr×Obj)) (s:Shared) (σ:St) (H:Hp) (vs:List V) (us:List Value) (Q:St->Hp->Prop),Inv X pins σ H s->aL vs us->t vs σ H Q ->
  wpAny (model X.prog X.w) X.A (assignInOrder ((assignEach ts X.env).map (·.2)) us) (fun _ s'=>∃ σ' H',Inv X pins σ' H' s'/\Q σ' H') X.xe s
noncomputable abbrev Cz:=V->V->V->Hp->(Hp->Prop)->Prop
noncomputable def EE (X:Cx)(t:Cz):Prop :=
 ∀(pins:List (Addr×Obj)) (s:Shared) (σ:St) (H:Hp) (o i v:V) (ov iv u:Value) (Q:Hp->Prop),Inv X pins σ H s->RelV o ov->RelV i iv->RelV v u->t o i v H Q ->
  wpAny (model X.prog X.w) X.A (setItem ov iv u) (fun _ s'=>∃ H',Inv X pins σ H' s'/\Q H') X.xe s
variable {e tg:Expr}{es:List Expr}{i:Nat}{te:TE}{x:Str}
section
variable {X:Cx}{pos:Pos}
noncomputable def mJ (i:Nat):TG:=fun v σ H Q=>Q (σ.set i (some v)) H
theorem ur (hN:X.N.Nodup)(hi:X.N[i]? = some x)(hx:Loc X.env.scope x)(hf:X.fn x=true\/X.env.scope.names.lookup x=some .local:=by first | exact .inl rfl | exact .inr rfl | assumption):PG X (.Name x pos) (mJ i):=by
 intro pins s σ H v u Q I r h;exact wpAny_assign_Name (kS I hN hi hx r (fun s' I'=>⟨_,H,I',h⟩) hf)
noncomputable def GF:BE:=fun vs σ H Q=>vs=[]/\Q σ H
noncomputable def B0 (t:TG)(u:BE):BE:=fun vs σ H Q=>∃ v r,vs=v::r/\t v σ H fun σ' H'=>u r σ' H' Q
theorem zh:F6 X [] GF:=by
 intro pins s σ H vs us Q I r h;obtain⟨e,h⟩:=h;subst e;cases r;exact assignInOrder_nil ⟨σ,H,I,h⟩
theorem xG {t:TG}{u:BE}(h1:PG X e t)(h2:F6 X es u)
  (hs:(assignEach (e::es) X.env).map (·.2)=assign e X.env::(assignEach es X.env).map (·.2):=by rfl):F6 X (e::es) (B0 t u):=by
 intro pins s σ H vs us Q I r h;obtain⟨v,vr,e1,h⟩:=h;subst e1;cases r with
 |cons r rr =>
  rw[hs];refine assignInOrder_cons (cH (h1 pins s σ H _ _ _ I r h) fun _ s1 ⟨σ1,H1,I1,q1⟩=>?_);exact h2 pins s1 σ1 H1 _ _ Q I1 rr q1
noncomputable def yJ (K:PySem.W.Frag)(n:Nat)(t:BE):TG:=fun v σ H Q=>∃ a xs,v = .ref a/\iT K H a xs/\xs.length=n/\t xs σ H Q
theorem xq {k:Nat}{t:BE}{n:Nat}(hc:X.calm=true)(h:F6 X es t)
  (hn:(assignEach es X.env).length=n:=by rfl) (hst:(assignEach es X.env).findIdx? (·.1)=none:=by rfl):PG X (.Tuple es k pos) (yJ X.K n t):=by
 intro pins s σ H v u Q I r hw;obtain⟨a,xs,e1,hq,hl,hw⟩:=hw;subst e1;cases r;obtain⟨its,rv,ht,hz⟩:=I.tuple hq;refine assign_Tuple_tuple (I.ok.hd hc) ht (by simp[hn,<-hl,rv.length]) hst fun h' hx=>?_
 have I1:Inv X pins σ H { s with heap:=h' }:=I.kept (t':=s.toks) fun b o e=>hx b o (ax (Heap.lt_size e)) e
 exact h pins _ σ H xs _ Q I1 (by simpa using rv) hw
noncomputable def FC (to ti:TE)(t:Cz):TG:=fun v σ H Q=>to σ H fun o H1=>ti σ H1 fun i H2=>t o i v H2 fun H3=>Q σ H3
theorem Cf {o i:Expr}{to ti:TE}{t:Cz}(ho:PE X o to)(hi:PE X i ti)(hs:EE X t)
  (ha:∀ v,assign (.Subscript o i pos) X.env v=(do
   let ov <- holding [v] (eval o X.env);let iv <- holding [v,ov] (eval i X.env)
   standAt pos
   holding [v,ov,iv] (setItem ov iv v)
   release [v,ov,iv] []):=by intro _;rfl):PG X (.Subscript o i pos) (FC to ti t):=by
 intro pins s σ H v u Q I r h;rw[ha];refine wpAny_bind (wpAny_holding (cH (ho pins s σ H _ I h) fun ov s1 ⟨x,H1,I1,r1,q1⟩=>?_));refine wpAny_bind (wpAny_holding (cH (hi pins s1 σ H1 _ I1 q1) fun iv s2 ⟨y,H2,I2,r2,q2⟩=>?_));refine wpAny_bind (wpAny_standAt (wpAny_bind (wpAny_holding (cH (hs pins s2 σ H2 x y v ov iv u _ I2 r1 r2 r q2) fun _ s3 ⟨H3,I3,q3⟩=>?_))));exact wpAny_release ⟨σ,H3,I3,q3⟩
def A9 (te:TE)(g:TG):TS:=fun D σ H=>te σ H fun x H1=>g x σ H1 D.nx
theorem w6 {g:TG}(he:PE X e te)(hg:PG X tg g)(hs:swapsWithSole [tg] e pos.line X.env=pure false:=by rfl)(hw:swappedStores [tg] e X.env=pure none:=by rfl)
  (h1:(assignEach [tg] X.env).map (·.2)=[assign tg X.env]:=by rfl):PS X (.Assign [tg] e pos) (A9 te g):=by
 intro pins s σ H D I h;refine wpAny_Assign_stores (cH (he pins s σ H _ I h) fun v s1 ⟨x,H1,I1,r1,q1⟩=>?_) hs hw;rw[h1];exact cH (hg pins s1 σ H1 x v _ I1 r1 q1) fun _ s2 q=>q
theorem Ej {pos':Pos}(hN:X.N.Nodup)(hi:X.N[i]? = some x)(hx:Loc X.env.scope x)(he:PE X e te)(hs:swapsWith e (some (.Name x pos')) pos.line X.env=pure false:=by rfl)(hf:X.fn x=true\/X.env.scope.names.lookup x=some .local:=by first | exact .inl rfl | exact .inr rfl | assumption) :
  PS X (.Assign [.Name x pos'] e pos) (A9 te (mJ i)):=by
 intro pins s σ H D I h;refine wpAny_Assign_Name (cH (he pins s σ H _ I h) fun v s1 ⟨y,H1,I1,r1,q1⟩=>?_) hs;exact kS I1 hN hi hx r1 (fun s2 I2=>⟨_,H1,I2,q1⟩) hf
end
section
variable {X:Cx}{pos:Pos}
end
structure It where
 go:Nat->Hp->Prop
 yld:Nat->Hp->V->Hp->Prop
 stop:Nat->Hp->Prop
noncomputable def fQ (X:Cx)(pins:List (Addr×Obj))(H:Hp)(b:Addr):Prop :=
 H b=none/\b≠X.env.locals/\b∉X.fs/\(b∈X.ex\/X.s₀.heap.objs.size<=b)/\(∀ x c,X.env.cells.lookup x=some c->c≠b)/\∀ p∈X.pn++pins,p.1≠b
theorem Inv.fpOk {σ:St}{H':Hp}{b:Addr}(I:Inv X pins σ H s)(hb:s.heap.objs.size<=b)(hn:H' b=none):fQ X pins H' b:=by
 refine⟨hn,gp (be I.lt hb),I.nofs hb,.inr (br I.sz hb),fun x c e z=>?_,fun p hp z=>?_⟩
 .obtain⟨v,q⟩:=I.cell x c e;exact absurd (be q.lt (by rw[z];exact hb)) (du _)
 .exact absurd (be (Heap.lt_size (I.pin p hp).1) (by rw[z];exact hb)) (du _)
structure Turn (P:Program)(w:World)(K:PySem.W.Frag)(tg:Expr)(J:It)(fp:List Addr)(it:Addr)(tn:Nat->Heap->Prop):Prop where
 mem:it∈fp
 obj:∀ i h,tn i h->∀ b∈fp,∃ o,h.get? b=some o/\∀ v,o.data≠.cell v
 keep:∀ i h h',tn i h->(∀ b∈fp,∀ o,h.get? b=some o->h'.get? b=some o)->tn i h'
 item:∀(X:Cx),X.prog=P->X.w=w->X.K=K->X.calm=true->∀(i:Nat) (pins:List (Addr×Obj)) (s:Shared) (σ:St) (H:Hp) (E:Value->Shared->Prop),Inv X pins σ H s->(∀ b∈fp,fQ X pins H b)->tn i s.heap->J.go i H ->
  wpAny (model P w) X.A (pyNext (.ref it)) (fun r s1=>∃ u,r=some u /\
   wpAny (model P w) X.A (letOwnedTupleGo tg (.ref it) u) (fun _ s2=>∃ x H',Inv X pins σ H' s2/\RelV x u/\J.yld i H x H'/\tn (i+1) s2.heap/\∀ b∈fp,H' b=none) E s1) E s
 done:∀(X:Cx),X.prog=P->X.w=w->X.K=K->X.calm=true->∀(i:Nat) (pins:List (Addr×Obj)) (s:Shared) (σ:St) (H:Hp) (E:Value->Shared->Prop),Inv X pins σ H s->(∀ b∈fp,fQ X pins H b)->tn i s.heap->J.stop i H ->
  wpAny (model P w) X.A (pyNext (.ref it)) (fun r s1=>r=none/\Inv X pins σ H s1) E s
 self:∀(A:Around) (i:Nat) (s:Shared) (Q:Value->Shared->Prop) (E:Value->Shared->Prop),tn i s.heap->Q (.ref it) s->wpAny (model P w) A (pyIter (.ref it)) Q E s
noncomputable abbrev TI:=St->Hp->(It->Hp->Prop)->Prop
noncomputable def BW (X:Cx)(pins:List (Addr×Obj))(σ:St)(tg:Expr)(R:It->Hp->Prop)(itv:Value)(s2:Shared):Prop :=
 ∃(it:Addr) (fp:List Addr) (tn:Nat->Heap->Prop) (J:It) (H':Hp),itv = .ref it/\Inv X pins σ H' s2/\Turn X.prog X.w X.K tg J fp it tn/\tn 0 s2.heap/\(∀ b∈fp,fQ X pins H' b)/\R J H'
noncomputable def PI (X:Cx)(tg iter:Expr)(wi:TI):Prop :=
 ∀(pins:List (Addr×Obj)) (s:Shared) (σ:St) (H:Hp) (R:It->Hp->Prop),Inv X pins σ H s->wi σ H R ->
  wpAny (model X.prog X.w) X.A (eval iter X.env) (fun v s1=>wpAny (model X.prog X.w) X.A (pyIter v) (BW X pins σ tg R) X.xe s1) X.xe s
theorem tY {M:Model}{A:Around}{E:Value->Shared->Prop}{s:Shared}{it:Addr}{o:Obj}{n:String}{vs:Array Value}{Q:Unit->Shared->Prop}(ho:s.heap.get? it=some o)(hc:o.cls = .type n)(hd:o.data = .fields vs)
  (hn:["enumerate","zip","dict_itemiterator","dict_reverseitemiterator","odict_iterator","itertools.zip_longest","itertools.pairwise"].contains n=false) (hQ:Q () s):wpAny M A (letOwnedTupleGo tg (.ref it) u) Q E s:=by
 unfold letOwnedTupleGo;cases tg<;>first
  | exact wpAny_pure hQ
  | (cases u<;>first
    | exact wpAny_pure hQ
    | (refine wpAny_bind (wpAny_load ho ?_)
       rw[hc,hd];show wpAny M A (if (["enumerate","zip","dict_itemiterator","dict_reverseitemiterator","odict_iterator","itertools.zip_longest","itertools.pairwise"].contains n&&vs[0]?==some (rawInt _))=true then _ else _) Q E s;rw[if_neg (by intro h;rw[hn,Bool.false_and] at h;cases h)];exact wpAny_pure hQ))
noncomputable def Itl (K:PySem.W.Frag)(a:Addr):It :=
 ⟨fun i H=>∃ xs x,iX K H a xs/\xs[i]? = some x,fun i H x H'=>H'=H/\∀ xs,iX K H a xs->xs[i]? = some x,fun i H=>∃ xs,iX K H a xs/\xs.length<=i⟩
noncomputable def Itt (K:PySem.W.Frag)(a:Addr):It :=
 ⟨fun i H=>∃ xs x,iT K H a xs/\xs[i]? = some x,fun i H x H'=>H'=H/\∀ xs,iT K H a xs->xs[i]? = some x,fun i H=>∃ xs,iT K H a xs/\xs.length<=i⟩
variable {P:Program}{w:World}
theorem uK {K:PySem.W.Frag}(a it:Addr):Turn P w K tg (Itl K a) [it] it (fun i h=>h.IsListIter it a i) where
 mem:=by simp
 obj:=fun i h st b hb=>by
  have e:b=it:=by simpa using hb
  subst e;obtain⟨o,e,c,d⟩:=st;exact⟨o,e,fun v z=>by rw[d] at z;cases z⟩
 keep:=fun i h h' st k=>st.at fun o e=>k it (by simp) o e
 item:=by
  intro X hP hw hK hc i pins s σ H E I hf st hg;subst hP hw hK;obtain⟨xs,x,hq,hx⟩:=hg;obtain⟨its,rv,p,hz⟩:=I.list hq;obtain⟨u,hu,ru⟩:=rv.get hx;obtain⟨f0,f1,f2,f3,f4,f5⟩:=hf it (by simp);refine wpAny_pyNext_list_item st p.isList (x:=u) (by simpa using hu) fun h' st' sb=>?_
  have I1:Inv X pins σ H { s with heap:=h' }:=I.turned (t':=s.toks) (fun b o hb e=>(sb.2 b hb).trans e) f0 f1 f3 f4 f5;obtain⟨o,e,c,d⟩:=id st';exact⟨u,rfl,tY (s:={ s with heap:=h' }) e c d (by decide) ⟨x,H,I1,ru,⟨rfl,fun ys hy=>by rw[I.list_inj hy hq];exact hx⟩,st',fun b hb=>(hf b hb).1⟩⟩
 done:=by
  intro X hP hw hK hc i pins s σ H E I hf st hg;subst hP hw hK;obtain⟨xs,hq,hx⟩:=hg;obtain⟨its,rv,p,hz⟩:=I.list hq;obtain⟨f0,f1,f2,f3,f4,f5⟩:=hf it (by simp);have hl:=rv.length;exact wpAny_pyNext_list_end (I.ok.hd hc) st p.isList (by simp;omega) fun h' eb=>⟨rfl,I.turned (t':=s.toks) (fun b o hb e=>eb b o hb e) f0 f1 f3 f4 f5⟩
 self:=fun _ _ _ _ _ st h=>wpAny_pyIter_listiter st h
theorem rB {K:PySem.W.Frag}(a it:Addr):Turn P w K tg (Itt K a) [it] it (fun i h=>h.IsTupleIter it a i) where
 mem:=by simp
 obj:=fun i h st b hb=>by
  have e:b=it:=by simpa using hb
  subst e;obtain⟨o,e,c,d⟩:=st;exact⟨o,e,fun v z=>by rw[d] at z;cases z⟩
 keep:=fun i h h' st k=>st.at fun o e=>k it (by simp) o e
 item:=by
  intro X hP hw hK hc i pins s σ H E I hf st hg;subst hP hw hK;obtain⟨xs,x,hq,hx⟩:=hg;obtain⟨its,rv,p,hz⟩:=I.tuple hq;obtain⟨u,hu,ru⟩:=rv.get hx;obtain⟨f0,f1,f2,f3,f4,f5⟩:=hf it (by simp);refine wpAny_pyNext_tuple_item st (show s.heap.IsTuple a its.toArray from p) (x:=u) (by simpa using hu) fun h' st' sb=>?_
  have I1:Inv X pins σ H { s with heap:=h' }:=I.turned (t':=s.toks) (fun b o hb e=>(sb.2 b hb).trans e) f0 f1 f3 f4 f5;obtain⟨o,e,c,d⟩:=id st';exact⟨u,rfl,tY (s:={ s with heap:=h' }) e c d (by decide) ⟨x,H,I1,ru,⟨rfl,fun ys hy=>by rw[I.tuple_inj hy hq];exact hx⟩,st',fun b hb=>(hf b hb).1⟩⟩
 done:=by
  intro X hP hw hK hc i pins s σ H E I hf st hg;subst hP hw hK;obtain⟨xs,hq,hx⟩:=hg;obtain⟨its,rv,p,hz⟩:=I.tuple hq;obtain⟨f0,f1,f2,f3,f4,f5⟩:=hf it (by simp);have hl:=rv.length;exact wpAny_pyNext_tuple_end (I.ok.hd hc) st (show s.heap.IsTuple a its.toArray from p) (by simp;omega) fun h' eb=>⟨rfl,I.turned (t':=s.toks) (fun b o hb e=>eb b o hb e) f0 f1 f3 f4 f5⟩
 self:=fun _ _ _ _ _ st h=>wpAny_pyIter_tupleiter st h
end L2
namespace L2
open PySem PySem.Spec PyProof.Rows
variable {H:Hp}{fp:List Addr}{h:Heap}{pins:List (Addr×Obj)}{s:Shared}
section
variable {X:Cx}{tg:Expr}
def tFor (wi:TI)(g:TG)(tb:TS):TS:=fun D σ H=>wi σ H fun J H1=>∃ W:Nat->Nat->St->Hp->Prop,(∃ m,W 0 m σ H1)/\∀ i m σ H,W i m σ H ->
 (J.stop i H/\D.nx σ H)\/(J.go i H/\∃ N:St->Hp->Prop,(∀ σ' H',N σ' H'->∃ m',m'<m/\W (i+1) m' σ' H')/\∀ x H',J.yld i H x H'->g x σ H' fun σ2 H2=>tb { D with nx:=N,ct:=N,bk:=D.nx } σ2 H2)
noncomputable def lF (fp:List Addr)(h:Heap):List (Addr×Obj):=fp.filterMap fun b=>(h.get? b).map fun o=>(b,o)
theorem eW {b:Addr}{o:Obj}(hb:b∈fp)(e:h.get? b=some o):(b,o)∈lF fp h:=List.mem_filterMap.mpr ⟨b,hb,by rw[e];rfl⟩
theorem vo {p:Addr×Obj}(hp:p∈lF fp h):p.1∈fp/\h.get? p.1=some p.2:=by
 obtain⟨b,hb,e⟩:=List.mem_filterMap.mp hp;cases q:h.get? b with
 |none=>rw[q] at e;cases e
 |some o =>
  rw[q] at e;have e':(b,o)=p:=cj e;subst e';exact⟨hb,q⟩
theorem Inv.pinned {σ:St}{fp:List Addr}(I:Inv X pins σ H s)(hf:∀ b∈fp,fQ X pins H b)(ho:∀ b∈fp,∃ o,s.heap.get? b=some o/\∀ v,o.data≠.cell v):Inv X (pins++lF fp s.heap) σ H s :=
 I.pins_of fun p hp=>(ig.mp hp).elim (fun z=>I.pin p (ak _ z)) fun z=>by
  obtain⟨hb,e⟩:=vo z;obtain⟨f0,f1,f2,_⟩:=hf p.1 hb;obtain⟨o,e',d⟩:=ho p.1 hb;rw[e] at e';cases e';exact⟨e,f0,f1,f2,d⟩
theorem Inv.unpinned {pl:List (Addr×Obj)}{σ:St}(I:Inv X (pins++pl) σ H s):Inv X pins σ H s:=I.pins_of fun p hp=>I.pin p (ak _ (bf _ hp))
theorem CV {iter:Expr}{body:List Stmt}{wi:TI}{g:TG}{tb:TS}{pos:Pos}(hp:PassesOwn (model X.prog X.w) X.A X.env X.xe)(hc:X.calm=true)(hi:PI X tg iter wi)(hg:PG X tg g)(hb:mY X body tb)
  (hs:∀ x,foldedSetIterable iter X.env x=pure x:=by intro _;rfl):PS X (.For tg iter body [] pos) (tFor wi g tb):=by
 intro pins s σ H D I h;refine wpAny_For (cH (hi pins s σ H _ I h) fun v s1 h1=>cH h1 fun itv s2 h2=>?_) hs;obtain⟨it,fp,tn,J,H2,e,I2,T,st2,f2,W,⟨m0,w0⟩,turn⟩:=h2;subst e;have stat:∀{H':Hp},(∀ b∈fp,H' b=none)->∀ b∈fp,fQ X pins H' b:=fun hn b hb=>⟨hn b hb,(f2 b hb).2⟩
 refine codeAny_forLoop_any (fun n s'=>∃ i σ' H',Inv X pins σ' H' s'/\tn i s'.heap/\(∀ b∈fp,H' b=none)/\W i n σ' H') ?_ m0 ⟨0,σ,H2,I2,st2,fun b hb=>(f2 b hb).1,w0⟩;rintro n s3 ⟨i,σ3,H3,I3,st3,fr3,w3⟩;rcases turn i n σ3 H3 w3 with ⟨stop,qn⟩ | ⟨go,N,hN,step⟩
 .refine wpAny_passesOwn hp (cH (T.done X rfl rfl rfl hc i pins s3 σ3 H3 X.xe I3 (stat fr3) st3 stop) fun r s4 ⟨hr,I4⟩=>?_);subst hr;exact wpAny_execs_nil ⟨σ3,H3,I4,qn⟩
 .refine wpAny_passesOwn hp (cH (T.item X rfl rfl rfl hc i pins s3 σ3 H3 X.xe I3 (stat fr3) st3 go) fun r s4 ⟨u,hr,h4⟩=>?_);subst hr;refine wpAny_passesOwn hp (cH h4 fun _ s5 ⟨x,H5,I5,r5,y5,st5,fr5⟩=>?_);have I5':=I5.pinned (stat fr5) (T.obj _ _ st5);refine wpAny_passesOwn hp (cH (hg _ s5 σ3 H5 x u _ I5' r5 (step x H5 y5)) fun _ s6 ⟨σ6,H6,I6,q6⟩=>?_);refine wpAny_passesOwn hp (cH (hb _ s6 σ6 H6 _ I6 q6) fun f s7 q7=>?_);have again:∀{σ7:St}{H7:Hp},Inv X (pins++lF fp s5.heap) σ7 H7 s7->N σ7 H7->∃ m,m<n/\∃ i σ' H',Inv X pins σ' H' s7/\tn i s7.heap/\(∀ b∈fp,H' b=none)/\W i m σ' H':=fun {σ7 H7} I7 n7=>by
   obtain⟨m',hm,w7⟩:=hN σ7 H7 n7;refine⟨m',hm,i+1,σ7,H7,I7.unpinned,T.keep _ _ _ st5 fun b hb o e=>(I7.pin (b,o) (ak _ (ak _ (eW hb e)))).1,fun b hb=>?_,w7⟩;obtain⟨o,e,d⟩:=T.obj _ _ st5 b hb;exact (I7.pin (b,o) (ak _ (ak _ (eW hb e)))).2.1
  cases f with
  |next=>obtain⟨σ7,H7,I7,n7⟩:=q7;exact again I7 n7
  |cont=>obtain⟨σ7,H7,I7,n7⟩:=q7;exact again I7 n7
  |brk=>obtain⟨σ7,H7,I7,q7⟩:=q7;exact⟨σ7,H7,I7.unpinned,q7⟩
  |ret v=>obtain⟨x7,σ7,H7,I7,r7,q7⟩:=q7;exact⟨x7,σ7,H7,I7.unpinned,r7,q7⟩
end
end L2
namespace L2
open PySem PySem.Spec PyProof.Rows
noncomputable abbrev R2:=V->V->Hp->VK->Prop
noncomputable def gI (X:Cx)(f:Value->Value->Sem Value)(r:R2):Prop :=
 ∀(pins:List (Addr×Obj)) (s:Shared) (σ:St) (H:Hp) (x y:V) (v u:Value) (Q:VK),Inv X pins σ H s->RelV x v->RelV y u->r x y H Q ->
  wpAny (model X.prog X.w) X.A (f v u) (EP X pins σ Q) X.xe s
noncomputable def UnR (X:Cx)(f:Value->Sem Value)(r:V->Hp->VK->Prop):Prop :=
 ∀(pins:List (Addr×Obj)) (s:Shared) (σ:St) (H:Hp) (x:V) (v:Value) (Q:VK),Inv X pins σ H s->RelV x v->r x H Q ->
  wpAny (model X.prog X.w) X.A (f v) (EP X pins σ Q) X.xe s
noncomputable def eR (X:Cx)(f:Value)(r:List V->Hp->VK->Prop):Prop :=
 ∀(pins:List (Addr×Obj)) (s:Shared) (σ:St) (H:Hp) (xs:List V) (us:List Value) (Q:VK),Inv X pins σ H s->aL xs us->r xs H Q ->
  wpAny (model X.prog X.w) X.A (call f us) (EP X pins σ Q) X.xe s
noncomputable def TruR (X:Cx)(r:V->Hp->(Bool->Hp->Prop)->Prop):Prop :=
 ∀(pins:List (Addr×Obj)) (s:Shared) (σ:St) (H:Hp) (x:V) (v:Value) (Q:Bool->Hp->Prop),Inv X pins σ H s->RelV x v->r x H Q ->
  wpAny (model X.prog X.w) X.A (truthy v) (TP X pins σ Q) X.xe s
def FN (r:R2)(ta tb:TE):TE:=fun σ H Q=>ta σ H fun x H1=>tb σ H1 fun y H2=>r x y H2 Q
def tUn (r:V->Hp->VK->Prop)(ta:TE):TE:=fun σ H Q=>ta σ H fun x H1=>r x H1 Q
noncomputable def rI (C:Int->Int->Prop)(g:Int->Int->V):R2:=fun x y H Q=>∃ i j,x = .int i/\y = .int j/\C i j/\Q (g i j) H
noncomputable def vF (g:Int->Int->V):R2:=fun x y H Q=>∃ i j,x = .int i/\y = .int j/\Q (g i j) H
def rU (g:Int->V):V->Hp->VK->Prop:=fun x H Q=>∃ i,x = .int i/\Q (g i) H
variable {H:Hp}{f:Value->Value->Sem Value}{g:Int->Int->Int}{pins:List (Addr×Obj)}{r:R2}{s:Shared}
section
variable {X:Cx}{a b c:Expr}{ta tb tc:TE}{pos:Pos}
theorem CZ (ha:PE X a ta)(hb:PE X b tb){σ:St}{R:V->V->Hp->Prop}(I:Inv X pins σ H s)
  (h:ta σ H fun x H1=>tb σ H1 fun y H2=>R x y H2) {Q:Value->Shared->Prop}
  (hf:∀ v u s2 x y H2,Inv X pins σ H2 s2->RelV x v->RelV y u->R x y H2->wpAny (model X.prog X.w) X.A (f v u) Q X.xe s2) :
  wpAny (model X.prog X.w) X.A (eval a X.env) (fun v s₁=>wpAny (model X.prog X.w) X.A (eval b X.env) (fun u s₂=>wpAny (model X.prog X.w) X.A (f v u) Q X.xe s₂) X.xe s₁) X.xe s:=by
 refine cH (ha pins s σ H _ I h) fun v s1 ⟨x,H1,I1,r1,q1⟩=>?_
 refine cH (hb pins s1 σ H1 _ I1 q1) fun u s2 ⟨y,H2,I2,r2,q2⟩=>?_
 exact hf v u s2 x y H2 I2 r1 r2 q2
theorem BS {op:Operator}(ho:gI X (binaryOp op) r)(ha:PE X a ta)(hb:PE X b tb):PE X (.BinOp a op b pos) (FN r ta tb):=by
 intro pins s σ H Q I h;exact wpAny_BinOp (CZ ha hb I h fun v u s2 x y H2 I2 rx ry q=>ho pins s2 σ H2 x y v u Q I2 rx ry q)
theorem FV {op:UnaryOp}{r:V->Hp->VK->Prop}(ho:UnR X (unaryOp op) r)(ha:PE X a ta):PE X (.UnaryOp op a pos) (tUn r ta):=by
 intro pins s σ H Q I h;exact UnaryOp_ (cH (ha pins s σ H _ I h) fun v s1 ⟨x,H1,I1,r1,q1⟩=>ho pins s1 σ H1 x v Q I1 r1 q1)
theorem Eo {C:Int->Int->Prop}
  (rule:∀(i j:Int) (t u:Tok) (s:Shared) (Q:Value->Shared->Prop) (E:Value->Shared->Prop),C i j->Q (.int (g i j) s.toks) { s with toks:=s.toks+1 }->wpAny (model X.prog X.w) X.A (f (.int i t) (.int j u)) Q E s) :
  gI X f (rI C fun i j=>.int (g i j)):=by
 intro pins s σ H x y v u Q I rx ry h;obtain⟨i,j,rfl,rfl,hc,q⟩:=h;obtain⟨t,rfl⟩:=rx;obtain⟨t',rfl⟩:=ry;exact rule i j t t' s _ _ hc ⟨.int (g i j),H,I.tok _,⟨_,rfl⟩,q⟩
theorem xX 
  (rule:∀(i j:Int) (t u:Tok) (s:Shared) (Q:Value->Shared->Prop) (E:Value->Shared->Prop),Q (.int (g i j) s.toks) { s with toks:=s.toks+1 }->wpAny (model X.prog X.w) X.A (f (.int i t) (.int j u)) Q E s) :
  gI X f (vF fun i j=>.int (g i j)):=by
 intro pins s σ H x y v u Q I rx ry h;obtain⟨i,j,rfl,rfl,q⟩:=h;obtain⟨t,rfl⟩:=rx;obtain⟨t',rfl⟩:=ry;exact rule i j t t' s _ _ ⟨.int (g i j),H,I.tok _,⟨_,rfl⟩,q⟩
theorem Bq {g:Int->Int->Bool}
  (rule:∀(i j:Int) (t u:Tok) (s:Shared) (Q:Value->Shared->Prop) (E:Value->Shared->Prop),Q (.bool (g i j)) s->wpAny (model X.prog X.w) X.A (f (.int i t) (.int j u)) Q E s) :
  gI X f (vF fun i j=>.bl (g i j)):=by
 intro pins s σ H x y v u Q I rx ry h;obtain⟨i,j,rfl,rfl,q⟩:=h;obtain⟨t,rfl⟩:=rx;obtain⟨t',rfl⟩:=ry;exact rule i j t t' s _ _ ⟨.bl (g i j),H,I,rfl,q⟩
def CDiv (i j:Int):Prop:=0<j/\j<1073741824
def Fh (i j:Int):Prop:=0<=j/\j<=1000000/\i.natAbs<2 ^ 64
def C6 (i j:Int):Prop:=(-(2 ^ 64)<i/\i<2 ^ 64)\/(-(2 ^ 64)<j/\j<2 ^ 64)
theorem C6.ok {i j:Int}(h:C6 i j):IntMulOk i j:=by
 rcases h with ⟨h1,h2⟩ | ⟨h1,h2⟩
 .exact .of_left (intBits_le_64 h1 h2)
 .exact .of_right (intBits_le_64 h1 h2)
theorem qV (k:Nat):(0:Int)<=2 ^ k:=by
 rw[two_pow_cast];exact Int.natCast_nonneg _
theorem DH:gI X (binaryOp .Add) (vF fun i j=>.int (i+j)):=xX fun _ _ _ _ _ _ _ q=>add_int q
theorem D8:gI X (binaryOp .Sub) (vF fun i j=>.int (i - j)):=xX fun _ _ _ _ _ _ _ q=>sub_int q
theorem D7:gI X (binaryOp .Mult) (rI C6 fun i j=>.int (i*j)):=Eo fun _ _ _ _ _ _ _ hc q=>mul_int q hc.ok
theorem zG:gI X (binaryOp .FloorDiv) (rI CDiv fun i j=>.int (i / j)):=Eo fun i j _ _ _ _ _ hc q=>by
 have h1:(0:Int)<j:=hc.1;have h2:j<1073741824:=hc.2;exact floordiv_int (by omega) (by rw[Int.fdiv_eq_ediv_of_nonneg i (by omega)];exact q) (.inl (PyProof.noPylong_small (by omega)))
theorem Dy:gI X (binaryOp .Mod) (rI (fun _ j=>0<j) fun i j=>.int (i%j)):=Eo fun i j _ _ _ _ _ hc q=>by
 have h1:(0:Int)<j:=hc;exact mod_int' (by omega) (by rw[Int.fmod_eq_emod_of_nonneg i (by omega)];exact q)
theorem op_pow:gI X (binaryOp .Pow) (rI Fh fun i j=>.int (i ^ j.toNat)):=Eo fun _ _ _ _ _ _ _ hc q=>pow_int_small hc.1 hc.2.1 hc.2.2 q
theorem DN:gI X (binaryOp .LShift) (rI Fh fun i j=>.int (i*2 ^ j.toNat)):=Eo fun _ _ _ _ _ _ _ hc q=>lshift_int_small hc.1 hc.2.1 hc.2.2 q
theorem Ef:gI X (binaryOp .RShift) (rI (fun _ j=>0<=j) fun i j=>.int (i / 2 ^ j.toNat)):=Eo fun i j _ _ _ _ _ hc q =>
 rshift_int hc (by rw[Int.fdiv_eq_ediv_of_nonneg i (qV _)];exact q)
theorem Eh:gI X (binaryOp .BitAnd) (vF fun i j=>.int (Builtin.bitAnd i j)):=xX fun _ _ _ _ _ _ _ q=>and_int q
theorem op_or:gI X (binaryOp .BitOr) (vF fun i j=>.int (Builtin.bitOr i j)):=xX fun _ _ _ _ _ _ _ q=>or_int q
theorem Cd:gI X (binaryOp .BitXor) (vF fun i j=>.int (Builtin.bitXor i j)):=xX fun _ _ _ _ _ _ _ q=>xor_int q
theorem unI {f:Value->Sem Value}{g:Int->Int}
  (rule:∀(i:Int) (t:Tok) (s:Shared) (Q:Value->Shared->Prop) (E:Value->Shared->Prop),Q (.int (g i) s.toks) { s with toks:=s.toks+1 }->wpAny (model X.prog X.w) X.A (f (.int i t)) Q E s) :
  UnR X f (rU fun i=>.int (g i)):=by
 intro pins s σ H x v Q I rx h;obtain⟨i,rfl,q⟩:=h;obtain⟨t,rfl⟩:=rx;exact rule i t s _ _ ⟨.int (g i),H,I.tok _,⟨_,rfl⟩,q⟩
theorem B8:UnR X (unaryOp .USub) (rU fun i=>.int (-i)):=unI fun _ _ _ _ _ q=>neg_int q
end
noncomputable def cO:V->V->Bool
 |.non,.non=>true | .non,.int _=>true | .int _,.non=>true | .non,.bl _=>true | .bl _,.non=>true | .non,.str _=>true | .str _,.non=>true
 |.int _,.int _=>true | .bl _,.bl _=>true | .str _,.str _=>true | .byt _,.byt _=>true
 |.int _,.str _=>true | .str _,.int _=>true | .bl _,.str _=>true | .str _,.bl _=>true
 |_,_=>false
variable {op:CmpOp}{us:List Value}{x:V}
section
variable {X:Cx}{a b c:Expr}{ta tb tc:TE}{pos:Pos}
theorem qI {σ:St}{Q:VK}{k k':Bool}(I:Inv X pins σ H s)(q:Q (.bl k) H)(e:k=k'):EP X pins σ Q (.bool k') s:=by
 subst e;exact⟨.bl k,H,I,rfl,q⟩
theorem EX:gI X (compareOp .Lt) (vF fun i j=>.bl (decide (i<j))):=Bq fun _ _ _ _ _ _ _ q=>lt_int q
theorem Gz:gI X (compareOp .LtE) (vF fun i j=>.bl (decide (i<=j))):=Bq fun _ _ _ _ _ _ _ q=>le_int q
theorem EL:gI X (compareOp .Gt) (vF fun i j=>.bl (decide (j<i))):=Bq fun _ _ _ _ _ _ _ q=>gt_int q
theorem GK:gI X (compareOp .GtE) (vF fun i j=>.bl (decide (j<=i))):=Bq fun _ _ _ _ _ _ _ q=>ge_int q
theorem vc:gI X (compareOp .In) (fun x y H Q=>∃ i j,x = .str i/\y = .str j/\Q (.bl (!(Builtin.Str.occurrences j i 0 j.length 1).isEmpty)) H):=by
 intro pins s σ H x y v u Q I rx ry h;obtain⟨i,j,rfl,rfl,q⟩:=h;obtain⟨t,rfl⟩:=rx;obtain⟨t',rfl⟩:=ry;exact in_str (qI I q rfl)
theorem Em:gI X (compareOp .Is) (fun x y H Q=>y = .non/\Q (.bl (decide (x = .non))) H):=by
 intro pins s σ H x y v u Q I rx ry h;obtain⟨rfl,q⟩:=h;cases ry;refine is_none_gen (qI I q ?_);cases x<;>first
  | (cases rx;rfl)
  | (obtain⟨t,rfl⟩:=rx;rfl)
theorem z9:gI X (compareOp .IsNot) (fun x y H Q=>y = .non/\Q (.bl (!decide (x = .non))) H):=by
 intro pins s σ H x y v u Q I rx ry h;obtain⟨rfl,q⟩:=h;cases ry;refine isnot_none_gen (qI I q ?_);cases x<;>first
  | (cases rx;rfl)
  | (obtain⟨t,rfl⟩:=rx;rfl)
theorem zr (ho:gI X (compareOp op) r)(ha:PE X a ta)(hb:PE X b tb)(hm:behindInMarks op b=false):PE X (.Compare a [op] [b] pos) (FN r ta tb):=by
 intro pins s σ H Q I h;exact wpAny_Compare1 (CZ ha hb I h fun v u s2 x y H2 I2 rx ry q=>ho pins s2 σ H2 x y v u Q I2 rx ry q) hm
def E8 (t:TE):TT:=fun σ H Q=>t σ H fun x H'=>∃ k,x = .bl k/\Q k H'
theorem Be (ho:gI X (compareOp op) r)(ha:PE X a ta)(hb:PE X b tb)(hm:behindInMarks op b=false):PT X (.Compare a [op] [b] pos) (E8 (FN r ta tb)):=by
 intro pins s σ H Q I h;refine wpAny_isTrue_Compare1 (cH (ha pins s σ H _ I h) fun v s1 ⟨x,H1,I1,r1,q1⟩=>cH (hb pins s1 σ H1 _ I1 q1) fun u s2 ⟨y,H2,I2,r2,q2⟩ =>
  cH (ho pins s2 σ H2 x y v u _ I2 r1 r2 q2) fun c s3 ⟨z,H3,I3,r3,k,e,q3⟩=>?_) hm
 subst e;cases r3;exact wpAny_truthy_bool ⟨H3,I3,q3⟩
noncomputable def DY (K:PySem.W.Frag)(x:V)(H:Hp)(k:Bool):Prop :=
 match x with
 |.non=>k=false
 |.bl b=>k=b
 |.int i=>k=(i != 0)
 |.str y=>y.length<=sizeLine/\k=((y.length:Int) != 0)
 |.byt y=>y.size<=sizeLine/\k=((y.size:Int) != 0)
 |.ref p=>(∃ xs,iX K H p xs/\k = !xs.isEmpty)\/(∃ xs,iT K H p xs/\k = !xs.isEmpty)\/∃ kvs,H p=some (.dK kvs)/\k = !kvs.isEmpty
 |_=>False
theorem rq {κ:Type}{kvs:List (κ×V)}{vs:List (κ×Value)}(r:KV kvs vs):(!vs.isEmpty) = !kvs.isEmpty:=by
 cases r<;>rfl
theorem lg {xs:List V}{its:List Value}(r:aL xs its):(!its.toArray.isEmpty) = !xs.isEmpty:=by
 cases r<;>simp
theorem jm:(sizeLine:Nat)<2 ^ 63:=by rw[sizeLine_eq];decide
theorem Cp:TruR X (fun x H Q=>∃ k,DY X.K x H k/\Q k H):=by
 intro pins s σ H x v Q I rx h;obtain⟨k,e,q⟩:=h;have hl:=jm;have hs:sizeLine=16777216:=sizeLine_eq;cases x with
 |non =>
  cases rx;have e':k=false:=e;subst e';exact truthy_none ⟨H,I,q⟩
 |bl b =>
  cases rx;have e':k=b:=e;subst e';exact wpAny_truthy_bool ⟨H,I,q⟩
 |int i =>
  obtain⟨t,rfl⟩:=rx;have e':k=(i != 0):=e;subst e';exact PySem.P.truthy_int ⟨H,I,q⟩
 |str y =>
  obtain⟨t,rfl⟩:=rx;obtain⟨hy,e'⟩:y.length<=sizeLine/\k=((y.length:Int) != 0):=e;subst e';exact PySem.P.truthy_str (by omega) ⟨H,I.tok _,q⟩
 |byt y =>
  obtain⟨t,rfl⟩:=rx;obtain⟨hy,e'⟩:y.size<=sizeLine/\k=((y.size:Int) != 0):=e;subst e';exact PySem.W.truthy_bytes (by omega) ⟨H,I.tok _,q⟩
 |ref p =>
  cases rx;have e':(∃ xs,iX X.K H p xs/\k = !xs.isEmpty)\/(∃ xs,iT X.K H p xs/\k = !xs.isEmpty)\/∃ kvs,H p=some (.dK kvs)/\k = !kvs.isEmpty:=e;rcases e' with ⟨xs,hx,e'⟩ | ⟨xs,hx,e'⟩ | ⟨kvs,hx,e'⟩
  .subst e';obtain⟨its,r,pl,hz⟩:=I.list hx;have hlen:=r.length;exact wpAny_truthy_list pl.isList (by simp only[List.size_toArray];omega) ⟨H,I.tok _,by rw[lg r];exact q⟩
  .subst e';obtain⟨its,r,pl,hz⟩:=I.tuple hx;have hlen:=r.length;exact truthy_tuple pl (by simp only[List.size_toArray];omega) ⟨H,I.tok _,by rw[lg r];exact q⟩
  .subst e';obtain⟨hz,hS,vs,r,m⟩:kvs.length<=sizeLine/\(p==sysModules)=false/\∃ vs,KV kvs vs/\s.heap.DictOf (aN X.prog X.w) p vs:=I.hok p _ hx;have hlen:kvs.length=vs.length:=Paired.length r;exact wpAny_truthy_dict hS m (by omega) ⟨H,I.tok _,by rw[rq r];exact q⟩
 |_=>exact (show False from e).elim
theorem xT (ha:PE X a ta)(he:∀ whole,isTrue a X.env whole=(do let v <- whole;standAt a.pos;holding [v] (truthy v))) :
  PT X a (fun σ H Q=>ta σ H fun x H'=>∃ k,DY X.K x H' k/\Q k H'):=by
 intro pins s σ H Q I h;exact isTrue_plain (cH (ha pins s σ H _ I h) fun v s1 ⟨x,H1,I1,r1,q1⟩=>Cp pins s1 σ H1 x v Q I1 r1 q1) (he _)
theorem rL:gI X (binaryOp .Add) (fun x y H Q=>∃ i j,x = .str i/\y = .str j/\i.length+j.length<=sizeLine/\Q (.str (i++j)) H):=by
 intro pins s σ H x y v u Q I rx ry h;obtain⟨i,j,rfl,rfl,hz,q⟩:=h;obtain⟨t,rfl⟩:=rx;obtain⟨t',rfl⟩:=ry;exact add_str (fun t' tk=>⟨.str (i++j),H,I.tok _,⟨_,rfl⟩,q⟩) hz
theorem vals1 (r:aL [x] us):∃ u,us=[u]/\RelV x u:=by
 cases r with
 |cons r1 r2=>cases r2;exact⟨_,rfl,r1⟩
theorem vals2 {y:V}(r:aL [x,y] us):∃ u w',us=[u,w']/\RelV x u/\RelV y w':=by
 cases r with
 |cons r1 r2 =>
  cases r2 with
  |cons r3 r4=>cases r4;exact⟨_,_,rfl,r1,r3⟩
theorem vp (hc:X.calm=true):eR X (.builtin "min") (fun xs H Q=>∃ i j,xs=[.int i,.int j]/\Q (.int (if j<i then j else i)) H):=by
 intro pins s σ H xs us Q I r h;obtain⟨i,j,rfl,q⟩:=h;obtain⟨u,w',rfl,⟨t,rfl⟩,⟨t',rfl⟩⟩:=vals2 r;refine min_two_ints (I.ok.hd hc) fun h' tk k=>⟨_,H,I.kept k,?_,q⟩
 by_cases hj:j<i
 .rw[if_pos hj,if_pos hj];exact⟨_,rfl⟩
 .rw[if_neg hj,if_neg hj];exact⟨_,rfl⟩
end
end L2
namespace L2
open PySem PySem.Spec PyProof.Rows
structure ObjM (h:Heap)(x dx C:Addr)(mA:Str->Option Value):Prop where
 obj:h.get? x=some (PySem.W.instObj C dx)
 ns:h.Ns1 dx mA
 ne:dx≠x
section
variable {prog:Program}{w:World}{A:Around}{E:Value->Shared->Prop}{s:Shared}{K:PySem.W.Frag}{x dx C f:Addr}{mA:Str->Option Value}{name:Str}{v:Value}
end
section
variable {P:Program}{w:World}{H H':Hp}{h h':Heap}{a C dx:Addr}{fs fs':List (Str×V)}
end
structure Cls (K:PySem.W.Frag)(C:Addr):Prop where
 pg:PySem.W.plainGet K C Str.empty=true
 hd:PySem.W.hasDictIn K C=true
 po:PySem.W.plainOver K C=true
 sa:PySem.W.findIn K (.ref C) "__setattr__" = some (some (.builtin "object.__setattr__"))
structure Con (K:PySem.W.Frag)(C:Addr)(f:Str)(v:V)(u:Value):Prop where
 at_:PySem.W.findIn K (.ref C) f=some (some u)
 rel:RelV v u
 get:PySem.W.specialIn K u "__get__" = some none
 cp:PySem.W.copiedNames.contains f=false
structure Meth (K:PySem.W.Frag)(C:Addr)(m:Str)(f:Addr):Prop where
 at_:PySem.W.findIn K (.ref C) m=some (some (.ref f))
 fn:PySem.W.isFn K (.ref f)=true
 kp:PySem.W.keepIn K (.ref f)=true
section
variable {X:Cx}{pins:List (Addr×Obj)}{σ:St}{H:Hp}{s:Shared}{a C dx:Addr}{fs:List (Str×V)}{f:Str}{v:V}{A:Around}{E:Value->Shared->Prop}
end
section
variable {X:Cx}{o e value:Expr}{f:Str}{pos pos' tpos:Pos}{ta tv:TE}
end
section
variable {X:Cx}{pins:List (Addr×Obj)}{σ:St}{H:Hp}{s:Shared}{A:Around}{E:Value->Shared->Prop}{Q:Value->Shared->Prop}{c:Value}{b:Bool}
inductive lR (K:PySem.W.Frag) (H:Hp):V->Value->Prop where
 | non:lR K H .non (.type "NoneType")
 | bl (x:Bool):lR K H (.bl x) (.type "bool")
 | int (i:Int):lR K H (.int i) (.type "int")
 | str (x:Str):lR K H (.str x) (.type "str")
 | flt (x:UInt64):lR K H (.flt x) (.type "float")
 | lst {a:Addr}{xs:List V}(e:H a=some (.lst xs)):lR K H (.ref a) (.type "list")
 | frz {a:Addr}{o:Obj}{xs:List V}(e:H a=some (.frz o (.lst xs))):lR K H (.ref a) (.type "list")
 | tup {a:Addr}{xs:List V}(e:H a=some (.tup xs)):lR K H (.ref a) (.type "tuple")
 | dK {a:Addr}{kvs:List (Key×V)}(e:H a=some (.dK kvs)):lR K H (.ref a) (.type "dict")
 | dT {a:Addr}{kvs:List (List Key×V)}(e:H a=some (.dT kvs)):lR K H (.ref a) (.type "dict")
 | ins {a C dx:Addr}{fs:List (Str×V)}(e:H a=some (.ins C dx fs)) (cl:Cls K C) (ha:PySem.W.findIn K (.ref C) "__class__" = some (some (.builtin "object.__class__")))
   (hn:PySem.W.specialIn K (.builtin "object.__class__") "__get__" = some (some (.builtin "getset_descriptor.__get__"))) (htk:PySem.W.takesIn K (.builtin "object.__class__")=some true)
   (hm:PySem.W.mroIn K C (.type "object")=some true):lR K H (.ref a) (.ref C)
end
end L2
namespace L2
open PySem PySem.Spec PyProof.Rows
structure hV (k:Nat)(A:Around):Prop where
 hd:A.handled=none
 dp:A.depth+3*k+5<recursionLimit
 un:A.units+16*k+200<cLine
variable {A:Around}{k:Nat}
theorem hV.deeper (r:hV (k+1) A)(env:Env):hV k (A.deeper env) :=
 ⟨r.hd,by have:=r.dp;show A.depth+1+3*k+5<_;omega,by have:=r.un;show A.units+3+16*k+200<_;omega⟩
theorem hV.depth (r:hV k A):A.depth<recursionLimit:=by have:=r.dp;omega
theorem hV.units (r:hV k A):A.units+64<cLine:=by have:=r.un;omega
def CU:TA:=fun _ H Q=>Q [] H
def wW (ta:TE)(tr:TA):TA:=fun σ H Q=>ta σ H fun x H1=>tr σ H1 fun xs H2=>Q (x::xs) H2
section
variable {X:Cx}{e:Expr}{es:List Expr}{te:TE}{t:TA}{pos:Pos}
theorem rY:PA X [] CU:=fun _ _ _ _ H Q I h=>Calls.spliced_nil ⟨[],H,I,.nil,h⟩
theorem kF (ha:PE X e te)(hr:PA X es t)(hs:starEach (e::es) X.env=(false,eval e X.env)::starEach es X.env:=by rfl):PA X (e::es) (wW te t):=by
 intro pos pins s σ H Q I h;rw[hs];show wpAny _ _ (spliced ((false,eval e X.env)::backTo pos (starEach es X.env))) _ _ s;refine Calls.spliced_cons (cH (ha pins s σ H _ I h) fun u s1 ⟨x,H1,I1,r1,q1⟩=>?_);exact cH (hr pos pins s1 σ H1 _ I1 q1) fun us s2 ⟨xs,H2,I2,r2,q2⟩=>⟨x::xs,H2,I2,.cons r1 r2,q2⟩
def tTup (t:TA):TE:=fun σ H Q=>t σ H fun xs H1=>xs.length<=sizeLine/\∀ p,H1 p=none->Q (.ref p) (upd H1 p (.tup xs))
def tLst (t:TA):TE:=fun σ H Q=>t σ H fun xs H1=>xs.length<=sizeLine/\∀ p,H1 p=none->Q (.ref p) (upd H1 p (.lst xs))
theorem C5 {x1}(h:PA X es t):PE X (.Tuple es x1 pos) (tTup t):=by
 intro pins s σ H Q I hq;refine wpAny_Tuple_spliced (cH (h pos pins s σ H _ I hq) fun us s1 ⟨xs,H1,I1,r,z,q⟩=>⟨by rw[<-r.length];exact z,?_⟩);have hf:H1 s1.heap.objs.size=none:=I1.hok.fresh (au _);refine⟨.ref s1.heap.objs.size,upd H1 s1.heap.objs.size (.tup xs),I1.laid (t':=s1.toks) (fun b u e=>Heap.get?_push_of_some _ e) (au _) ?_,rfl,q _ hf⟩;exact⟨z,us,r,⟨_,Heap.get?_push_size _ rfl,rfl,_,rfl⟩⟩
theorem wY (h:PA X es t):PE X (.List es pos) (tLst t):=by
 intro pins s σ H Q I hq;refine wpAny_List_spliced (cH (h pos pins s σ H _ I hq) fun us s1 ⟨xs,H1,I1,r,z,q⟩=>⟨by rw[<-r.length];exact z,?_⟩);have hf:H1 s1.heap.objs.size=none:=I1.hok.fresh (au _);refine⟨.ref s1.heap.objs.size,upd H1 s1.heap.objs.size (.lst xs),I1.laid (t':=s1.toks) (fun b u e=>Heap.get?_push_of_some _ e) (au _) ?_,rfl,q _ hf⟩;exact⟨z,us,0,r,Heap.get?_push_size _ rfl⟩
end
noncomputable abbrev Sp:=List V->Hp->VK->XK->Prop
noncomputable abbrev xg:=List Env->Hp->Shared->XK->Value->Shared->Prop
structure AU (P:Program)(w:World)(K:PySem.W.Frag)(mg:Str->Option Value)(base:Heap)(A:Around)(outer:List Env)(s:Shared)(H:Hp):Prop where
 frames:A.frames=some outer
 mod:Mod K mg base
 bs:∀ b o,base.get? b=some o->s.heap.get? b=some o/\H b=none
 bsz:base.objs.size<=s.heap.objs.size
 funs:s.heap.FunFrames base outer
 frf:∀ b∈wq outer,H b=none
 hok:jJ P w H s.heap
 bare:AllBare s.gens
noncomputable def CE (outer:List Env)(P:Program)(w:World)(H:Hp)(s:Shared)(Q:VK)(u:Value)(s':Shared):Prop :=
 ∃ v H',s'.os=s.os/\AllBare s'.gens/\Un (wq outer) [] H H' s.heap s'.heap/\jJ P w H' s'.heap/\RelV v u/\Q v H'
noncomputable def CR (CX:xg)(outer:List Env)(P:Program)(w:World)(H:Hp)(s:Shared)(Q:VK)(E:XK)(r:Result)(s':Shared):Prop :=
 match r with
 | .ok (.ret u)=>CE outer P w H s Q u s'
 |.ok _=>False
 |.error e=>CX outer H s E e s'
structure oo (P:Program)(w:World)(K:PySem.W.Frag)(mg:Str->Option Value)(base:Heap)(CX:xg)(k:Nat)(f:Addr)(fd:FuncData)(ps:List Str)(sp:Sp):Prop where
 len:∀ vs H Q E,sp vs H Q E->vs.length=ps.length
 run:∀(A:Around) (outer:List Env) (s:Shared) (H:Hp) (args:Args) (us:List Value) (vs:List V) (Q:VK) (E:XK),hV k A->AU P w K mg base A outer s H->BindsTo s fd args (ps.zip us)->aL vs us->sp vs H Q E ->
  codeAny (model P w) A (.call (.ref f) args) (CR CX outer P w H s Q E) s
variable {Q:VK}
section
variable {X:Cx}{pins:List (Addr×Obj)}{σ:St}{H:Hp}{s s':Shared}
theorem Inv.env0 (I:Inv X pins σ H s):AU X.prog X.w X.K X.mg X.base X.A X.stack s H :=
 ⟨I.ok.frames,I.ok.mod,I.bs,br I.ok.bsz I.sz,I.stack,I.stkFree,I.hok,I.bare⟩
theorem Inv.after {u:Value}(I:Inv X pins σ H s)(h:CE X.stack X.prog X.w H s Q u s'):EP X pins σ Q u s':=by
 obtain⟨v,H',os,bare,un,hok,r,q⟩:=h;obtain⟨hh,g,d,t,os'⟩:=s';obtain rfl:os'=s.os:=os;exact⟨v,H',I.call (h':=hh) (g':=g) (d':=d) (t':=t) (ch:=[]) un hok bare (fun b z=>absurd z (by simp)),r,q⟩
end
def xQ (sp:Sp)(dvs:List V)(E:XK)(t:TA):TE:=fun σ H Q=>t σ H fun vs H1=>sp (vs++dvs) H1 Q E
noncomputable def Binds (K:PySem.W.Frag)(fd:FuncData)(ps:List Str)(ds:List Value):Prop :=
 ∀(s:Shared) (us:List Value),K.In s.heap->(us++ds).length=ps.length->BindsTo s fd ⟨us,[]⟩ (ps.zip (us++ds))
variable {ps:List Str}
theorem Binds.all {K:PySem.W.Frag}{fd:FuncData}(h:∀ us:List Value,us.length=ps.length->bindArgs fd ⟨us,[]⟩=pure (ps.zip us)):Binds K fd ps []:=fun s us _ hl=>by
 rw[aw] at hl ⊢;exact .of_eq (h us hl)
def oY (CX:xg)(X:Cx)(E:XK):Prop:=∀(pins:List (Addr×Obj)) (σ:St) (H:Hp) (s:Shared) (e:Value) (s':Shared),Inv X pins σ H s->CX X.stack H s E e s'->X.xe e s'
variable {H:Hp}{s:Shared}{vs:List V}
section
variable {X:Cx}{CX:xg}{k:Nat}{f C:Addr}{fd:FuncData}{ps:List Str}{sp:Sp}{dvs:List V}{ds:List Value}{E:XK}{x m:Str}{p pos apos:Pos}{e o:Expr}{es:List Expr}{ta:TE}{t:TA}
theorem yy {pins:List (Addr×Obj)}{σ:St}{us:List Value}(F:oo X.prog X.w X.K X.mg X.base CX k f fd ps sp)(hr:hV k X.A)(hb:Binds X.K fd ps ds)(hd:aL dvs ds)(hx:oY CX X E)
  (I:Inv X pins σ H s) (r:aL vs us) (h:sp (vs++dvs) H Q E):wpAny (model X.prog X.w) X.A (call (.ref f) us) (EP X pins σ Q) X.xe s:=by
 have r2:aL (vs++dvs) (us++ds):=r.append hd;have hl:(us++ds).length=ps.length:=by rw[<-r2.length];exact F.len _ _ _ _ h
 refine wpAny_call (codeAny_mono (F.run X.A X.stack s H ⟨us,[]⟩ (us++ds) (vs++dvs) Q E hr I.env0 (hb s us I.kIn hl) r2 h) fun r s' hq=>?_);cases r with
 |error e=>exact hx pins σ H s e s' I hq
 |ok fl =>
  cases fl with
  |ret u=>exact I.after hq
  |next=>exact False.elim hq
  |brk=>exact False.elim hq
  |cont=>exact False.elim hq
theorem Bj (F:oo X.prog X.w X.K X.mg X.base CX k f fd ps sp)(hr:hV k X.A)(hg:Gl X x)(hm:X.mg x=some (.ref f))(hk:PySem.W.keepIn X.K (.ref f)=true)(hb:Binds X.K fd ps ds)(hd:aL dvs ds)(hx:oY CX X E)
  (ha:PA X (e::es) t) (hdb:(x==("__debug__" : Str))=false:=by decide) (he:starEach (e::es) X.env=(false,eval e X.env)::starEach es X.env:=by rfl) (hpl:(backTo pos (starEach es X.env)).any (·.1)=false:=by rfl) :
  PE X (.Call (.Name x p) (e::es) [] pos) (xQ sp dvs E t):=by
 intro pins s σ H Q I h;refine wpAny_Call_Name_kw (ou I hg hm ?_ hdb);refine PySem.W.callWith_K (h₀:=X.base) I.ok.mod.kin hk (cH (ha pos pins s σ H _ I h) fun us s1 ⟨vs,H1,I1,r,q⟩=>⟨I1.kIn,?_⟩) he hpl;exact yy F hr hb hd hx I1 r q
theorem xR (F:oo X.prog X.w X.K X.mg X.base CX k f fd ps sp)(hr:hV k X.A)(hg:Gl X x)(hm:X.mg x=some (.ref f))(hk:PySem.W.keepIn X.K (.ref f)=true)(hb:Binds X.K fd ps ds)(hd:aL dvs ds)(hx:oY CX X E)
  (hdb:(x==("__debug__" : Str))=false:=by decide):PE X (.Call (.Name x p) [] [] pos) (xQ sp dvs E CU):=by
 intro pins s σ H Q I h;refine wpAny_Call_Name_kw (ou I hg hm ?_ hdb);exact PySem.W.callWith_K0 I.kIn hk (yy (us:=[]) F hr hb hd hx I .nil h)
structure Mk (K:PySem.W.Frag)(C f:Addr):Prop where
 makes:PySem.W.makesIn K C=true
 init:PySem.W.findIn K (.ref C) "__init__" = some (some (.ref f))
 fn:PySem.W.isFn K (.ref f)=true
 kp:PySem.W.keepIn K (.ref C)=true
end
section
variable {X:Cx}{CX:xg}{k:Nat}{f C:Addr}{fd:FuncData}{ps ks:List Str}{sp:Sp}{E:XK}{x m:Str}{p pos apos kpos:Pos}{e o:Expr}{es:List Expr}{kws:List Keyword}{te ta:TE}{t tk:TA}{nm:Option Str}
structure KBinds (K:PySem.W.Frag)(fd:FuncData)(ps ks:List Str)(g:List Value->List Value->List Value)(gV:List V->List V->List V):Prop where
 to:∀(s:Shared) (us ws:List Value),K.In s.heap->(g us ws).length=ps.length->BindsTo s fd ⟨us,ks.zip ws⟩ (ps.zip (g us ws))
 rel:∀{vs:List V}{us:List Value}{zs:List V}{ws:List Value},aL vs us->aL zs ws->aL (gV vs zs) (g us ws)
variable {g:List Value->List Value->List Value}{gV:List V->List V->List V}
end
structure kM (N P:List Str)(sc:Scope):Prop where
 kind:sc.kind = .function
 co:sc.isCoroutine=false
 gen:sc.isGenerator=false
 nd:N.Nodup
 pre:N.take P.length=P
 par:∀ x∈P,sc.names.lookup x=some .local\/sc.names.lookup x=some .cell
 nofree:∀ y∈sc.names,y.2≠.free
variable {kindOf:Str->Option NameKind}{x:Str}
theorem m5:∀{binds:List (Str×Value)}{m:Str->Option Value},(∀ v,(x,v)∉binds)->bindL kindOf binds m x=m x
 |[],_,_=>rfl
 | (n,v)::r,m,h=>by
  unfold bindL;rw[m5 fun w hw=>h w (ah _ hw)];split
  .have:x≠n:=by rintro rfl;exact h v ai
   simp[this]
  .rfl
theorem nF:∀{binds:List (Str×Value)}{m:Str->Option Value},(∀ v,(x,v)∉binds)->bindC kindOf binds m x=m x
 |[],_,_=>rfl
 | (n,v)::r,m,h=>by
  unfold bindC;rw[nF fun w hw=>h w (ah _ hw)];split
  .rfl
  .have:x≠n:=by rintro rfl;exact h v ai
   simp[this]
variable {v:Value}
theorem nJ:∀{P:List Str}{vs:List Value}{i:Nat}{m:Str->Option Value},P.Nodup->P[i]? = some x->vs[i]? = some v->kindOf x=some .local ->
  bindL kindOf (P.zip vs) m x=some v
 |[],_,_,_,_,h,_,_=>by simp at h
 |_::_,[],_,_,_,_,h,_=>by simp at h
 | p::P,w::vs,0,m,nd,h1,h2,hk=>by
  simp at h1 h2;subst h1;subst h2;show bindL kindOf ((p,w)::P.zip vs) m p=_;unfold bindL;rw[m5 fun v hv=>(List.nodup_cons.mp nd).1 (jb hv).1,if_pos hk];simp
 | p::P,w::vs,i+1,m,nd,h1,h2,hk=>by
  show bindL kindOf ((p,w)::P.zip vs) m x=_;unfold bindL;exact nJ (i:=i) (List.nodup_cons.mp nd).2 (by simpa using h1) (by simpa using h2) hk
theorem nP:∀{P:List Str}{vs:List Value}{i:Nat}{m:Str->Option Value},P.Nodup->P[i]? = some x->vs[i]? = some v->kindOf x≠some .local ->
  bindC kindOf (P.zip vs) m x=some v
 |[],_,_,_,_,h,_,_=>by simp at h
 |_::_,[],_,_,_,_,h,_=>by simp at h
 | p::P,w::vs,0,m,nd,h1,h2,hk=>by
  simp at h1 h2;subst h1;subst h2;show bindC kindOf ((p,w)::P.zip vs) m p=_;unfold bindC;rw[nF fun v hv=>(List.nodup_cons.mp nd).1 (jb hv).1,if_neg hk];simp
 | p::P,w::vs,i+1,m,nd,h1,h2,hk=>by
  show bindC kindOf ((p,w)::P.zip vs) m x=_;unfold bindC;exact nP (i:=i) (List.nodup_cons.mp nd).2 (by simpa using h1) (by simpa using h2) hk
noncomputable def start (N:List Str)(vs:List V):St:=vs.map some++List.replicate (N.length - vs.length) none
noncomputable def rK (CX:xg)(P:Program)(w:World)(K:PySem.W.Frag)(mg:Str->Option Value)(base:Heap)(N:List Str)(qual:Str)(scope:Scope)(f:Addr)(cd:Value)(A:Around)(outer:List Env)(s:Shared)(H:Hp)(E:XK):Cx where
 prog:=P
 w:=w
 K:=K
 mg:=mg
 base:=base
 A:=A.deeper (envOfC qual scope s.heap.objs.size f cd)
 N:=N
 s₀:=s
 H₀:=H
 env:=envOfC qual scope s.heap.objs.size f cd
 outer:=outer
 stack:=envOfC qual scope s.heap.objs.size f cd::outer
 ex:=[]
 calm:=true
 fn:=fun _=>true
 pn:=[]
 xe:=fun e s'=>wpAny (model P w) (A.deeper (envOfC qual scope s.heap.objs.size f cd)) (leaving (envOfC qual scope s.heap.objs.size f cd) e) (fun _ s''=>CX outer H s E e s'') (fun e' s''=>CX outer H s E e' s'') s'
theorem pf {sc:Scope}{n:Nat}(h:sc.names.lookup x=some .cell):∃ c,(cellsFrom n sc.names []).lookup x=some c:=by
 have q:=PySem.W.cellsFrom_some sc.names n [] (.inl h);exact Option.isSome_iff_exists.mp q
variable {CX:xg}{N:List Str}{P:Program}{base:Heap}{f:Addr}{mg:Str->Option Value}{qual:Str}{scope:Scope}{w:World}
theorem uC {K:PySem.W.Frag}{cd:Value}{outer:List Env}{s1:Shared}{E:XK}{us:List Value}
  (S:kM N ps scope) (hd:A.handled=none) (e0:AU P w K mg base A outer s H) (hl:vs.length=ps.length) (r:aL vs us)
  (x:InCallC s s.heap.objs.size (bindL (envOfC qual scope s.heap.objs.size f cd).kindOf (ps.zip us) fun _=>none) (cellsFrom (s.heap.objs.size+1) scope.names []) (bindC (envOfC qual scope s.heap.objs.size f cd).kindOf (ps.zip us) fun _=>none) s1) :
  Inv (rK CX P w K mg base N qual scope f cd A outer s H E) [] (start N vs) H s1:=by
 have hpl:ps.length<=N.length:=by have:=ic List.length S.pre;rw[f7] at this;omega
 obtain⟨h1,tk,rfl,hk⟩:=x.done;have noA:∀ b:Addr,b∉(rK CX P w K mg base N qual scope f cd A outer s H E).ex:=fun b z=>absurd (show b∈([]:List Addr) from z) (by simp)
 refine⟨⟨e0.mod,S.kind,rfl,rfl,au _,fun y z c h1 h2=>?_,fun y hy=>?_,fun y c _ h=>?_,fun _=>hd,Around.frames_deeper e0.frames,.inr ⟨rfl,rfl⟩,fun b z=>absurd z (noA b),e0.bs,e0.bsz,fun b _ _=>noA b,fun b z=>absurd z (noA b),e0.funs,e0.frf⟩,
  rfl,e0.bare,Un.kept hk,⟨_,x.toInCall.ns,fun i y v h1 h2 h3=>?_⟩,fun y c h=>⟨_,x.cell y c h⟩,e0.hok.fresh (Nat.le_refl _),fun y c h=>?_,fun p hp=>absurd (show p∈([]:List (Addr×Obj)) from hp) (by simp),e0.hok.kept hk,?_⟩
 .exact name_of_addr x.apart (cm h1) (cm h2)
 .have hy:scope.names.lookup y=some .cell\/scope.names.lookup y=some .free:=hy;rcases hy with hy | hy
  .exact pf hy
  .exact absurd rfl (S.nofree _ (cm hy))
 .exact il (x.above y c (cm h))
 .have hi:i<vs.length:=by
   unfold start at h2;by_cases hi:i<vs.length
   .exact hi
   .rw[List.getElem?_append_right (by simpa using hi)] at h2;rw[List.getElem?_replicate] at h2;split at h2<;>cases h2
  have ha:vs[i]? = some v:=by
   unfold start at h2;rw[List.getElem?_append_left (by simpa using hi),List.getElem?_map] at h2;cases e:vs[i]? with
   |none=>rw[e] at h2;cases h2
   |some a=>rw[e] at h2;cases h2;rfl
  obtain⟨u,hu,rv⟩:=r.get ha;have hp:ps[i]? = some y:=by
   rw[<-S.pre,List.getElem?_take_of_lt (by omega)];exact h1
  have ndP:ps.Nodup:=by rw[<-S.pre];exact S.nd.sublist (List.take_sublist _ _)
  refine⟨u,rv,?_⟩;rcases S.par y (List.mem_of_getElem? hp) with k | k
  .exact .inl ⟨k,nJ ndP hp hu k⟩
  .obtain⟨c,e⟩:=pf (n:=s.heap.objs.size+1) k;refine .inr ⟨.inl k,c,e,?_⟩;have q:=x.cell y c e;rw[nP ndP hp hu (by show scope.names.lookup y≠_;rw[k];decide)] at q;exact q
 .exact e0.hok.fresh (il (x.above y c (cm h)))
 .unfold start;show _=N.length;rw[aq,ab,dk];omega
theorem Fx {K:PySem.W.Frag}{name:Str}{params:Arguments}{body:List Stmt}{dV kV doc pm cdv ct oc:Value}{an od:Option Addr}
  {osl:Array (Option Value)}{sp:Sp}(lk:K.lookup f=some ⟨oc,od,.func (PySem.W.fnOf name qual params body scope dV kV doc pm an cdv ct),osl⟩) (hcd:PySem.W.codeIn K cdv qual=true) (S:kM N ps scope)
  (len:∀ vs H Q E,sp vs H Q E->vs.length=ps.length)
  (hbody:∀(A:Around) (outer:List Env) (s:Shared) (H:Hp) (vs:List V) (Q:VK) (E:XK),hV k (A.deeper (envOfC qual scope s.heap.objs.size f cdv))->sp vs H Q E ->
   ∃ t,mY (rK CX P w K mg base N qual scope f cdv A outer s H E) body t/\t { nx:=fun _ H'=>Q .non H',rt:=Q } (start N vs) H) :
  oo P w K mg base CX (k+1) f (PySem.W.fnOf name qual params body scope dV kV doc pm an cdv ct) ps sp:=by
 refine⟨len,fun A outer s H args us vs Q E hr e0 hb r hsp=>?_⟩;have hl:=len _ _ _ _ hsp;have KX:K.In s.heap:=e0.mod.kin.keeps fun b o e=>(e0.bs b o e).1
 have lim:s.heap.NoLimit:=e0.mod.nolimit.keeps fun b o e=>(e0.bs b o e).1
 have hkind:∀ y∈ps.zip us,scope.names.lookup y.1=some .local\/(scope.names.lookup y.1=some .cell/\((cellsFrom (s.heap.objs.size+1) scope.names []).lookup y.1).isSome=true):=fun ⟨n,v⟩ hy=>by
  rcases S.par n (jb hy).1 with q | q
  .exact .inl q
  .exact .inr ⟨q,PySem.W.cellsFrom_some _ _ _ (.inl q)⟩
 refine codeAny_call_function hr.depth (KX _ _ lk) rfl S.co S.gen rfl (PySem.W.codeRec_of KX hcd) (hb _ _ _ _ ?_);refine wpAny_newFunctionEnv_cells S.kind hkind fun env he s1 x=>?_
 subst he;refine⟨lim.keeps x.toInCall.keep,codeAny_func ?_⟩;obtain⟨t,ht,hq⟩:=hbody A outer s H vs Q E (hr.deeper _) hsp;have I:Inv (rK CX P w K mg base N qual scope f cdv A outer s H E) [] (start N vs) H s1:=uC S hr.hd e0 hl r x;refine wpAny_mono (ht [] s1 (start N vs) H _ I hq) (fun fl s' hs=>?_) fun e s' hs=>hs
 have fin:∀{σ':St}{H':Hp}{v:V}{u:Value},Inv (rK CX P w K mg base N qual scope f cdv A outer s H E) [] σ' H' s'->RelV v u->Q v H'->CE outer P w H s Q u s' :=
  fun {σ' H' v u} J rv q=>⟨v,H',J.os,J.bare,J.base,J.hok,rv,q⟩
 cases fl with
 |ret u =>
  obtain⟨v,σ',H',J,rv,q⟩:=hs;exact fin J rv q
 |next =>
  obtain⟨σ',H',J,q⟩:=hs;exact fin (v:=V.non) (u:=Value.none) J rfl q
 |brk =>
  obtain⟨_,_,_,q⟩:=hs;exact False.elim q
 |cont =>
  obtain⟨_,_,_,q⟩:=hs;exact False.elim q
end L2
namespace L2
open PySem PySem.Spec PyProof.Rows
section
variable {X:Cx}{x:Str}{p pos:Pos}{e:Expr}{es:List Expr}{t:TA}{id T:String}{r:List V->Hp->VK->Prop}
def tCB (r:List V->Hp->VK->Prop)(t:TA):TE:=fun σ H Q=>t σ H fun vs H1=>r vs H1 Q
theorem pM (hc:eR X (.builtin id) r)(hg:Gl X x)(hm:X.mg x=none)(hv:bootBuiltins x=some (.builtin id))(ha:PA X (e::es) t)(hn:x≠"__name__":=by decide) (hdb:(x==("__debug__" : Str))=false:=by decide)
  (he:starEach (e::es) X.env=(false,eval e X.env)::starEach es X.env:=by rfl) (hpl:(backTo pos (starEach es X.env)).any (·.1)=false:=by rfl):PE X (.Call (.Name x p) (e::es) [] pos) (tCB r t):=by
 intro pins s σ H Q I h;refine wpAny_Call_Name_kw (fC I hg hm hv ?_ hn hdb);exact PyProof.Rows.callWith_builtin1 (cH (ha pos pins s σ H _ I h) fun us s1 ⟨vs,H1,I1,r1,q1⟩=>hc pins s1 σ H1 vs us Q I1 r1 q1) he hpl
theorem uU (hc:eR X (.type T) r)(hg:Gl X x)(hm:X.mg x=none)(hv:bootBuiltins x=some (.type T))(ha:PA X (e::es) t)(hn:x≠"__name__":=by decide) (hdb:(x==("__debug__" : Str))=false:=by decide)
  (he:starEach (e::es) X.env=(false,eval e X.env)::starEach es X.env:=by rfl) (hpl:(backTo pos (starEach es X.env)).any (·.1)=false:=by rfl):PE X (.Call (.Name x p) (e::es) [] pos) (tCB r t):=by
 intro pins s σ H Q I h;refine wpAny_Call_Name_kw (fC I hg hm hv ?_ hn hdb);exact cy (cH (ha pos pins s σ H _ I h) fun us s1 ⟨vs,H1,I1,r1,q1⟩=>hc pins s1 σ H1 vs us Q I1 r1 q1) he hpl
end
end L2
namespace HT
open PySem PyProof.Rows
noncomputable def lexLt:List Int->List Int->Bool
 |[],[]=>false
 |[],_::_=>true
 |_::_,[]=>false
 |x::xs,y::ys=>if x=y then lexLt xs ys else decide (x<y)
theorem kY (x y:Int)(xs ys:List Int):lexLt (x::xs) (y::ys)=if x=y then lexLt xs ys else decide (x<y):=rfl
theorem my:lexLt [] []=false:=rfl
theorem lW (y:Int)(ys:List Int):lexLt [] (y::ys)=true:=rfl
theorem lq (x:Int)(xs:List Int):lexLt (x::xs) []=false:=rfl
theorem pN (A:Around)(s:Shared)(a:Int)(t:Tok)(c:Int)(u:Tok):∃ e,SeqAt.EqAt A s (.int a t) (.int c u) e/\(e=true↔a=c) :=
 ⟨(a==c),SeqAt.EqAt.int_int a t c u,by simp⟩
theorem k7 (A:Around)(s:Shared)(a:Int)(t:Tok)(c:Int)(u:Tok)(prog:Program)(w:World)(E:Value->Shared->Prop)(Q:Value->Shared->Prop)(h:Q (.bool (decide (a<c))) s) :
  wpAny (model prog w) A (richCompare .Lt (.int a t) (.int c u)) Q E s :=
 (PyProof.Rows.lt_int h:wpAny (model prog w) A (compareOp .Lt (.int a t) (.int c u)) Q E s)
section
open PySem.SeqAt
open PySem.AutoSeq1 (wpAny_loadPart')
open PySem.MeetsSeq PySem.MeetsSeq2 PySem.MeetsSeq3
theorem me (l b:Addr)(items items2:Array Value)(n n2:Nat)(dd dd2:Option Addr)(sl sl2:Array (Option Value))(ns ms:List Int)(hi:IntsAre items.toList ns)(hj:IntsAre items2.toList ms) :
  Meets (Builtin.«tuple.__lt__» ⟨[.ref l,.ref b],[]⟩)
   (fun _ R s=>s.heap.get? l=some { cls:=.type "tuple",dict:=dd,data:=.seq items n,slots:=sl }/\s.heap.get? b=some { cls:=.type "tuple",dict:=dd2,data:=.seq items2 n2,slots:=sl2 } /\
    R (.ok (.ret (.bool (lexLt ns ms)))) s) :=
 .of_wp fun prog w A R s h=>by
  obtain⟨hp,g,d,tk,os⟩:=s;obtain⟨hl,hb,h⟩:=h;have f2:=AutoSeq1.sub_tuple_tuple;have z1:items.size=ns.length:=by rw[<-hi.length];simp
  have z2:items2.size=ms.length:=by rw[<-hj.length];simp
  wp_walk using wpAny_loadPart' hl,wpAny_loadPart' hb,wpAny_forIn_list _ (fun rest b s'=>b.1=none/\s'=⟨hp,g,d,tk,os⟩/\∃(vs ws:List Value) (ns' ms':List Int),rest=vs.zip ws /\
   IntsAre vs ns'/\IntsAre ws ms'/\ns'.length+items2.size=ms'.length+items.size/\R (.ok (.ret (.bool (lexLt ns' ms')))) ⟨hp,g,d,tk,os⟩) _
  case turn =>
   rintro⟨y,x⟩ rest b s' ⟨hb',rfl,vs,ws,ns',ms',hz,hvi,hwi,hlen,hR⟩;cases hvi with
   |nil=>rw[List.zip_nil_left] at hz;cases hz
   |cons a t hvi' =>
    cases hwi with
    |nil=>rw[List.zip_nil_right] at hz;cases hz
    |cons c u hwi' =>
     rw[fh] at hz;injection hz with hyx hrest
     injection hyx with hy hx
     subst hy hx;rw[kY] at hR;simp only[List.length_cons] at hlen;obtain⟨e,he,hiff⟩:=pN A.in1 ⟨hp,g,d,tk,os⟩ a t c u;refine wpAny_bind (he prog w _ _ ?_);cases e with
     |true =>
      rw[if_pos (hiff.mp rfl)] at hR
      wp_walk
      exact⟨rfl,rfl,_,_,_,_,hrest,hvi',hwi',by omega,hR⟩
     |false =>
      rw[if_neg (fun q=>absurd (hiff.mpr q) az)] at hR;have hri:=k7 A.in1 ⟨hp,g,d,tk,os⟩ a t c u prog w
      wp_walk using hri
      exact⟨_,rfl,by simpa using hR⟩
  case fin =>
   rintro⟨b1,b2⟩ s' ⟨hb',rfl,vs,ws,ns',ms',hz,hvi,hwi,hlen,hR⟩;simp only at hb';subst hb';have hv:lexLt ns' ms'=decide (items.size<items2.size):=by
    cases hvi with
    |nil =>
     cases hwi with
     |nil =>
      simp only[List.length_nil] at hlen;rw[my];exact (bj (by omega)).symm
     |cons c u hw =>
      simp only[List.length_nil,List.length_cons] at hlen;rw[lW];exact (c9 (by omega)).symm
    |cons a t hv =>
     cases hwi with
     |nil =>
      simp only[List.length_nil,List.length_cons] at hlen;rw[lq];exact (bj (by omega)).symm
     |cons c u hw =>
      rw[fh] at hz;cases hz
   rw[hv] at hR
   wp_walk
   exact⟨_,rfl,by simpa[Builtin.Tuple.tupleCompareSizes] using hR⟩
  case h =>
   exact⟨rfl,rfl,items.toList,items2.toList,ns,ms,rfl,hi,hj,by omega,h⟩
end
variable {b sl t:Addr}{hi lo:Option Int}{items:Array Value}{vl vu:Value}
section
variable {prog:Program}{w:World}{A:Around}{E:Value->Shared->Prop}{s:Shared}
theorem rM {l:Addr}{items2:Array Value}{ns ms:List Int}{Q:Value->Shared->Prop}(hl:IsTup s.heap l items)(hb:IsTup s.heap b items2)(hi:IntsAre items.toList ns)(hj:IntsAre items2.toList ms)
  (hu:A.units<cLine) (h:Q (.bool (lexLt ns ms)) s):wpAny (model prog w) A (compareOp .Lt (.ref l) (.ref b)) Q E s:=by
 obtain⟨⟨cls,dd,data,sl⟩,ho,hc,n,hd⟩:=id hl;obtain⟨⟨cls2,dd2,data2,sl2⟩,ho2,hc2,n2,hd2⟩:=id hb;simp only at hc hd hc2 hd2;subst hc hd hc2 hd2;exact richCompare_meets_room (op:=.Lt) ⟨_,ho,rfl⟩ ⟨_,ho2,rfl⟩ PySem.F.slot_tuple_lt PySem.F.entry_tuple_lt (PySem.F.args_tuple_lt_2 _ _) (me l b items items2 n n2 dd dd2 sl sl2 ns ms hi hj)
  ⟨ho,ho2,show Value.bool (lexLt ns ms)≠Value.notImplemented/\Q (.bool (lexLt ns ms)) s from ⟨(fun x=>nomatch x),h⟩⟩ hu
theorem Ba {vs ws:List Value}{Q:Value->Shared->Prop}(ht:IsTup s.heap t vs.toArray)(hb:IsTup s.heap b ws.toArray)(hv:vs≠[])
  (h1:ws=[]->Q (.ref t) s) (h2:ws≠[]->Q (.ref s.heap.objs.size) { s with heap:=s.heap.push { cls:=.type "tuple",data:=.seq (vs++ws).toArray } })
  (hsz:vs.length+ws.length<=sizeLine):wpAny (model prog w) A (binaryOp .Add (.ref t) (.ref b)) Q E s:=by
 obtain⟨⟨cls,dd,data,sl⟩,ho,hc,n,hd⟩:=id ht;obtain⟨⟨cls2,dd2,data2,sl2⟩,ho2,hc2,n2,hd2⟩:=id hb;simp only at hc hd hc2 hd2;subst hc hd hc2 hd2;have e:vs.toArray++ws.toArray=(vs++ws).toArray:=by simp
 by_cases hw:ws=[]
 .exact concat_meets ⟨_,ho,rfl⟩ ⟨_,ho2,rfl⟩ noFill_tuple_add seq_tuple_add PySem.F.slot_tuple_add PySem.F.entry_tuple_add (PySem.F.args_tuple_add_2 _ _)
   (tuple_addW1 t b vs.toArray ws.toArray n n2 dd dd2 sl sl2 (by simpa using hv) (by simp[hw])) ⟨ho,ho2,h1 hw⟩
 .refine concat_meets ⟨_,ho,rfl⟩ ⟨_,ho2,rfl⟩ noFill_tuple_add seq_tuple_add PySem.F.slot_tuple_add PySem.F.entry_tuple_add (PySem.F.args_tuple_add_2 _ _)
   (tuple_addW2 t b vs.toArray ws.toArray n n2 dd dd2 sl sl2 (by simpa using hv) (by simpa using hw) (by rw[List.size_toArray,List.size_toArray];exact hsz)) ⟨ho,ho2,?_⟩
  rw[e];exact h2 hw
noncomputable def bV (n d:Nat):Option Int->Nat
 |none=>d
 |some v=>if v<0 then (v+(n:Int)).toNat else min v.toNat n
theorem n4 (n d:Nat)(hd:d<=n)(o:Option Int):bV n d o<=n:=by
 cases o with
 |none=>exact hd
 |some v =>
  show (if v<0 then (v+(n:Int)).toNat else min v.toNat n)<=n;by_cases hv:v<0
  .rw[if_pos hv];omega
  .rw[if_neg hv];exact Nat.min_le_right _ _
theorem sE (v:Int)(n d:Nat):(if v<0 then max (v+(n:Int)) 0 else min v (n:Int))=((bV n d (some v):Nat):Int):=by
 show (if v<0 then max (v+(n:Int)) 0 else min v (n:Int))=(((if v<0 then (v+(n:Int)).toNat else min v.toNat n):Nat):Int);by_cases hv:v<0
 .simp only[if_pos hv];omega
 .simp only[if_neg hv];omega
theorem rH (lo hi:Option Int)(n:Nat):Builtin.Slice.sliceAdjust lo hi 1 (n:Int)=(((bV n 0 lo:Nat):Int),((bV n n hi:Nat):Int)):=by
 have h1:¬ ((1:Int)<0):=by omega
 unfold Builtin.Slice.sliceAdjust;simp only[h1,if_false];refine Prod.ext ?_ ?_
 .cases lo with
  |none=>rfl
  |some v=>exact sE v n 0
 .cases hi with
  |none=>rfl
  |some v=>exact sE v n n
theorem rQ (i j:Nat):Builtin.Slice.slicePlaces (i:Int) (j:Int) 1=j - i:=by
 unfold Builtin.Slice.slicePlaces;have h1:(1:Int) > 0:=by omega
 simp only[h1,if_true,Int.ediv_one];split<;>omega
theorem lZ {v:Value}{o:Option Int}{Q:Option Int->Shared->Prop}(p:IsPart v o)(h:Q o s):wpAny (model prog w) A (Builtin.Slice.slicePartIndex v) Q E s:=by
 cases p with
 |none=>exact slicePart_none h
 |int i t=>exact slicePart_int h
theorem jX {n:Nat}{Q:Int×Int×Nat->Shared->Prop}(hs:s.heap.IsSliceOf sl vl vu .none)(pl:IsPart vl lo)(pu:IsPart vu hi)
  (h:Q (((bV n 0 lo:Nat):Int),1,bV n n hi - bV n 0 lo) s):wpAny (model prog w) A (Builtin.Slice.sliceApplied (.ref sl) (pure (n:Int))) Q E s:=by
 obtain⟨os,hos,hcs,hds⟩:=id hs;unfold Builtin.Slice.sliceApplied Builtin.Slice.sliceFields;refine wpAny_bind (wpAny_bind (wpAny_field hos hds (x:=vl) rfl (wpAny_bind (wpAny_field hos hds (x:=vu) rfl (wpAny_bind (wpAny_field hos hds (x:=.none) rfl (wpAny_pure ?_)))))));refine wpAny_bind (slicePart_none ?_);show wpAny _ _ (if ((1:Int)==0)=true then _ else _) _ _ s;rw[if_neg (by decide)];refine wpAny_bind (lZ pl (wpAny_bind (lZ pu (wpAny_bind (wpAny_pure ?_)))));show wpAny _ _ (match Builtin.Slice.sliceAdjust lo hi 1 (n:Int) with | (lo,hi)=>pure (lo,(1:Int),Builtin.Slice.slicePlaces lo hi 1)) _ _ s;rw[rH lo hi n];show wpAny _ _ (pure (((bV n 0 lo:Nat):Int),(1:Int),Builtin.Slice.slicePlaces ((bV n 0 lo:Nat):Int) ((bV n n hi:Nat):Int) 1)) _ _ s;rw[rQ];exact wpAny_pure h
theorem xu (xs:Array Value)(i k:Nat):((List.range k).filterMap fun (m:Nat)=>xs[((i:Int)+(m:Int)*1).toNat]?).toArray=((xs.toList.drop i).take k).toArray:=by
 have e:(fun (m:Nat)=>xs[((i:Int)+(m:Int)*1).toNat]?)=fun m=>xs[i+m]?:=by
  funext m;have:((i:Int)+(m:Int)*1).toNat=i+m:=by omega
  rw[this]
 rw[e];have:=pick_run xs i k;rw[List.filterMap_map] at this;have e2:((fun x=>xs[x]?)∘fun x=>i+x)=fun m=>xs[i+m]?:=rfl
 rw[e2] at this;rw[this]
theorem jz {Q:Value->Shared->Prop}(ht:IsTup s.heap t items)(hs:s.heap.IsSliceOf sl vl vu .none)(pl:IsPart vl lo)(pu:IsPart vu hi)
  (hw:¬ (bV items.size 0 lo=0/\bV items.size items.size hi=items.size))
  (h:Q (.ref s.heap.objs.size) { s with heap:=s.heap.push { cls:=.type "tuple",data:=.seq ((items.toList.drop (bV items.size 0 lo)).take (bV items.size items.size hi - bV items.size 0 lo)).toArray } })
  (hsz:items.size<=sizeLine):wpAny (model prog w) A (getItem (.ref t) (.ref sl)) Q E s:=by
 have htake:sizeOk (.seq ((items.toList.drop (bV items.size 0 lo)).take (bV items.size items.size hi - bV items.size 0 lo)).toArray):=by
  show ((items.toList.drop (bV items.size 0 lo)).take (bV items.size items.size hi - bV items.size 0 lo)).toArray.size<=sizeLine;rw[aj,f7,i5,ay];omega
 have hj:bV items.size items.size hi<=items.size:=n4 _ _ (au _) hi;obtain⟨os,hos,hcs,hds⟩:=id hs;have hTs:s.TypeIs (.ref sl) "slice":=⟨os,hos,hcs⟩;unfold getItem
 try with_reducible refine wpAny_holding ?_
 first | refine wpAny_bind (wpAny_pure ?_) | skip
 refine wpAny_bind (wpAny_sequenceKey ht.typeIs (by decide) ?_);refine wpAny_bind (wpAny_callSpecial?_slot (name:=Str.ofString "__getitem__") ht.typeIs PyProof.Rows.slot_tuple_getitem
  (wpAny_call_entry PyProof.Rows.slot_tuple_getitem ht.typeIs entry_tuple_getitem ?_ (args_tuple_getitem _ _)))
 show wpAny _ _ (Builtin.Tuple.tupleItemsOf (.ref t) >>= _) _ _ s;refine wpAny_bind (tupleItemsOf_ ht ?_);refine wpAny_bind (wpAny_typeOf hTs ?_);rw[if_pos (by decide)];refine wpAny_bind (jX hs pl pu ?_);have hno:¬ ((((bV items.size 0 lo:Nat):Int)==0&&(1:Int)==1&&(bV items.size items.size hi - bV items.size 0 lo)==items.size)=true):=by
  intro q;rw[ag,ag] at q;have q1:((bV items.size 0 lo:Nat):Int)=0:=eq_of_beq q.1.1;have q2:bV items.size items.size hi - bV items.size 0 lo=items.size:=eq_of_beq q.2;exact hw ⟨by omega,by omega⟩
 show wpAny _ _ (if (((bV items.size 0 lo:Nat):Int)==0&&(1:Int)==1&&(bV items.size items.size hi - bV items.size 0 lo)==items.size)=true then _ else _) _ _ s;rw[if_neg hno,xu]
 first
  | exact wpAny_bind (m:=Builtin.Tuple.tupleExact _) (wpAny_newObj_type (wpAny_pure ⟨_,rfl,wpAny_pure h⟩) htake)
  | exact wpAny_bind (m:=Builtin.Tuple.tupleExact _) (wpAny_newObj_type (wpAny_bind (wpAny_pure (wpAny_pure ⟨_,rfl,wpAny_pure h⟩))) htake)
  | exact wpAny_bind (wpAny_bind (m:=Builtin.Tuple.tupleExact _) (wpAny_newObj_type (wpAny_pure (wpAny_pure ⟨_,rfl,wpAny_pure h⟩)) htake))
  | exact wpAny_bind (wpAny_bind (m:=Builtin.Tuple.tupleExact _) (wpAny_newObj_type (wpAny_pure ⟨_,rfl,wpAny_pure h⟩) htake))
end
end HT
namespace L2
open PySem PySem.Spec PyProof.Rows
noncomputable abbrev TO:=St->Hp->(Option Int->Hp->Prop)->Prop
noncomputable def PO (X:Cx)(e:Option Expr)(t:TO):Prop :=
 ∀(pins:List (Addr×Obj)) (s:Shared) (σ:St) (H:Hp) (Q:Option Int->Hp->Prop),Inv X pins σ H s->t σ H Q ->
  wpAny (model X.prog X.w) X.A (evalPart e X.env) (fun u s'=>∃ o H',Inv X pins σ H' s'/\IsPart u o/\Q o H') X.xe s
noncomputable def zf:TO:=fun _ H Q=>Q none H
noncomputable def E4 (t:TE):TO:=fun σ H Q=>t σ H fun x H1=>∃ i,x = .int i/\Q (some i) H1
section
variable {X:Cx}{e:Expr}{te:TE}{lo hi:Option Expr}{tl th:TO}{pos p2:Pos}
theorem A8:PO X none zf:=by
 intro pins s σ H Q I h;rw[evalPart_none];exact wpAny_pure ⟨none,H,I,.none,h⟩
theorem zX (h:PE X e te):PO X (some e) (E4 te):=by
 intro pins s σ H Q I hw;rw[evalPart_some];refine cH (h pins s σ H _ I hw) fun u s1 ⟨x,H1,I1,r1,q1⟩=>?_
 obtain⟨i,rfl,q⟩:=q1;obtain⟨t,rfl⟩:=r1;exact⟨some i,H1,I1,.int i t,q⟩
noncomputable def B1 (X:Cx)(r:V->Option Int->Option Int->Hp->VK->Prop):Prop :=
 ∀(pins:List (Addr×Obj)) (s:Shared) (σ:St) (H:Hp) (x:V) (v vl vu:Value) (lo hi:Option Int) (sl:Addr) (Q:VK),Inv X pins σ H s->RelV x v->s.heap.IsSliceOf sl vl vu .none->IsPart vl lo->IsPart vu hi->r x lo hi H Q ->
  ∃ T id,typeLookup (.type T) "__getitem__" = pure (some (.builtin id))/\s.TypeIs v T/\wpAny (model X.prog X.w) X.A (getItem v (.ref sl)) (EP X pins σ Q) X.xe s
theorem B1.or {r r':V->Option Int->Option Int->Hp->VK->Prop}(h:B1 X r)(h':B1 X r'):B1 X (fun x lo hi H Q=>r x lo hi H Q\/r' x lo hi H Q):=by
 intro pins s σ H x v vl vu lo hi sl Q I rx hs pl pu q;rcases q with q | q
 .exact h pins s σ H x v vl vu lo hi sl Q I rx hs pl pu q
 .exact h' pins s σ H x v vl vu lo hi sl Q I rx hs pl pu q
def tSl (r:V->Option Int->Option Int->Hp->VK->Prop)(te:TE)(tl th:TO):TE:=fun σ H Q=>te σ H fun x H1=>tl σ H1 fun l H2=>th σ H2 fun u H3=>r x l u H3 Q
theorem xJ {r:V->Option Int->Option Int->Hp->VK->Prop}(hr:B1 X r)(he:PE X e te)(hl:PO X lo tl)(hu:PO X hi th):PE X (.Subscript e (.Slice lo hi none p2) pos) (tSl r te tl th):=by
 intro pins s σ H Q I h;refine Subscript_ (cH (he pins s σ H _ I h) fun v s1 ⟨x,H1,I1,r1,q1⟩=>?_);refine wpAny_Slice (cH (hl pins s1 σ H1 _ I1 q1) fun vl s2 ⟨l,H2,I2,pl,q2⟩=>cH (hu pins s2 σ H2 _ I2 q2) fun vu s3 ⟨u,H3,I3,pu,q3⟩=>?_);rw[evalPart_none];refine wpAny_pure ?_;have I4:Inv X pins σ H3 { s3 with heap:=s3.heap.push { cls:=.type "slice",data:=.fields #[vl,vu,.none] } }:=I3.kept (t':=s3.toks) fun b ob q=>Heap.get?_push_of_some _ q
 obtain⟨T,id,hT,ht,hg⟩:=hr pins { s3 with heap:=s3.heap.push { cls:=.type "slice",data:=.fields #[vl,vu,.none] } } σ H3 x v vl vu l u s3.heap.objs.size Q I4 r1 (Heap.IsSliceOf.new ..) pl pu q3;show wpAny (model X.prog X.w) X.A (subscriptTail e (.Slice lo hi none p2) v (.ref s3.heap.objs.size)) (EP X pins σ Q) X.xe { s3 with heap:=s3.heap.push { cls:=.type "slice",data:=.fields #[vl,vu,.none] } };exact tail_any (ops:=[.ref s3.heap.objs.size,v]) ht hT hg (by with_unfolding_all rfl)
noncomputable def pb (xs:List V)(lo hi:Option Int):List V:=(xs.drop (HT.bV xs.length 0 lo)).take (HT.bV xs.length xs.length hi - HT.bV xs.length 0 lo)
theorem kq (xs:List V)(lo hi:Option Int):(pb xs lo hi).length<=xs.length:=by
 unfold pb;rw[f7,i5];omega
def rSlT (K:PySem.W.Frag):V->Option Int->Option Int->Hp->VK->Prop:=fun x lo hi H Q=>∃ a xs,x = .ref a/\iT K H a xs /\
 ¬ (HT.bV xs.length 0 lo=0/\HT.bV xs.length xs.length hi=xs.length)/\∀ p,H p=none->Q (.ref p) (upd H p (.tup (pb xs lo hi)))
theorem sl_tup:B1 X (rSlT X.K):=by
 intro pins s σ H x v vl vu lo hi sl Q I rx hs pl pu h;obtain⟨a,xs,rfl,hx,hw,q⟩:=h;cases rx;obtain⟨its,r,ht,hz⟩:=I.tuple hx;have hlen:its.toArray.size=xs.length:=by rw[aj];exact r.length.symm
 refine⟨"tuple",_,PyProof.Rows.slot_tuple_getitem.lookup,ht.typeIs,?_⟩;refine HT.jz ht hs pl pu (by rw[hlen];exact hw) ?_ (by rw[hlen];exact hz);rw[hlen];refine⟨.ref s.heap.objs.size,_,I.laid (t':=s.toks) (o:=.tup (pb xs lo hi)) (fun b ob q=>Heap.get?_push_of_some _ q) (au _) ?_,rfl,q _ (I.hok.fresh (au _))⟩;exact⟨br (kq xs lo hi) hz,_,(r.drop (HT.bV xs.length 0 lo)).take (HT.bV xs.length xs.length hi - HT.bV xs.length 0 lo),IsTup.new _ _⟩
noncomputable def EH (K:PySem.W.Frag):R2:=fun x y H Q=>∃ a b xs ys,x = .ref a/\y = .ref b/\iT K H a xs/\iT K H b ys/\xs≠[]/\xs.length+ys.length<=sizeLine /\
 (ys=[]->Q (.ref a) H)/\(ys≠[]->∀ p,H p=none->Q (.ref p) (upd H p (.tup (xs++ys))))
theorem aL.nil_iff {xs:List V}{us:List Value}(r:aL xs us):us=[]↔xs=[]:=by
 cases r with
 |nil=>simp
 |cons _ _=>simp
theorem op_catT:gI X (binaryOp .Add) (EH X.K):=by
 intro pins s σ H x y v u Q I rx ry h;obtain⟨a,b,xs,ys,rfl,rfl,ha,hb,hx,hz,q1,q2⟩:=h;cases rx;cases ry;obtain⟨its,r1,p1,_⟩:=I.tuple ha;obtain⟨its2,r2,p2,_⟩:=I.tuple hb;refine HT.Ba p1 p2 (fun z=>hx (r1.nil_iff.mp z)) (fun z=>⟨.ref a,H,I,rfl,q1 (r2.nil_iff.mp z)⟩) (fun z=>?_) (by rw[<-r1.length,<-r2.length];exact hz);refine⟨.ref s.heap.objs.size,_,I.laid (t':=s.toks) (o:=.tup (xs++ys)) (fun b ob q=>Heap.get?_push_of_some _ q) (au _) ?_,rfl,q2 (fun w=>z (r2.nil_iff.mpr w)) _ (I.hok.fresh (au _))⟩;exact⟨by rw[aq];exact hz,_,r1.append r2,IsTup.new _ _⟩
end
end L2
namespace L2
open PySem PySem.Spec PyProof.Rows
noncomputable def fU (n:Nat)(i:Int):Option Nat:=if 0<=i then (if i<n then some i.toNat else none) else if -(n:Int)<=i then some (i+n).toNat else none
noncomputable def Av {α:Type}(xs:List α)(i:Int):Option α:=(fU xs.length i).bind fun j=>xs[j]?
variable {i:Int}{n:Nat}
theorem uu {j:Nat}(h:fU n i=some j):seqIndex? i n=some j/\j<n/\-(n:Int)<=i/\i<n:=by
 unfold fU at h;by_cases h0:0<=i
 .rw[if_pos h0] at h;by_cases h1:i<n
  .rw[if_pos h1] at h;have e:i.toNat=j:=cj h;exact⟨by rw[seqIndex_of h0 h1,e],by omega,by omega,h1⟩
  .rw[if_neg h1] at h;cases h
 .rw[if_neg h0] at h;by_cases h1 : -(n:Int)<=i
  .rw[if_pos h1] at h;have e:(i+n).toNat=j:=cj h;exact⟨by rw[seqIndex_neg (by omega) h1,e],by omega,h1,by omega⟩
  .rw[if_neg h1] at h;cases h
theorem nW {α:Type}{xs:List α}{v:α}(h:Av xs i=some v):∃ j,seqIndex? i xs.length=some j/\xs[j]? = some v/\j<xs.length/\-(xs.length:Int)<=i/\i<xs.length:=by
 unfold Av at h;cases e:fU xs.length i with
 |none=>rw[e] at h;cases h
 |some j =>
  rw[e] at h;obtain⟨h1,h2,h3,h4⟩:=uu e;exact⟨j,h1,h,h2,h3,h4⟩
def kJ (b:Expr):Prop:=∀ o i,subscripted b false o i=operate [o,i] (getItem o i)
noncomputable def zb (X:Cx)(r:R2):Prop :=
 ∀(value slice:Expr) (pins:List (Addr×Obj)) (s:Shared) (σ:St) (H:Hp) (x y:V) (v u:Value) (Q:VK),Inv X pins σ H s->RelV x v->RelV y u->r x y H Q ->
  subscripted slice false v u=operate [v,u] (getItem v u)->wpAny (model X.prog X.w) X.A (subscriptTail value slice v u) (EP X pins σ Q) X.xe s
noncomputable def MtR (X:Cx)(id:String)(r:V->List V->Hp->VK->Prop):Prop :=
 ∀(pins:List (Addr×Obj)) (s:Shared) (σ:St) (H:Hp) (x:V) (xs:List V) (v:Value) (us:List Value) (Q:VK),Inv X pins σ H s->RelV x v->aL xs us->r x xs H Q ->
  wpAny (model X.prog X.w) X.A (call (.builtin id) (v::us)) (EP X pins σ Q) X.xe s
variable {A:Around}{H:Hp}{p:Addr}{pins:List (Addr×Obj)}{r:R2}{s:Shared}{u v:Value}{x y:V}{xs:List V}
section
variable {X:Cx}{a b:Expr}{ta tb:TE}{pos:Pos}
theorem zb.or {r':R2}(h:zb X r)(h':zb X r'):zb X (fun x y H Q=>r x y H Q\/r' x y H Q):=by
 intro value slice pins s σ H x y v u Q I rx ry q hs;rcases q with q | q
 .exact h value slice pins s σ H x y v u Q I rx ry q hs
 .exact h' value slice pins s σ H x y v u Q I rx ry q hs
theorem BY (hr:zb X r)(ha:PE X a ta)(hb:PE X b tb)(hs:kJ b):PE X (.Subscript a b pos) (FN r ta tb):=by
 intro pins s σ H Q I h;exact Subscript_ (CZ ha hb I h fun v u s2 x y H2 I2 rx ry q=>hr a b pins s2 σ H2 x y v u Q I2 rx ry q (hs _ _))
noncomputable def rIxL (K:PySem.W.Frag):R2:=fun x y H Q=>∃ p xs i v,x = .ref p/\y = .int i/\iX K H p xs/\Av xs i=some v/\Q v H
noncomputable def rIxT (K:PySem.W.Frag):R2:=fun x y H Q=>∃ p xs i v,x = .ref p/\y = .int i/\iT K H p xs/\Av xs i=some v/\Q v H
noncomputable def rIxS:R2:=fun x y H Q=>∃ z i c,x = .str z/\y = .int i/\z.length<=sizeLine/\Av z.cps.toList i=some c/\Q (.str ⟨#[c]⟩) H
theorem uj:zb X (rIxL X.K):=by
 intro value slice pins s σ H x y v u Q I rx ry h hs;obtain⟨p,xs,i,z,rfl,rfl,hq,he,q⟩:=h;cases rx;obtain⟨t,rfl⟩:=ry;obtain⟨its,r,pl,hz⟩:=I.list hq;obtain⟨j,h1,h2,h3,h4,h5⟩:=nW he;obtain⟨w,ew,rw'⟩:=r.get h2;have hl:=r.length;have hn:=jm;have fin:EP X pins σ Q w s:=⟨z,H,I,rw',q⟩;by_cases h0:0<=i
 .have hj:i.toNat=j:=by
   rw[seqIndex_of h0 h5] at h1;exact cj h1
  exact item_listR pl.isList h0 (by omega) (by rw[hj];simpa using ew) fin hs
 .have hj:(i+(its.toArray.size:Int)).toNat=j:=by
   rw[seqIndex_neg (by omega) h4] at h1;rw[aj,<-hl];exact cj h1
  exact subscriptTail_builtinR (x:=w) pl.isList.typeIs slot_list_getitem.lookup
   (wpAny_getItem_list_neg (Q:=fun r s'=>r=w/\EP X pins σ Q r s') pl.isList (by omega) (by rw[List.size_toArray]<;>omega) (by omega) (by rw[hj];simpa using ew) ⟨rfl,fin⟩) hs
theorem yQ:zb X (rIxT X.K):=by
 intro value slice pins s σ H x y v u Q I rx ry h hs;obtain⟨p,xs,i,z,rfl,rfl,hq,he,q⟩:=h;cases rx;obtain⟨t,rfl⟩:=ry;obtain⟨its,r,pl,hz⟩:=I.tuple hq;obtain⟨j,h1,h2,h3,h4,h5⟩:=nW he;obtain⟨w,ew,rw'⟩:=r.get h2;have hl:=r.length;have hn:=jm;have fin:EP X pins σ Q w s:=⟨z,H,I,rw',q⟩;exact subscriptTail_builtinR (x:=w) pl.typeIs slot_tuple_getitem.lookup
  (getItem_tuple (j:=j) (Q:=fun r s'=>r=w/\EP X pins σ Q r s') pl (by omega) (by omega) (by rw[List.size_toArray,<-hl];exact h1) (by simpa using ew) ⟨rfl,fin⟩) hs
theorem D9:zb X rIxS:=by
 intro value slice pins s σ H x y v u Q I rx ry h hs;obtain⟨z,i,c,rfl,rfl,hz,he,q⟩:=h;obtain⟨t,rfl⟩:=rx;obtain⟨t',rfl⟩:=ry;obtain⟨j,h1,h2,h3,h4,h5⟩:=nW he;have hl:z.cps.toList.length=z.length:=by simp[Str.length]
 rw[hl] at h1 h4 h5;have hn:=jm;exact tail_any (typeIs_str s z t) slot_str_getitem.lookup (getItem_str (c:=c) (by
  have e1:decide (i < -(2 ^ 63:Int))=false:=bj (by omega);have e2:decide (i ≥ 2 ^ 63)=false:=bj (by omega);rw[e1,e2,Bool.or_false]) (by rw[h1];simpa using h2) ⟨.str ⟨#[c]⟩,H,I.tok _,⟨_,rfl⟩,q⟩) hs
theorem rz (its:List Value)(n j:Nat)(u:Value):Obj.mapSeq (·.setIfInBounds j u) { cls:=.type "list",data:=.seq its.toArray n }={ cls:=.type "list",data:=.seq (its.set j u).toArray n }:=by
 simp[Obj.mapSeq]
theorem Inv.lst {σ:St}(I:Inv X pins σ H s)(h:H p=some (.lst xs)) :
  ∃(its:List Value) (n:Nat),aL xs its/\s.heap.get? p=some { cls:=.type "list",data:=.seq its.toArray n }/\xs.length<=sizeLine:=by
 obtain⟨z,its,n,r,e⟩:=I.hok p _ h;exact⟨its,n,r,e,z⟩
theorem Inv.lstUpd {σ:St}{ys:List V}{its its':List Value}{n':Nat}{f:Obj->Obj}(I:Inv X pins σ H s)(h:H p=some (.lst xs))
  (ho:s.heap.get? p=some { cls:=.type "list",data:=.seq its.toArray n }) (hf:f { cls:=.type "list",data:=.seq its.toArray n }={ cls:=.type "list",data:=.seq its'.toArray n' }) (r:aL ys its') (hz:ys.length<=sizeLine) (t:Nat) :
  Inv X pins σ (upd H p (.lst ys)) { s with heap:=s.heap.update p f,toks:=t }:=by
 have e:(s.heap.update p f).get? p=some { cls:=.type "list",data:=.seq its'.toArray n' }:=by
  rw[Heap.get?_update_self f ho (by rw[hf]<;>rfl),hf]
 refine I.write (x:=p) (e:=p) (by rw[h];trivial) (.inl rfl) (fun b u hb q=>(Heap.get?_update_other _ _ (df hb)).trans q) ⟨_,e⟩ ?_;exact⟨hz,its',n',r,e⟩
def BR:V->V->V->Hp->(Hp->Prop)->Prop:=fun o i v H Q=>∃ p xs k j,o = .ref p/\i = .int k/\H p=some (.lst xs)/\fU xs.length k=some j/\Q (upd H p (.lst (xs.set j v)))
theorem set_list:EE X BR:=by
 intro pins s σ H o i v ov iv u Q I ro ri rv h;obtain⟨p,xs,k,j,rfl,rfl,hp,hj,q⟩:=h;cases ro;obtain⟨t,rfl⟩:=ri;obtain⟨its,n,r,ho,hz⟩:=I.lst hp;obtain⟨h1,h2,h3,h4⟩:=uu hj;have hl:=r.length;have hn:=jm;have I':Inv X pins σ (upd H p (.lst (xs.set j v))) { s with heap:=s.heap.update p (Obj.mapSeq (·.setIfInBounds j u)) } :=
  I.lstUpd hp ho (rz its n j u) (r.set rv j) (by rw[cv];exact hz) s.toks
 by_cases h0:0<=k
 .have hk:k.toNat=j:=by
   rw[seqIndex_of h0 h4] at h1;exact cj h1
  exact PySem.W.ki_setAt ho h0 (by omega) (by rw[aj,<-hl];exact h4) (by rw[hk];exact⟨_,I',q⟩)
 .have hk:(k+(its.toArray.size:Int)).toNat=j:=by
   rw[seqIndex_neg (by omega) h3] at h1;rw[aj,<-hl];exact cj h1
  exact PySem.W.ki_setBack ho (by omega) (by rw[aj,<-hl];exact h3) (by omega) (by rw[hk];exact⟨_,I',q⟩)
theorem oS (lo hi:Option Int)(n:Nat):(sliceBounds lo hi none n).1=((HT.bV n 0 lo:Nat):Int)/\(sliceBounds lo hi none n).2.1=((HT.bV n n hi:Nat):Int)/\(sliceBounds lo hi none n).2.2=1:=by
 refine⟨?_,?_,rfl⟩
 .cases lo with
  |none=>simp[sliceBounds,HT.bV]
  |some i =>
   simp only[sliceBounds,HT.bV,Option.getD_none,show (1:Int) > 0 by decide,if_true];by_cases h:i<0
   .simp only[h,if_true]<;>omega
   .simp only[h,if_false]<;>omega
 .cases hi with
  |none=>simp[sliceBounds,HT.bV]
  |some i =>
   simp only[sliceBounds,HT.bV,Option.getD_none,show (1:Int) > 0 by decide,if_true];by_cases h:i<0
   .simp only[h,if_true]<;>omega
   .simp only[h,if_false]<;>omega
theorem mf (its:List Value)(lo hi:Option Int):slicePick its.toArray lo hi none=((its.drop (HT.bV its.length 0 lo)).take (HT.bV its.length its.length hi - HT.bV its.length 0 lo)).toArray:=by
 obtain⟨h1,h2,h3⟩:=oS lo hi its.toArray.size;unfold slicePick;rw[h1,h2,h3];simp only[sliceRange_one,pick_run,List.size_toArray]<;>rfl
def rSlL (K:PySem.W.Frag):V->Option Int->Option Int->Hp->VK->Prop:=fun x lo hi H Q=>∃ a xs,x = .ref a/\iX K H a xs/\∀ p,H p=none->Q (.ref p) (upd H p (.lst (pb xs lo hi)))
theorem Bn:B1 X (rSlL X.K):=by
 intro pins s σ H x v vl vu lo hi sl Q I rx hs pl pu h;obtain⟨a,xs,rfl,hx,q⟩:=h;cases rx;obtain⟨its,r,ht,hz⟩:=I.list hx;have hlen:=r.length;refine⟨"list",_,slot_list_getitem.lookup,ht.isList.typeIs,?_⟩;refine wpAny_getItem_list_slice ht.isList hs pl pu .none (by simp) ?_ (by rw[List.size_toArray]<;>omega);rw[mf,<-hlen];refine⟨.ref s.heap.objs.size,_,I.laid (t':=s.toks) (o:=.lst (pb xs lo hi)) (fun b ob q=>Heap.get?_push_of_some _ q) (au _) ?_,rfl,q _ (I.hok.fresh (au _))⟩;exact⟨br (kq xs lo hi) hz,_,0,(r.drop (HT.bV xs.length 0 lo)).take (HT.bV xs.length xs.length hi - HT.bV xs.length 0 lo),Heap.get?_push_size _ rfl⟩
noncomputable def hU:V->Bool
 |.non=>true
 |.bl _=>true
 |.int _=>true
 |.str _=>true
 |_=>false
noncomputable def zc:V->V->Bool
 |.non,.non=>true
 |.bl a,.bl b=>a==b
 |.bl a,.int b=>(if a then 1 else 0)==b
 |.int a,.bl b=>a==(if b then 1 else 0)
 |.int a,.int b=>a==b
 |.str a,.str b=>a==b
 |_,_=>false
theorem Dt (ry:RelV y u)(rx:RelV x v)(fy:hU y=true)(fx:hU x=true):SeqAt.EqAt A s u v (zc y x):=by
 cases y with
 |non =>
  cases ry;cases x with
  |non=>cases rx;exact SeqAt.EqAt.same _
  |bl b=>cases rx;exact SeqAt.EqAt.none_bool b
  |int b=>obtain⟨t,rfl⟩:=rx;exact SeqAt.EqAt.none_int b t
  |str b=>obtain⟨t,rfl⟩:=rx;exact SeqAt.EqAt.none_str b t
  |_=>exact absurd (show false=true from fx) az
 |bl a =>
  cases ry;cases x with
  |non=>cases rx;exact SeqAt.EqAt.bool_none a
  |bl b=>cases rx;exact SeqAt.EqAt.bool_bool a b
  |int b=>obtain⟨t,rfl⟩:=rx;exact SeqAt.EqAt.bool_int a b t
  |str b=>obtain⟨t,rfl⟩:=rx;exact SeqAt.EqAt.bool_str a b t
  |_=>exact absurd (show false=true from fx) az
 |int a =>
  obtain⟨t',rfl⟩:=ry;cases x with
  |non=>cases rx;exact SeqAt.EqAt.int_none a t'
  |bl b=>cases rx;exact SeqAt.EqAt.int_bool a t' b
  |int b=>obtain⟨t,rfl⟩:=rx;exact SeqAt.EqAt.int_int a t' b t
  |str b=>obtain⟨t,rfl⟩:=rx;exact SeqAt.EqAt.int_str a t' b t
  |_=>exact absurd (show false=true from fx) az
 |str a =>
  obtain⟨t',rfl⟩:=ry;cases x with
  |non=>cases rx;exact SeqAt.EqAt.str_none a t'
  |bl b=>cases rx;exact SeqAt.EqAt.str_bool a t' b
  |int b=>obtain⟨t,rfl⟩:=rx;exact SeqAt.EqAt.str_int a t' b t
  |str b=>obtain⟨t,rfl⟩:=rx;exact SeqAt.EqAt.str_str a t' b t
  |_=>exact absurd (show false=true from fx) az
 |_=>exact absurd (show false=true from fy) az
noncomputable def qO (x:V)(u:Value):Bool:=match u with
 |.none=>zc .non x
 |.bool b=>zc (.bl b) x
 |.int i _=>zc (.int i) x
 |.str z _=>zc (.str z) x
 |_=>false
theorem xt (r:RelV y u)(f:hU y=true):qO x u=zc y x:=by
 cases y with
 |non=>cases r;rfl
 |bl b=>cases r;rfl
 |int i=>obtain⟨t,rfl⟩:=r;rfl
 |str z=>obtain⟨t,rfl⟩:=r;rfl
 |_=>exact absurd (show false=true from f) az
theorem jy:∀{xs:List V}{us:List Value},aL xs us->xs.all hU=true->us.any (qO x)=xs.any fun y=>zc y x
 |_,_,.nil,_=>rfl
 | y::xs,u::us,.cons r t,f=>by
  rw[dz,ag] at f;rw[dw,dw,xt r f.1,jy t f.2]
theorem gT (rx:RelV x v)(fx:hU x=true):∀{xs:List V}{us:List Value},aL xs us->xs.all hU=true->∀ u∈us,SeqAt.EqAt A s u v (qO x u)
 |_,_,.nil,_=>fun u hu=>by cases hu
 | y::xs,u::us,.cons r t,f=>fun u' hu=>by
  rw[dz,ag] at f;rcases cg.mp hu with rfl | hu
  .rw[xt r f.1];exact Dt r rx f.1 fx
  .exact gT rx fx t f.2 u' hu
noncomputable def inV (x:V)(xs:List V):Bool:=xs.any fun y=>zc y x
noncomputable def rIn (K:PySem.W.Frag)(neg:Bool):R2:=fun x y H Q=>∃ p xs,y = .ref p/\(iX K H p xs\/iT K H p xs)/\hU x=true/\xs.all hU=true/\Q (.bl (if neg then !inV x xs else inV x xs)) H
theorem nK:gI X (compareOp .In) (rIn X.K false):=by
 intro pins s σ H x y v u Q I rx ry h;obtain⟨p,xs,rfl,hq,fx,fs,q⟩:=h;cases ry;rcases hq with hq | hq
 .obtain⟨its,r,pl,hz⟩:=I.list hq;refine SeqAt.in_listAt (qO x) pl.isList (fun w hw=>gT rx fx r fs w (by simpa using hw)) ⟨.bl _,H,I,rfl,?_⟩;rw[show its.toArray.any (qO x)=its.any (qO x) by simp,jy r fs];exact q
 .obtain⟨its,r,pl,hz⟩:=I.tuple hq;refine SeqAt.in_tupleAt (qO x) pl (fun w hw=>gT rx fx r fs w (by simpa using hw)) ⟨.bl _,H,I,rfl,?_⟩;rw[show its.toArray.any (qO x)=its.any (qO x) by simp,jy r fs];exact q
theorem jG:gI X (compareOp .NotIn) (rIn X.K true):=by
 intro pins s σ H x y v u Q I rx ry h;obtain⟨p,xs,rfl,hq,fx,fs,q⟩:=h;cases ry;rcases hq with hq | hq
 .obtain⟨its,r,pl,hz⟩:=I.list hq;refine SeqAt.notIn_listAt (qO x) pl.isList (fun w hw=>gT rx fx r fs w (by simpa using hw)) ⟨.bl _,H,I,rfl,?_⟩;rw[show its.toArray.any (qO x)=its.any (qO x) by simp,jy r fs];exact q
 .obtain⟨its,r,pl,hz⟩:=I.tuple hq;refine SeqAt.notIn_tupleAt (qO x) pl (fun w hw=>gT rx fx r fs w (by simpa using hw)) ⟨.bl _,H,I,rfl,?_⟩;rw[show its.toArray.any (qO x)=its.any (qO x) by simp,jy r fs];exact q
theorem oN:gI X (compareOp .NotIn) (fun x y H Q=>∃ i j,x = .str i/\y = .str j/\Q (.bl (!(!(Builtin.Str.occurrences j i 0 j.length 1).isEmpty))) H):=by
 intro pins s σ H x y v u Q I rx ry h;obtain⟨i,j,rfl,rfl,q⟩:=h;obtain⟨t,rfl⟩:=rx;obtain⟨t',rfl⟩:=ry;exact notIn_str ⟨.bl _,H,I,rfl,q⟩
theorem jx:eR X (.builtin "len") (fun xs H Q=>∃ p ys,xs=[.ref p]/\(iX X.K H p ys\/iT X.K H p ys)/\Q (.int ys.length) H):=by
 intro pins s σ H xs us Q I r h;obtain⟨p,ys,rfl,hq,q⟩:=h;obtain⟨u,rfl,rx⟩:=vals1 r;cases rx;have hn:=jm;rcases hq with hq | hq
 .obtain⟨its,r',pl,hz⟩:=I.list hq;have hlen:=r'.length;exact Calls.call_len_list pl.isList (by simp only[List.size_toArray]<;>omega) ⟨.int ys.length,H,I.tok _,⟨s.toks+1,by rw[List.size_toArray,hlen]⟩,q⟩
 .obtain⟨its,r',pl,hz⟩:=I.tuple hq;have hlen:=r'.length;exact len_tuple pl (by simp only[List.size_toArray]<;>omega) ⟨.int ys.length,H,I.tok _,⟨s.toks+1,by rw[List.size_toArray,hlen]⟩,q⟩
theorem om:eR X (.builtin "len") (fun xs H Q=>∃ z,xs=[.str z]/\z.length<=sizeLine/\Q (.int z.length) H):=by
 intro pins s σ H xs us Q I r h;obtain⟨z,rfl,hz,q⟩:=h;obtain⟨u,rfl,t,rfl⟩:=vals1 r;have hn:=jm;exact len_str (by omega) ⟨.int z.length,H,I.tok _,⟨_,rfl⟩,q⟩
theorem jE:eR X (.type "list") (fun xs H Q=>∃ p ys,xs=[.ref p]/\(iX X.K H p ys\/iT X.K H p ys)/\∀ l,H l=none->Q (.ref l) (upd H l (.lst ys))):=by
 intro pins s σ H xs us Q I r h;obtain⟨p,ys,rfl,hq,q⟩:=h;obtain⟨u,rfl,rx⟩:=vals1 r;cases rx;have fin:∀(its:List Value),aL ys its->ys.length<=sizeLine->∀(h':Heap) (c':Nat),(∀ b o',s.heap.get? b=some o'->h'.get? b=some o') ->
   h'.get? s.heap.objs.size=some { cls:=.type "list",dict:=none,data:=.seq its.toArray c',slots:=#[] }->EP X pins σ Q (.ref s.heap.objs.size) { s with heap:=h' }:=fun its r' hz h' c' kp e =>
  ⟨.ref s.heap.objs.size,_,I.laid (t':=s.toks) kp (au _) (show bZ X.prog X.w _ h' _ (.lst ys) from ⟨hz,its,c',r',e⟩),rfl,q _ (I.hok.fresh (au _))⟩
 rcases hq with hq | hq
 .obtain⟨its,r',pl,hz⟩:=I.list hq;have hlen:=r'.length;obtain⟨o,ho,hc,n,hd⟩:=pl.isList;exact call_list_seq p (.inl rfl) ho hc hd (fun h' c' kp e=>fin its r' hz h' c' kp e) (by simp only[List.size_toArray]<;>omega)
 .obtain⟨its,r',pl,hz⟩:=I.tuple hq;have hlen:=r'.length;obtain⟨o,ho,hc,n,hd⟩:=pl;exact call_list_seq p (.inr rfl) ho hc hd (fun h' c' kp e=>fin its r' hz h' c' kp e) (by simp only[List.size_toArray]<;>omega)
def tyV (K:PySem.W.Frag)(T:String)(x:V)(H:Hp):Prop:=match x with
 |.str _=>T = "str"
 |.int _=>T = "int"
 | .ref p=>(T = "list"/\∃ xs,iX K H p xs)\/(T = "tuple"/\∃ o,K.lookup p=some o/\o.cls = .type "tuple"/\o.dict=none) \/
   (T = "dict"/\((∃ kvs,H p=some (.dK kvs))\/∃ kvs,H p=some (.dT kvs)))\/(T = "set"/\∃ S n,H p=some (.set S n))
 |_=>False
theorem vX {σ:St}{T:String}(I:Inv X pins σ H s)(r:RelV x v)(ty:tyV X.K T x H) :
  s.TypeIs v T/\∀ a,v = .ref a->∃ ob,s.heap.get? a=some ob/\ob.dict=none:=by
 cases x with
 |str z =>
  obtain⟨t,rfl⟩:=r;cases (show T = "str" from ty);exact⟨typeIs_str s z t,fun _ e=>nomatch e⟩
 |int i =>
  obtain⟨t,rfl⟩:=r;cases (show T = "int" from ty);exact⟨typeIs_int s i t,fun _ e=>nomatch e⟩
 |ref p =>
  cases r;rcases ty with ⟨rfl,xs,hq⟩ | ⟨rfl,o,hk,hc,hd⟩ | ⟨rfl,hk⟩ | ⟨rfl,S,n,hk⟩
  .obtain⟨its,_,pl,_⟩:=I.list hq;refine⟨pl.isList.typeIs,fun a e=>?_⟩;cases e;obtain⟨o,n,e,c,hd,_⟩:=pl;exact⟨o,e,hd⟩
  .refine⟨⟨o,I.kIn p o hk,hc⟩,fun a e=>?_⟩;cases e;exact⟨o,I.kIn _ o hk,hd⟩
  .have z:∃ o,s.heap.get? p=some o/\o.ExactDict:=by
    rcases hk with ⟨kvs,hk⟩ | ⟨kvs,hk⟩
    .obtain⟨_,_,_,_,o,_,_,e,ex,_⟩:=I.hok p _ hk;exact⟨o,e,ex⟩
    .obtain⟨_,_,_,_,o,_,_,e,ex,_⟩:=I.hok p _ hk;exact⟨o,e,ex⟩
   obtain⟨o,e,ex⟩:=z;refine⟨⟨o,e,ex.1⟩,fun a e2=>?_⟩;cases e2;exact⟨o,e,ex.2.1⟩
  .obtain⟨o,_,_,_,e,ex,_⟩:=I.hok p _ hk;refine⟨⟨o,e,ex.1⟩,fun a e2=>?_⟩;cases e2;exact⟨o,e,ex.2.1⟩
 |_=>exact False.elim ty
def EV (K:PySem.W.Frag)(T:String)(r:V->List V->Hp->VK->Prop)(to:TE):TE:=fun σ H Q=>to σ H fun x H1=>tyV K T x H1/\r x [] H1 Q
def tBM (K:PySem.W.Frag)(T:String)(r:V->List V->Hp->VK->Prop)(to:TE)(t:TA):TE:=fun σ H Q=>to σ H fun x H1=>tyV K T x H1/\t σ H1 fun xs H2=>r x xs H2 Q
variable {o e:Expr}{es:List Expr}{to:TE}{t:TA}{name:Str}{apos cpos:Pos}{T id:String}{r:V->List V->Hp->VK->Prop}
theorem DG (pa:PlainAttrs T)(slot:Slot T name id)(hty:typeOf (.builtin id)=pure (.type "method_descriptor")) (hm:MtR X id r) (ho:PE X o to)
  (hbase:attributeBase o name X.env (eval o X.env)=eval o X.env:=by rfl) (hline:(apos.endLine==cpos.line)=true:=by rfl):PE X (.Call (.Attribute o name apos) [] [] cpos) (EV X.K T r to):=by
 intro pins s σ H Q I h;refine wpAny_Call_method0_late hbase hline (cH (ho pins s σ H _ I h) fun v s1 ⟨x,H1,I1,r1,ty,q1⟩=>?_);obtain⟨h1,h2⟩:=vX I1 r1 ty;exact⟨T,id,pa,slot,hty,h1,h2,Calls.callWith_builtin rfl (PySem.evalArgs_none (hm pins s1 σ H1 x [] v [] Q I1 r1 .nil q1))⟩
theorem BI (pa:PlainAttrs T)(slot:Slot T name id)(hty:typeOf (.builtin id)=pure (.type "method_descriptor")) (hm:MtR X id r) (ho:PE X o to) (ha:PA X (e::es) t)
  (hbase:attributeBase o name X.env (eval o X.env)=eval o X.env:=by rfl)
  (hfew:((backTo cpos (starEach (e::es) X.env)).all (fun x=>!x.1)&&(backToKw cpos (keywordEach [] X.env)).all (fun x=>x.1.isSome)
   && decide ((e::es).length+([]:List Keyword).length+(if ([]:List Keyword).isEmpty then 0 else 1)<30))=true:=by rfl)
  (hline:(apos.endLine==cpos.line)=true:=by rfl) (hs:starEach (e::es) X.env=(false,eval e X.env)::starEach es X.env:=by rfl) (hplain:(backTo cpos (starEach es X.env)).any (·.1)=false:=by rfl) :
  PE X (.Call (.Attribute o name apos) (e::es) [] cpos) (tBM X.K T r to t):=by
 intro pins s σ H Q I h;refine wpAny_Call_method_late hbase hfew hline rfl (cH (ho pins s σ H _ I h) fun v s1 ⟨x,H1,I1,r1,ty,q1⟩=>?_);obtain⟨h1,h2⟩:=vX I1 r1 ty;refine⟨T,id,pa,slot,hty,h1,h2,?_⟩;have hA:=ha cpos pins s1 σ H1 _ I1 q1;rw[hs] at hA ⊢;refine Calls.callWith_builtin (by show (false || (backTo cpos (starEach es X.env)).any (·.1))=false;rw[hplain]<;>rfl) (Calls.evalArgs_plain ?_);exact cH hA fun us s2 ⟨vs,H2,I2,r2,q2⟩=>hm pins s2 σ H2 x vs v us Q I2 r1 r2 q2
end
end L2
namespace L2
open PySem PySem.Spec PyProof.Rows
noncomputable def MtM (X:Cx)(id:String)(r:V->List V->Hp->VK->Prop):Prop :=
 ∀(pins:List (Addr×Obj)) (s:Shared) (σ:St) (H:Hp) (x:V) (xs:List V) (v:Value) (us:List Value) (Q:VK),Inv X pins σ H s->RelV x v->aL xs us->r x xs H Q ->
  wpAny (model X.prog X.w) X.A (call (.builtin id) (v::us)) (EP X pins σ Q) X.xe s
theorem aL.one:∀{x:V}{us:List Value},aL [x] us->∃ u,us=[u]/\RelV x u
 |_,_,.cons r .nil=>⟨_,rfl,r⟩
theorem aL.two:∀{x y:V}{us:List Value},aL [x,y] us->∃ u v,us=[u,v]/\RelV x u/\RelV y v
 | _,_,_,.cons r (.cons q .nil)=>⟨_,_,rfl,r,q⟩
theorem aL.rep {xs:List V}{us:List Value}(h:aL xs us):∀ k:Nat,aL (List.replicate k xs).flatten (List.replicate k us).flatten
 |0=>.nil
 | k+1=>by
  rw[de,de,c8,c8];exact aL.append h (aL.rep h k)
theorem foldl_rep (its:List Value):∀(k:Nat) (acc:List Value),
  List.foldl (fun x1 x2=>x1++x2) acc.toArray (List.replicate k its.toArray)=(acc++(List.replicate k its).flatten).toArray
 |0,acc=>by simp
 | k+1,acc=>by
  have e:acc.toArray++its.toArray=(acc++its).toArray:=by simp
  have e2:(acc++its)++(List.replicate k its).flatten=acc++(List.replicate (k+1) its).flatten:=by
   rw[de,c8,dh]
  rw[<-e2,<-foldl_rep its k (acc++its),<-e,de,jd]
variable {n:Nat}
section
variable {X:Cx}{pins:List (Addr×Obj)}{σ:St}{H:Hp}{s:Shared}{l b:Addr}{xs ys zs:List V}
theorem Inv.lset {its its':List Value}{f:Array Value->Array Value}{t':Nat}(I:Inv X pins σ H s)(hH:H l=some (.lst xs))
  (e:s.heap.get? l=some { cls:=.type "list",data:=.seq its.toArray n }) (hf:f its.toArray=its'.toArray) (hv:aL ys its') (hz:ys.length<=sizeLine) :
  Inv X pins σ (upd H l (.lst ys)) { s with heap:=s.heap.update l (Obj.mapSeq f),toks:=t' }:=by
 have q:=PySem.IsL.update e f;rw[hf] at q;refine I.write (x:=l) (e:=l) (by rw[hH];exact trivial) (.inl rfl) (fun b' u hb hu=>(Heap.get?_update_other s.heap (Obj.mapSeq f) (df hb)).trans hu) ⟨_,q⟩ ?_;exact⟨hz,its',_,hv,q⟩
theorem Inv.lnew {its:List Value}{t':Nat}(I:Inv X pins σ H s)(hv:aL ys its)(hz:ys.length<=sizeLine) :
  Inv X pins σ (upd H s.heap.objs.size (.lst ys)) { s with heap:=s.heap.push { cls:=.type "list",data:=.seq its.toArray },toks:=t' } :=
 I.laid (fun _ _ q=>Heap.get?_push_of_some _ q) (au _) ⟨hz,its,0,hv,Heap.get?_push_size _ rfl⟩
theorem Inv.fresh (I:Inv X pins σ H s):H s.heap.objs.size=none:=I.hok.fresh (au _)
theorem Inv.lstM (I:Inv X pins σ H s)(hH:H l=some (.lst xs)):xs.length<=sizeLine/\∃(its:List Value) (n:Nat),aL xs its/\xs.length=its.length/\s.heap.get? l=some { cls:=.type "list",data:=.seq its.toArray n }:=by
 obtain⟨z,its,n,r,e⟩:=I.hok l _ hH;exact⟨z,its,n,r,r.length,e⟩
theorem pW (h:n<=sizeLine):Builtin.List.listTooLong n=false:=by
 unfold Builtin.List.listTooLong;exact bj (by omega)
end
section
variable {X:Cx}
def zg:V->List V->Hp->VK->Prop:=fun x vs H Q=>∃ l xs y,x = .ref l/\vs=[y]/\H l=some (.lst xs)/\xs.length<sizeLine/\Q .non (upd H l (.lst (xs ++ [y])))
theorem nR:MtM X "list.append" zg:=by
 intro pins s σ H x vs v us Q I rx rv h;obtain⟨l,xs,y,rfl,rfl,hH,hz,q⟩:=h;cases rx;obtain⟨u,rfl,ru⟩:=rv.one;obtain⟨z,its,n,r,hl,e⟩:=I.lstM hH;refine call_meets F.slot_list_append ⟨_,e,rfl⟩ F.entry_list_append (F.args_list_append_2 _ _) (PySem.list_append l its.toArray n u (by rw[aj];omega)) ⟨e,?_⟩;refine⟨.non,_,I.lset (its':=its ++ [u]) hH e (by simp) (r.append (.cons ru .nil)) ?_,rfl,q⟩;rw[aq,dq];omega
theorem len_rep {α:Type}(xs:List α)(k:Nat):(List.replicate k xs).flatten.length=k*xs.length:=by
 induction k with
 |zero=>simp
 |succ k ih=>rw[de,c8,aq,ih,Nat.succ_mul,Nat.add_comm]
end
section
variable {prog:Program}{w:World}{A:Around}{E:Value->Shared->Prop}{s:Shared}
end
section
variable {X:Cx}
end
end L2
namespace Att
open PySem PySem.W PySem.Calls PyProof.Rows
variable {P:Params}{h:Heap}
theorem kA:∀(ns:List Int) (vs:List Value),WellAll P h vs (ns.map WData.int)->IntsAre vs ns:=by
 intro ns
 induction ns with
 |nil =>
  intro vs w;rw[da] at w;cases w;exact .nil
 |cons n ns ih =>
  intro vs w;rw[ao] at w;cases w with
  |cons a b =>
   cases a;exact .cons _ _ (ih _ b)
variable {l:OpenLaw}{n:Nat}
theorem vn (hn:l.most=some n){args:List WData}{vals:List Value}
  (hpre:l.row.toRowW.claim.pre args=true) (hwl:WellAll P h vals args) :
  ∃ a vs ns,vals=[Value.ref a]/\args=[WData.list (ns.map WData.int)]/\h.get? a=some { cls:=.type "list",data:=.seq vs.toArray }/\IntsAre vs ns/\ns.length<=n:=by
 have hsh:WShape.hasAll [] args [.list .int]=true:=(pre_splitW hpre).1;have hc:l.pre.holds [] { args:=args }=true:=(pre_splitW hpre).2;obtain⟨d,r,rfl,h1,h2⟩:=hasAllW_cons hsh;obtain rfl:=hasAllW_nil h2;obtain⟨xs,rfl,h3⟩:=hasW_list h1;obtain⟨ns,rfl⟩:=items_int h3;have hlen:ns.length<=n:=by
  unfold OpenLaw.pre at hc;have h4:(WTm.not (.lt (.lit (.int (n:Int))) (.len (.arg 0)))).holds [] { args:=[.list (ns.map .int)] }=true:=by
   have h4:=(holds_andW hc).1;rw[hn] at h4;exact h4
  have h5:=condW_of h4 (w_not (w_lt w_lit (w_len_list (w_arg rfl))));rw[ab] at h5;refine iz fun q=>?_
  have q':(n:Int)<((ns.length:Nat):Int):=by omega
  first
   | (rw[c9 q'] at h5;exact absurd h5 (by decide))
   | (simp at h5;omega)
 cases hwl with
 |cons w1 w2 =>
  cases w2;cases w1 with
  |list ho hall=>exact⟨_,_,ns,rfl,rfl,ho,kA ns _ hall,hlen⟩
theorem uD (l:OpenLaw)(args:List WData):l.row.toRowW.claim.post args (.bool true) args=true :=
 postW_of (r:=l.row.toRowW) (X:=(true==true))
  (show WShape.has [] (.bool true) .bool=true by first | rfl | decide | simp[WShape.has,WShape.arms,WShape.armsAll])
  (show (WTm.eq .res (.lit (.bool true))).value [] { args:=args,res:=some (.bool true),after:=args }=some (.bool (true==true)) from w_eq_bool (w_res rfl) w_lit) rfl
theorem pU {q:Program}{loose:List Str}{XP:(Str->Option Value)->Heap->Prop}{YP:World->Heap->Prop}{d:DefRec}
  (hn:l.most=some n) (hdf:d.params.defaults=[])
  (call:∀(w:World) (s₀ s₁:Shared) (mg mb:Str->Option Value) (fa:Addr) (o:Obj) (pm cd doc:Value) (a:Addr) (vs:List Value) (ns:List Int),
   Ground q loose [] XP w s₀ mg mb s₁.heap->YP w s₁.heap ->
   s₁.heap.get? fa=some o->o.data = .func (docDef d.name d.params d.body d.scope pm cd doc)->s₁.heap.CodeRec cd d.name->mg d.name=some (.ref fa) ->
   s₁.heap.get? a=some { cls:=.type "list",data:=.seq vs.toArray }->IntsAre vs ns->ns.length<=n->s₁.gens = #[] ->
   codeAny (model l.prog w) callerA (.call (.ref fa) ⟨[.ref a],[]⟩) (fun r s'=>r = .ok (.ret (.bool true))/\OldK s₁.heap s'.heap/\s'.os=s₁.os/\AllBare s'.gens) s₁) :
  WalkO q loose XP YP l.row.toRowW d [] (fun f vs=>PySem.call f vs):=by
 intro w s₀ s₁ mg mb G Y fa o pm cd doc dV kV ho hd hcd hD hmg hg args vals as hpre hlay hrd hwl hlo;obtain rfl:dV = .none:=Dflts.none hD hdf;obtain rfl:kV = .none:=Dflts.noKw hD;obtain⟨a,vs,ns,rfl,rfl,hobj,hints,hlen⟩:=vn hn hpre hwl;refine enter_call (codeAny_mono (call w s₀ s₁ mg mb fa o pm cd doc a vs ns G Y ho (fd_plain hd) hcd hmg hobj hints hlen hg) fun r s' hq=>?_);obtain⟨rfl,h2,h3,h4⟩:=hq;exact⟨.inl ⟨.bool true,.bool true,[],rfl,fun _=>rfl,.bool true,uD l _,fun _=>⟨List.Pairwise.nil,fun _ hm=>(nomatch hm)⟩⟩,h2,h3,h4⟩
variable {L:Addr}
section
variable {prog:Program}{w:World}{A:Around}{E:Value->Shared->Prop}{s:Shared}{K:Frag}
noncomputable def kT (h:Heap):Heap:={ h with objs:=#[] }
theorem jh (h:Heap)(b:Addr):(kT h).get? b=none:=by
 cases e:(kT h).get? b with
 |none=>rfl
 |some o=>exact absurd (Heap.lt_size e) (ja _)
noncomputable def ledger (h:Heap)(L d:Addr):List (Addr×Obj):=(List.range h.objs.size).filterMap fun a=>if a=L\/a=d then none else (h.get? a).map fun o=>(a,o)
theorem cW {d a:Addr}{o:Obj}:(a,o)∈ledger h L d↔a≠L/\a≠d/\h.get? a=some o:=by
 unfold ledger;rw[List.mem_filterMap];constructor
 .rintro⟨b,_,e⟩;split at e
  .cases e
  .rename_i hb;obtain⟨o',ho,e'⟩:=aa.mp e;cases e';exact⟨fun q=>hb (.inl q),fun q=>hb (.inr q),ho⟩
 .rintro⟨n1,n2,ho⟩;refine⟨a,List.mem_range.mpr (Heap.lt_size ho),?_⟩;rw[if_neg (show ¬ (a=L\/a=d) from fun q=>q.elim n1 n2),ho]<;>rfl
theorem wJ {m:Str->Option Value}(n:h.Ns L m):Fr (kT h) L h m :=
 ⟨n,fun b o e=>(by rw[jh] at e;cases e),dg _⟩
end
end Att
namespace L2
open PySem PySem.Spec PyProof.Rows
theorem eN:∀{vs:List Value}{ns:List Int},IntsAre vs ns->aL (ns.map V.int) vs
 |_,_,.nil=>.nil
 |_,_,.cons n t h=>.cons ⟨t,rfl⟩ (eN h)
def CM (H:Hp):Prop:=∀ b,H b=none\/∃ o xs,H b=some (.frz o (.lst xs))
theorem vJ {P:Program}{w:World}{K:PySem.W.Frag}{mg mb:Str->Option Value}{CX:xg}{k:Nat}{fa a:Addr}{fd:FuncData}{x:Str}{sp:Sp}{s₁:Shared}{vs:List Value}{ns:List Int}
  (KX:K.In s₁.heap) (hns:s₁.heap.Ns mainGlobals mg) (hb:s₁.heap.Ns builtinsNs mb) (hbb:∀ x:Str,x≠"__name__"->mb x=bootBuiltins x) (hlim:s₁.heap.NoLimit) (hg:s₁.gens = #[])
  (ha:s₁.heap.get? a=some { cls:=.type "list",data:=.seq vs.toArray }) (hi:IntsAre vs ns) (hl:ns.length<=sizeLine) (hr:hV k callerA)
  (F:∀ base:Heap,K.In base->base.Ns mainGlobals mg->oo P w K mg base CX k fa fd [x] sp) (hbind:∀(s:Shared) (u:Value),BindsTo s fd ⟨[u],[]⟩ [(x,u)])
  (hsp:∀ H:Hp,CM H->iX K H a (ns.map V.int)->sp [.ref a] H (fun v _=>v = .bl true) fun _ _ _=>False)
  (hCX:∀ H e s',CX [] H s₁ (fun _ _ _=>False) e s'->False) :
  codeAny (model P w) callerA (.call (.ref fa) ⟨[.ref a],[]⟩) (fun r s'=>r = .ok (.ret (.bool true))/\OldK s₁.heap s'.heap/\s'.os=s₁.os/\AllBare s'.gens) s₁:=by
 have rv:=eN hi;have lenV:=hi.length;have core:∀ H:Hp,CM H->iX K H a (ns.map V.int)->jJ P w H s₁.heap->(∀ b,H b≠none->b=a)->(H a≠none->K.lookup a=none) ->
   codeAny (model P w) callerA (.call (.ref fa) ⟨[.ref a],[]⟩) (fun r s'=>r = .ok (.ret (.bool true))/\OldK s₁.heap s'.heap/\s'.os=s₁.os/\AllBare s'.gens) s₁:=by
  intro H hO hS hok hA hK;have base_of:∀{b:Addr}{o:Obj},s₁.heap.get? b=some o->H b=none->(oQ s₁.heap H).get? b=some o:=fun e n=>wb e n
  have noA:∀{b:Addr}{o:Obj}{es:Array DictEntry}{ep:Nat},s₁.heap.get? b=some o->o.data = .dict es ep->H b=none:=fun {b o es ep} e d=>by
   cases q:H b with
   |none=>rfl
   |some u =>
    have e':b=a:=hA b (by rw[q];simp);subst e';rw[ha] at e;cases e;have d':Data.seq vs.toArray _=Data.dict es ep:=d;cases d'
  have nsK:∀{b:Addr}{m:Str->Option Value},s₁.heap.Ns b m->(oQ s₁.heap H).Ns b m:=fun {b m} ⟨o,es,ep,e,d,r⟩=>⟨o,es,ep,base_of e (noA e d),d,r⟩
  have hKb:K.In (oQ s₁.heap H):=fun b o e=>base_of (KX b o e) (by
   cases q:H b with
   |none=>rfl
   |some u =>
    have e':b=a:=hA b (by rw[q];simp);subst e';rw[hK (by rw[q];simp)] at e;cases e)
  have hM:Mod K mg (oQ s₁.heap H):=⟨hKb,nsK hns,⟨mb,nsK hb,hbb⟩,let ⟨mc,h1,h2⟩:=hlim;⟨mc,nsK h1,h2⟩⟩;have e0:AU P w K mg (oQ s₁.heap H) callerA [] s₁ H:=⟨rfl,hM,fun b o e=>AS e,Nat.le_of_eq (uz _ _),trivial,fun b hb=>absurd (show b∈([]:List Addr) from hb) (by simp),hok,.of_eq hg⟩;refine codeAny_mono ((F _ hKb (nsK hns)).run callerA [] s₁ H ⟨[.ref a],[]⟩ [.ref a] [.ref a] _ _ hr e0 (hbind s₁ (.ref a)) (.cons rfl .nil) (hsp H hO hS)) fun r s' h=>?_
  cases r with
  |error e=>exact (hCX H e s' h).elim
  |ok fl =>
   cases fl with
   |next=>exact False.elim h
   |brk=>exact False.elim h
   |cont=>exact False.elim h
   |ret u =>
    obtain⟨v,H',os,bare,un,hok',r',q⟩:=h;have q':v = .bl true:=q;subst q';obtain rfl:u=Value.bool true:=r';refine⟨rfl,OldK.of_keep fun b o e=>?_,os,bare⟩;cases q:H b with
    |none=>exact un.keep b o e q (by intro z;exact absurd (show b∈([]:List Addr) from z) (by simp)) (by simp)
    |some u =>
     rcases hO b with z | ⟨ob,xs,z⟩
     .rw[q] at z;cases z
     .have z2:=un.frzs b ob _ z;obtain⟨e1,_⟩:=hok b _ z;obtain⟨e2,_⟩:=hok' b _ z2;rw[e] at e1;cases e1;exact e2
 cases hk:K.lookup a with
 |some o =>
  have e:=KX a o hk;rw[ha] at e;cases e;refine core (fun _=>none) (fun _=>.inl rfl) (.inr ⟨_,vs.toArray,_,hk,rfl,rfl,rfl,by rw[List.size_toArray,lenV];exact hl,by simpa using rv⟩) (fun b u z=>by have z':(none:Option HO)=some u:=z;cases z') (fun b z=>absurd rfl z) fun z=>absurd rfl z
 |none =>
  refine core (fun b=>if b=a then some (.frz { cls:=.type "list",data:=.seq vs.toArray } (.lst (ns.map V.int))) else none) (fun b=>?_) (.inl (.inr ⟨{ cls:=.type "list",data:=.seq vs.toArray },if_pos rfl⟩)) (fun b u z=>?_) (fun b z=>?_) fun _=>hk
  .by_cases hb:b=a
   .exact .inr ⟨_,_,if_pos hb⟩
   .exact .inl (if_neg hb)
  .by_cases hb:b=a
   .have z':=(if_pos hb).symm.trans z;cases z';subst hb;exact⟨ha,by rw[ab];exact hl,vs,_,rv,ha⟩
   .have z':=(if_neg hb).symm.trans z;cases z'
  .by_cases hb:b=a
   .exact hb
   .exact absurd (if_neg hb) z
end L2
namespace L2
open PySem PySem.Spec PyProof.Rows
theorem Ab {l:PySem.W.OpenLaw}{n k:Nat}{q:Program}{loose:List Str}{XP:(Str->Option Value)->Heap->Prop}{YP:World->Heap->Prop}{d:DefRec}{K:Params->PySem.W.Frag}{CX:World->xg}{sp:World->Sp}{x:Str}
  (hn:l.most=some n) (hn2:n<=sizeLine) (hdf:d.params.defaults=[]) (hr:hV k callerA)
  (hY:∀(w:World) (h:Heap),YP w h->(K w.params).In h)
  (F:∀(w:World) (mg:Str->Option Value) (fa:Addr) (h:Heap),(K w.params).In h->h.Ns mainGlobals mg->mg d.name=some (.ref fa) ->
   ∃ fd:FuncData,(∀(s:Shared) (u:Value),BindsTo s fd ⟨[u],[]⟩ [(x,u)]) /\
    ∀ base:Heap,(K w.params).In base->base.Ns mainGlobals mg->oo l.prog w (K w.params) mg base (CX w) k fa fd [x] (sp w))
  (hsp:∀(w:World) (H:Hp) (a:Addr) (ns:List Int),ns.length<=n->CM H->iX (K w.params) H a (ns.map V.int)->sp w [.ref a] H (fun v _=>v = .bl true) fun _ _ _=>False)
  (hCX:∀(w:World) (H:Hp) (s:Shared) (e:Value) (s':Shared),CX w [] H s (fun _ _ _=>False) e s'->False) :
  PySem.W.WalkO q loose XP YP l.row.toRowW d [] (fun f vs=>PySem.call f vs):=by
 refine Att.pU hn hdf fun w s₀ s₁ mg mb fa o pm cd doc a vs ns G Y ho hd hcd hmg hobj hints hlen hg=>?_
 have KX:=hY w _ Y;obtain⟨fd,hb,hF⟩:=F w mg fa _ KX G.T.g hmg;exact vJ KX G.T.g G.T.b G.T.builtins G.T.nolimit hg hobj hints (br hlen hn2) hr hF hb (fun H hO hS=>hsp w H a ns hlen hO hS) fun H e s'=>hCX w H s₁ e s'
end L2
namespace L2
open PySem PySem.Spec PyProof.Rows
noncomputable def eM (s:Stmt):Arguments:=match s with
 |.FunctionDef _ a _ _ _ _ _ _ _ _=>a
 |_=>{ posonlyargs:=[],args:=[],vararg:=none,kwonlyargs:=[],kw_defaults:=[],kwarg:=none,defaults:=[] }
noncomputable def cR (s:Stmt):List Stmt:=match s with
 |.FunctionDef _ _ b _ _ _ _ _ _ _=>b
 |_=>[]
noncomputable def aT (s:Stmt):Scope:=match s with
 |.FunctionDef _ _ _ _ _ _ sc _ _ _=>sc
 |_=>{ kind:=.function,names:=[],isGenerator:=false,isCoroutine:=false }
noncomputable abbrev Cy:xg:=fun _ _ _ _ _ _=>False
noncomputable abbrev E0:XK:=fun _ _ _=>False
variable {X:Cx}
theorem BB:oY Cy X E0:=fun _ _ _ _ _ _ _ h=>h.elim
structure Eb (K:PySem.W.Frag)(x qual:Str)(st:Stmt)(f:Addr)(fd:FuncData):Prop where
 ex:∃(oc:Value) (od:Option Addr) (kV doc pm:Value) (an:Option Addr) (cdv ct:Value) (osl:Array (Option Value)),
  fd=PySem.W.fnOf x qual (eM st) (cR st) (aT st) .none kV doc pm an cdv ct/\K.lookup f=some ⟨oc,od,.func fd,osl⟩/\PySem.W.codeIn K cdv qual=true
 kp:PySem.W.keepIn K (.ref f)=true
variable {f:Addr}{fd:FuncData}{ps:List Str}{qual x:Str}{st:Stmt}
section
variable {P:Program}{w:World}{K:PySem.W.Frag}{mg:Str->Option Value}{base:Heap}
theorem Eb.ok {N:List Str}{k:Nat}{sp:Sp}(F:Eb K x qual st f fd)(S:kM N ps (aT st))(len:∀ vs H Q E,sp vs H Q E->vs.length=ps.length)
  (hbody:∀(cdv:Value) (A:Around) (outer:List Env) (s:Shared) (H:Hp) (vs:List V) (Q:VK) (E:XK),hV k (A.deeper (envOfC qual (aT st) s.heap.objs.size f cdv))->sp vs H Q E ->
   ∃ t,mY (rK Cy P w K mg base N qual (aT st) f cdv A outer s H E).nox (cR st) t/\t { nx:=fun _ H'=>Q .non H',rt:=Q } (start N vs) H):oo P w K mg base Cy (k+1) f fd ps sp:=by
 obtain⟨oc,od,kV,doc,pm,an,cdv,ct,osl,rfl,lk,hcd⟩:=F.ex;refine Fx lk hcd S len fun A outer s H vs Q E hr hsp=>?_
 obtain⟨t,h,q⟩:=hbody cdv A outer s H vs Q E hr hsp;exact⟨t,h.nox,q⟩
theorem Eb.binds (F:Eb K x qual st f fd)
  (h:∀(kV doc pm:Value) (an:Option Addr) (cdv ct:Value) (us:List Value),us.length=ps.length->bindArgs (PySem.W.fnOf x qual (eM st) (cR st) (aT st) .none kV doc pm an cdv ct) ⟨us,[]⟩=pure (ps.zip us)):Binds K fd ps []:=by
 obtain⟨oc,od,kV,doc,pm,an,cdv,ct,osl,rfl,lk,hcd⟩:=F.ex;exact .all (h kV doc pm an cdv ct)
theorem Eg {st:Stmt}{oc:Value}{od an:Option Addr}{osl:Array (Option Value)}{kV doc pm cdv ct:Value}(l:K.lookup f=some ⟨oc,od,.func (PySem.W.fnOf x qual (eM st) (cR st) (aT st) .none kV doc pm an cdv ct),osl⟩)
  (c:PySem.W.codeIn K cdv qual=true) (k:PySem.W.keepIn K (.ref f)=true):Eb K x qual st f (PySem.W.fnOf x qual (eM st) (cR st) (aT st) .none kV doc pm an cdv ct):=⟨⟨oc,od,kV,doc,pm,an,cdv,ct,osl,rfl,l,c⟩,k⟩
end
section
variable {X:Cx}
end
def aI (H H':Hp):Prop:=∀ b o,H b=some o->H' b=some o
theorem aI.refl (H:Hp):aI H H:=fun _ _ h=>h
variable {H:Hp}
theorem aI.trans {H1 H2:Hp}(a:aI H H1)(b:aI H1 H2):aI H H2:=fun c o h=>b c o (a c o h)
variable {u:Value}{y:V}
section
variable {κ:Type}[DecidableEq κ]
noncomputable def iW (kvs:List (κ×V))(k:κ):Option V:=(kvs.find? fun kv=>decide (kv.1=k)).map (·.2)
noncomputable def putK (kvs:List (κ×V))(k:κ)(v:V):List (κ×V) :=
 if (kvs.any fun kv=>decide (kv.1=k))=true then kvs.map (fun kv=>if kv.1=k then (kv.1,v) else kv) else kvs ++ [(k,v)]
theorem jC {p:κ×V}{r:List (κ×V)}{k:κ}(e:p.1=k):iW (p::r) k=some p.2:=by simp[iW,List.find?_cons,e]
theorem ju {p:κ×V}{r:List (κ×V)}{k:κ}(e:¬ p.1=k):iW (p::r) k=iW r k:=by simp[iW,List.find?_cons,e]
theorem gQ (k:κ):∀ kvs:List (κ×V),(kvs.any fun kv=>decide (kv.1=k))=(iW kvs k).isSome
 |[]=>rfl
 | p::r=>by
  rw[dw];by_cases e:p.1=k
  .simp only[jC e,decide_eq_true e,Bool.true_or,Option.isSome_some]
  .rw[ju e,bj e,Bool.false_or];exact gQ k r
theorem gW (kvs:List (κ×V))(k:κ)(v:V):(putK kvs k v).length<=kvs.length+1:=by
 unfold putK;split
 .rw[ab];omega
 .rw[aq,av,cf];omega
theorem vz.isSome_eq {o:Option V}{u:Option Value}(r:vz o u):o.isSome=u.isSome:=by
 cases o with
 |none=>cases u with
  |none=>rfl
  |some _=>exact (show False from r).elim
 |some _=>cases u with
  |none=>exact (show False from r).elim
  |some _=>rfl
theorem KV.val {kvs:List (κ×V)}{vs:List (κ×Value)}(r:KV kvs vs)(k:κ):vz (iW kvs k) (valueAt vs k):=by
 unfold KV at r
 induction r with
 |nil=>exact True.intro
 |@cons p q ps qs h t ih =>
  obtain⟨h1,h2⟩:=h;by_cases e:p.1=k
  .have e':q.1=k:=h1.symm.trans e;have b:valueAt (q::qs) k=some q.2:=by simp[valueAt,List.find?_cons,e']
   rw[jC e,b];exact h2
  .have e':¬ q.1=k:=fun z=>e (h1.trans z)
   have b:valueAt (q::qs) k=valueAt qs k:=by simp[valueAt,List.find?_cons,e']
   rw[ju e,b];exact ih
theorem KV.any {kvs:List (κ×V)}{vs:List (κ×Value)}(r:KV kvs vs)(k:κ):(kvs.any fun kv=>decide (kv.1=k))=vs.any fun kv=>decide (kv.1=k):=by
 unfold KV at r
 induction r with
 |nil=>rfl
 |cons h t ih=>rw[dw,dw,ih,h.1]
theorem KV.repl {kvs:List (κ×V)}{vs:List (κ×Value)}(r:KV kvs vs)(k:κ)(ry:RelV y u) :
  KV (kvs.map fun kv=>if kv.1=k then (kv.1,y) else kv) (vs.map fun kv=>if kv.1=k then (kv.1,u) else kv):=by
 unfold KV at r ⊢
 induction r with
 |nil=>exact .nil
 |@cons p q ps qs h t ih =>
  rw[ao,ao];refine .cons ?_ ih;obtain⟨h1,h2⟩:=h;by_cases e:p.1=k
  .rw[if_pos e,if_pos (h1.symm.trans e)];exact⟨h1,ry⟩
  .rw[if_neg e,if_neg (fun z=>e (h1.trans z))];exact⟨h1,h2⟩
theorem KV.put {kvs:List (κ×V)}{vs:List (κ×Value)}(r:KV kvs vs)(k:κ)(ry:RelV y u):KV (putK kvs k y) (stored vs k u):=by
 unfold putK stored;rw[r.any k];by_cases e:(vs.any fun kv=>decide (kv.1=k))=true
 .rw[if_pos e,if_pos e];exact r.repl k ry
 .rw[if_neg e,if_neg e];exact Paired.snoc r ⟨rfl,ry⟩
theorem KV.keys {kvs:List (κ×V)}{vs:List (κ×Value)}(r:KV kvs vs):kvs.map (·.1)=vs.map (·.1):=by
 unfold KV at r
 induction r with
 |nil=>rfl
 |cons h t ih=>rw[ao,ao,ih,h.1]
theorem KV.length {kvs:List (κ×V)}{vs:List (κ×Value)}(r:KV kvs vs):kvs.length=vs.length:=Paired.length r
end
variable {P:Program}{w:World}
theorem pL {k:Key}(r:RelV (kV k) u):(aN P w).is k u=true:=by
 cases k with
 |inl i=>obtain⟨t,e⟩:=(show ∃ t,u=Value.int i t from r);subst e;exact dY P w i t
 |inr x=>obtain⟨t,e⟩:=(show ∃ t,u=Value.str x t from r);subst e;exact dB P w x t
theorem jP:∀{ks:List Key}{us:List Value},aL (ks.map kV) us->ItemsAre (aN P w) ks us
 |[],_,r=>by rw[da] at r;cases r;exact .nil
 | k::ks,_,r=>by
  rw[ao] at r;cases r with
  |cons h t=>exact .cons (pL h) (jP t)
noncomputable abbrev KT (H:Hp):List (List Key×V)->List (List Key×Addr×Value)->Prop:=Paired fun p q=>p.1=q.1/\H q.2.1=some (.tup (p.1.map kV))/\RelV p.2 q.2.2
variable {kvs:List (List Key×V)}{xs:List (List Key×Addr×Value)}
theorem KT.val (r:KT H kvs xs)(k:List Key):vz (iW kvs k) ((atKey xs k).map (·.2)):=by
 induction r with
 |nil=>exact True.intro
 |@cons p q ps qs h t ih =>
  obtain⟨h1,_,h2⟩:=h;by_cases e:p.1=k
  .have e':q.1=k:=h1.symm.trans e;have b:atKey (q::qs) k=some q.2:=by simp[atKey,List.find?_cons,e']
   rw[jC e,b];exact h2
  .have e':¬ q.1=k:=fun z=>e (h1.trans z)
   have b:atKey (q::qs) k=atKey qs k:=by simp[atKey,List.find?_cons,e']
   rw[ju e,b];exact ih
theorem KT.repl (r:KT H kvs xs)(k:List Key)(ry:RelV y u) :
  KT H (kvs.map fun kv=>if kv.1=k then (kv.1,y) else kv) (xs.map (putAt k u)):=by
 induction r with
 |nil=>exact .nil
 |@cons p q ps qs h t ih =>
  rw[ao,ao];refine .cons ?_ ih;obtain⟨h1,h2,h3⟩:=h;unfold putAt;by_cases e:p.1=k
  .rw[if_pos e,if_pos (h1.symm.trans e)];exact⟨h1,h2,ry⟩
  .rw[if_neg e,if_neg (fun z=>e (h1.trans z))];exact⟨h1,h2,h3⟩
variable {b:Addr}
theorem KT.put (r:KT H kvs xs)(k:List Key)(hb:H b=some (.tup (k.map kV)))(ry:RelV y u) :
  KT H (putK kvs k y) (storedH xs k b u):=by
 have e:(kvs.any fun kv=>decide (kv.1=k))=(atKey xs k).isSome:=by
  rw[gQ,(r.val k).isSome_eq,ir]
 unfold putK storedH;rw[e];by_cases q:(atKey xs k).isSome=true
 .rw[if_pos q,if_pos q];exact r.repl k ry
 .rw[if_neg q,if_neg q];exact Paired.snoc r ⟨rfl,hb,ry⟩
variable {H':Hp}
theorem KT.keeps (r:KT H kvs xs)(ht:∀ b ys,H b=some (.tup ys)->H' b=some (.tup ys)):KT H' kvs xs :=
 Paired.mapP r fun _ _ z=>⟨z.1,ht _ _ z.2.1,z.2.2⟩
section
variable {P:Program}{w:World}{H:Hp}{h:Heap}{a:Addr}
theorem BP {u:HO}(ok:jJ P w H h)(e:Rd H a u):bZ P w H h a u:=e.ok ok
theorem ke {kvs:List (Key×V)}(ok:jJ P w H h)(e:Rd H a (.dK kvs)):kvs.length<=sizeLine/\(a==sysModules)=false/\∃ vs,KV kvs vs/\h.DictOf (aN P w) a vs :=
 show bZ P w H h a (.dK kvs) from BP ok e
theorem xY {kvs:List (Key×V)}(ok:jJ P w H h)(e:H a=some (.dK kvs)):kvs.length<=sizeLine/\(a==sysModules)=false/\∃ vs,KV kvs vs/\h.DictOf (aN P w) a vs:=ke ok (.inl e)
theorem o6 {ks:List Key}(ok:jJ P w H h)(e:H a=some (.tup (ks.map kV))):(tupleKind (aN P w)).is h ks a:=by
 obtain⟨_,its,r,o,h1,h2,n,h3⟩:=(show bZ P w H h a (.tup (ks.map kV)) from ok a _ e);exact⟨o,its.toArray,n,h1,h2,h3,by simpa using jP r⟩
theorem qk (ok:jJ P w H h)(e:Rd H a (.dT kvs)):kvs.length<=sizeLine/\(a==sysModules)=false /\
  ∃ xs,KT H kvs xs/\h.DictOfH (tupleKind (aN P w)) a xs:=by
 obtain⟨z,y,xs,r,o,es,ep,h1,h2,h3,h4,h5⟩:=(show bZ P w H h a (.dT kvs) from BP ok e);refine⟨z,y,xs,r,o,es,ep,h1,h2,h3,h4,fun x hx=>?_,h5⟩;have all:∀{l:List (List Key×V)}{m:List (List Key×Addr×Value)},KT H l m->∀ x∈m,(tupleKind (aN P w)).is h x.1 x.2.1:=by
  intro l m q
  induction q with
  |nil=>intro x hx;exact nomatch hx
  |@cons p q ps qs hq t ih =>
   intro x hx;rcases cg.mp hx with e | hx
   .subst e;exact o6 ok (by rw[<-hq.1];exact hq.2.1)
   .exact ih x hx
 exact all r x hx
theorem Fj (ok:jJ P w H h)(e:H a=some (.dT kvs)):kvs.length<=sizeLine/\(a==sysModules)=false /\
  ∃ xs,KT H kvs xs/\h.DictOfH (tupleKind (aN P w)) a xs:=qk ok (.inl e)
end
noncomputable def Ap (H:Hp)(a:Addr)(y:V)(r:Option V):Prop :=
 (∃ kvs k,Rd H a (.dK kvs)/\y=kV k/\r=iW kvs k)\/∃ kvs k b,Rd H a (.dT kvs)/\y = .ref b/\H b=some (.tup (k.map kV))/\r=iW kvs k
noncomputable def mw (H:Hp)(a:Addr)(y v:V)(H':Hp):Prop :=
 (∃ kvs k,H a=some (.dK kvs)/\y=kV k/\kvs.length<sizeLine/\H'=upd H a (.dK (putK kvs k v))) \/
 ∃ kvs k b,H a=some (.dT kvs)/\y = .ref b/\H b=some (.tup (k.map kV))/\kvs.length<sizeLine/\H'=upd H a (.dT (putK kvs k v))
variable {a:Addr}
theorem mw.k {kvs:List (Key×V)}{k:Key}{v:V}(e:H a=some (.dK kvs))(hl:kvs.length<sizeLine):mw H a (kV k) v (upd H a (.dK (putK kvs k v))):=.inl ⟨kvs,k,e,rfl,hl,rfl⟩
theorem mw.t {kvs:List (List Key×V)}{k:List Key}{v:V}(e:H a=some (.dT kvs))(eb:H b=some (.tup (k.map kV)))(hl:kvs.length<sizeLine) :
  mw H a (.ref b) v (upd H a (.dT (putK kvs k v))):=.inr ⟨kvs,k,b,e,rfl,eb,hl,rfl⟩
variable {h':Heap}
section
variable {X:Cx}{pins:List (Addr×Obj)}{σ:St}{H:Hp}{s:Shared}{a:Addr}{y v:V}{u r:Value}{o:Option V}{A:Around}{E:Value->Shared->Prop}
theorem Inv.big (I:Inv X pins σ H s):sysModules<s.heap.objs.size:=by
 have h:mainGlobals<s.heap.objs.size:=(I.mod.glob.keeps I.bk).lt;exact Nat.lt_trans (by decide) h
theorem Gf {Q:Value->Shared->Prop}(hu:A.units+1<cLine)(I:Inv X pins σ H s)(g:Ap H a y o)(ry:RelV y u)(h:∀ s',Inv X pins σ H s'->Q (.bool o.isSome) s') :
  wpAny (model X.prog X.w) A (compareOp .In u (.ref a)) Q E s:=by
 rcases g with ⟨kvs,k,e,ey,l⟩ | ⟨kvs,k,b,e,ey,eb,l⟩
 .subst ey;obtain⟨z,hd,vs,rel,dd⟩:=ke I.hok e;refine wpAny_in_of (pL ry) hd dd.mapOf ?_;rw[<-(rel.val k).isSome_eq,<-l];exact h _ (I.tok _)
 .subst ey;cases (show u=Value.ref b from ry);obtain⟨z,hd,xs,rel,dd⟩:=qk I.hok e;refine wpAny_in_heap (tupleKind_room_in1 hu) (o6 I.hok eb) hd dd ?_;have q:=(rel.val k).isSome_eq;rw[ir] at q;rw[<-q,<-l];exact h _ (I.tok _)
theorem ud {Q:Value->Shared->Prop}(hu:A.units+1<cLine)(I:Inv X pins σ H s)(g:Ap H a y o)(ry:RelV y u)(h:∀ s',Inv X pins σ H s'->Q (.bool (!o.isSome)) s') :
  wpAny (model X.prog X.w) A (compareOp .NotIn u (.ref a)) Q E s:=by
 rcases g with ⟨kvs,k,e,ey,l⟩ | ⟨kvs,k,b,e,ey,eb,l⟩
 .subst ey;obtain⟨z,hd,vs,rel,dd⟩:=ke I.hok e;refine wpAny_notIn_of (pL ry) hd dd.mapOf ?_;rw[<-(rel.val k).isSome_eq,<-l];exact h _ (I.tok _)
 .subst ey;cases (show u=Value.ref b from ry);obtain⟨z,hd,xs,rel,dd⟩:=qk I.hok e;refine wpAny_notIn_heap (tupleKind_room_in1 hu) (o6 I.hok eb) hd dd ?_;have q:=(rel.val k).isSome_eq;rw[ir] at q;rw[<-q,<-l];exact h _ (I.tok _)
theorem kG {t':Nat}{ob:HO}(I:Inv X pins σ H s)(mu:o9 (H a))(hs:Heap.SameBut a s.heap h')(he:∃ q,h'.get? a=some q)(new:bZ X.prog X.w (upd H a ob) h' a ob) :
  Inv X pins σ (upd H a ob) { s with heap:=h',toks:=t' } :=
 I.write (x:=a) (e:=a) mu (.inl rfl) (fun b q hb z=>(hs.2 b hb).trans z) he new
theorem wu {kvs:List (Key×V)}{vs:List (Key×Value)}(z:kvs.length<=sizeLine)(hd:(a==sysModules)=false)(rel:KV kvs vs)(dd:h'.DictOf (aN P w) a vs) :
  bZ P w H' h' a (.dK kvs):=⟨z,hd,vs,rel,dd⟩
theorem nk {Q:Unit->Shared->Prop}(hu:A.units+1<cLine)(I:Inv X pins σ H s)(g:mw H a y v H')(ry:RelV y u)(rv:RelV v r)(h:∀ s',Inv X pins σ H' s'->Q () s') :
  wpAny (model X.prog X.w) A (setItem (.ref a) u r) Q E s:=by
 rcases g with ⟨kvs,k,e,ey,l,eH⟩ | ⟨kvs,k,b,e,ey,eb,l,eH⟩
 .subst ey eH;obtain⟨z,hd,vs,rel,dd⟩:=xY I.hok e;have hz:vs.length<=sizeLine:=by rw[<-rel.length];exact z
  have hl:(putK kvs k v).length<=sizeLine:=by have:=gW kvs k v;omega
  refine wpAny_setItem_pairs (hsz:=hz) (pL ry) dd fun h' dd' hs=>h _ ?_
  have he:∃ q,h'.get? a=some q:=let ⟨q,_,_,hq,_⟩:=dd';⟨q,hq⟩;exact kG I (by rw[e];exact True.intro) hs he (wu hl hd (rel.put k rv) dd')
 .subst ey eH;cases (show u=Value.ref b from ry);obtain⟨z,hd,xs,rel,dd⟩:=Fj I.hok e;have hz:xs.length<=sizeLine:=by rw[<-Paired.length rel];exact z
  have hl:(putK kvs k v).length<=sizeLine:=by have:=gW kvs k v;omega
  refine wpAny_setItem_heap (hsz:=hz) (tupleKind_room_in1 hu) (o6 I.hok eb) dd fun h' dd' hs=>h _ ?_
  obtain⟨q,es,ep,hq,h2,h3,h4,_,h5⟩:=dd';refine kG I (by rw[e];exact True.intro) hs ⟨q,hq⟩ ⟨hl,hd,_,(rel.put k eb rv).keeps fun c ys ec=>?_,q,es,ep,hq,h2,h3,h4,h5⟩;rw[aJ (Fv ec e (fun z=>nomatch z))];exact ec
end
section
variable {X:Cx}{pins:List (Addr×Obj)}{σ:St}{H:Hp}{s:Shared}{a:Addr}{kvs:List (Key×V)}{k:Key}{u:Value}{A:Around}{E:Value->Shared->Prop}
end
section
variable {X:Cx}{o i e value:Expr}{pos pos' tpos:Pos}{td ty tv:TE}
end
theorem qb (h:Heap)(hb:sysModules<h.objs.size):bZ P w H (h.push { cls:=.type "dict",data:=.dict #[] }) h.objs.size (.dK []) :=
 ⟨dg _,beq_eq_false_iff_ne.mpr (df (ax hb)),[],.nil,Heap.DictOf.new h⟩
def yj:TE:=fun _ H Q=>∀ p,H p=none->Q (.ref p) (upd H p (.dK []))
section
variable {X:Cx}{pos:Pos}
theorem wj:PE X (.Dict [] [] pos) yj:=fun pins s σ H Q I h =>
 wpAny_Dict_empty ⟨.ref s.heap.objs.size,_,I.laid (a:=s.heap.objs.size) (o:=.dK []) (t':=s.toks) (fun _ _ q=>Heap.get?_push_of_some _ q) (au _) (qb s.heap I.big),rfl,h _ (I.hok.fresh (au _))⟩
end
noncomputable def k9:List (TE×TE)->St->Hp->(List (V×V)->Hp->Prop)->Prop
 |[],_,H,Q=>Q [] H
 | (tk,tv)::r,σ,H,Q=>tk σ H fun x H1=>tv σ H1 fun y H2=>k9 r σ H2 fun ps H3=>Q ((x,y)::ps) H3
noncomputable abbrev VV:List (V×V)->List (Value×Value)->Prop:=Paired fun p q=>RelV p.1 q.1/\RelV p.2 q.2
noncomputable def Et (X:Cx)(pos:Pos)(keys:List (Option Expr))(values:List Expr)(qZ:List (TE×TE)):Prop :=
 ∀(pins:List (Addr×Obj)) (s:Shared) (σ:St) (H:Hp) (Q:List (V×V)->Hp->Prop),Inv X pins σ H s->k9 qZ σ H Q ->
  wpAny (model X.prog X.w) X.A (evalPairs (pairTrees keys values X.env pos)) (fun vs s'=>∃ ps H',Inv X pins σ H' s'/\VV ps vs/\Q ps H') X.xe s
variable {pos:Pos}
theorem A0:Et X pos [] [] []:=fun pins s σ H Q I h=>pairTrees_nil_walk ⟨[],H,I,.nil,h⟩
variable {qZ:List (TE×TE)}
theorem yz {k v:Expr}{ks:List (Option Expr)}{vs:List Expr}{tk tv:TE}(hk:PE X k tk)(hv:PE X v tv)(hr:Et X pos ks vs qZ) :
  Et X pos (some k::ks) (v::vs) ((tk,tv)::qZ):=fun pins s σ H Q I h =>
 pairTrees_cons_walk (cH (hk pins s σ H _ I h) fun u s1 ⟨x,H1,I1,rx,q1⟩=>cH (hv pins s1 σ H1 _ I1 q1) fun w2 s2 ⟨y,H2,I2,ry,q2⟩ =>
  cH (hr pins s2 σ H2 _ I2 q2) fun ws s3 ⟨ps,H3,I3,rel,q3⟩=>⟨(x,y)::ps,H3,I3,.cons ⟨rx,ry⟩ rel,q3⟩)
noncomputable def fR (kvs more:List (Key×V)):List (Key×V):=more.foldl (fun acc kv=>putK acc kv.1 kv.2) kvs
theorem KV.merge:∀{more:List (Key×V)}{rs:List (Key×Value)}{kvs:List (Key×V)}{vs:List (Key×Value)},KV more rs->KV kvs vs->KV (fR kvs more) (merged vs rs):=by
 intro more rs kvs vs r;unfold KV at r
 induction r generalizing kvs vs with
 |nil=>intro q;exact q
 |@cons p q ps qs h t ih =>
  intro r0;have e:KV (putK kvs p.1 p.2) (stored vs q.1 q.2):=by
   have:=r0.put p.1 h.2;rw[<-h.1];exact this
  exact ih e
theorem iU:∀(more kvs:List (Key×V)),(fR kvs more).length<=kvs.length+more.length
 |[],kvs=>by show kvs.length<=kvs.length+0;omega
 | p::r,kvs=>by
  have h1:=iU r (putK kvs p.1 p.2);have h2:=gW kvs p.1 p.2;show (fR (putK kvs p.1 p.2) r).length<=_;rw[av];omega
theorem lE {P:Program}{w:World}:∀{kvs:List (Key×V)}{ws:List (Value×Value)},VV (kvs.map fun kv=>(kV kv.1,kv.2)) ws->∃ rs,Carries (aN P w) ws rs/\KV kvs rs
 |[],_,r=>by rw[da] at r;cases r;exact⟨[],True.intro,.nil⟩
 | p::kvs,_,r=>by
  rw[ao] at r;cases r with
  |@cons a b as bs h t =>
   obtain⟨rs,c,q⟩:=lE (P:=P) (w:=w) t;obtain⟨b1,b2⟩:=b;exact⟨(p.1,b2)::rs,⟨pL h.1,rfl,c⟩,.cons ⟨rfl,h.2⟩ q⟩
def GH (qZ:List (TE×TE)):TE:=fun σ H Q=>∀ p,H p=none->k9 qZ σ (upd H p (.dK [])) fun ps H2=>H2 p=some (.dK [])/\∃ kvs:List (Key×V),ps=kvs.map (fun kv=>(kV kv.1,kv.2))/\kvs.length<=15/\Q (.ref p) (upd H2 p (.dK (fR [] kvs)))
theorem AM {keys:List (Option Expr)}{values:List Expr}(h:Et X pos keys values qZ)(hall:keys.all (·.isSome)=true)(hl:keys.length=values.length)(h0:keys≠[])
  (h15:keys.length<=15):PE X (.Dict keys values pos) (GH qZ):=by
 intro pins s σ H Q I q;have hn:=I.hok.fresh (au s.heap.objs.size);have I1:=I.laid (a:=s.heap.objs.size) (o:=.dK []) (h':=s.heap.push { cls:=.type "dict",data:=.dict #[] }) (t':=s.toks) (fun _ _ q=>Heap.get?_push_of_some _ q) (au _) (qb s.heap I.big);refine wpAny_Dict_walk (knd:=aN X.prog X.w) hall hl h0 h15 (cH (h pins _ σ _ _ I1 (q _ hn)) fun ws s2 ⟨ps,H2,I2,rel,e,kvs,ep,lk,q2⟩=>?_);subst ep;obtain⟨rs,c,rk⟩:=lE (P:=X.prog) (w:=X.w) rel;obtain⟨z,hd,vs0,r0,dd⟩:=xY I2.hok e;cases r0;refine⟨rs,c,dd,fun h' dd' hs=>⟨.ref s.heap.objs.size,_,?_,rfl,q2⟩⟩;have hz:(fR [] kvs).length<=sizeLine:=by
  have h1:=iU kvs [];rw[cf] at h1;rw[sizeLine_eq];omega
 have he:∃ q,h'.get? s.heap.objs.size=some q:=let ⟨q,_,_,hq,_⟩:=dd';⟨q,hq⟩;exact kG I2 (by rw[e];exact True.intro) hs he (wu hz hd (rk.merge .nil) dd')
end L2
end
section
namespace Pc
open PySem
inductive MV where
 | tr | int (i:Int) | tup (is:List Int)
deriving Inhabited,DecidableEq
inductive D where
 | non | bl (b:Bool) | int (i:Int) | str (s:Str) | lst (xs:List D) | tup (xs:List D)
 | dct (kvs:List ((Int ⊕ Str)×Option Int))
 | mpi (ks:List (Int×MV)) | mpt (ks:List (List Int))
 | mpz (ks:List (Int×MV))
deriving Inhabited
mutual
noncomputable def D.flat:D->Bool
 |.lst _=>false
 |.tup xs=>D.flats xs
 |.non=>true
 |.bl _=>true
 |.int _=>true
 |.str _=>true
 |.dct _=>true
 |.mpi _=>false
 |.mpt _=>false
 |.mpz _=>true
noncomputable def D.flats:List D->Bool
 |[]=>true
 |x::xs=>D.flat x&&D.flats xs
end
noncomputable def rC (f:D->D->Option Bool):List D->List D->Option Bool
 |[],[]=>some true
 |x::xs,y::ys=>(f x y).bind fun a=>(rC f xs ys).map fun b=>a&&b
 |_,_=>none
noncomputable def D.eqf:Nat->D->D->Option Bool
 |0,_,_=>none
 |_+1,.non,.non=>some true
 |_+1,.bl a,.bl b=>some (a==b)
 |_+1,.int a,.int b=>some (a==b)
 |_+1,.bl a,.int b=>some ((if a then (1:Int) else 0)==b)
 |_+1,.int a,.bl b=>some (a==(if b then (1:Int) else 0))
 |_+1,.str a,.str b=>some (a==b)
 |n+1,.lst a,.lst b=>if a.length=b.length then rC (D.eqf n) a b else some false
 |n+1,.tup a,.tup b=>if a.length=b.length then rC (D.eqf n) a b else none
 |_+1,.dct _,_=>none
 |_+1,_,.dct _=>none
 |_+1,.mpi _,_=>none
 |_+1,_,.mpi _=>none
 |_+1,.mpt _,_=>none
 |_+1,_,.mpt _=>none
 |_+1,.mpz _,_=>none
 |_+1,_,.mpz _=>none
 |_+1,_,_=>some false
noncomputable def D.cO:D->Bool
 |.lst _=>false
 |.tup _=>false
 |.dct _=>false
 |.mpi _=>false
 |.mpt _=>false
 |.mpz _=>false
 |_=>true
noncomputable def D.eqs:D->D->Bool
 |.non,.non=>true
 |.bl a,.bl b=>a==b
 |.int a,.int b=>a==b
 |.str a,.str b=>a==b
 |.bl a,.int b=>(if a then (1:Int) else 0)==b
 |.int a,.bl b=>a==(if b then (1:Int) else 0)
 |_,_=>false
structure Exc where
 cls:Str
 fs:List (Str×D)
deriving Inhabited
inductive Rs (α:Type) where
 | ok (a:α) | exc (e:Exc) | bad
noncomputable def Rs.bind {α β:Type}(x:Rs α)(f:α->Rs β):Rs β:=match x with
 |.ok a=>f a
 |.exc e=>.exc e
 |.bad=>.bad
inductive Rt where
 | mv (R:List Nat)
 | sh (R:List Nat)
noncomputable def Rt.roots:Rt->List Nat
 |.mv R=>R
 |.sh R=>R
inductive Tg where
 | own | lk | sh (R:List Nat)
noncomputable abbrev Slot:=Option (D×Tg)
noncomputable abbrev En:=List Slot
noncomputable def lim:Nat:=1000000
inductive kz where
 | nm (i:Nat) | tp (is:List Nat)
inductive C8 where
 | len | list | tuple | int | str | abs | min2 | max2 | all | any | sum | isi (T:String) | sorted | bool | lrev | lrng | divm | maxd
inductive Mth where
 | sfind | sindex | sjoin | ssplit | lindex | lcount | szfill | scount | sstarts
inductive o9 where
 | append | extend | insert | pop | vU | reverse | clear
mutual
inductive Ex where
 | var (i:Nat)
 | cst (d:D)
 | glb (k:Nat)
 | bin (op:Operator) (a b:Ex)
 | neg (a:Ex)
 | cmp (op:CmpOp) (a b:Ex)
 | chn (op op':CmpOp) (a b c:Ex)
 | and (a b:Ex)
 | or (a b:Ex)
 | not (a:Ex)
 | ite (c a b:Ex)
 | lst (es:kL)
 | tup (es:kL)
 | ix (a i:Ex)
 | sl (a:Ex) (lo hi:lH)
 | call (f:Nat) (es:kL)
 | blt (b:C8) (es:kL)
 | mth (m:Mth) (o:Ex) (es:kL)
 | comp (own:Nat) (pick:List Nat) (t:kz) (it:qM) (c:lH) (e:Ex)
 | dnew
 | ddsp (l:List (Nat×Int))
 | snoc (a b:Ex)
 | app (g:List D->Option D) (es:kL)
inductive kL where
 | nil | cons (e:Ex) (es:kL)
inductive lH where
 | none | some (e:Ex)
inductive qM where
 | seq (e:Ex) | rng1 (a:Ex) | rng2 (a b:Ex) | rng3 (a b c:Ex) | enum (e:Ex) | zip (a b:Ex) | rev (e:Ex)
end
abbrev GV:Ex:=.cst (.int 1)
abbrev GW:Ex:=.cst (.int 6)
abbrev GX:Ex:=.cst (.int 2)
abbrev GY:Ex:=.cst (.int 0)
abbrev GZ:Ex:=.cst (.int 3)
abbrev G4:Ex:=.cst (.int 4)
abbrev G5:Ex:=.cst (.int 5)
abbrev G6:Ex:=.cst (.int 7)
abbrev G7:Ex:=.cst (.int 8)
abbrev G8:Ex:=.cst (.int 64)
abbrev G9:Ex:=.cst (.int 42)
abbrev Ha:Ex:=.cst (.int 21)
abbrev Hb:Ex:=.cst (.int 15)
abbrev Hc:Ex:=.cst (.int 19)
abbrev He:Ex:=.cst (.int 23)
abbrev Hf:Ex:=.cst (.int 27)
abbrev Hg:Ex:=.cst (.int 31)
abbrev Hh (n:Int):Ex:=.cst (.int n)
abbrev Hi:Ex:=.var 1
abbrev Hj:Ex:=.var 0
abbrev Hk:Ex:=.var 3
abbrev Hl:Ex:=.var 4
abbrev Hm:Ex:=.var 2
abbrev Hn:Ex:=.var 5
abbrev Ho:Ex:=.var 6
abbrev Hq:Ex:=.var 7
abbrev Hr:Ex:=.var 8
abbrev Hs:Ex:=.var 9
abbrev Ht:Ex:=.var 11
abbrev Hu:Ex:=.var 12
abbrev Hv:Ex:=.var 13
abbrev Hw:Ex:=.var 14
abbrev Hx:Ex:=.glb 2
abbrev Hy:Ex:=.glb 9
abbrev Hz (a:Ex):kL:=.cons a .nil
abbrev HA (a b:Ex):kL:=.cons a (.cons b .nil)
abbrev HB (a b c:Ex):kL:=.cons a (.cons b (.cons c .nil))
abbrev HC (a b c d:Ex):kL:=.cons a (.cons b (.cons c (.cons d .nil)))
abbrev HD (a:Ex):Ex:=.blt .len (Hz a)
mutual
inductive St where
 | asg (t:kz) (e:Ex) (mv:Bool)
 | mut (x:Nat) (path:lH) (m:o9) (es:kL)
 | setix (x:Nat) (path:lH) (i:Ex) (e:Ex)
 | putd (x:Nat) (i v:Ex)
 | aug (x:Nat) (op:Operator) (e:Ex)
 | popa (y x:Nat) (es:kL)
 | apop (y x:Nat) (es:kL)
 | frzd (x:Nat) (s:St)
 | expr (e:Ex)
 | ite (c:Ex) (a b:bW)
 | forr (t:kz) (it:qM) (b:bW)
 | forw (x:Nat) (e:Ex) (b:bW)
 | whl (c:Ex) (b:bW)
 | ret (e:Ex)
 | retN | brk | cnt | pass
inductive bW where
 | nil | cons (s:St) (r:bW)
end
noncomputable def ck (n:Nat)(d:D):Option D:=if n<=lim then some d else none
noncomputable def small (i:Int):Bool:=decide (-(2 ^ 64)<i/\i<2 ^ 64)
noncomputable def binI:Operator->Int->Int->Option Int
 |.Add,i,j=>some (i+j)
 |.Sub,i,j=>some (i - j)
 |.Mult,i,j=>if small i || small j then some (i*j) else none
 |.FloorDiv,i,j=>if 0<j/\j<1073741824 then some (i / j) else none
 |.Mod,i,j=>if 0<j then some (i%j) else none
 |.LShift,i,j=>if 0<=j/\j<=1000000/\i.natAbs<2 ^ 64 then some (i*2 ^ j.toNat) else none
 |.RShift,i,j=>if 0<=j then some (i / 2 ^ j.toNat) else none
 |.BitAnd,i,j=>some (Builtin.bitAnd i j)
 |.BitXor,i,j=>some (Builtin.bitXor i j)
 |_,_,_=>none
noncomputable def zI (a:Str)(k:Nat):Str:=⟨(List.replicate k a.cps).foldl (fun x y=>x++y) #[]⟩
noncomputable def lj (op:Operator):D->D->Option D
 |.int i,.int j=>(binI op i j).map .int
 |.str a,.str b=>match op with
  |.Add=>ck (a.length+b.length) (.str (a++b))
  |_=>none
 |.lst a,.lst b=>match op with
  |.Add=>ck (a.length+b.length) (.lst (a++b))
  |_=>none
 |.lst a,.int k=>match op with
  |.Mult=>if -(2 ^ 63)<=k/\k<2 ^ 63 then (if D.flats a then ck (a.length*k.toNat) (.lst (List.replicate k.toNat a).flatten) else none) else none
  |_=>none
 |_,_=>none
noncomputable def FD:Option Int->D
 |none=>.non
 |some i=>.int i
noncomputable def qH (kvs:List ((Int ⊕ Str)×Option Int))(k:Int ⊕ Str):Option (Option Int):=(kvs.find? fun q=>decide (q.1=k)).map (·.2)
noncomputable def inS (x y:Str):Bool:=!(Builtin.Str.occurrences y x 0 y.length 1).isEmpty
noncomputable def uX {α:Type}[BEq α](ks:List α)(k:α):List α:=if ks.contains k then ks else ks ++ [k]
noncomputable def xS (kvs:List (Int×MV))(k:Int)(m:MV):List (Int×MV):=if (kvs.any fun q=>decide (q.1=k))=true then kvs.map (fun q=>if q.1=k then (q.1,m) else q) else kvs ++ [(k,m)]
noncomputable def eB:List D->Option (List Int)
 |[]=>some []
 |.int i::r=>(eB r).map (i :: ·)
 |_::_=>none
noncomputable def Gj:MV->D
 |.tr=>.bl true
 |.int i=>.int i
 |.tup is=>.tup (is.map .int)
noncomputable def Di:D->Option MV
 |.bl true=>some .tr
 |.int i=>some (.int i)
 |.tup xs=>(eB xs).map .tup
 |_=>none
noncomputable def zC (gl:Nat->D):List (Nat×Int)->List (Int×MV)->Option (List (Int×MV))
 |[],ks=>some ks
 |q::r,ks=>match gl q.1 with
  |.int i=>zC gl r (xS ks i (.int q.2))
  |_=>none
noncomputable def pq:D->Bool
 |.bl true=>true
 |_=>false
noncomputable def jH (i j:Int):Bool:=!(i==42&&j==21)
noncomputable def Dw:D->D->D->Option D
 |.mpi ks,.int k,v=>if ks.length<lim then (Di v).map fun m=>.mpi (xS ks k m) else none
 |.mpi [],.tup [.int i,.int j],v=>if pq v&&jH i j then some (.mpt [[i,j]]) else none
 |.mpt ks,.tup [.int i,.int j],v=>if (pq v&&jH i j)&&decide (ks.length<lim) then some (.mpt (uX ks [i,j])) else none
 |_,_,_=>none
noncomputable def inD (x:D):D->Option Bool
 |.lst ys=>if x.cO&&ys.all D.cO then some (ys.any fun y=>D.eqs y x) else none
 |.tup ys=>if x.cO&&ys.all D.cO then some (ys.any fun y=>D.eqs y x) else none
 |.str y=>match x with
  |.str z=>some (inS z y)
  |_=>none
 | .dct ((.inr z,v)::kvs)=>match x with
  |.str s=>some (qH ((.inr z,v)::kvs) (.inr s)).isSome
  |_=>none
 |.mpi ks=>match x with
  |.int k=>some (ks.any fun q=>decide (q.1=k))
  |.tup [.int _,.int _]=>if ks.isEmpty then some false else none
  |_=>none
 |.mpz ks=>match x with
  |.int k=>some (ks.any fun q=>decide (q.1=k))
  |_=>none
 |.mpt ks=>match x with
  |.tup [.int i,.int j]=>some (ks.contains [i,j])
  |_=>none
 |_=>none
noncomputable def lV:List Int->List Int->Bool
 |[],_=>true
 |_::_,[]=>false
 |a::x,b::y=>if a=b then lV x y else decide (a<=b)
noncomputable def mK:D->Bool
 |.non=>true
 |_=>false
noncomputable def EJ (eq lt:D->D->Option Bool):List D->List D->Option Bool
 |[],[]=>some false
 |[],_::_=>some true
 |_::_,[]=>some false
 |x::xs,y::ys=>(eq x y).bind fun e=>if e then EJ eq lt xs ys else lt x y
noncomputable def D.ltf:Nat->D->D->Option Bool
 |_+1,.int i,.int j=>some (decide (i<j))
 |n+1,.tup xs,.tup ys=>EJ (D.eqf n) (D.ltf n) xs ys
 |n+1,.lst xs,.lst ys=>EJ (D.eqf n) (D.ltf n) xs ys
 |_,_,_=>none
noncomputable def kB:CmpOp->D->D->Option Bool
 |.Lt,.int i,.int j=>some (decide (i<j))
 |.Lt,.tup xs,.tup ys=>D.ltf 39 (.tup xs) (.tup ys)
 |.LtE,.int i,.int j=>some (decide (i<=j))
 |.LtE,.tup xs,.tup ys=>(eB xs).bind fun a=>(eB ys).map fun b=>lV a b
 |.Gt,.int i,.int j=>some (decide (j<i))
 |.GtE,.int i,.int j=>some (decide (j<=i))
 |.Eq,x,y=>D.eqf 40 x y
 |.NotEq,x,y=>(D.eqf 40 x y).map (!·)
 |.In,x,y=>inD x y
 |.NotIn,x,y=>(inD x y).map (!·)
 |.Is,x,.non=>some (mK x)
 |.IsNot,x,.non=>some (!mK x)
 |.Is,.bl a,.bl b=>some (a==b)
 |.IsNot,.bl a,.bl b=>some (!(a==b))
 |_,_,_=>none
noncomputable def truth:D->Option Bool
 |.bl b=>some b
 |.int i=>some (i != 0)
 |.str s=>if s.length<=lim then some ((s.length:Int) != 0) else none
 |.lst xs=>some (!xs.isEmpty)
 |.tup xs=>some (!xs.isEmpty)
 |.non=>some false
 |.dct _=>none
 |.mpi _=>none
 |.mpt _=>none
 |.mpz _=>none
noncomputable def fU (n:Nat)(i:Int):Option Nat:=if 0<=i then (if i<n then some i.toNat else none) else if -(n:Int)<=i then some (i+n).toNat else none
noncomputable def bV (n d:Nat):Option Int->Nat
 |none=>d
 |some v=>if v<0 then (v+(n:Int)).toNat else min v.toNat n
noncomputable def cut {α:Type}(xs:List α)(lo hi:Option Int):List α :=
 let a:=bV xs.length 0 lo
 (xs.drop a).take (bV xs.length xs.length hi - a)
noncomputable def BN:D->D->Option D
 |.lst xs,.int i=>(fU xs.length i).bind fun j=>xs[j]?
 |.tup xs,.int i=>(fU xs.length i).bind fun j=>xs[j]?
 |.str s,.int i=>if s.length<=lim then ((fU s.cps.toList.length i).bind fun j=>s.cps.toList[j]?).map fun c=>.str ⟨#[c]⟩ else none
 |.dct kvs,.int i=>(qH kvs (.inl i)).map FD
 |.dct kvs,.str s=>(qH kvs (.inr s)).map FD
 |.mpi ks,.int k=>(ks.find? fun q=>decide (q.1=k)).map fun q=>Gj q.2
 |.mpz ks,.int k=>(ks.find? fun q=>decide (q.1=k)).map fun q=>Gj q.2
 |_,_=>none
noncomputable def slD:D->Option Int->Option Int->Option D
 |.lst xs,lo,hi=>some (.lst (cut xs lo hi))
 |.str s,lo,hi=>if s.length<=lim then some (.str ⟨(cut s.cps.toList lo hi).toArray⟩) else none
 |_,_,_=>none
noncomputable def D.inner:D->Bool
 |.lst xs=>D.flats xs
 |.tup xs=>D.flats xs
 |_=>true
noncomputable def dO (d:D)(R:List Nat):Rt:=if d.inner then .mv [] else .sh R
noncomputable def lJ (d:D)(r:Rt):Rt:=if d.flat then .mv [] else .sh r.roots
noncomputable def dC:List Rt->Option (List Nat)
 |[]=>some []
 |.mv R::r=>(dC r).map (R ++ ·)
 |.sh _::_=>none
noncomputable def aP (l:List Rt):List Nat:=(l.map Rt.roots).flatten
noncomputable def BC:D->D->Rt->Option D
 |.lst xs,y,.mv []=>if D.flats xs&&decide (xs.length+1<=lim) then some (.lst (xs ++ [y])) else none
 |_,_,_=>none
noncomputable def nT (l:List Rt):Rt:=match dC l with
 |some R=>if R.Nodup then .mv R else .sh R
 |none=>.sh (aP l)
noncomputable def wx (T:String):D->Bool
 |.non=>T == "NoneType"
 |.bl _=>T == "bool" || T == "int"
 |.int _=>T == "int"
 |.str _=>T == "str"
 |.lst _=>T == "list"
 |.tup _=>T == "tuple"
 |.dct _=>false
 |.mpi _=>false
 |.mpt _=>false
 |.mpz _=>false
noncomputable def D.isBl:D->Bool
 |.bl _=>true
 |_=>false
noncomputable def allB:List D->Option Bool
 |[]=>some true
 |.bl b::r=>if b then allB r else some false
 |_::_=>none
noncomputable def anyB:List D->Option Bool
 |[]=>some false
 |.bl b::r=>if b then some true else anyB r
 |_::_=>none
noncomputable def Ek:Int->List D->Option Int
 |a,[]=>some a
 |a,.int i::r=>Ek (a+i) r
 |_,_::_=>none
noncomputable def BH:Int->List D->Option Int
 |a,[]=>some a
 |a,.int i::r=>BH (if i > a then i else a) r
 |_,_::_=>none
noncomputable def bK:Int->Int->Nat->List D
 |_,_,0=>[]
 |a,s,n+1=>.int a::bK (a+s) s n
noncomputable def fJ (i:Int):Bool:=decide (-(2 ^ 62)<=i/\i<2 ^ 62)
noncomputable def qa:List D->Option (List (List Int))
 |[]=>some []
 |.tup xs::r=>(eB xs).bind fun k=>if k.isEmpty then none else (qa r).map (k :: ·)
 |_::_=>none
noncomputable def jV:List Int->List Int->Bool
 |[],[]=>false
 |[],_::_=>true
 |_::_,[]=>false
 |a::x,b::y=>if a==b then jV x y else decide (a<b)
noncomputable def AG {α:Type}(f:Nat->Nat->Option Bool):PySem.W.KasT α->Option α
 |.ret a=>some a
 |.ask i j k=>(f i j).bind fun b=>AG f (k b)
noncomputable def tH (xs:List D):Option (List D):=if 2<=xs.length/\xs.length<64 then (qa xs).bind fun ks =>
  (AG (fun i j=>(ks[i]?).bind fun a=>(ks[j]?).map fun b=>jV a b) (PySem.W.kas_sort xs.length)).bind fun p =>
   if p.size<=64 then some (p.toList.map fun i=>xs.getD i .non) else none
 else none
noncomputable def insI (a:Int):List Int->List Int
 |[]=>[a]
 |b::l=>if a<=b then a::b::l else b::insI a l
noncomputable def bY:List Int->List Int
 |[]=>[]
 |a::l=>insI a (bY l)
noncomputable def y0:List D->Option D
 |[.lst xs]=>match eB xs with
  |some ns=>if ns.length<64 then some (.lst ((bY ns).map .int)) else none
  |none=>(tH xs).map .lst
 |_=>none
noncomputable def Ft:List D->Option D
 |[.lst xs]=>some (.int xs.length)
 |[.tup xs]=>some (.int xs.length)
 |[.str s]=>if s.length<=lim then some (.int s.length) else none
 |[.mpt ks]=>some (.int ks.length)
 |_=>none
noncomputable def CP:List D->Option D
 |[.lst xs]=>some (.lst xs)
 |[.tup xs]=>some (.lst xs)
 |[.mpi ks]=>if ks.length<=lim then some (.lst (ks.map fun q=>.int q.1)) else none
 |_=>none
noncomputable def Bp:List D->Option D
 |[.lst xs]=>some (.tup xs)
 |_=>none
noncomputable def E3:List D->Option D
 |[.int i]=>some (.int (if i<0 then -i else i))
 |_=>none
noncomputable def dN (lt:Nat->Nat->Bool):Nat->Nat->Nat->Nat
 |0,_,m=>m
 |k+1,j,m=>dN lt k (j+1) (if lt j m then j else m)
noncomputable def minD (xs:List D):Option D:=if xs.isEmpty then none else match eB xs with
 |some ns=>xs[dN (fun i j=>decide (ns.getD i 0<ns.getD j 0)) (xs.length - 1) 1 0]?
 |none=>(qa xs).bind fun ks=>xs[dN (fun i j=>jV (ks.getD i []) (ks.getD j [])) (xs.length - 1) 1 0]?
noncomputable def C1:List D->Option D
 |[.int i,.int j]=>some (.int (if j<i then j else i))
 |[.lst xs]=>minD xs
 |_=>none
noncomputable def DW:List D->Option D
 |[.int i,.int j]=>some (.int (if j > i then j else i))
 |_=>none
noncomputable def B3:List D->Option D
 |[.lst xs]=>if xs.all D.isBl then (allB xs).map .bl else none
 |_=>none
noncomputable def FQ:List D->Option D
 |[.lst xs]=>if xs.all D.isBl then (anyB xs).map .bl else none
 |_=>none
noncomputable def BX:List D->Option D
 |[.lst xs]=>(Ek 0 xs).map .int
 |_=>none
noncomputable def F5 (T:String):List D->Option D
 |[.dct _]=>none
 |[.mpi _]=>none
 |[.mpt _]=>none
 |[.mpz _]=>none
 |[d]=>some (.bl (wx T d))
 |_=>none
noncomputable def DL:List D->Option D
 |[.lst xs]=>some (.lst xs.reverse)
 |_=>none
noncomputable def r8:List D->Option D
 |[.int n]=>if fJ n=true/\n<=1000000 then some (.lst (bK 0 1 n.toNat)) else none
 |[.int a,.int b]=>if fJ a=true/\fJ b=true/\b - a<=1000000 then some (.lst (bK a 1 (b - a).toNat)) else none
 |_=>none
noncomputable def Fw:List D->Option D
 |[.str s]=>if s.length<=640 then (PySem.intText? s).map .int else none
 |[.int i]=>some (.int i)
 |[.bl b]=>some (.int (if b then 1 else 0))
 |_=>none
noncomputable def D3:List D->Option D
 |[.int i,.int j]=>if 0<j/\j<1073741824 then some (.tup [.int (i / j),.int (i%j)]) else none
 |_=>none
noncomputable def E6:List D->Option D
 |[.int i]=>if i.natAbs<1000000 then some (.str (Str.ofString (toString i))) else none
 |_=>none
noncomputable def CD:List D->Option D
 |[.lst [],.int d]=>some (.int d)
 | [.lst (.int i::r),.int _]=>(BH i r).map .int
 |_=>none
noncomputable def l7:C8->List D->Option D
 |.sorted,ds=>y0 ds
 |.len,ds=>Ft ds
 |.list,ds=>CP ds
 |.tuple,ds=>Bp ds
 |.abs,ds=>E3 ds
 |.min2,ds=>C1 ds
 |.max2,ds=>DW ds
 |.all,ds=>B3 ds
 |.any,ds=>FQ ds
 |.sum,ds=>BX ds
 |.isi T,ds=>F5 T ds
 |.lrev,ds=>DL ds
 |.lrng,ds=>r8 ds
 |.int,ds=>Fw ds
 |.divm,ds=>D3 ds
 |.maxd,ds=>CD ds
 |.str,ds=>E6 ds
 |_,_=>none
noncomputable def FE (k:Int):List D->Option Nat
 |[]=>some 0
 |.int i::r=>(FE k r).map fun c=>if i==k then c+1 else c
 |_::_=>none
noncomputable def EN:List D->Option (List Str)
 |[]=>some []
 |.str s::r=>(EN r).map (s :: ·)
 |_::_=>none
noncomputable def Dc (x y:Str):List Str :=
 if (decide (x.length<y.length) || decide (Builtin.Str.strKind x<Builtin.Str.strKind y))=true then [x] else
 if (Builtin.Str.occurrences x y 0 x.length (x.length+1)).isEmpty=true then [x] else Builtin.Str.partsBetween x (Builtin.Str.occurrences x y 0 x.length (x.length+1)) y.length
noncomputable def mthD:Mth->D->List D->Option D
 |.sfind,.str x,[.str y]=>some (.int (match Builtin.Str.occurrences x y 0 x.length 1 with
  |i::_=>(i:Int)
  |[]=>-1))
 |.sindex,.str x,[.str y]=>match Builtin.Str.occurrences x y 0 x.length 1 with
  |i::_=>some (.int (i:Int))
  |[]=>none
 |.sindex,.lst xs,[.int k]=>(eB xs).bind fun ns=>if k∈ns/\ns.length<=lim then some (.int ((ns.idxOf k:Nat):Int)) else none
 |.sjoin,.str x,[.lst xs]=>(EN xs).bind fun ys=>if (ys.map (·.length)).sum+ys.length*x.length<=lim then some (.str (PySem.Str.join x ys)) else none
 |.ssplit,.str x,[.str y]=>if 0<y.length/\x.length<=lim then some (.lst ((Dc x y).map .str)) else none
 |.lcount,.lst xs,[.int k]=>(FE k xs).map fun (c:Nat)=>.int (c:Int)
 |_,_,_=>none
noncomputable def Tg.drop (i:Nat):Tg->Tg
 |.sh R=>.sh (R.filter (· != i))
 |t=>t
noncomputable def bJ (d:D)(R:List Nat):Tg:=if d.flat then .own else .sh R
noncomputable def put (env:En)(i:Nat)(d:D)(t:Tg):En:=(env.map fun (s:Slot)=>s.map fun (p:D×Tg)=>(p.1,p.2.drop i)).set i (some (d,t))
noncomputable def iN (R:List Nat):Tg->Bool
 |.sh Q=>Q.any fun q=>R.contains q
 |_=>false
noncomputable def kill (R:List Nat)(env:En):En:=env.mapIdx fun i (s:Slot)=>match s with
 | some (d,t)=>if R.contains i || iN R t then none else some (d,t)
 |none=>none
noncomputable def eO (env:En)(R:List Nat):Bool:=R.all fun i=>match env[i]? with
 | some (some (_,.own))=>true
 |_=>false
noncomputable def bindM (f:D->Tg):List Nat->List D->En->Option En
 |[],[],env=>some env
 |i::is,d::ds,env=>if i<env.length then bindM f is ds (put env i d (f d)) else none
 |_,_,_=>none
noncomputable def aW (R:List Nat):kz->D->En->Option En
 |.nm i,d,env=>if i<env.length then some (put env i d (bJ d R)) else none
 |.tp is,.tup ds,env=>bindM (fun d=>bJ d R) is ds env
 |_,_,_=>none
structure Tb where
 cl:Nat->List D->Rs (D×Bool)
 gl:Nat->D
 fuel:Nat
noncomputable def kj {α:Type}:Option α->Rs α
 |some a=>.ok a
 |none=>.bad
noncomputable def wy:D->Option (List D)
 |.lst xs=>some xs
 |.tup xs=>some xs
 |.str s=>if s.length<=lim then some (s.cps.toList.map fun c=>.str ⟨#[c]⟩) else none
 |.mpz ks=>some (ks.map fun q=>.int q.1)
 |_=>none
noncomputable def tF:D->Option (List D)
 |.lst xs=>some xs
 |_=>none
noncomputable def sH:D->Option (List D)
 |.lst xs=>some xs
 |.str s=>some (s.cps.toList.map fun c=>.str ⟨#[c]⟩)
 |_=>none
noncomputable def dP (f:D->Rs (Option (D×Rt))):List D->Rs (List (D×Rt))
 |[]=>.ok []
 |d::r=>(f d).bind fun o=>(dP f r).bind fun l=>.ok (match o with
  |some p=>p::l
  |none=>l)
noncomputable def bB (o:Option En)(c:En->Rs Bool)(e:En->Rs (D×Rt)):Rs (Option (D×Rt)):=match o with
 |none=>.bad
 |some env=>(c env).bind fun k=>if k then (e env).bind fun q=>.ok (some q) else .ok none
noncomputable def eK:Rt->Bool
 |.mv []=>true
 |_=>false
noncomputable def aY (i:Nat):Tg->List Nat
 |.own=>[i]
 |.lk=>[i]
 |.sh R=>R
noncomputable def mC (env:En)(pick:List Nat):List Nat:=(pick.map fun j=>match env[j]? with
 | some (some (_,t))=>aY j t
 |_=>[]).flatten
noncomputable def bM (env:En)(own:Nat)(pick:List Nat):En:=List.replicate own none++pick.map fun i=>match env[i]? with
 | some (some (d,_))=>some (d,.sh [])
 |_=>none
mutual
noncomputable def ev (T:Tb):Ex->En->Rs (D×Rt)
 |.var i,env=>match env[i]? with
  | some (some (d,t))=>.ok (d,if d.flat then .mv [] else match t with
   |.own=>.mv [i]
   |.lk=>.mv [i]
   |.sh R=>.sh R)
  |_=>.bad
 |.cst d,_=>.ok (d,.mv [])
 |.glb k,_=>.ok (T.gl k,.mv [])
 |.bin op a b,env=>(ev T a env).bind fun p=>(ev T b env).bind fun q=>(kj (lj op p.1 q.1)).bind fun d=>.ok (d,dO d (p.2.roots++q.2.roots))
 |.neg a,env=>(ev T a env).bind fun p=>match p.1 with
  |.int i=>.ok (.int (-i),.mv [])
  |_=>.bad
 |.cmp op a b,env=>(ev T a env).bind fun p=>(ev T b env).bind fun q=>(kj (kB op p.1 q.1)).bind fun c=>.ok (.bl c,.mv [])
 |.chn op op' a b c,env=>(ev T a env).bind fun p=>(ev T b env).bind fun q=>(kj (kB op p.1 q.1)).bind fun k =>
   if k then (ev T c env).bind fun r=>(kj (kB op' q.1 r.1)).bind fun k'=>.ok (.bl k',.mv []) else .ok (.bl false,.mv [])
 |.and a b,env=>(ev T a env).bind fun p=>match p.1 with
  |.bl true=>ev T b env
  |.bl false=>.ok (.bl false,.mv [])
  |_=>.bad
 |.or a b,env=>(ev T a env).bind fun p=>match p.1 with
  |.bl true=>.ok (.bl true,.mv [])
  |.bl false=>ev T b env
  |_=>.bad
 |.not a,env=>(ev T a env).bind fun p=>match p.1 with
  |.bl k=>.ok (.bl (!k),.mv [])
  |_=>.bad
 |.ite c a b,env=>(ev T c env).bind fun p=>(kj (truth p.1)).bind fun k=>if k then ev T a env else ev T b env
 |.lst es,env=>(bC T es env).bind fun l=>if l.length<=lim then .ok (.lst (l.map (·.1)),nT (l.map (·.2))) else .bad
 |.tup es,env=>(bC T es env).bind fun l=>if l.length<=lim then .ok (.tup (l.map (·.1)),nT (l.map (·.2))) else .bad
 |.ix a i,env=>(ev T a env).bind fun p=>(ev T i env).bind fun q=>(kj (BN p.1 q.1)).bind fun d=>.ok (d,lJ d p.2)
 |.sl a lo hi,env=>(ev T a env).bind fun p=>(iS T lo env).bind fun l=>(iS T hi env).bind fun h=>(kj (slD p.1 l h)).bind fun d=>.ok (d,dO d p.2.roots)
 |.call f es,env=>(bC T es env).bind fun l=>(T.cl f (l.map (·.1))).bind fun r=>.ok (r.1,if r.2 then .mv [] else .sh (aP (l.map (·.2))))
 |.blt b es,env=>(bC T es env).bind fun l=>(kj (l7 b (l.map (·.1)))).bind fun d=>.ok (d,dO d (aP (l.map (·.2))))
 |.mth m o es,env=>(ev T o env).bind fun p=>(bC T es env).bind fun l=>(kj (mthD m p.1 (l.map (·.1)))).bind fun d=>.ok (d,dO d (p.2.roots++aP (l.map (·.2))))
 |.comp own pick t it c e,env=>(dM T it env).bind fun p=>(dP (fun d=>bB (aW [] t d (bM env own pick)) (lr T c) (ev T e)) p.1).bind fun l =>
    if p.1.length<=lim then .ok (.lst (l.map (·.1)),if l.all (fun q=>q.1.flat || eK q.2) then .mv [] else .sh (p.2++mC env pick)) else .bad
 |.dnew,_=>.ok (.mpi [],.mv [])
 |.ddsp l,_=>(kj (zC T.gl l [])).bind fun ks=>.ok (.mpi ks,.mv [])
 |.snoc a b,env=>(ev T a env).bind fun p=>(ev T b env).bind fun q=>(kj (BC p.1 q.1 q.2)).bind fun d=>.ok (d,.mv [])
 |.app g es,env=>(bC T es env).bind fun l=>(kj (g (l.map (·.1)))).bind fun d=>.ok (d,.mv [])
noncomputable def bC (T:Tb):kL->En->Rs (List (D×Rt))
 |.nil,_=>.ok []
 |.cons e es,env=>(ev T e env).bind fun p=>(bC T es env).bind fun l=>.ok (p::l)
noncomputable def iS (T:Tb):lH->En->Rs (Option Int)
 |.none,_=>.ok none
 |.some e,env=>(ev T e env).bind fun p=>match p.1 with
  |.int i=>.ok (some i)
  |_=>.bad
noncomputable def lr (T:Tb):lH->En->Rs Bool
 |.none,_=>.ok true
 |.some e,env=>(ev T e env).bind fun p=>kj (truth p.1)
noncomputable def dM (T:Tb):qM->En->Rs (List D×List Nat)
 |.seq e,env=>(ev T e env).bind fun p=>(kj (wy p.1)).bind fun l=>.ok (l,p.2.roots)
 |.rng1 a,env=>(ev T a env).bind fun p=>match p.1 with
  |.int j=>if fJ j then .ok (bK 0 1 j.toNat,[]) else .bad
  |_=>.bad
 |.rng2 a b,env=>(ev T a env).bind fun p=>(ev T b env).bind fun q=>match p.1,q.1 with
  |.int i,.int j=>if fJ i&&fJ j then .ok (bK i 1 (j - i).toNat,[]) else .bad
  |_,_=>.bad
 |.rng3 a b c,env=>(ev T a env).bind fun p=>(ev T b env).bind fun q=>(ev T c env).bind fun r=>match p.1,q.1,r.1 with
  |.int i,.int j,.int k=>if fJ i&&fJ j&&k != 0&&decide (k.natAbs<1073741824) then .ok (bK i k (Builtin.Range.rangeSize i j k).toNat,[]) else .bad
  |_,_,_=>.bad
 |.enum e,env=>(ev T e env).bind fun p=>(kj (sH p.1)).bind fun l=>.ok (l.zipIdx.map fun q=>.tup [.int q.2,q.1],p.2.roots)
 |.zip a b,env=>(ev T a env).bind fun p=>(ev T b env).bind fun q=>(kj (tF p.1)).bind fun l=>(kj (sH q.1)).bind fun m=>.ok ((l.zip m).map fun z=>.tup [z.1,z.2],p.2.roots++q.2.roots)
 |.rev e,env=>(ev T e env).bind fun p=>(kj (tF p.1)).bind fun l=>.ok (l.reverse,p.2.roots)
end
noncomputable def D.at1:D->Option Int->Option (List D)
 |.lst xs,none=>some xs
 |.lst xs,some i=>(fU xs.length i).bind fun j=>match xs[j]? with
  | some (.lst ys)=>some ys
  |_=>none
 |.tup xs,some i=>(fU xs.length i).bind fun j=>match xs[j]? with
  | some (.lst ys)=>some ys
  |_=>none
 |_,_=>none
noncomputable def D.set1:D->Option Int->List D->D
 |.lst _,none,n=>.lst n
 |.lst xs,some i,n=>match fU xs.length i with
  |some j=>.lst (xs.set j (.lst n))
  |none=>.lst xs
 |.tup xs,some i,n=>match fU xs.length i with
  |some j=>.tup (xs.set j (.lst n))
  |none=>.tup xs
 |d,_,_=>d
noncomputable def xj:o9->List D->List D->Option (List D)
 |.append,xs,[d]=>some (xs ++ [d])
 |.extend,xs,[.lst ys]=>if D.flats ys then some (xs++ys) else none
 |.insert,xs,[.int i,d]=>if -(2 ^ 63)<=i/\i<2 ^ 63 then some (xs.take (bV xs.length 0 (some i))++d::xs.drop (bV xs.length 0 (some i))) else none
 |.pop,xs,[]=>if xs.isEmpty then none else some xs.dropLast
 |.reverse,xs,[]=>some xs.reverse
 |.clear,_,[]=>some []
 |_,_,_=>none
noncomputable def vU (xs:List D)(j:Nat):Option (D×List D):=match xs[j]? with
 |some r=>if r.flat then some (r,xs.eraseIdx j) else none
 |none=>none
noncomputable def F8 (xs:List D):List D->Option (D×List D)
 |[]=>vU xs (xs.length - 1)
 |[.int i]=>if -(2 ^ 63)<=i/\i<2 ^ 63 then (fU xs.length i).bind (vU xs) else none
 |_=>none
inductive Fl where
 | nx (env:En) | rt (d:D) (fr:Bool) | bk (env:En) | ct (env:En) | xc (e:Exc) (env:En) | bad
noncomputable def Au:Option En->Fl
 |some env=>.nx env
 |none=>.bad
noncomputable def vg (t:kz)(mv:Bool)(env:En)(p:D×Rt):Fl:=match t with
 |.nm i=>if i<env.length then (match p.2 with
  |.mv []=>.nx (put env i p.1 .own)
  |.mv R=>if mv then (if eO env R then .nx (put (kill R env) i p.1 .own) else .bad) else .nx (put env i p.1 (.sh (R.filter (· != i))))
  |.sh R=>.nx (put env i p.1 (.sh (R.filter (· != i))))) else .bad
 |.tp is=>match p.1 with
  |.tup ds=>match p.2 with
   |.mv []=>Au (bindM (fun _=>.own) is ds env)
   |r=>if is.all (fun i=>!r.roots.contains i) then Au (bindM (fun d=>bJ d r.roots) is ds env) else .bad
  |_=>.bad
noncomputable def Fl.andThen (f:Fl)(k:En->Fl):Fl:=match f with
 |.nx env=>k env
 |x=>x
noncomputable def fI {α:Type}(env:En)(x:Rs α)(k:α->Fl):Fl:=match x with
 |.ok a=>k a
 |.exc e=>.xc e env
 |.bad=>.bad
noncomputable def bQ (t:kz)(R:List Nat)(b:En->Fl):List D->En->Fl
 |[],env=>.nx env
 |d::r,env=>match aW R t d env with
  |none=>.bad
  |some env'=>match b env' with
   |.nx e=>bQ t R b r e
   |.ct e=>bQ t R b r e
   |.bk e=>.nx e
   |x=>x
noncomputable def pj (x:Nat)(b:En->Fl):List D->En->Fl
 |[],env=>.nx env
 |d::r,env=>if x<env.length then (match b (put env x d .own) with
  |.nx e=>pj x b r e
  |_=>.bad) else .bad
noncomputable def nj (c:En->Rs Bool)(b:En->Fl):Nat->En->Fl
 |0,_=>.bad
 |n+1,env=>fI env (c env) fun k=>if k then (match b env with
   |.nx e=>nj c b n e
   |.ct e=>nj c b n e
   |.bk e=>.nx e
   |x=>x) else .nx env
noncomputable def lock (R:List Nat)(env:En):En:=env.mapIdx fun i (s:Slot)=>match s with
 | some (d,.own)=>if R.contains i then some (d,.lk) else some (d,.own)
 |s=>s
noncomputable def unlock (R:List Nat)(env0 env:En):En:=env.mapIdx fun i (s:Slot)=>match s with
 | some (d,.lk)=>match env0[i]? with
  | some (some (_,.own))=>if R.contains i then some (d,.own) else some (d,.lk)
  |_=>some (d,.lk)
 |s=>s
noncomputable def o9.copies:o9->Bool
 |.extend=>true
 |_=>false
noncomputable def eZ (x:Nat)(path:Option Int)(env:En)(d:D)(ys:List D)(rs:List Rt):Fl:=match dC rs with
 |none=>.bad
 |some R=>if R.Nodup&&eO env R && !R.contains x&&decide (ys.length<=lim) then .nx ((kill (x::R) env).set x (some (d.set1 path ys,.own))) else .bad
noncomputable def ownAt (env:En)(x:Nat):Option D:=match env[x]? with
 | some (some (d,.own))=>some d
 |_=>none
noncomputable def Gw (env:En)(x:Nat):En:=match ownAt env x with
 | some (.mpi ks)=>(kill [x] env).set x (some (.mpz ks,.own))
 |_=>env
noncomputable def augI:Operator->Int->Int->Option Int
 |.Add,i,j=>some (i+j)
 |.Sub,i,j=>some (i - j)
 |_,_,_=>none
noncomputable def augE (op:Operator)(x:Nat)(a:Int)(env:En)(p:D×Rt):Fl:=match p.1 with
 |.int b=>(match augI op a b with
  |some c=>vg (.nm x) false env (.int c,.mv [])
  |none=>.bad)
 |_=>.bad
noncomputable def intAt (env:En)(x:Nat):Option Int:=match env[x]? with
 | some (some (.int a,_))=>some a
 |_=>none
mutual
noncomputable def aQ (T:Tb):St->En->Fl
 |.asg t e mv,env=>fI env (ev T e env) (vg t mv env)
 |.mut x path m es,env=>match ownAt env x with
  |none=>.bad
  |some d=>fI env (iS T path env) fun p=>match d.at1 p with
   |none=>.bad
   |some xs=>fI env (bC T es env) fun l=>match xj m xs (l.map (·.1)) with
    |none=>.bad
    |some ys=>if (aP (l.map (·.2))).contains x then .bad else eZ x p env d ys (if m.copies then [] else l.map (·.2))
 |.putd x i v,env=>match ownAt env x with
  |none=>.bad
  |some d=>fI env (ev T v env) fun u=>fI env (ev T i env) fun q=>match Dw d q.1 u.1 with
   |none=>.bad
   |some d'=>.nx ((kill [x] env).set x (some (d',.own)))
 |.setix x path i e,env=>match ownAt env x with
  |none=>.bad
  |some d=>fI env (ev T e env) fun v=>fI env (iS T path env) fun p=>match d.at1 p with
   |none=>.bad
   |some xs=>fI env (ev T i env) fun q=>match q.1 with
    |.int i=>(match fU xs.length i with
     |none=>.bad
     |some j=>eZ x p env d (xs.set j v.1) [v.2])
    |_=>.bad
 |.aug x op e,env=>match intAt env x with
  |none=>.bad
  |some a=>fI env (ev T e env) (augE op x a env)
 |.popa y x es,env=>match ownAt env x with
  |none=>.bad
  |some d=>(match d.at1 none with
   |none=>.bad
   |some xs=>fI env (bC T es env) fun l=>match F8 xs (l.map (·.1)) with
    |none=>.bad
    |some q=>(eZ x none env d q.2 []).andThen fun e=>vg (.nm y) false e (q.1,.mv []))
 |.apop y x es,env=>if y=x then .bad else match ownAt env x with
  |none=>.bad
  |some d=>(match d.at1 none with
   |none=>.bad
   |some xs=>fI env (bC T es env) fun l=>match F8 xs (l.map (·.1)) with
    |none=>.bad
    |some q=>(eZ x none env d q.2 []).andThen fun e=>match ownAt e y with
     |none=>.bad
     |some dy=>(match dy.at1 none with
      |none=>.bad
      |some ys=>eZ y none e dy (ys ++ [q.1]) []))
 |.frzd x s,env=>aQ T s (Gw env x)
 |.expr e,env=>fI env (ev T e env) fun _=>.nx env
 |.ite c a b,env=>fI env (ev T c env) fun p=>match truth p.1 with
  |some true=>aE T a env
  |some false=>aE T b env
  |none=>.bad
 |.forr t it b,env=>fI env (dM T it env) fun p=>(match bQ t p.2 (aE T b) p.1 (lock p.2 env) with
  |.nx e=>.nx (unlock p.2 env e)
  |x=>x)
 |.forw x e b,env=>fI env (ev T e env) fun p=>match p with
  | (.lst xs,.mv [])=>pj x (aE T b) xs env
  |_=>.bad
 |.whl c b,env=>nj (fun env=>(ev T c env).bind fun p=>kj (truth p.1)) (aE T b) T.fuel env
 |.ret e,env=>fI env (ev T e env) fun p=>.rt p.1 (match p.2 with
  |.mv R=>eO env R
  |.sh _=>false)
 |.retN,_=>.rt .non true
 |.brk,env=>.bk env
 |.cnt,env=>.ct env
 |.pass,env=>.nx env
noncomputable def aE (T:Tb):bW->En->Fl
 |.nil,env=>.nx env
 |.cons s r,env=>(aQ T s env).andThen (aE T r)
end
structure Fn where
 ps:Nat
 slots:Nat
 body:bW
noncomputable def aM (ds:List D)(n:Nat):En:=ds.map (fun d=>some (d,bJ d []))++List.replicate (n - ds.length) none
noncomputable def run (fns:List Fn)(gl:Nat->D)(fuel:Nat):Nat->Nat->List D->Rs (D×Bool)
 |0,_,_=>.bad
 |n+1,f,ds=>match fns[f]? with
  |none=>.bad
  |some F=>if ds.length=F.ps then (match aE ⟨run fns gl fuel n,gl,fuel⟩ F.body (aM ds F.slots) with
   |.rt d fr=>.ok (d,fr)
   |.nx _=>.ok (.non,true)
   |.xc e _=>.exc e
   |_=>.bad) else .bad
end Pc
end
section
namespace Pc
open PySem L2
noncomputable abbrev Frag:=PySem.W.Frag
inductive fN:List DictEntry->List (Key×Option Int)->Prop where
 | nil:fN [] []
 | cons {e:DictEntry}{es:List DictEntry}{k v:Int}{kvs:List (Key×Option Int)}{t u:Tok}(hh:e.hash=hashInt k) (hk:e.key = .int k t) (hv:e.val = .int v u) (r:fN es kvs):fN (e::es) ((.inl k,some v)::kvs)
 | si {e:DictEntry}{es:List DictEntry}{k:Str}{v:Int}{kvs:List (Key×Option Int)}{t u:Tok}(hk:e.key = .str k t) (hv:e.val = .int v u) (r:fN es kvs):fN (e::es) ((.inr k,some v)::kvs)
 | sn {e:DictEntry}{es:List DictEntry}{k:Str}{kvs:List (Key×Option Int)}{t:Tok}(hk:e.key = .str k t) (hv:e.val = .none) (r:fN es kvs):fN (e::es) ((.inr k,none)::kvs)
def sg (K:Frag)(a:Addr)(kvs:List (Key×Option Int)):Prop:=∃ o es ep,K.lookup a=some o/\o.ExactDict/\o.data = .dict es ep/\fN es.toList kvs/\(kvs.map (·.1)).Nodup
def za (w:World)(K:Frag):Prop:=∀ a o es ep,K.lookup a=some o->o.data = .dict es ep->∀ kvs,fN es.toList kvs->∀ e∈es.toList,∀ s t,e.key = .str s t->(a==sysModules)=false/\e.hash=hashStr w s
inductive ML where
 | l (vs:List V) | k (kvs:List (Key×V)) | t (kvs:List (List Key×V))
noncomputable def ML.o:ML->HO
 |.l vs=>.lst vs
 |.k kvs=>.dK kvs
 |.t kvs=>.dT kvs
noncomputable def oT (ks:List (List Int)):List (List Key×V):=ks.map fun k=>(k.map .inl,.bl true)
noncomputable def yN:List V->Bool
 |[.int i,.int j]=>jH i j
 |_=>false
noncomputable def jW (K:Frag)(H:Hp)(a:Addr)(xs:List V):Prop :=
 H a=some (.tup xs) \/
  yN xs=false/\∃(o:Obj) (its:Array Value) (n:Nat),K.lookup a=some o/\o.cls = .type "tuple"/\o.data = .seq its n/\its.size<=sizeLine/\aL xs its.toList
noncomputable def qG (K:Frag)(H:Hp):MV->V->Prop
 |.tr,v=>v = .bl true
 |.int i,v=>v = .int i
 |.tup is,v=>∃ b,v = .ref b/\jW K H b (is.map .int)
noncomputable def iR (K:Frag)(H:Hp):List (Int×MV)->List (Key×V)->Prop
 |[],[]=>True
 |q::r,p::s=>p.1 = .inl q.1/\qG K H q.2 p.2/\iR K H r s
 |_,_=>False
variable {H H':Hp}{K:Frag}
theorem qG.keep (t:∀ b vs,jW K H b vs->jW K H' b vs):∀{m:MV}{v:V},qG K H m v->qG K H' m v
 |.tr,_,h=>h
 |.int _,_,h=>h
 |.tup _,_,⟨b,e,h⟩=>⟨b,e,t _ _ h⟩
theorem iR.keep (t:∀ b vs,jW K H b vs->jW K H' b vs):∀{q:List (Int×MV)}{x:List (Key×V)},iR K H q x->iR K H' q x
 |[],[],h=>h
 |_::_,_::_,⟨a,b,c⟩=>⟨a,b.keep t,c.keep t⟩
 |[],_::_,h=>h.elim
 |_::_,[],h=>h.elim
theorem iR.len:∀{q:List (Int×MV)}{x:List (Key×V)},iR K H q x->x.length=q.length
 |[],[],_=>rfl
 |_::_,_::_,⟨_,_,c⟩=>by rw[av,av,c.len]
 |[],_::_,h=>h.elim
 |_::_,[],h=>h.elim
variable {a:Addr}
theorem jW.sq {xs:List V}(h:jW K H a xs):iT K H a xs:=h.imp .inl And.right
mutual
inductive Rep (K:Frag) (H:Hp):D->V->List Addr->Prop where
 | non:Rep K H .non .non []
 | bl (b:Bool):Rep K H (.bl b) (.bl b) []
 | int (i:Int):Rep K H (.int i) (.int i) []
 | str (s:Str):Rep K H (.str s) (.str s) []
 | lst {p:Addr}{vs:List V}{ds:List D}{G:List Addr}(h:Rd H p (.lst vs)) (r:aG K H ds vs G):Rep K H (.lst ds) (.ref p) (p::G)
 | tup {p:Addr}{vs:List V}{ds:List D}{G:List Addr}(h:jW K H p vs) (r:aG K H ds vs G):Rep K H (.tup ds) (.ref p) G
 | dct {p:Addr}{kvs:List (Key×Option Int)}(h:sg K p kvs):Rep K H (.dct kvs) (.ref p) []
 | mpi {p:Addr}{ks:List (Int×MV)}{xs:List (Key×V)}(h:H p=some (.dK xs)) (r:iR K H ks xs):Rep K H (.mpi ks) (.ref p) [p]
 | mpt {p:Addr}{ks:List (List Int)}(h:Rd H p (.dT (oT ks))):Rep K H (.mpt ks) (.ref p) [p]
 | mpz {p:Addr}{ks:List (Int×MV)}{xs:List (Key×V)}{o:Obj}(h:H p=some (.frz o (.dK xs))) (r:iR K H ks xs):Rep K H (.mpz ks) (.ref p) []
inductive aG (K:Frag) (H:Hp):List D->List V->List Addr->Prop where
 | nil:aG K H [] [] []
 | cons {d:D}{v:V}{ds:List D}{vs:List V}{G G':List Addr}(h:Rep K H d v G) (r:aG K H ds vs G'):aG K H (d::ds) (v::vs) (G++G')
end
variable {b:Addr}
theorem tf (k:∀ u:HO,H b=some u->H' b=some u){o:HO}(h:Rd H b o):Rd H' b o:=by
 rcases h with h | ⟨u,h⟩
 .exact .inl (k _ h)
 .exact .inr ⟨u,k _ h⟩
def E2 (H H':Hp):Prop:=∀ b o u,H b=some (.frz o u)->H' b=some (.frz o u)
variable {G:List Addr}{d:D}{ds:List D}{v:V}{vs:List V}
section
variable {K:Frag}{H H':Hp}
theorem Rep.keep (t:∀ b vs,jW K H b vs->jW K H' b vs)(z:E2 H H')(h:Rep K H d v G):(∀ b∈G,∀ u:HO,H b=some u->H' b=some u)->Rep K H' d v G :=
 Rep.rec (motive_1:=fun d v G _=>(∀ b∈G,∀ u:HO,H b=some u->H' b=some u)->Rep K H' d v G) (motive_2:=fun ds vs G _=>(∀ b∈G,∀ u:HO,H b=some u->H' b=some u)->aG K H' ds vs G)
  (fun _=>.non) (fun b _=>.bl b) (fun i _=>.int i) (fun s _=>.str s) (fun h _ ih k=>.lst (tf (k _ ai) h) (ih fun b hb=>k b (ah _ hb)))
  (fun h _ ih k=>.tup (t _ _ h) (ih k)) (fun h _=>.dct h) (fun h r k=>.mpi (k _ ai _ h) (r.keep t)) (fun h k=>.mpt (tf (k _ ai) h)) (fun h r _=>.mpz (z _ _ _ h) (r.keep t))
  (fun _=>.nil) (fun _ _ i1 i2 k=>.cons (i1 fun b hb=>k b (bf _ hb)) (i2 fun b hb=>k b (ak _ hb))) h
theorem aG.keep (t:∀ b vs,jW K H b vs->jW K H' b vs)(z:E2 H H')(h:aG K H ds vs G):(∀ b∈G,∀ u:HO,H b=some u->H' b=some u)->aG K H' ds vs G :=
 aG.rec (motive_1:=fun d v G _=>True) (motive_2:=fun ds vs G _=>(∀ b∈G,∀ u:HO,H b=some u->H' b=some u)->aG K H' ds vs G)
  trivial (fun _=>trivial) (fun _=>trivial) (fun _=>trivial) (fun _ _ _=>trivial) (fun _ _ _=>trivial) (fun _=>trivial) (fun _ _=>trivial) (fun _=>trivial) (fun _ _=>trivial)
  (fun _=>.nil) (fun h _ _ i2 k=>.cons (Rep.keep t z h fun b hb=>k b (bf _ hb)) (i2 fun b hb=>k b (ak _ hb))) h
theorem aI.rd (e:aI H H'){o:HO}(h:Rd H b o):Rd H' b o:=by
 rcases h with h | ⟨u,h⟩
 .exact .inl (e _ _ h)
 .exact .inr ⟨u,e _ _ h⟩
theorem aI.tqT (e:aI H H')(h:jW K H b vs):jW K H' b vs:=by
 rcases h with h | h
 .exact .inl (e _ _ h)
 .exact .inr h
theorem aI.sqT (e:aI H H')(h:iT K H b vs):iT K H' b vs:=by
 rcases h with h | h
 .exact .inl (aI.rd e h)
 .exact .inr h
theorem Rep.same (e:aI H H')(h:Rep K H d v G):Rep K H' d v G:=h.keep (fun _ _=>aI.tqT e) (fun _ _ _ h=>e _ _ h) fun _ _ _ h=>e _ _ h
theorem aG.same (e:aI H H'){d:List D}{v:List V}(h:aG K H d v G):aG K H' d v G:=h.keep (fun _ _=>aI.tqT e) (fun _ _ _ h=>e _ _ h) fun _ _ _ h=>e _ _ h
theorem Rep.flat (h:Rep K H d v G):d.flat=true->G=[] :=
 Rep.rec (motive_1:=fun d v G _=>d.flat=true->G=[]) (motive_2:=fun ds vs G _=>D.flats ds=true->G=[])
  (fun _=>rfl) (fun _ _=>rfl) (fun _ _=>rfl) (fun _ _=>rfl) (fun _ _ _ f=>by simp[D.flat] at f) (fun _ _ ih f=>ih (by simpa[D.flat] using f)) (fun _ _=>rfl) (fun _ _ f=>by simp[D.flat] at f) (fun _ f=>by simp[D.flat] at f) (fun _ _ _=>rfl)
  (fun _=>rfl) (fun _ _ i1 i2 f=>by
   simp only[D.flats,Bool.and_eq_true] at f;rw[i1 f.1,i2 f.2];rfl) h
theorem aG.flat (h:aG K H ds vs G):D.flats ds=true->G=[] :=
 aG.rec (motive_1:=fun d v G _=>True) (motive_2:=fun ds vs G _=>D.flats ds=true->G=[])
  trivial (fun _=>trivial) (fun _=>trivial) (fun _=>trivial) (fun _ _ _=>trivial) (fun _ _ _=>trivial) (fun _=>trivial) (fun _ _=>trivial) (fun _=>trivial) (fun _ _=>trivial)
  (fun _=>rfl) (fun h _ _ i2 f=>by
   simp only[D.flats,Bool.and_eq_true] at f;rw[Rep.flat h f.1,i2 f.2];rfl) h
theorem Rep.live (h:Rep K H d v G):∀ a∈G,∃ vs:ML,Rd H a vs.o :=
 Rep.rec (motive_1:=fun d v G _=>∀ a∈G,∃ vs:ML,Rd H a vs.o) (motive_2:=fun ds vs G _=>∀ a∈G,∃ vs:ML,Rd H a vs.o)
  (fun _ h=>(nomatch h)) (fun _ _ h=>(nomatch h)) (fun _ _ h=>(nomatch h)) (fun _ _ h=>(nomatch h)) (fun h _ ih a m=>(cg.mp m).elim (fun e=>e ▸ ⟨.l _,h⟩) (ih a)) (fun _ _ ih=>ih) (fun _ _ h=>(nomatch h))
  (fun h _ a m=>(gh.mp m) ▸ ⟨.k _,.inl h⟩) (fun h a m=>(gh.mp m) ▸ ⟨.t _,h⟩) (fun _ _ _ h=>(nomatch h))
  (fun _ h=>(nomatch h)) (fun _ _ i1 i2 a m=>(ig.mp m).elim (i1 a) (i2 a)) h
theorem aG.live (h:aG K H ds vs G):∀ a∈G,∃ vs:ML,Rd H a vs.o :=
 aG.rec (motive_1:=fun d v G _=>True) (motive_2:=fun ds vs G _=>∀ a∈G,∃ vs:ML,Rd H a vs.o)
  trivial (fun _=>trivial) (fun _=>trivial) (fun _=>trivial) (fun _ _ _=>trivial) (fun _ _ _=>trivial) (fun _=>trivial) (fun _ _=>trivial) (fun _=>trivial) (fun _ _=>trivial)
  (fun _ h=>(nomatch h)) (fun h _ _ i2 a m=>(ig.mp m).elim (Rep.live h a) (i2 a)) h
theorem Rd.ne_none {u:HO}(h:Rd H a u):H a≠none:=by
 rcases h with h | ⟨o,h⟩<;>rw[h]<;>simp
theorem Rep.nn (h:Rep K H d v G)(m:a∈G):H a≠none:=let ⟨_,q⟩:=h.live a m;Rd.ne_none q
theorem aG.nn {d:List D}{v:List V}(h:aG K H d v G)(m:a∈G):H a≠none:=let ⟨_,q⟩:=h.live a m;Rd.ne_none q
theorem aG.len:∀{ds:List D}{vs:List V}{G:List Addr},aG K H ds vs G->ds.length=vs.length
 |_,_,_,.nil=>rfl
 |_,_,_,.cons _ r=>by simp[aG.len r]
theorem aG.get:∀{ds:List D}{vs:List V}{G:List Addr}{i:Nat}{d:D},aG K H ds vs G->ds[i]? = some d->∃ v G',vs[i]? = some v/\Rep K H d v G'/\G'.Sublist G
 |_,_,_,_,_,.nil,e=>by simp at e
 | _,_,_,0,_,.cons h r,e=>by
  simp at e;subst e;exact⟨_,_,rfl,h,List.sublist_append_left _ _⟩
 | _,_,_,i+1,d,.cons h r,e=>by
  obtain⟨v,G',a,b,c⟩:=aG.get (i:=i) (d:=d) r (by simpa using e);exact⟨v,G',by simpa using a,b,c.trans (List.sublist_append_right _ _)⟩
theorem aG.append:∀{ds es:List D}{vs us:List V}{G G':List Addr},aG K H ds vs G->aG K H es us G'->aG K H (ds++es) (vs++us) (G++G')
 |_,_,_,_,_,_,.nil,s=>s
 | _,_,_,_,_,_,.cons h r,s=>by
  rw[dh];exact .cons h (aG.append r s)
theorem aG.take:∀{ds:List D}{vs:List V}{G:List Addr}(n:Nat),aG K H ds vs G->∃ G',aG K H (ds.take n) (vs.take n) G'/\G'.Sublist G
 |_,_,_,0,_=>⟨[],by simpa using .nil,by simp⟩
 |_,_,_,_+1,.nil=>⟨[],by simpa using .nil,by simp⟩
 | _,_,_,n+1,.cons h r=>by
  obtain⟨G',a,b⟩:=aG.take n r;exact⟨_,by simpa using .cons h a,List.Sublist.append (List.Sublist.refl _) b⟩
theorem aG.drop:∀{ds:List D}{vs:List V}{G:List Addr}(n:Nat),aG K H ds vs G->∃ G',aG K H (ds.drop n) (vs.drop n) G'/\G'.Sublist G
 |_,_,_,0,r=>⟨_,by simpa using r,List.Sublist.refl _⟩
 |_,_,_,_+1,.nil=>⟨[],by simpa using .nil,by simp⟩
 | _,_,_,n+1,.cons h r=>by
  obtain⟨G',a,b⟩:=aG.drop n r;exact⟨_,by simpa using a,b.trans (List.sublist_append_right _ _)⟩
theorem aG.split:∀{ds:List D}{vs:List V}{G:List Addr}{i:Nat}{d:D},aG K H ds vs G->ds[i]? = some d->∃ v G1 G' G2,vs[i]? = some v/\G=G1++(G'++G2)/\Rep K H d v G' /\
  ∀(H':Hp) (d':D) (v':V) (N:List Addr),(∀ b vs,jW K H b vs->jW K H' b vs)->E2 H H'->(∀ b∈G1++G2,∀ u:HO,H b=some u->H' b=some u)->Rep K H' d' v' N->aG K H' (ds.set i d') (vs.set i v') (G1++(N++G2))
 |_,_,_,_,_,.nil,e=>by simp at e
 | _,_,_,0,_,.cons (G:=G) (G':=G') h r,e=>by
  simp at e;subst e;refine⟨_,[],_,_,rfl,rfl,h,fun H' d' v' N t z k n=>?_⟩;show aG K H' (_::_) (_::_) (N++G');exact .cons n (r.keep t z fun b hb=>k b (by simpa using hb))
 | _,_,_,i+1,d,.cons (G:=G) (G':=G') h r,e=>by
  obtain⟨v,G1,Gi,G2,a,b,c,f⟩:=aG.split (i:=i) (d:=d) r (by simpa using e);refine⟨v,G++G1,Gi,G2,by simpa using a,by rw[b];simp,c,fun H' d' v' N t z k n=>?_⟩;have q:=aG.cons (h.keep t z fun b hb=>k b (by simp[hb])) (f H' d' v' N t z (fun b hb=>k b (by simp at hb ⊢;exact Or.inr hb)) n);rw[<-dh] at q;exact q
end
noncomputable def aZ:Tg->Bool
 |.own=>true
 |.lk=>true
 |.sh _=>false
structure RE (K:Frag)(P:Addr->Prop)(env:En)(σ:L2.St)(H:Hp)(F:Nat->List Addr):Prop where
 len:env.length=σ.length
 val:∀ i d t,env[i]? = some (some (d,t))->∃ v,σ[i]? = some (some v)/\Rep K H d v (F i)
 emp:∀ i,(∀ d t,env[i]?≠some (some (d,t)))->F i=[]
 one:∀ i d t,env[i]? = some (some (d,t))->aZ t=true->(F i).Nodup/\(∀ a∈F i,∃ vs:ML,H a=some vs.o) /\
  ∀ a∈F i,∀ j d' t',env[j]? = some (some (d',t'))->a∈F j->i∈aY j t'
 wr:∀ i d,env[i]? = some (some (d,.own))->∀ a∈F i,¬ P a
 pl:∀ a,P a->H a≠none
structure bP (env:En)(F:Nat->List Addr)(H:Hp)(r:Rt)(H':Hp)(G:List Addr):Prop where
 cont:∀ a∈G,H a=none\/∃ i d t,a∈F i/\env[i]? = some (some (d,t))/\∀ q∈aY i t,q∈r.roots
 mv:∀ R,r = .mv R->G.Nodup/\(∀ a∈G,∃ vs:ML,H' a=some vs.o)/\∀ a∈G,H a=none\/∃ i d t,i∈R/\a∈F i/\env[i]? = some (some (d,t))/\aZ t=true
variable {F:Nat->List Addr}{env:En}
theorem bP.nil {r:Rt}:bP env F H r H' []:=⟨fun _ h=>(nomatch h),fun _ _=>⟨bu,fun _ h=>(nomatch h),fun _ h=>(nomatch h)⟩⟩
theorem RE.same {P:Addr->Prop}{σ:L2.St}(r:RE K P env σ H F)(e:aI H H'):RE K P env σ H' F where
 len:=r.len
 val:=fun i d t h=>let ⟨v,a,b⟩:=r.val i d t h;⟨v,a,b.same e⟩
 emp:=r.emp
 one:=fun i d t h o=>let ⟨a,b,c⟩:=r.one i d t h o;⟨a,fun x hx=>let ⟨vs,q⟩:=b x hx;⟨vs,e _ _ q⟩,c⟩
 wr:=r.wr
 pl:=fun a h z=>by
  cases q:H a with
  |none=>exact r.pl a h q
  |some o=>rw[e _ _ q] at z;cases z
theorem aI.no (e:aI H H')(h:H' a=none):H a=none:=by
 cases q:H a with
 |none=>rfl
 |some o=>rw[e _ _ q] at h;cases h
variable {H1:Hp}{r:Rt}
theorem bP.back (h:bP env F H1 r H' G)(e:aI H H1):bP env F H r H' G where
 cont:=fun a ha=>(h.cont a ha).imp (aI.no e) id
 mv:=fun R hr=>let ⟨a,b,c⟩:=h.mv R hr;⟨a,b,fun x hx=>(c x hx).imp (aI.no e) id⟩
theorem bP.later (h:bP env F H r H1 G)(e:aI H1 H'):bP env F H r H' G where
 cont:=h.cont
 mv:=fun R hr=>let ⟨a,b,c⟩:=h.mv R hr;⟨a,fun x hx=>let ⟨vs,q⟩:=b x hx;⟨vs,e _ _ q⟩,c⟩
theorem bP.part {r':Rt}{G':List Addr}(h:bP env F H r H' G)(hs:∀ a∈G',a∈G)(hr:∀ q∈r.roots,q∈r'.roots)(hn:∀ R,r'≠.mv R):bP env F H r' H' G' where
 cont:=fun a ha=>(h.cont a (hs a ha)).imp id fun ⟨i,d,t,x,y,z⟩=>⟨i,d,t,x,y,fun q hq=>hr q (z q hq)⟩
 mv:=fun R e=>absurd e (hn R)
noncomputable def qB (F:Nat->List Addr)(i:Nat)(G:List Addr):Nat->List Addr:=fun j=>if j=i then G else F j
variable {i:Nat}
theorem dU:qB F i G i=G:=if_pos rfl
variable {j:Nat}
theorem dE (h:j≠i):qB F i G j=F j:=if_neg h
theorem qS (env:En)(i:Nat)(d:D)(t:Tg):(put env i d t).length=env.length:=by simp[put]
variable {t:Tg}
theorem dF (h:i<env.length):(put env i d t)[i]? = some (some (d,t)):=by
 unfold put;rw[List.getElem?_set_self (by simpa using h)]
theorem xH (h:j≠i):(put env i d t)[j]? = (env[j]?).map fun s=>s.map fun p=>(p.1,p.2.drop i):=by
 unfold put;rw[List.getElem?_set_ne (df h),List.getElem?_map]
variable {d':D}
theorem fY {t':Tg}(h:j≠i)(e:(put env i d t)[j]? = some (some (d',t'))):∃ t0,env[j]? = some (some (d',t0))/\t'=t0.drop i:=by
 rw[xH h] at e;cases q:env[j]? with
 |none=>rw[q] at e;cases e
 |some s =>
  rw[q] at e;cases s with
  |none=>cases e
  |some p =>
   obtain⟨a,b⟩:=p;simp only[Option.map_some,Option.some.injEq,Prod.mk.injEq] at e;obtain⟨rfl,rfl⟩:=e;exact⟨b,rfl,rfl⟩
theorem j9 (t:Tg)(i:Nat):aZ (t.drop i)=aZ t:=by cases t<;>rfl
theorem kx {k:Nat}(h:k∈aY j t)(hk:k≠i):k∈aY j (t.drop i):=by
 cases t with
 |own=>exact h
 |lk=>exact h
 |sh R =>
  simp only[aY,Tg.drop,List.mem_filter] at h ⊢;exact⟨h,by simpa using hk⟩
section
variable {K:Frag}{P:Addr->Prop}{env:En}{σ:L2.St}{H:Hp}{F:Nat->List Addr}
theorem RE.nn (re:RE K P env σ H F)(h:env[j]? = some (some (d,t)))(m:a∈F j):H a≠none:=let ⟨_,_,r⟩:=re.val j d t h;r.nn m
theorem RE.at' (re:RE K P env σ H F)(m:a∈F j):∃ d t,env[j]? = some (some (d,t)):=by
 by_cases h:∃ d t,env[j]? = some (some (d,t))
 .exact h
 .rw[re.emp j fun d t e=>h ⟨d,t,e⟩] at m;cases m
theorem RE.put (re:RE K P env σ H F){t:Tg}(hi:i<env.length)(rp:Rep K H d v G)
  (ho:aZ t=true->G.Nodup/\(∀ a∈G,∃ vs:ML,H a=some vs.o)/\∀ a∈G,∀ j,j≠i->a∉F j) (hw:t = .own->∀ a∈G,¬ P a)
  (hs:∀ a∈G,∀ j d' t',j≠i->env[j]? = some (some (d',t'))->aZ t'=true->a∈F j->j∈aY i t):RE K P (put env i d t) (σ.set i (some v)) H (qB F i G) where
 len:=by rw[qS,cv];exact re.len
 val:=fun j d' t' e=>by
  by_cases h:j=i
  .subst h;rw[dF hi] at e;cases e;exact⟨v,List.getElem?_set_self (by rw[<-re.len];exact hi),by rw[dU];exact rp⟩
  .obtain⟨t0,e0,rfl⟩:=fY h e;obtain⟨u,a,b⟩:=re.val j d' t0 e0;exact⟨u,by rw[List.getElem?_set_ne (df h)];exact a,by rw[dE h];exact b⟩
 emp:=fun j h=>by
  by_cases hj:j=i
  .subst hj;exact absurd (dF hi) (h d t)
  .rw[dE hj];refine re.emp j fun d' t' e=>h d' (t'.drop i) ?_
   rw[xH hj,e];rfl
 one:=fun j d' t' e o=>by
  by_cases h:j=i
  .subst h;rw[dF hi] at e;cases e;obtain⟨a,b,c⟩:=ho o;rw[dU];refine⟨a,b,fun x hx k d2 t2 e2 m=>?_⟩;by_cases hk:k=j
   .subst hk;rw[dF hi] at e2;cases e2;cases t<;>simp_all [aY,aZ]
   .rw[dE hk] at m;exact absurd m (c x hx k hk)
  .obtain⟨t0,e0,rfl⟩:=fY h e;rw[j9] at o;obtain⟨a,b,c⟩:=re.one j d' t0 e0 o;rw[dE h];refine⟨a,b,fun x hx k d2 t2 e2 m=>?_⟩;by_cases hk:k=i
   .subst hk;rw[dF hi] at e2;cases e2;rw[dU] at m;exact hs x m j d' t0 h e0 o hx
   .rw[dE hk] at m;obtain⟨t3,e3,rfl⟩:=fY hk e2;exact kx (c x hx k d2 t3 e3 m) h
 wr:=fun j d' e=>by
  by_cases h:j=i
  .subst h;rw[dF hi] at e;cases e;rw[dU];exact hw rfl
  .obtain⟨t0,e0,q⟩:=fY h e;rw[dE h];cases t0 with
   |own=>exact re.wr j d' e0
   |lk=>cases q
   |sh R=>cases q
 pl:=re.pl
theorem RE.forget (re:RE K P env σ H F){env':En}(hl:env'.length=env.length)(he:∀(i:Nat) (d:D) (t:Tg),env'[i]? = some (some (d,t))->env[i]? = some (some (d,t))) :
  RE K P env' σ H (fun i=>match env'[i]? with | some (some _)=>F i | _=>[]) where
 len:=hl.trans re.len
 val:=fun i d t e=>by rw[e];exact re.val i d t (he i d t e)
 emp:=fun i h=>by
  split
  .rename_i p q;exact absurd q (h p.1 p.2)
  .rfl
 one:=fun i d t e o=>by
  rw[e];obtain⟨a,b,c⟩:=re.one i d t (he i d t e) o;refine⟨a,b,fun x hx k d2 t2 e2 m=>?_⟩;rw[e2] at m;exact c x hx k d2 t2 (he k d2 t2 e2) m
 wr:=fun i d e=>by rw[e];exact re.wr i d (he i d _ e)
 pl:=re.pl
end
theorem cI (R:List Nat)(env:En):(kill R env).length=env.length:=by simp[kill]
theorem cD {R:List Nat}(e:(kill R env)[i]? = some (some (d,t))):env[i]? = some (some (d,t))/\i∉R/\∀ q∈R,q∉aY i t:=by
 unfold kill at e;rw[List.getElem?_mapIdx] at e;cases q:env[i]? with
 |none=>rw[q] at e;cases e
 |some s =>
  rw[q] at e;cases s with
  |none=>cases e
  |some p =>
   obtain⟨a,b⟩:=p;simp only[Option.map_some,Option.some.injEq] at e;by_cases h:(R.contains i || iN R b)=true
   .rw[if_pos h] at e;cases e
   .rw[if_neg h] at e;cases e;rw[gd,not_or] at h;have h1:i∉R:=fun z=>h.1 (by simpa using z)
    refine⟨rfl,h1,fun r hq z=>?_⟩;cases t with
    |own=>simp only[aY,List.mem_singleton] at z;subst z;exact h1 hq
    |lk=>simp only[aY,List.mem_singleton] at z;subst z;exact h1 hq
    |sh Q =>
     apply h.2;simp only[iN,List.any_eq_true];exact⟨r,z,by simpa using hq⟩
variable {p:Addr}{ws:List V}{x:Nat}
section
variable {K:Frag}{P:Addr->Prop}{env:En}{σ:L2.St}{H:Hp}{F:Nat->List Addr}
variable {o:HO}
theorem jB (hp:H p=some (.lst ws))(h:jW K H b vs):jW K (upd H p o) b vs:=by
 rcases h with h | h
 .exact .inl (by rw[aJ];exact h;intro z;subst z;rw[hp] at h;cases h)
 .exact .inr h
theorem yW {ws:ML}(hp:H p=some ws.o)(h:jW K H b vs):jW K (upd H p o) b vs:=by
 rcases h with h | h
 .exact .inl (by rw[aJ];exact h;intro z;subst z;rw[hp] at h;cases ws<;>cases h)
 .exact .inr h
theorem Dg {o':HO}(hne:b≠p)(h:Rd H b o):Rd (upd H p o') b o:=by
 rcases h with h | ⟨u,h⟩
 .exact .inl (by rw[aJ hne];exact h)
 .exact .inr ⟨u,by rw[aJ hne];exact h⟩
theorem jn {H:Hp}{ws:ML}(hp:H p=some ws.o):E2 H (L2.upd H p o):=fun b ob u h=>by
 rw[aJ fun e=>?_]
 .exact h
 .subst e;rw[hp] at h;cases ws<;>cases h
theorem Rep.upd (hp:H p=some (.lst ws))(h:Rep K H d v G)(hn:p∉G):Rep K (upd H p o) d v G :=
 h.keep (fun _ _=>jB hp) (jn (ws:=.l _) hp) fun b hb _ h=>(aJ (fun (z:b=p)=>hn (z ▸ hb))).trans h
theorem Rep.updM {ws:ML}(hp:H p=some ws.o)(h:Rep K H d v G)(hn:p∉G):Rep K (L2.upd H p o) d v G :=
 h.keep (fun _ _=>yW hp) (jn hp) fun b hb _ h=>(aJ (fun (z:b=p)=>hn (z ▸ hb))).trans h
theorem aG.upd {d:List D}{v:List V}(hp:H p=some (.lst ws))(h:aG K H d v G)(hn:p∉G):aG K (upd H p o) d v G :=
 h.keep (fun _ _=>jB hp) (jn (ws:=.l _) hp) fun b hb _ h=>(aJ (fun (z:b=p)=>hn (z ▸ hb))).trans h
noncomputable def mn (F:Nat->List Addr)(env:En)(x:Nat)(R:List Nat)(G:List Addr):Nat->List Addr:=fun j=>if j=x then G else match (kill (x::R) env)[j]? with
 | some (some _)=>F j
 |_=>[]
theorem RE.mutateM (re:RE K P env σ H F){d':D}{vs:ML}{R:List Nat}{N G:List Addr}(hx:env[x]? = some (some (d,.own)))(hv:σ[x]? = some (some v))(hp:p∈F x)
  (rp:Rep K (upd H p vs.o) d' v G) (nd:G.Nodup) (sub:∀ a∈G,a∈F x\/a∈N)
  (hN:∀ a∈N,(∃ vs:ML,H a=some vs.o)/\¬ P a/\∀(j:Nat) (d:D) (t:Tg),env[j]? = some (some (d,t))->a∈F j->∃ q∈x::R,q∈aY j t) :
  RE K P ((kill (x::R) env).set x (some (d',.own))) σ (upd H p vs.o) (mn F env x R G):=by
 obtain⟨ndx,lsx,onx⟩:=re.one x d .own hx rfl;obtain⟨ws,hpl⟩:=lsx p hp;have hxl:x<(kill (x::R) env).length:=by
  rw[cI];exact (List.getElem?_eq_some_iff.mp hx).1
 have other:∀{j:Nat}{d2:D}{t2:Tg},j≠x->((kill (x::R) env).set x (some (d',.own)))[j]? = some (some (d2,t2))->(kill (x::R) env)[j]? = some (some (d2,t2)):=fun {j d2 t2} hj e=>by
  rw[List.getElem?_set_ne (df hj)] at e;exact e
 have live:∀ a,(∃ vs:ML,H a=some vs.o)->∃ ws:ML,upd H p vs.o a=some ws.o:=fun a ⟨ws,h⟩=>by
  by_cases z:a=p
  .subst z;exact⟨vs,aK⟩
  .exact⟨ws,by rw[aJ z];exact h⟩
 have apart:∀{j:Nat}{d2:D}{t2:Tg},j≠x->(kill (x::R) env)[j]? = some (some (d2,t2))->∀ a∈F x,a∉F j:=fun {j d2 t2} hj e a ha hb=>by
  obtain⟨e0,_,h3⟩:=cD e;exact h3 x ai (onx a ha j d2 t2 e0 hb)
 have fj:∀{j:Nat}{d2:D}{t2:Tg},j≠x->(kill (x::R) env)[j]? = some (some (d2,t2))->mn F env x R G j=F j:=fun {j d2 t2} hj e=>by
  unfold mn;rw[if_neg hj,e]
 have fx:mn F env x R G x=G:=if_pos rfl;refine⟨?_,fun j d2 t2 e=>?_,fun j h=>?_,fun j d2 t2 e o=>?_,fun j d2 e=>?_,fun a h=>?_⟩
 .rw[cv,cI];exact re.len
 .by_cases hj:j=x
  .subst hj;rw[List.getElem?_set_self hxl] at e;cases e;exact⟨v,hv,by rw[fx];exact rp⟩
  .have e1:=other hj e;obtain⟨e0,_,_⟩:=cD e1;obtain⟨u,h1,h2⟩:=re.val j d2 t2 e0;exact⟨u,h1,by rw[fj hj e1];exact h2.updM hpl (apart hj e1 p hp)⟩
 .by_cases hj:j=x
  .subst hj;exact absurd (List.getElem?_set_self hxl) (h d' .own)
  .unfold mn;rw[if_neg hj];split
   .rename_i q e;exact absurd (by rw[List.getElem?_set_ne (df hj)];exact e) (h q.1 q.2)
   .rfl
 .by_cases hj:j=x
  .subst hj;rw[List.getElem?_set_self hxl] at e;cases e;rw[fx];refine⟨nd,fun a ha=>live a ?_,fun a ha k d3 t3 e3 m=>?_⟩
   .rcases sub a ha with q | q
    .exact lsx a q
    .exact (hN a q).1
   .by_cases hk:k=j
    .subst hk;rw[List.getElem?_set_self hxl] at e3;cases e3;simp[aY]
    .have e4:=other hk e3;rw[fj hk e4] at m;rcases sub a ha with q | q
     .exact absurd m (apart hk e4 a q)
     .obtain⟨e0,_,h3⟩:=cD e4;obtain⟨r,r1,r2⟩:=(hN a q).2.2 k d3 t3 e0 m;exact absurd r2 (h3 r r1)
  .have e1:=other hj e;obtain⟨e0,_,_⟩:=cD e1;obtain⟨a,b,c⟩:=re.one j d2 t2 e0 o;rw[fj hj e1];refine⟨a,fun y hy=>live y (b y hy),fun y hy k d3 t3 e3 m=>?_⟩;by_cases hk:k=x
   .subst hk;rw[List.getElem?_set_self hxl] at e3;cases e3;rw[fx] at m;rcases sub y m with q | q
    .exact absurd hy (apart hj e1 y q)
    .obtain⟨_,_,h3⟩:=cD e1;obtain⟨r,r1,r2⟩:=(hN y q).2.2 j d2 t2 e0 hy;exact absurd r2 (h3 r r1)
   .have e4:=other hk e3;rw[fj hk e4] at m;exact c y hy k d3 t3 (cD e4).1 m
 .by_cases hj:j=x
  .subst hj;rw[fx];intro a ha;rcases sub a ha with q | q
   .exact re.wr j d hx a q
   .exact (hN a q).2.1
  .have e1:=other hj e;rw[fj hj e1];exact re.wr j d2 (cD e1).1
 .intro z;by_cases q:a=p
  .subst q;rw[aK] at z;cases z
  .rw[aJ q] at z;exact re.pl a h z
theorem RE.mutate (re:RE K P env σ H F){R:List Nat}{N:List Addr}(hx:env[x]? = some (some (d,.own)))(hv:σ[x]? = some (some v))(hp:p∈F x)
  (rp:Rep K (upd H p (.lst vs)) d' v G) (nd:G.Nodup) (sub:∀ a∈G,a∈F x\/a∈N)
  (hN:∀ a∈N,(∃ vs:ML,H a=some vs.o)/\¬ P a/\∀(j:Nat) (d:D) (t:Tg),env[j]? = some (some (d,t))->a∈F j->∃ q∈x::R,q∈aY j t) :
  RE K P ((kill (x::R) env).set x (some (d',.own))) σ (upd H p (.lst vs)) (mn F env x R G):=re.mutateM (vs:=.l vs) hx hv hp rp nd sub hN
inductive PV (K:Frag) (H:Hp):V->Option Int->Addr->Prop where
 | top (p:Addr):PV K H (.ref p) none p
 | item {q p:Addr}{ws:List V}{i:Int}{j:Nat}(h:Rd H q (.lst ws)\/iT K H q ws) (hj:fU ws.length i=some j) (e:ws[j]? = some (.ref p)):PV K H (.ref q) (some i) p
theorem Dv {n:Nat}{i:Int}(h:fU n i=some j):j<n:=by
 unfold fU at h;split at h
 .split at h
  .cases h;omega
  .cases h
 .split at h
  .cases h;omega
  .cases h
theorem Rep.lst_inv (h:Rep K H (.lst ds) v G):∃ p vs G',v = .ref p/\G=p::G'/\Rd H p (.lst vs)/\aG K H ds vs G':=by
 cases h with
 |lst a b=>exact⟨_,_,_,rfl,rfl,a,b⟩
theorem vi {path:Option Int}{xs:List D}(rp:Rep K H d v G)(nd:G.Nodup)(h:d.at1 path=some xs):∃ p,PV K H v path p/\∀ H',aI H H'->(∀ a∈G,∃ vs:ML,H' a=some vs.o) ->
  ∃ vs Gx,H' p=some (.lst vs)/\aG K H' xs vs Gx/\p∈G/\(∀ a∈Gx,a∈G)/\Gx.Nodup/\p∉Gx /\
   ∀ ys us Gy,aG K (upd H' p (.lst us)) ys us Gy->Gy.Nodup->p∉Gy->(∀ a∈Gy,a∈Gx\/a∉G)->∃ G',Rep K (upd H' p (.lst us)) (d.set1 path ys) v G'/\G'.Nodup/\∀ a∈G',a∈G\/a∈Gy:=by
 have rdl:∀{H':Hp}{p:Addr}{vs:List V},(∀ a∈G,∃ vs:ML,H' a=some vs.o)->p∈G->Rd H' p (.lst vs)->H' p=some (.lst vs):=fun {H' p vs} hl hp r=>by
  obtain⟨ws,q⟩:=hl p hp;rcases r with r | ⟨o,r⟩
  .exact r
  .rw[q] at r;cases ws<;>cases r
 cases path with
 |none =>
  cases rp with
  |lst hr r =>
   rename_i p vs ds G0;simp only[D.at1,Option.some.injEq] at h;subst h;obtain⟨n1,n2⟩:=List.nodup_cons.mp nd;refine⟨p,.top p,fun H' e hl=>⟨vs,G0,rdl hl ai (aI.rd e hr),r.same e,ai,fun a ha=>ah _ ha,n2,n1,fun ys us Gy ry ny hy hs=>?_⟩⟩;exact⟨p::Gy,.lst (.inl aK) ry,List.nodup_cons.mpr ⟨hy,ny⟩,fun a ha=>(List.mem_cons.mp ha).imp (fun z=>by simp[z]) id⟩
  |_=>simp[D.at1] at h
 |some i =>
  have core:∀{ds:List D}{vs:List V}{G0:List Addr}{j:Nat}{q:Addr},aG K H ds vs G0->(∀ a∈G0,a∈G)->G0.Nodup->(Rd H q (.lst vs)\/iT K H q vs)->v = .ref q->fU ds.length i=some j->ds[j]? = some (.lst xs) ->
    ∃ p,PV K H v (some i) p/\∀ H',aI H H'->(∀ a∈G,∃ vs:ML,H' a=some vs.o)->∃ ws Gx,H' p=some (.lst ws)/\aG K H' xs ws Gx/\p∈G0/\(∀ a∈Gx,a∈G0)/\Gx.Nodup/\p∉Gx /\
     ∀ ys us Gy,aG K (upd H' p (.lst us)) ys us Gy->Gy.Nodup->p∉Gy->(∀ a∈Gy,a∈Gx\/a∉G) ->
      ∃ G1,aG K (upd H' p (.lst us)) (ds.set j (.lst ys)) vs G1/\G1.Nodup/\(∀ a∈G1,a∈G0\/a∈Gy):=by
   intro ds vs G0 j q r hs n0 hq hv hj he;obtain⟨w0,g0,e0,r0,_⟩:=r.get he;have hlen:=r.len;obtain⟨p,ws0,Gx0,rfl,_,_,_⟩:=r0.lst_inv
   .refine⟨p,by rw[hv];exact .item hq (by rw[<-hlen];exact hj) e0,fun H' e hl=>?_⟩;obtain⟨w,A,B,C,e1,e2,r1,f⟩:=(r.same e).split he;rw[e0] at e1;cases e1;subst e2;obtain⟨p',ws,Gx,ep,rfl,hr,r2⟩:=r1.lst_inv;cases ep
    .have hpG:p∈A++(p::Gx++C):=by simp
     rw[ef] at n0;obtain⟨nA,nB,nAB⟩:=n0;rw[ef] at nB;obtain⟨nB1,nC,nBC⟩:=nB;obtain⟨np,nx⟩:=List.nodup_cons.mp nB1;have hpl:=rdl hl (hs p hpG) hr;refine⟨ws,Gx,hpl,r2,hpG,fun a ha=>by simp[ha],nx,np,fun ys us Gy ry ny hy hsy=>?_⟩;have hA:p∉A:=fun z=>nAB p z p (by simp) rfl
     have hC:p∉C:=fun z=>nBC p (by simp) p z rfl
     have e3:=f (upd H' p (.lst us)) (.lst ys) (.ref p) (p::Gy) (fun _ _=>jB hpl) (jn (ws:=.l _) hpl) (fun b hb _ h=>(aJ fun (z:b=p)=>by
      subst z;rcases ig.mp hb with hb | hb
      .exact hA hb
      .exact hC hb).trans h) (.lst (.inl aK) ry)
     have bC:vs.set j (.ref p)=vs:=by
      obtain⟨hj',ej⟩:=List.getElem?_eq_some_iff.mp e0;rw[<-ej,List.set_getElem_self]
     rw[bC] at e3;refine⟨_,e3,?_,fun a ha=>?_⟩
     .rw[ef];refine⟨nA,?_,fun a ha b hb z=>?_⟩
      .rw[ef];refine⟨List.nodup_cons.mpr ⟨hy,ny⟩,nC,fun a ha b hb z=>?_⟩;subst z;rcases cg.mp ha with rfl | ha
       .exact hC hb
       .rcases hsy a ha with q | q
        .exact nBC a (by simp[q]) a hb rfl
        .exact q (hs a (by simp[hb]))
      .subst z;rcases ig.mp hb with hb | hb
       .rcases cg.mp hb with rfl | hb
        .exact hA ha
        .rcases hsy a hb with q | q
         .exact nAB a ha a (by simp[q]) rfl
         .exact q (hs a (by simp[ha]))
       .exact nAB a ha a (by simp[hb]) rfl
     .simp only[List.mem_append,List.mem_cons,List.cons_append] at ha ⊢;rcases ha with ha | ha | ha | ha
      .exact .inl (.inl ha)
      .exact .inl (.inr (.inl ha))
      .exact .inr ha
      .exact .inl (.inr (.inr (.inr ha)))
  cases rp with
  |lst hr r =>
   rename_i q vs ds G0;simp only[D.at1,Option.bind_eq_some_iff] at h;obtain⟨j,hj,h⟩:=h;have he:ds[j]? = some (.lst xs):=by
    split at h
    .rename_i ys e;cases h;exact e
    .cases h
   obtain⟨n1,n2⟩:=List.nodup_cons.mp nd;obtain⟨p,a1,ff⟩:=core r (fun a ha=>ah _ ha) n2 (.inl hr) rfl hj he;refine⟨p,a1,fun H' e hl=>?_⟩;obtain⟨ws,Gx,a2,a3,a4,a5,a6,a7,f⟩:=ff H' e hl;have hqp:q≠p:=fun z=>n1 (by rw[z];exact a4)
   refine⟨ws,Gx,a2,a3,ah _ a4,fun a ha=>ah _ (a5 a ha),a6,a7,fun ys us Gy ry ny hy hs=>?_⟩;obtain⟨G1,b1,b2,b3⟩:=f ys us Gy ry ny hy hs;have es:D.set1 (.lst ds) (some i) ys = .lst (ds.set j (.lst ys)):=by simp[D.set1,hj]
   rw[es];refine⟨q::G1,.lst (Dg hqp (aI.rd e hr)) b1,List.nodup_cons.mpr ⟨fun z=>?_,b2⟩,fun a ha=>?_⟩
   .rcases b3 q z with z | z
    .exact n1 z
    .rcases hs q z with z | z
     .exact n1 (a5 q z)
     .exact z ai
   .rcases cg.mp ha with rfl | ha
    .exact .inl ai
    .exact (b3 a ha).imp (ah _) id
  |tup hr r =>
   rename_i q vs ds;simp only[D.at1,Option.bind_eq_some_iff] at h;obtain⟨j,hj,h⟩:=h;have he:ds[j]? = some (.lst xs):=by
    split at h
    .rename_i ys e;cases h;exact e
    .cases h
   obtain⟨p,a1,ff⟩:=core r (fun a ha=>ha) nd (.inr hr.sq) rfl hj he;refine⟨p,a1,fun H' e hl=>?_⟩;obtain⟨ws,Gx,a2,a3,a4,a5,a6,a7,f⟩:=ff H' e hl;refine⟨ws,Gx,a2,a3,a4,a5,a6,a7,fun ys us Gy ry ny hy hs=>?_⟩;obtain⟨G1,b1,b2,b3⟩:=f ys us Gy ry ny hy hs;have es:D.set1 (.tup ds) (some i) ys = .tup (ds.set j (.lst ys)):=by simp[D.set1,hj]
   rw[es];exact⟨G1,.tup (jB a2 (aI.tqT e hr)) b1,b2,b3⟩
  |_=>simp[D.at1] at h
end
end Pc
end
section
namespace Pc
open PySem PySem.Spec PyProof.Rows L2
theorem Rs.bind_ok {α β:Type}{x:Rs α}{f:α->Rs β}{b:β}(h:x.bind f = .ok b):∃ a,x = .ok a/\f a = .ok b:=by
 cases x with
 |ok a=>exact⟨a,rfl,h⟩
 |exc e=>cases h
 |bad=>cases h
theorem cF {α:Type}{o:Option α}{a:α}(h:kj o = .ok a):o=some a:=by
 cases o with
 |none=>cases h
 |some b=>cases h;rfl
variable {H:Hp}{p:Addr}
theorem aI.new {o:HO}(h:H p=none):aI H (upd H p o):=fun b u e=>by
 rw[aJ];exact e;intro z;subst z;rw[h] at e;cases e
theorem oO:lim<=sizeLine:=by decide
theorem fF {n:Nat}(h:n<=lim):n<=sizeLine:=br h oO
inductive Args (K:Frag) (env:En) (F:Nat->List Addr):Hp->Hp->List (D×Rt)->List V->List Addr->Prop where
 | nil {H H':Hp}(e:aI H H'):Args K env F H H' [] [] []
 | cons {H H1 H':Hp}{p:D×Rt}{v:V}{G G':List Addr}{l:List (D×Rt)}{vs:List V}(e:aI H H1) (r:Rep K H1 p.1 v G) (t:bP env F H p.2 H1 G) (s:Args K env F H1 H' l vs G'):Args K env F H H' (p::l) (v::vs) (G++G')
variable {G:List Addr}{H':Hp}{l:List (D×Rt)}{q:D×Rt}{vs:List V}
section
variable {K:Frag}{env:En}{F:Nat->List Addr}
theorem Args.same:∀{H H':Hp}{l:List (D×Rt)}{vs:List V}{G:List Addr},Args K env F H H' l vs G->aI H H'
 |_,_,_,_,_,.nil e=>e
 |_,_,_,_,_,.cons e _ _ s=>e.trans s.same
theorem Args.reps:∀{H H':Hp}{l:List (D×Rt)}{vs:List V}{G:List Addr},Args K env F H H' l vs G->aG K H' (l.map (·.1)) vs G
 |_,_,_,_,_,.nil _=>.nil
 |_,_,_,_,_,.cons _ r _ s=>.cons (r.same s.same) s.reps
theorem Args.cont:∀{H H':Hp}{l:List (D×Rt)}{vs:List V}{G:List Addr},Args K env F H H' l vs G->∀ a∈G,H a=none\/∃ i d t,a∈F i/\env[i]? = some (some (d,t))/\∀ q∈aY i t,q∈aP (l.map (·.2))
 |_,_,_,_,_,.nil _,a,h=>by cases h
 | _,_,_,_,_,.cons (p:=p) (l:=l) e r t s,a,h=>by
  have e1:aP ((p::l).map (·.2))=p.2.roots++aP (l.map (·.2)):=by simp[aP]
  rw[e1];rcases ig.mp h with h | h
  .exact (t.cont a h).imp id fun ⟨i,d,t,x,y,z⟩=>⟨i,d,t,x,y,fun q hq=>bf _ (z q hq)⟩
  .exact (s.cont a h).imp (aI.no e) fun ⟨i,d,t,x,y,z⟩=>⟨i,d,t,x,y,fun q hq=>ak _ (z q hq)⟩
theorem Args.two {p:D×Rt}{x y:V}(ar:Args K env F H H' [p,q] [x,y] G) :
  ∃ H1 G1 G2,G=G1++G2/\aI H H1/\Rep K H1 p.1 x G1/\bP env F H p.2 H1 G1/\aI H1 H'/\Rep K H' q.1 y G2:=by
 cases ar with
 |cons e r t s =>
  cases s with
  |cons e' r' t' s' =>
   cases s' with
   |nil e''=>exact⟨_,_,_,by rw[aw],e,r,t,e'.trans e'',r'.same e''⟩
theorem Args.mv {P:Addr->Prop}{σ:L2.St}:∀{H H':Hp}{l:List (D×Rt)}{vs:List V}{G:List Addr}{R:List Nat},RE K P env σ H F->Args K env F H H' l vs G->dC (l.map (·.2))=some R->R.Nodup ->
  G.Nodup/\(∀ a∈G,∃ vs:ML,H' a=some vs.o)/\∀ a∈G,H a=none\/∃ i d t,i∈R/\a∈F i/\env[i]? = some (some (d,t))/\aZ t=true
 |_,_,_,_,_,_,_,.nil _,_,_=>⟨bu,fun _ h=>(nomatch h),fun _ h=>(nomatch h)⟩
 | H,_,_,_,_,_,re,.cons (p:=p) (l:=l) (G:=G) (G':=G') e r t s,hm,nd=>by
  obtain⟨d,rt⟩:=p;cases rt with
  |sh Q=>simp[dC] at hm
  |mv R1 =>
   simp only[List.map_cons,dC,Option.map_eq_some_iff] at hm;obtain⟨R2,h2,rfl⟩:=hm;obtain⟨n1,n2,n12⟩:=ef.mp nd;obtain⟨a1,b1,c1⟩:=t.mv R1 rfl;obtain⟨a2,b2,c2⟩:=Args.mv (re.same e) s h2 n2;refine⟨ef.mpr ⟨a1,a2,fun x hx y hy z=>?_⟩,fun x hx=>?_,fun x hx=>?_⟩
   .subst z;rcases c2 x hy with q | ⟨i2,d2,t2,m2,f2,e2,o2⟩
    .exact r.nn hx q
    .rcases c1 x hx with q | ⟨i1,d1,t1,m1,f1,e1,o1⟩
     .obtain⟨v,_,rp⟩:=re.val i2 d2 t2 e2;exact rp.nn f2 q
     .have q:=(re.one i1 d1 t1 e1 o1).2.2 x f1 i2 d2 t2 e2 f2;have q':i1=i2:=by cases t2<;>simp_all [aY,aZ]
      exact n12 i1 m1 i2 m2 q'
   .rcases ig.mp hx with hx | hx
    .obtain⟨vs,q⟩:=b1 x hx;exact⟨vs,s.same _ _ q⟩
    .exact b2 x hx
   .rcases ig.mp hx with hx | hx
    .exact (c1 x hx).imp id fun ⟨i,d,t,m,z⟩=>⟨i,d,t,bf _ m,z⟩
    .exact (c2 x hx).imp (aI.no e) fun ⟨i,d,t,m,z⟩=>⟨i,d,t,ak _ m,z⟩
theorem Args.comb {P:Addr->Prop}{σ:L2.St}(re:RE K P env σ H F)(ar:Args K env F H H' l vs G):bP env F H (nT (l.map (·.2))) H' G:=by
 unfold nT;cases hm:dC (l.map (·.2)) with
 |none=>exact⟨ar.cont,fun R e=>by cases e⟩
 |some R =>
  have er:∀(l:List Rt) (R:List Nat),dC l=some R->aP l=R:=by
   intro l
   induction l with
   |nil=>intro R h;simp[dC] at h;subst h;rfl
   |cons x r ih =>
    intro R h;cases x with
    |sh Q=>simp[dC] at h
    |mv Q =>
     simp only[dC,Option.map_eq_some_iff] at h;obtain⟨R2,h2,rfl⟩:=h;have:=ih R2 h2;simp only[aP,List.map_cons,List.flatten_cons,Rt.roots] at this ⊢;rw[this]
  have er:=er _ R hm;by_cases nd:R.Nodup
  .simp only[nd,if_true];obtain⟨a,b,c⟩:=ar.mv re hm nd;refine⟨fun x hx=>?_,fun R' e=>by cases e;exact⟨a,b,c⟩⟩;rcases c x hx with q | ⟨i,d,t,m,f,e,o⟩
   .exact .inl q
   .exact .inr ⟨i,d,t,f,e,fun q hq=>by cases t<;>simp_all [aY,aZ,Rt.roots]⟩
  .simp only[nd,if_false];exact⟨fun x hx=>by have:=ar.cont x hx;rw[er] at this;exact this,fun R' e=>by cases e⟩
end
structure gG (H H':Hp)(G0:List Addr)(d:D)(G:List Addr):Prop where
 same:aI H H'
 sub:∀ a∈G,H a=none\/a∈G0
 new:d.inner=true->G.Nodup/\∀ a∈G,H a=none/\∃ vs:ML,H' a=some vs.o
variable {ds:List D}
section
variable {K:Frag}{H:Hp}{G0:List Addr}
theorem gG.nil {d:D}:gG H H G0 d []:=⟨aI.refl _,fun _ h=>(nomatch h),fun _=>⟨bu,fun _ h=>(nomatch h)⟩⟩
theorem eV (r:aG K H ds vs G)(hs:∀ a∈G,a∈G0)(hp:H p=none) :
  Rep K (upd H p (.lst vs)) (.lst ds) (.ref p) (p::G)/\gG H (upd H p (.lst vs)) G0 (.lst ds) (p::G):=by
 have e:=aI.new (o:=.lst vs) hp;refine⟨.lst (.inl aK) (r.same e),e,fun a ha=>?_,fun f=>?_⟩
 .rcases cg.mp ha with rfl | ha
  .exact .inl hp
  .exact .inr (hs a ha)
 .have:G=[]:=r.flat f;subst this;exact⟨by simp,fun a ha=>by
   have:a=p:=by simpa using ha
   subst this;exact⟨hp,.l _,aK⟩⟩
theorem newTup (r:aG K H ds vs G)(hs:∀ a∈G,a∈G0)(hp:H p=none) :
  Rep K (upd H p (.tup vs)) (.tup ds) (.ref p) G/\gG H (upd H p (.tup vs)) G0 (.tup ds) G:=by
 have e:=aI.new (o:=.tup vs) hp;refine⟨.tup (.inl aK) (r.same e),e,fun a ha=>.inr (hs a ha),fun f=>?_⟩;have:G=[]:=r.flat f;subst this;exact⟨by simp,fun a ha=>(nomatch ha)⟩
theorem bP.new {env:En}{F:Nat->List Addr}{H1:Hp}{d:D}{R:List Nat}(ar:Args K env F H H1 l vs G0)(nv:gG H1 H' G0 d G)(hR:∀ q∈aP (l.map (·.2)),q∈R):bP env F H (dO d R) H' G:=by
 unfold dO;cases hi:d.inner with
 |true =>
  obtain⟨a,b⟩:=nv.new hi;have c:∀ x∈G,H x=none:=fun x hx=>aI.no ar.same (b x hx).1
  exact⟨fun x hx=>.inl (c x hx),fun R' e=>⟨a,fun x hx=>(b x hx).2,fun x hx=>.inl (c x hx)⟩⟩
 |false =>
  refine⟨fun x hx=>?_,fun R' e=>by cases e⟩;rcases nv.sub x hx with q | q
  .exact .inl (aI.no ar.same q)
  .exact (ar.cont x q).imp id fun ⟨i,d,t,f,e,z⟩=>⟨i,d,t,f,e,fun q hq=>hR q (z q hq)⟩
end
variable {e:Expr}{t t':TS}
section
variable {X:Cx}
theorem bG {t t':TE}(h:PE X e t)(k:∀ σ H Q,t' σ H Q->t σ H Q):PE X e t':=fun pins s σ H Q I q=>h pins s σ H Q I (k σ H Q q)
theorem rP {t t':TT}(h:PT X e t)(k:∀ σ H Q,t' σ H Q->t σ H Q):PT X e t':=fun pins s σ H Q I q=>h pins s σ H Q I (k σ H Q q)
theorem xI {e:List Expr}{t t':TA}(h:PA X e t)(k:∀ σ H Q,t' σ H Q->t σ H Q):PA X e t':=fun pos pins s σ H Q I q=>h pos pins s σ H Q I (k σ H Q q)
theorem cT {e:Stmt}(h:PS X e t)(k:∀ D σ H,t' D σ H->t D σ H):PS X e t':=fun pins s σ H D I q=>h pins s σ H D I (k D σ H q)
theorem t9 {e:List Stmt}(h:mY X e t)(k:∀ D σ H,t' D σ H->t D σ H):mY X e t':=fun pins s σ H D I q=>h pins s σ H D I (k D σ H q)
end
def tE (K:Frag)(T:Tb)(c:Ex):TE:=fun σ H Q=>∃ P env F,RE K P env σ H F/\∃ p,ev T c env = .ok p/\∀ v H' G,aI H H'->Rep K H' p.1 v G->bP env F H p.2 H' G->Q v H'
def uo (K:Frag)(T:Tb)(cs:kL):TA:=fun σ H Q=>∃ P env F,RE K P env σ H F/\∃ l,bC T cs env = .ok l/\∀ vs H' G,Args K env F H H' l vs G->Q vs H'
def nS (K:Frag)(T:Tb)(c:Ex):TT:=fun σ H Q=>∃ P env F,RE K P env σ H F/\∃ p b,ev T c env = .ok p/\truth p.1=some b/\∀ H',aI H H'->Q b H'
section
variable {K:Frag}{T:Tb}{P:Addr->Prop}{env:En}{F:Nat->List Addr}{σ:L2.St}{H:Hp}
theorem two {ca cb:Ex}{r:R2}{Q:VK}{p:D×Rt}(re:RE K P env σ H F)(h1:ev T ca env = .ok p)(h2:ev T cb env = .ok q)(k:∀ x y H2 G,Args K env F H H2 [p,q] [x,y] G->r x y H2 Q):FN r (tE K T ca) (tE K T cb) σ H Q :=
 ⟨P,env,F,re,p,h1,fun v1 H1 G1 s1 rp1 rt1=>⟨P,env,F,re.same s1,q,h2,fun v2 H2 G2 s2 rp2 rt2=>k v1 v2 H2 _ (.cons s1 rp1 rt1 (.cons s2 rp2 rt2 (.nil (aI.refl _))))⟩⟩
end
noncomputable def Bl (K:Frag)(f:D->D->Option D):R2:=fun x y H Q=>∃ d1 d2 d G,aG K H [d1,d2] [x,y] G/\f d1 d2=some d/\∀ v H' G',Rep K H' d v G'->gG H H' G d G'->Q v H'
noncomputable def EA (K:Frag):R2:=fun x y H Q=>∃ d1 d2 d G,aG K H [d1,d2] [x,y] G/\BN d1 d2=some d/\∀ v G',Rep K H d v G'->G'.Sublist G->Q v H
section
variable {X:Cx}{T:Tb}{a b c:Expr}{ca cb cc:Ex}{pos:Pos}
theorem CN {op:Operator}(ho:gI X (binaryOp op) (Bl X.K (lj op)))(ha:PE X a (tE X.K T ca))(hb:PE X b (tE X.K T cb)):PE X (.BinOp a op b pos) (tE X.K T (.bin op ca cb)):=by
 refine bG (BS ho ha hb) fun σ H Q ⟨P,env,F,re,p0,hev,k⟩=>?_
 unfold ev at hev;obtain⟨p,h1,hev⟩:=Rs.bind_ok hev;obtain⟨q,h2,hev⟩:=Rs.bind_ok hev;obtain⟨d,h3,hev⟩:=Rs.bind_ok hev;have h3:=cF h3;cases hev;refine two re h1 h2 fun x y H2 G ar=>⟨p.1,q.1,d,G,ar.reps,h3,fun v H' G' rp nv=>k v H' G' (ar.same.trans nv.same) rp (bP.new ar nv fun z hz=>by simpa[aP] using hz)⟩
theorem Cr {op:CmpOp}(ho:gI X (compareOp op) (Bl X.K fun x y=>(kB op x y).map .bl))(ha:PE X a (tE X.K T ca))(hb:PE X b (tE X.K T cb))(hm:behindInMarks op b=false):PE X (.Compare a [op] [b] pos) (tE X.K T (.cmp op ca cb)):=by
 refine bG (zr ho ha hb hm) fun σ H Q ⟨P,env,F,re,p0,hev,k⟩=>?_
 unfold ev at hev;obtain⟨p,h1,hev⟩:=Rs.bind_ok hev;obtain⟨q,h2,hev⟩:=Rs.bind_ok hev;obtain⟨d,h3,hev⟩:=Rs.bind_ok hev;have h3:=cF h3;cases hev;refine two re h1 h2 fun x y H2 G ar=>⟨p.1,q.1,.bl d,G,ar.reps,by simp[h3],fun v H' G' rp nv=>k v H' G' (ar.same.trans nv.same) rp ?_⟩
 have:G'=[]:=rp.flat rfl;subst this;exact bP.nil
theorem FP (ho:zb X (EA X.K))(ha:PE X a (tE X.K T ca))(hb:PE X b (tE X.K T cb))(hs:kJ b):PE X (.Subscript a b pos) (tE X.K T (.ix ca cb)):=by
 refine bG (BY ho ha hb hs) fun σ H Q ⟨P,env,F,re,p0,hev,k⟩=>?_
 unfold ev at hev;obtain⟨p,h1,hev⟩:=Rs.bind_ok hev;obtain⟨q,h2,hev⟩:=Rs.bind_ok hev;obtain⟨d,h3,hev⟩:=Rs.bind_ok hev;have h3:=cF h3;cases hev;refine two re h1 h2 fun x y H2 G ar=>⟨p.1,q.1,d,G,ar.reps,h3,fun v G' rp sl=>k v H2 G' ar.same rp ?_⟩
 unfold lJ;cases hf:d.flat with
 |true =>
  have:G'=[]:=rp.flat hf;subst this;exact bP.nil
 |false =>
  obtain⟨H1,g1,g2,e1,s1,_,rt1,s2,rp2⟩:=ar.two;have hq:q.1.flat=true:=by
   revert h3;intro h3;cases hq:q.1 with
   |int _=>rfl
   |str _=>rfl
   |_=>rw[hq] at h3;revert h3;cases p.1<;>exact fun h3=>nomatch h3
  have rp2:=rp2.flat hq;have rp1:=rt1.later s2;subst rp2;rw[aw] at e1;subst e1;refine⟨fun z hz=>?_,fun R e=>by cases e⟩;exact rp1.cont z (sl.subset hz)
end
end Pc
end
section
namespace Pc
open PySem L2
structure jN (P:Addr->Prop)(H H':Hp):Prop where
 keep:∀ a,P a->H' a=H a
 tup:∀ b xs,H b=some (.tup xs)->H' b=some (.tup xs)
 fz:E2 H H'
theorem jN.refl {P:Addr->Prop}(H:Hp):jN P H H:=⟨fun _ _=>rfl,fun _ _ h=>h,fun _ _ _ h=>h⟩
variable {H H1 H2:Hp}
theorem jN.trans {P:Addr->Prop}(a:jN P H H1)(b:jN P H1 H2):jN P H H2:=⟨fun x h=>(b.keep x h).trans (a.keep x h),fun x xs h=>b.tup x xs (a.tup x xs h),fun x o u h=>b.fz x o u (a.fz x o u h)⟩
variable {H':Hp}
theorem jN.of_same {P:Addr->Prop}(pl:∀ a,P a->H a≠none)(e:aI H H'):jN P H H':=⟨fun a h=>by
 cases q:H a with
 |none=>exact absurd q (pl a h)
 |some o=>exact e _ _ q,fun _ _=>e _ _,fun _ _ _ h=>e _ _ h⟩
theorem jN.weak {P P':Addr->Prop}(h:∀ a,P a->P' a)(e:jN P' H H'):jN P H H':=⟨fun a x=>e.keep a (h a x),e.tup,e.fz⟩
variable {K:Frag}{vs:List V}
theorem jN.tqT {P:Addr->Prop}(e:jN P H H'){b:Addr}(h:jW K H b vs):jW K H' b vs:=by
 rcases h with h | h
 .exact .inl (e.tup b vs h)
 .exact .inr h
variable {G:List Addr}
theorem jN.reps {P:Addr->Prop}(e:jN P H H'){ds:List D}(h:aG K H ds vs G)(hp:∀ a∈G,P a):aG K H' ds vs G :=
 h.keep (fun _ _=>e.tqT) e.fz fun b hb _ r=>(e.keep b (hp b hb)).trans r
def rW (env:En)(F:Nat->List Addr)(env':En)(F':Nat->List Addr):Prop:=∀(i:Nat) (d:D),env'[i]? = some (some (d,.lk))->env[i]? = some (some (d,.lk))/\F' i=F i
theorem rW.refl (env:En)(F:Nat->List Addr):rW env F env F:=fun _ _ h=>⟨h,rfl⟩
variable {F1 F2 F3:Nat->List Addr}{e1 e2 e3:En}
theorem rW.trans (a:rW e1 F1 e2 F2)(b:rW e2 F2 e3 F3):rW e1 F1 e3 F3:=fun i d h=>by
 obtain⟨h1,h2⟩:=b i d h;obtain⟨h3,h4⟩:=a i d h1;exact⟨h3,h2.trans h4⟩
structure After (K:Frag)(P Z:Addr->Prop)(env:En)(F:Nat->List Addr)(H:Hp)(env':En)(σ':L2.St)(H':Hp)(F':Nat->List Addr):Prop where
 re:RE K P env' σ' H' F'
 z:∀ i,∀ a∈F' i,Z a
 ev:jN P H H'
 lk:rW env F env' F'
theorem After.trans {P Z:Addr->Prop}{H3:Hp}{σ2 σ3:L2.St}(a:After K P Z e1 F1 H1 e2 σ2 H2 F2)(b:After K P Z e2 F2 H2 e3 σ3 H3 F3):After K P Z e1 F1 H1 e3 σ3 H3 F3 :=
 ⟨b.re,b.z,a.ev.trans b.ev,a.lk.trans b.lk⟩
noncomputable def post (K:Frag)(P Z:Addr->Prop)(env:En)(F:Nat->List Addr)(H:Hp)(D:Ends):Fl->Prop
 |.nx env'=>∀ σ' H' F',After K P Z env F H env' σ' H' F'->D.nx σ' H'
 |.bk env'=>∀ σ' H' F',After K P Z env F H env' σ' H' F'->D.bk σ' H'
 |.ct env'=>∀ σ' H' F',After K P Z env F H env' σ' H' F'->D.ct σ' H'
 |.rt d fr=>∀ v H' G,Rep K H' d v G->jN P H H'->(∀ a∈G,Z a)->(fr=true->G.Nodup/\∀ a∈G,¬ P a/\∃ vs:ML,H' a=some vs.o)->D.rt v H'
 |.xc _ _=>False
 |.bad=>False
theorem post.trans {P Z:Addr->Prop}{σ2:L2.St}{D:Ends}(a:After K P Z e1 F1 H1 e2 σ2 H2 F2):∀{f:Fl},post K P Z e1 F1 H1 D f->post K P Z e2 F2 H2 D f
 |.nx _,h=>fun σ' H' F' b=>h σ' H' F' (a.trans b)
 |.bk _,h=>fun σ' H' F' b=>h σ' H' F' (a.trans b)
 |.ct _,h=>fun σ' H' F' b=>h σ' H' F' (a.trans b)
 |.rt _ _,h=>fun v H' G r e z f=>h v H' G r (a.ev.trans e) z f
 |.xc _ _,h=>h
 |.bad,h=>h
variable {R:List Nat}{d:D}{env0:En}{i:Nat}{t:Tg}{v:V}
section
variable {K:Frag}{P Z:Addr->Prop}{env:En}{σ:L2.St}{H:Hp}{F:Nat->List Addr}
theorem lX (hi:i<env.length)(ht:t≠.lk):rW env F (put env i d t) (qB F i G):=fun j d' e=>by
 by_cases h:j=i
 .subst h;rw[dF hi] at e;cases e;exact absurd rfl ht
 .obtain⟨t0,e0,q⟩:=fY h e;cases t0 with
  |lk=>exact⟨e0,dE h⟩
  |own=>cases q
  |sh R=>cases q
theorem mU (hz:∀ i,∀ a∈F i,Z a)(hg:∀ a∈G,Z a):∀ j,∀ a∈qB F i G j,Z a:=fun j a ha=>by
 by_cases h:j=i
 .subst h;rw[dU] at ha;exact hg a ha
 .rw[dE h] at ha;exact hz j a ha
theorem vP {D:Ends}{mv:Bool}{p:Pc.D×Rt}(re:RE K P env σ H F)(hz:∀ i,∀ a∈F i,Z a)(zp:∀ a,¬ P a->Z a)(e:aI H H')(rp:Rep K H' p.1 v G)(rt:bP env F H p.2 H' G)
  (h:post K P Z env F H D (vg (.nm i) mv env p)):D.nx (σ.set i (some v)) H':=by
 have re':=re.same e;have ez:∀ a∈G,Z a:=fun a ha=>by
  rcases rt.cont a ha with q | ⟨j,_,_,f,_⟩
  .exact zp a fun z=>re.pl a z q
  .exact hz j a f
 have iS:=jN.of_same (P:=P) re.pl e;unfold vg at h;by_cases hi:i<env.length
 .simp only[hi,if_true] at h;have shared:∀ R,p.2.roots=R->post K P Z env F H D (.nx (put env i p.1 (.sh (R.filter (· != i)))))->D.nx (σ.set i (some v)) H':=fun R hR h=>by
   refine h _ H' (qB F i G) ⟨re'.put hi rp (fun o=>by cases o) (fun o=>by cases o) fun a ha j d' t' hj ej o m=>?_,mU hz ez,iS,lX hi (by intro z;cases z)⟩;rcases rt.cont a ha with q | ⟨k,d2,t2,f,e2,s⟩
   .exact absurd q (re.nn ej m)
   .have:=s j ((re.one j d' t' ej o).2.2 a m k d2 t2 e2 f);rw[hR] at this;simp only[aY,List.mem_filter];exact⟨this,by simpa using hj⟩
  cases hr:p.2 with
  |sh R=>rw[hr] at h;exact shared R (by rw[hr];rfl) h
  |mv R =>
   rw[hr] at h;obtain⟨m1,m2,m3⟩:=rt.mv R hr;cases R with
   |nil =>
    have fresh:∀ a∈G,H a=none:=fun a ha=>by
     rcases m3 a ha with q | ⟨_,_,_,q,_⟩
     .exact q
     .cases q
    refine h _ H' (qB F i G) ⟨re'.put hi rp (fun _=>⟨m1,m2,fun a ha j _ m=>?_⟩) (fun _ a ha z=>re.pl a z (fresh a ha)) fun a ha j d' t' hj ej o m=>?_,mU hz ez,iS,lX hi (by intro z;cases z)⟩
    .obtain⟨d2,t2,e2⟩:=re.at' m;exact re.nn e2 m (fresh a ha)
    .exact absurd (fresh a ha) (re.nn ej m)
   |cons r0 R0 =>
    cases mv with
    |false=>exact shared _ (by rw[hr];rfl) h
    |true =>
     simp only[if_true] at h;by_cases ho:eO env (r0::R0)=true
     .rw[if_pos ho] at h;have fg:=re'.forget (env':=kill (r0::R0) env) (cI _ _) fun j d' t' ej=>(cD ej).1
      have ow:∀ k∈r0::R0,∃ d',env[k]? = some (some (d',.own)):=fun k hk=>by
       have:=cu.mp ho k hk;split at this
       .rename_i d' q;exact⟨d',q⟩
       .cases this
      have apart:∀ a∈G,∀ j,j≠i->a∉(match (kill (r0::R0) env)[j]? with | some (some _)=>F j | _=>[]):=fun a ha j hj m=>by
       split at m
       .rename_i q ej;obtain⟨dj,tj⟩:=q;obtain⟨e0,h1,h2⟩:=cD ej;rcases m3 a ha with q | ⟨k,d2,t2,hk,f,e2,o2⟩
        .exact re.nn e0 m q
        .exact h2 k hk ((re.one k d2 t2 e2 o2).2.2 a f j dj tj e0 m)
       .cases m
      refine h _ H' _ ⟨fg.put (by rw[cI];exact hi) rp (fun _=>⟨m1,m2,apart⟩) (fun _ a ha z=>?_) fun a ha j d' t' hj ej o m=>absurd m (apart a ha j hj),mU (fun j a ha=>?_) ez,iS,fun j d' ej=>?_⟩
      .rcases m3 a ha with q | ⟨k,d2,t2,hk,f,e2,o2⟩
       .exact re.pl a z q
       .obtain⟨d3,e3⟩:=ow k hk;exact re.wr k d3 e3 a f z
      .split at ha
       .exact hz j a ha
       .cases ha
      .by_cases hj:j=i
       .subst hj;rw[dF (by rw[cI];exact hi)] at ej;cases ej
       .obtain⟨t0,e0,q⟩:=fY hj ej;cases t0 with
        |lk =>
         refine⟨(cD e0).1,?_⟩;rw[dE hj,e0]
        |own=>cases q
        |sh R=>cases q
     .rw[if_neg ho] at h;exact h.elim
 .simp only[hi,if_false] at h;exact h.elim
noncomputable def setM:List Nat->List V->L2.St->L2.St
 |i::is,v::vs,σ=>setM is vs (σ.set i (some v))
 |_,_,σ=>σ
theorem m9:∀{is:List Nat}{ds:List D}{vs:List V}{G:List Addr}{env env':En}{σ:L2.St}{F:Nat->List Addr},RE K P env σ H F->(∀ i,∀ a∈F i,Z a)->aG K H ds vs G->G.Nodup->(∀ a∈G,∃ vs:ML,H a=some vs.o)->(∀ a∈G,¬ P a)->(∀ a∈G,Z a) ->
  (∀ a∈G,∀ j,a∉F j)->bindM (fun _=>.own) is ds env=some env'->∃ F',RE K P env' (setM is vs σ) H F'/\(∀ i,∀ a∈F' i,Z a)/\rW env F env' F'/\is.length=vs.length
 | [],_,_,_,env,env',σ,F,re,hz,.nil,_,_,_,_,_,h=>by
  simp only[bindM,Option.some.injEq] at h;subst h;exact⟨F,re,hz,rW.refl _ _,rfl⟩
 | i::is,_,_,_,env,env',σ,F,re,hz,.cons (G:=G1) (G':=G2) r rs,nd,ll,np,gz,ap,h=>by
  simp only[bindM] at h;by_cases hi:i<env.length
  .rw[if_pos hi] at h;obtain⟨n1,n2,n12⟩:=ef.mp nd;have re1:=re.put (t:=.own) hi r (fun _=>⟨n1,fun a ha=>ll a (bf _ ha),fun a ha j _=>ap a (bf _ ha) j⟩) (fun _ a ha=>np a (bf _ ha)) fun a ha j _ _ _ _ _ m=>absurd m (ap a (bf _ ha) j)
   obtain⟨F',a1,a2,a3,a4⟩:=m9 re1 (mU hz fun a ha=>gz a (bf _ ha)) rs n2 (fun a ha=>ll a (ak _ ha)) (fun a ha=>np a (ak _ ha)) (fun a ha=>gz a (ak _ ha)) (fun a ha j m=>by
    by_cases hj:j=i
    .subst hj;rw[dU] at m;exact n12 a m a ha rfl
    .rw[dE hj] at m;exact ap a (ak _ ha) j m) h
   exact⟨F',a1,a2,(lX hi (by intro z;cases z)).trans a3,by simp[a4]⟩
  .rw[if_neg hi] at h;cases h
 |[],_,_,_,_,_,_,_,_,_,.cons _ _,_,_,_,_,_,h=>by simp[bindM] at h
 |_::_,_,_,_,_,_,_,_,_,_,.nil,_,_,_,_,_,h=>by simp[bindM] at h
theorem pF:bJ d R≠.lk:=by unfold bJ;split<;>intro z<;>cases z
theorem sJ (re:RE K P env σ H F)(hi:i<env.length)(rp:Rep K H d v G)(hs:∀ a∈G,∀(j:Nat) (d':D) (t':Tg),env[j]? = some (some (d',t'))->aZ t'=true->a∈F j->j∈R) :
  RE K P (put env i d (bJ d R)) (σ.set i (some v)) H (qB F i G):=by
 unfold bJ;cases hf:d.flat with
 |true =>
  have:G=[]:=rp.flat hf;subst this;simp only[if_true];exact re.put hi rp (fun _=>⟨bu,fun _ h=>(nomatch h),fun _ h=>(nomatch h)⟩) (fun _ _ h=>(nomatch h)) fun _ h=>(nomatch h)
 |false =>
  simp only[Bool.false_eq_true,if_false];exact re.put hi rp (fun o=>by cases o) (fun o=>by cases o) fun a ha j d' t' hj ej o m=>hs a ha j d' t' ej o m
theorem lO:∀{is:List Nat}{ds:List D}{vs:List V}{G:List Addr}{env env':En}{σ:L2.St}{F:Nat->List Addr},RE K P env σ H F->(∀ i,∀ a∈F i,Z a)->aG K H ds vs G->(∀ a∈G,Z a) ->
  (∀ a∈G,∀(j:Nat) (d':D) (t':Tg),env[j]? = some (some (d',t'))->aZ t'=true->a∈F j->j∈R)->bindM (fun d=>bJ d R) is ds env=some env'->∃ F',RE K P env' (setM is vs σ) H F'/\(∀ i,∀ a∈F' i,Z a)/\rW env F env' F'/\is.length=vs.length
 | [],_,_,_,env,env',σ,F,re,hz,.nil,_,_,h=>by
  simp only[bindM,Option.some.injEq] at h;subst h;exact⟨F,re,hz,rW.refl _ _,rfl⟩
 | i::is,_,_,_,env,env',σ,F,re,hz,.cons (d:=d) (G:=G1) (G':=G2) r rs,gz,hs,h=>by
  simp only[bindM] at h;by_cases hi:i<env.length
  .rw[if_pos hi] at h;have re1:=sJ re hi r fun a ha=>hs a (bf _ ha)
   obtain⟨F',a1,a2,a3,a4⟩:=lO re1 (mU hz fun a ha=>gz a (bf _ ha)) rs (fun a ha=>gz a (ak _ ha)) (fun a ha j d' t' ej o m=>by
    by_cases hj:j=i
    .subst hj;rw[dF hi] at ej;simp only[Option.some.injEq,Prod.mk.injEq] at ej;obtain⟨rfl,rfl⟩:=ej;rw[dU] at m;cases hf:d.flat with
     |true=>rw[r.flat hf] at m;cases m
     |false=>simp[bJ,hf,aZ] at o
    .rw[dE hj] at m;obtain⟨t0,e0,rfl⟩:=fY hj ej;rw[j9] at o;exact hs a (ak _ ha) j d' t0 e0 o m) h
   exact⟨F',a1,a2,(lX hi pF).trans a3,by simp[a4]⟩
  .rw[if_neg hi] at h;cases h
 |[],_,_,_,_,_,_,_,_,_,.cons _ _,_,_,h=>by simp[bindM] at h
 |_::_,_,_,_,_,_,_,_,_,_,.nil,_,_,h=>by simp[bindM] at h
theorem qw (R:List Nat)(env:En):(lock R env).length=env.length:=by simp[lock]
theorem lC {env:En}(e:(lock R env)[i]? = some (some (d,t))) :
  (env[i]? = some (some (d,t))/\(t = .own->i∉R))\/(t = .lk/\i∈R/\env[i]? = some (some (d,.own))):=by
 unfold lock at e;rw[List.getElem?_mapIdx] at e;cases q:env[i]? with
 |none=>rw[q] at e;cases e
 |some s =>
  rw[q] at e;cases s with
  |none=>cases e
  |some p =>
   obtain⟨a,b⟩:=p;simp only[Option.map_some,Option.some.injEq] at e;cases b with
   |own =>
    simp only at e;by_cases h:R.contains i=true
    .rw[if_pos h] at e;cases e;exact .inr ⟨rfl,by simpa using h,rfl⟩
    .rw[if_neg h] at e;cases e;exact .inl ⟨rfl,fun _ z=>h (by simpa using z)⟩
   |lk=>cases e;exact .inl ⟨rfl,fun z=>by cases z⟩
   |sh Q=>cases e;exact .inl ⟨rfl,fun z=>by cases z⟩
theorem wg {R:List Nat}{env:En}(e:env[i]? = some (some (d,t))):∃ t',(lock R env)[i]? = some (some (d,t'))/\aZ t'=aZ t/\aY i t'=aY i t:=by
 unfold lock;rw[List.getElem?_mapIdx,e];cases t with
 |own =>
  simp only[Option.map_some];by_cases h:R.contains i=true
  .exact⟨.lk,by rw[if_pos h],rfl,rfl⟩
  .exact⟨.own,by rw[if_neg h],rfl,rfl⟩
 |lk=>exact⟨.lk,rfl,rfl,rfl⟩
 |sh Q=>exact⟨.sh Q,rfl,rfl,rfl⟩
theorem eY {env:En}(e:(lock R env)[i]? = some (some (d,t))):∃ t0,env[i]? = some (some (d,t0))/\aZ t0=aZ t/\aY i t0=aY i t:=by
 rcases lC e with ⟨h,_⟩ | ⟨rfl,_,h⟩
 .exact⟨t,h,rfl,rfl⟩
 .exact⟨.own,h,rfl,rfl⟩
theorem RE.locked (re:RE K P env σ H F)(hg:∀ a∈G,H a≠none)(hc:∀ a∈G,∀(i:Nat) (d:D) (t:Tg),env[i]? = some (some (d,t))->aZ t=true->a∈F i->i∈R) :
  RE K (fun a=>P a\/a∈G) (lock R env) σ H F where
 len:=(qw R env).trans re.len
 val:=fun i d t e=>let ⟨t0,e0,_⟩:=eY e;re.val i d t0 e0
 emp:=fun i h=>re.emp i fun d t e=>by
  obtain⟨t',e',_⟩:=wg (R:=R) e;exact h d t' e'
 one:=fun i d t e o=>by
  obtain⟨t0,e0,o0,_⟩:=eY e;obtain⟨a,b,c⟩:=re.one i d t0 e0 (o0.trans o);refine⟨a,b,fun x hx j d' t' ej m=>?_⟩;obtain⟨t1,e1,_,s1⟩:=eY ej;rw[<-s1];exact c x hx j d' t1 e1 m
 wr:=fun i d e a ha z=>by
  rcases lC e with ⟨h,hn⟩ | ⟨q,_⟩
  .rcases z with z | z
   .exact re.wr i d h a ha z
   .exact hn rfl (hc a z i d .own h rfl ha)
  .cases q
 pl:=fun a h=>h.elim (re.pl a) (hg a)
theorem mB (R:List Nat)(env0 env:En):(unlock R env0 env).length=env.length:=by simp[unlock]
theorem ji {env:En}(e:(unlock R env0 env)[i]? = some (some (d,t))) :
  (env[i]? = some (some (d,t))/\(t = .lk->¬ (i∈R/\∃ d0,env0[i]? = some (some (d0,.own)))))\/(t = .own/\i∈R/\env[i]? = some (some (d,.lk))/\∃ d0,env0[i]? = some (some (d0,.own))):=by
 unfold unlock at e;rw[List.getElem?_mapIdx] at e;cases q:env[i]? with
 |none=>rw[q] at e;cases e
 |some s =>
  rw[q] at e;cases s with
  |none=>cases e
  |some p =>
   obtain⟨a,b⟩:=p;simp only[Option.map_some,Option.some.injEq] at e;cases b with
   |own=>cases e;exact .inl ⟨rfl,fun z=>by cases z⟩
   |sh Q=>cases e;exact .inl ⟨rfl,fun z=>by cases z⟩
   |lk =>
    simp only at e;split at e
    .rename_i d0 q0;by_cases h:R.contains i=true
     .rw[if_pos h] at e;cases e;exact .inr ⟨rfl,by simpa using h,rfl,d0,q0⟩
     .rw[if_neg h] at e;cases e;exact .inl ⟨rfl,fun _ z=>h (by simpa using z.1)⟩
    .rename_i nq;cases e;exact .inl ⟨rfl,fun _ ⟨_,d0,q0⟩=>nq d0 q0⟩
theorem fG {env:En}(e:(unlock R env0 env)[i]? = some (some (d,t))):∃ t0,env[i]? = some (some (d,t0))/\aZ t0=aZ t/\aY i t0=aY i t:=by
 rcases ji e with ⟨h,_⟩ | ⟨rfl,_,h,_⟩
 .exact⟨t,h,rfl,rfl⟩
 .exact⟨.lk,h,rfl,rfl⟩
theorem qN {R:List Nat}{env0 env:En}(e:env[i]? = some (some (d,t))):∃ t',(unlock R env0 env)[i]? = some (some (d,t')):=by
 unfold unlock;rw[List.getElem?_mapIdx,e];cases t with
 |own=>exact⟨.own,rfl⟩
 |sh Q=>exact⟨.sh Q,rfl⟩
 |lk =>
  simp only[Option.map_some];split
  .by_cases h:R.contains i=true
   .exact⟨.own,by rw[if_pos h]⟩
   .exact⟨.lk,by rw[if_neg h]⟩
  .exact⟨.lk,rfl⟩
theorem After.unlocked {env':En}{σ':L2.St}{F':Nat->List Addr}(re:RE K P env σ H F)(a:After K (fun a=>P a\/a∈G) Z (lock R env) F H env' σ' H' F'):After K P Z env F H (unlock R env env') σ' H' F' where
 re:={
  len:=(mB R env env').trans a.re.len
  val:=fun i d t e=>let ⟨t0,e0,_⟩:=fG e;a.re.val i d t0 e0
  emp:=fun i h=>a.re.emp i fun d t e=>by
   obtain⟨t',e'⟩:=qN (R:=R) (env0:=env) e;exact h d t' e'
  one:=fun i d t e o=>by
   obtain⟨t0,e0,o0,_⟩:=fG e;obtain⟨x,y,c⟩:=a.re.one i d t0 e0 (o0.trans o);refine⟨x,y,fun z hz j d' t' ej m=>?_⟩;obtain⟨t1,e1,_,s1⟩:=fG ej;rw[<-s1];exact c z hz j d' t1 e1 m
  wr:=fun i d e b hb z=>by
   rcases ji e with ⟨h,_⟩ | ⟨_,hR,h,d0,h0⟩
   .exact a.re.wr i d h b hb (.inl z)
   .obtain⟨h1,h2⟩:=a.lk i d h;rw[h2] at hb;exact re.wr i d0 h0 b hb z
  pl:=fun b h=>a.re.pl b (.inl h) }
 z:=a.z
 ev:=a.ev.weak fun _ h=>.inl h
 lk:=fun i d e=>by
  rcases ji e with ⟨h,hn⟩ | ⟨q,_⟩
  .obtain⟨h1,h2⟩:=a.lk i d h;rcases lC h1 with ⟨h3,_⟩ | ⟨_,hR,h3⟩
   .exact⟨h3,h2⟩
   .exact absurd ⟨hR,d,h3⟩ (hn rfl)
  .cases q
end
variable {path:Option Int}{rs:List Rt}{x:Nat}
section
variable {K:Frag}{P Z:Addr->Prop}{env:En}{σ:L2.St}{H:Hp}{F:Nat->List Addr}
theorem eT (h:ownAt env x=some d):env[x]? = some (some (d,.own)):=by
 unfold ownAt at h;split at h
 .rename_i d' q;cases h;exact q
 .cases h
theorem mP (re:RE K P env σ H F){xs:List D}(hx:ownAt env x=some d)(hv:σ[x]? = some (some v))(h:d.at1 path=some xs) :
  ∃ p,PV K H v path p/\∀ H',aI H H'->∃ ws Gx,H' p=some (.lst ws)/\aG K H' xs ws Gx/\p∈F x/\(∀ a∈Gx,a∈F x)/\Gx.Nodup/\p∉Gx /\
   ∀ ys us Gy,aG K (upd H' p (.lst us)) ys us Gy->Gy.Nodup->p∉Gy->(∀ a∈Gy,a∈Gx\/a∉F x)->∃ G',Rep K (upd H' p (.lst us)) (d.set1 path ys) v G'/\G'.Nodup/\∀ a∈G',a∈F x\/a∈Gy:=by
 have hx':=eT hx;obtain⟨u,e,rp⟩:=re.val x d .own hx';rw[hv] at e;cases e;obtain⟨a,b,_⟩:=re.one x d .own hx' rfl;obtain⟨p,pv,f⟩:=vi rp a h;exact⟨p,pv,fun H' e=>f H' e fun y hy=>let ⟨ws,q⟩:=b y hy;⟨ws,e _ _ q⟩⟩
theorem uB {D:Ends}{d:Pc.D}{ys:List Pc.D}(h:post K P Z env F H D (eZ x path env d ys rs)):ys.length<=lim:=by
 unfold eZ at h;cases hR:dC rs with
 |none=>rw[hR] at h;exact h.elim
 |some R =>
  rw[hR] at h;simp only at h;by_cases hc:(decide R.Nodup&&eO env R && !R.contains x&&decide (ys.length<=lim))=true
  .simp only[Bool.and_eq_true,decide_eq_true_eq] at hc;exact hc.2
  .rw[if_neg hc] at h;exact h.elim
theorem pe {D:Ends}{d:Pc.D}{ys:List Pc.D}{p:Addr}{us:List V}{N:List Addr}
  (re:RE K P env σ H F) (hz:∀ i,∀ a∈F i,Z a) (zp:∀ a,¬ P a->Z a) (e:aI H H1) (hx:ownAt env x=some d) (hv:σ[x]? = some (some v)) (hp:p∈F x)
  (hN:∀ R,dC rs=some R->R.Nodup->N.Nodup/\(∀ a∈N,∃ vs:ML,H1 a=some vs.o)/\∀ a∈N,H a=none\/∃ i d t,i∈R/\a∈F i/\env[i]? = some (some (d,t))/\aZ t=true)
  (hset:(∀ a∈N,a∉F x)->N.Nodup->∃ G',Rep K (upd H1 p (.lst us)) (d.set1 path ys) v G'/\G'.Nodup/\∀ a∈G',a∈F x\/a∈N)
  (h:post K P Z env F H D (eZ x path env d ys rs)):D.nx σ (upd H1 p (.lst us)):=by
 unfold eZ at h;cases hR:dC rs with
 |none=>rw[hR] at h;exact h.elim
 |some R =>
  rw[hR] at h;simp only at h;by_cases hc:(decide R.Nodup&&eO env R && !R.contains x&&decide (ys.length<=lim))=true
  .rw[if_pos hc] at h;simp only[Bool.and_eq_true,decide_eq_true_eq,Bool.not_eq_true'] at hc;obtain⟨⟨⟨hc1,hc2⟩,hc3⟩,hc4⟩:=hc;have hxR:x∉R:=fun z=>by
    have:R.contains x=true:=by simpa using z
    rw[this] at hc3;cases hc3
   obtain⟨n1,n2,n3⟩:=hN R hR hc1;have hx':=eT hx;have ow:∀ k∈R,∃ d',env[k]? = some (some (d',.own)):=fun k hk=>by
    have:=cu.mp hc2 k hk;split at this
    .rename_i d' q;exact⟨d',q⟩
    .cases this
   have notx:∀ a∈N,a∉F x:=fun a ha m=>by
    rcases n3 a ha with q | ⟨i,d2,t2,hi,f,e2,o2⟩
    .exact re.nn hx' m q
    .have:=(re.one i d2 t2 e2 o2).2.2 a f x d .own hx' m;simp only[aY,List.mem_singleton] at this;subst this;exact hxR hi
   obtain⟨G',g1,g2,g3⟩:=hset notx n1;have re1:=re.same e;have pP:∀ a∈N,¬ P a:=fun a ha z=>by
    rcases n3 a ha with q | ⟨i,d2,t2,hi,f,e2,o2⟩
    .exact re.pl a z q
    .obtain⟨d3,e3⟩:=ow i hi;exact re.wr i d3 e3 a f z
   have re2:=re1.mutate (R:=R) (N:=N) hx' hv hp g1 g2 g3 fun a ha=>⟨n2 a ha,pP a ha,fun j dj tj ej m=>by
    rcases n3 a ha with q | ⟨i,d2,t2,hi,f,e2,o2⟩
    .exact absurd q (re.nn ej m)
    .exact⟨i,ah _ hi,(re.one i d2 t2 e2 o2).2.2 a f j dj tj ej m⟩⟩
   obtain⟨_,lsx,_⟩:=re1.one x d .own hx' rfl;obtain⟨ws,hpl⟩:=lsx p hp;have nPp:¬ P p:=re.wr x d hx' p hp;refine h σ _ _ ⟨re2,fun j a ha=>?_,(jN.of_same re.pl e).trans ⟨fun a z=>aJ (fun q=>nPp (q ▸ z)),fun b xs r=>?_,jn hpl⟩,fun j dj ej=>?_⟩
   .unfold mn at ha;split at ha
    .rcases g3 a ha with q | q
     .exact hz x a q
     .exact zp a (pP a q)
    .split at ha
     .exact hz j a ha
     .cases ha
   .refine (aJ (fun q=>?_)).trans r;subst q;rw[hpl] at r;cases ws<;>cases r
   .by_cases hj:j=x
    .subst hj;rw[List.getElem?_set_self (by rw[cI];exact (List.getElem?_eq_some_iff.mp hx').1)] at ej;cases ej
    .rw[List.getElem?_set_ne (df hj)] at ej;refine⟨(cD ej).1,?_⟩;unfold mn;rw[if_neg hj,ej]
  .rw[if_neg hc] at h;exact h.elim
end
end Pc
end
section
namespace Pc
open PySem PySem.Spec PyProof.Rows L2
variable {G:List Addr}{d:D}{ds:List D}{v:V}
section
variable {K:Frag}{H:Hp}
theorem aG.inv2 {e:D}{x y:V}(h:aG K H [d,e] [x,y] G):∃ G1 G2,Rep K H d x G1/\Rep K H e y G2/\G=G1++G2:=by
 cases h with
 |cons r s =>
  cases s with
  |cons r' s'=>cases s';exact⟨_,_,r,r',by rw[aw]⟩
theorem Rep.int_inv {i:Int}(h:Rep K H (.int i) v G):v = .int i/\G=[]:=by cases h;exact⟨rfl,rfl⟩
theorem Rep.bl_inv {i:Bool}(h:Rep K H (.bl i) v G):v = .bl i/\G=[]:=by cases h;exact⟨rfl,rfl⟩
theorem Rep.str_inv {i:Str}(h:Rep K H (.str i) v G):v = .str i/\G=[]:=by cases h;exact⟨rfl,rfl⟩
theorem Rep.non_inv (h:Rep K H .non v G):v = .non/\G=[]:=by cases h;exact⟨rfl,rfl⟩
theorem Rep.tup_inv (h:Rep K H (.tup ds) v G):∃ p vs,v = .ref p/\iT K H p vs/\aG K H ds vs G:=by
 cases h with
 |tup a b=>exact⟨_,_,rfl,a.sq,b⟩
theorem Rep.tup_invT (h:Rep K H (.tup ds) v G):∃ p vs,v = .ref p/\jW K H p vs/\aG K H ds vs G:=by
 cases h with
 |tup a b=>exact⟨_,_,rfl,a,b⟩
end
variable {H:Hp}{K:Frag}{l:Addr}{n:Nat}{pins:List (Addr×Obj)}{s:Shared}{vs xs:List V}
section
variable {X:Cx}
theorem Inv.lstR {σ:L2.St}(I:Inv X pins σ H s)(hH:Rd H l (.lst xs)):xs.length<=sizeLine/\∃(its:List Value) (n:Nat),aL xs its/\xs.length=its.length/\s.heap.get? l=some { cls:=.type "list",data:=.seq its.toArray n }:=by
 obtain⟨z,its,n,r,e⟩:=hH.ok I.hok;exact⟨z,its,n,r,r.length,e⟩
noncomputable def Gp:R2:=fun x y H Q=>∃ l b xs zs,x = .ref l/\y = .ref b/\Rd H l (.lst xs)/\Rd H b (.lst zs)/\xs.length+zs.length<=sizeLine/\∀ p,H p=none->Q (.ref p) (upd H p (.lst (xs++zs)))
theorem sL:gI X (binaryOp .Add) Gp:=by
 intro pins s σ H x y v u Q I rx ry h;obtain⟨l,b,xs,zs,rfl,rfl,hH,hB,hz,q⟩:=h;cases rx;cases ry;obtain⟨z,its,n,r,hl,e⟩:=Inv.lstR I hH;obtain⟨z2,its2,n2,r2,hl2,e2⟩:=Inv.lstR I hB;refine PySem.P.add_list e e2 ?_ (by rw[aj,aj];omega);have ea:its.toArray++its2.toArray=(its++its2).toArray:=by simp
 rw[ea];exact⟨.ref _,_,I.lnew (t':=s.toks) (r.append r2) (by rw[aq];omega),rfl,q _ I.fresh⟩
noncomputable def GL:R2:=fun x y H Q=>∃ l k xs,x = .ref l/\y = .int k/\Rd H l (.lst xs)/\-(2 ^ 63)<=k/\k<2 ^ 63/\xs.length*k.toNat<=sizeLine /\
 ∀ p,H p=none->Q (.ref p) (upd H p (.lst (List.replicate k.toNat xs).flatten))
theorem Aw:gI X (binaryOp .Mult) GL:=by
 intro pins s σ H x y v u Q I rx ry h;obtain⟨l,k,xs,rfl,rfl,hH,h1,h2,hz,q⟩:=h;cases rx;obtain⟨t,rfl⟩:=ry;obtain⟨z,its,n,r,hl,e⟩:=Inv.lstR I hH;have hlen:its.toArray.size*k.toNat<=sizeLine:=by rw[aj,<-hl];exact hz
 have hcap:¬ its.toArray.size*k.toNat > (2 ^ 63 - 1) / 8:=by
  have:(sizeLine:Nat)<=(2 ^ 63 - 1) / 8:=by decide
  omega
 have hfit:¬ (!Builtin.List.listFitsIndex k)=true:=by
  rw[fitsIndex_both h1 h2];exact az
 have hlong:¬ Builtin.List.listTooLong (its.toArray.size*k.toNat)=true:=by
  rw[pW hlen];exact az
 have hnew:List.foldl (fun x1 x2=>x1++x2) #[] (List.replicate (if its.toArray.isEmpty=true then 0 else k.toNat) its.toArray)=(List.replicate k.toNat its).flatten.toArray:=by
  have f0:∀ m:Nat,List.foldl (fun x1 x2=>x1++x2) #[] (List.replicate m its.toArray)=(List.replicate m its).flatten.toArray:=fun m=>by
   have:=foldl_rep its m [];rw[gb] at this;exact this
  rw[f0];cases its with
  |nil=>simp
  |cons a r'=>rw[if_neg (by simp)]
 refine wpAny_binaryOp_repeat_ref (T:="list") (U:="int") (by decide) ⟨_,e,rfl⟩ (fun s'=>typeIs_int s' k t) noFill_list_mul F.fills_int_mul F.slot_int_rmul repeat_list F.slot_int_index.lookup
  (call_meets F.slot_int_rmul (typeIs_int s k t) F.entry_int_rmul (F.args_int_rmul_2 _ _) (int___rmul___int_list k t l its.toArray n)
   ⟨e,rfl,⟨_,e,rfl⟩,call_meets F.slot_list_mul ⟨_,e,rfl⟩ F.entry_list_mul (F.args_list_mul_2 _ _) (AutoListH.list___mul___list_int_3 l its.toArray n k t hfit hcap hlong) ⟨e,?_⟩⟩)
 rw[hnew];exact⟨.ref _,_,I.lnew (t':=s.toks) (r.rep k.toNat) (by rw[len_rep,Nat.mul_comm];exact hz),rfl,q _ I.fresh⟩
theorem aG.rep (h:aG K H ds vs []):∀ n:Nat,aG K H (List.replicate n ds).flatten (List.replicate n vs).flatten []
 |0=>.nil
 | n+1=>by
  rw[de,de,c8,c8];exact h.append (h.rep n)
theorem oB {e:D}(h:ck n d=some e):n<=lim/\e=d:=by
 unfold ck at h;split at h
 .cases h;exact⟨‹_›,rfl⟩
 .cases h
theorem mM {i:Int}:small i=true↔(-(2 ^ 64)<i/\i<2 ^ 64):=by unfold small;exact decide_eq_true_iff
theorem zw {op:Operator}{i j k:Int}(h:binI op i j=some k):gI X (binaryOp op) (fun x y H Q=>x = .int i/\y = .int j/\Q (.int k) H):=by
 intro pins s σ H x y v u Q I rx ry q;obtain⟨rfl,rfl,q⟩:=q;cases op with
 |Add=>cases h;exact DH pins s σ H _ _ v u Q I rx ry ⟨i,j,rfl,rfl,q⟩
 |Sub=>cases h;exact D8 pins s σ H _ _ v u Q I rx ry ⟨i,j,rfl,rfl,q⟩
 |Mult =>
  have h:(if small i || small j then some (i*j) else none)=some k:=h;by_cases hc:(small i || small j)=true
  .rw[if_pos hc] at h;cases h;refine D7 pins s σ H _ _ v u Q I rx ry ⟨i,j,rfl,rfl,?_,q⟩;rw[gd,mM,mM] at hc;exact hc
  .rw[if_neg hc] at h;cases h
 |FloorDiv =>
  have h:(if 0<j/\j<1073741824 then some (i / j) else none)=some k:=h;by_cases hc:0<j/\j<1073741824
  .rw[if_pos hc] at h;cases h;exact zG pins s σ H _ _ v u Q I rx ry ⟨i,j,rfl,rfl,hc,q⟩
  .rw[if_neg hc] at h;cases h
 |Mod =>
  have h:(if 0<j then some (i%j) else none)=some k:=h;by_cases hc:0<j
  .rw[if_pos hc] at h;cases h;exact Dy pins s σ H _ _ v u Q I rx ry ⟨i,j,rfl,rfl,hc,q⟩
  .rw[if_neg hc] at h;cases h
 |LShift =>
  have h:(if 0<=j/\j<=1000000/\i.natAbs<2 ^ 64 then some (i*2 ^ j.toNat) else none)=some k:=h;by_cases hc:0<=j/\j<=1000000/\i.natAbs<2 ^ 64
  .rw[if_pos hc] at h;cases h;exact DN pins s σ H _ _ v u Q I rx ry ⟨i,j,rfl,rfl,hc,q⟩
  .rw[if_neg hc] at h;cases h
 |RShift =>
  have h:(if 0<=j then some (i / 2 ^ j.toNat) else none)=some k:=h;by_cases hc:0<=j
  .rw[if_pos hc] at h;cases h;exact Ef pins s σ H _ _ v u Q I rx ry ⟨i,j,rfl,rfl,hc,q⟩
  .rw[if_neg hc] at h;cases h
 |BitAnd=>cases h;exact Eh pins s σ H _ _ v u Q I rx ry ⟨i,j,rfl,rfl,q⟩
 |BitXor=>cases h;exact Cd pins s σ H _ _ v u Q I rx ry ⟨i,j,rfl,rfl,q⟩
 |_=>cases h
theorem nH (c:Array Nat):∀(k:Nat) (acc:Array Nat),((List.replicate k c).foldl (fun x y=>x++y) acc).size=acc.size+c.size*k
 |0,acc=>rfl
 | k+1,acc=>by
  rw[de,jd,nH c k,Array.size_append,Nat.mul_succ];omega
theorem wc (a:Str)(k:Nat):(zI a k).length=a.length*k:=by
 have:=nH a.cps k #[];rw[show (#[]:Array Nat).size=0 from rfl,i6] at this;exact this
theorem D6:gI X (binaryOp .Mult) (fun x y H Q=>∃(a:Str) (n:Int),x = .str a/\y = .int n/\(1<n/\n<=1000/\0<a.length/\a.length<=1000)/\Q (.str (zI a n.toNat)) H):=by
 intro pins s σ H x y v u Q I rx ry h;obtain⟨a,n,rfl,rfl,⟨h1,h2,h3,h4⟩,q⟩:=h;obtain⟨t,rfl⟩:=rx;obtain⟨t',rfl⟩:=ry;have hn1:¬ n<1:=by omega
 have hn2:(n==1 || a.length==0)=false:=by
  rw[Bool.or_eq_false_iff];exact⟨beq_false_of_ne (by omega),beq_false_of_ne (by omega)⟩
 have hm:a.length*n.toNat<=1000000:=br (Nat.mul_le_mul h4 (show n.toNat<=1000 by omega)) (by decide);refine PySem.P.mul_str (by rw[bj (by omega),bj (by omega)];rfl) (fun _ _=>?_) (fun _ _=>?_) ?_
 .have:(1000:Int)<=(2 ^ 63 - 1) / n:=by
   rw[Int.le_ediv_iff_mul_le (by omega)];omega
  omega
 .unfold Builtin.Str.tooLong;rw[bj];rw[sizeLine_eq];omega
 .rw[if_neg hn1,if_neg (by rw[hn2];exact az)];simp only[Made.post];refine⟨?_,.str (zI a n.toNat),H,I.tok _,⟨_,rfl⟩,q⟩;show (zI a n.toNat).length<=sizeLine;rw[wc,sizeLine_eq];omega
theorem Ad (op:Operator):gI X (binaryOp op) (Bl X.K (lj op)):=by
 intro pins s σ H x y v u Q I rx ry h;obtain⟨d1,d2,d,G,rs,hd,k⟩:=h;obtain⟨G1,G2,r1,r2,rfl⟩:=rs.inv2;cases d1 with
 |int i =>
  cases d2 with
  |int j =>
   obtain⟨rfl,rfl⟩:=r1.int_inv;obtain⟨rfl,rfl⟩:=r2.int_inv;have:lj op (.int i) (.int j)=(binI op i j).map .int:=rfl;rw[this,aa] at hd;obtain⟨z,hz,rfl⟩:=hd;exact zw hz pins s σ H _ _ v u Q I rx ry ⟨rfl,rfl,k _ H [] (.int z) gG.nil⟩
  |_=>cases hd
 |str a =>
  cases d2 with
  |str b =>
   cases op with
   |Add =>
    obtain⟨hl,rfl⟩:=oB hd;obtain⟨rfl,rfl⟩:=r1.str_inv;obtain⟨rfl,rfl⟩:=r2.str_inv;exact rL pins s σ H _ _ v u Q I rx ry ⟨a,b,rfl,rfl,fF hl,k _ H [] (.str _) gG.nil⟩
   |_=>cases hd
  |_=>cases hd
 |lst a =>
  obtain⟨p,vs,G',rfl,rfl,h1,h2⟩:=r1.lst_inv;cases d2 with
  |lst b =>
   cases op with
   |Add =>
    obtain⟨hl,rfl⟩:=oB hd;obtain⟨p',vs',G'',rfl,rfl,h1',h2'⟩:=r2.lst_inv;refine sL pins s σ H _ _ v u Q I rx ry ⟨p,p',vs,vs',rfl,rfl,h1,h1',by rw[<-h2.len,<-h2'.len];exact fF hl,fun q hq=>?_⟩;obtain⟨n1,n2⟩:=eV (G0:=p::G'++p'::G'') (h2.append h2') (fun a ha=>by simp at ha ⊢;rcases ha with ha | ha<;>simp[ha]) hq;exact k _ _ _ n1 n2
   |_=>cases hd
  |int n =>
   cases op with
   |Mult =>
    have hd:(if -(2 ^ 63)<=n/\n<2 ^ 63 then (if D.flats a then ck (a.length*n.toNat) (.lst (List.replicate n.toNat a).flatten) else none) else none)=some d:=hd;by_cases hc : -(2 ^ 63)<=n/\n<2 ^ 63
    .rw[if_pos hc] at hd;by_cases hf:D.flats a=true
     .rw[if_pos hf] at hd;obtain⟨hl,rfl⟩:=oB hd;obtain⟨rfl,rfl⟩:=r2.int_inv;have eG:G'=[]:=h2.flat hf;subst eG;refine Aw pins s σ H _ _ v u Q I rx ry ⟨p,n,vs,rfl,rfl,h1,hc.1,hc.2,by rw[<-h2.len];exact fF hl,fun q hq=>?_⟩;obtain⟨n1,n2⟩:=eV (G0:=[p] ++ []) (h2.rep n.toNat) (fun a ha=>(nomatch ha)) hq;exact k _ _ _ n1 n2
     .rw[if_neg hf] at hd;cases hd
    .rw[if_neg hc] at hd;cases hd
   |_=>cases hd
  |_=>cases hd
 |_=>cases hd
open SeqAt in
theorem gS {f:D->D->Option Bool}:∀{xs ys:List D}{b:Bool},rC f xs ys=some b->xs.length=ys.length/\∃ e:Nat->Bool,(∀ j x y,xs[j]? = some x->ys[j]? = some y->f x y=some (e j))/\b=(List.range xs.length).all e
 |[],[],b,h=>by cases h;exact⟨rfl,fun _=>true,fun j x y hx=>by simp at hx,rfl⟩
 | x::xs,y::ys,b,h=>by
  simp only[rC,Option.bind_eq_some_iff,Option.map_eq_some_iff] at h;obtain⟨a,h1,c,h2,rfl⟩:=h;obtain⟨hl,e,he,rfl⟩:=gS h2;refine⟨by simp[hl],fun j=>match j with | 0=>a | j+1=>e j,fun j x' y' hx hy=>?_,?_⟩
  .cases j with
   |zero=>simp at hx hy;subst hx;subst hy;exact h1
   |succ j=>exact he j x' y' (by simpa using hx) (by simpa using hy)
  .rw[av,i8,dz,List.all_map];rfl
 |[],_::_,b,h=>by cases h
 |_::_,[],b,h=>by cases h
theorem jw:∀(n:Nat) (d:D) (b:Bool),D.eqf n d d=some b->b=true
 |0,_,_,h=>by cases h
 |n+1,.non,b,h=>by cases h;rfl
 | n+1,.bl x,b,h=>by
  have h:some (x==x)=some b:=h;rw[fq] at h;cases h;rfl
 | n+1,.int x,b,h=>by
  have h:some (x==x)=some b:=h;rw[fq] at h;cases h;rfl
 | n+1,.str x,b,h=>by
  have h:some (x==x)=some b:=h;rw[fq] at h;cases h;rfl
 | n+1,.lst xs,b,h=>by
  have h:(if xs.length=xs.length then rC (D.eqf n) xs xs else some false)=some b:=h;rw[if_pos rfl] at h;obtain⟨_,e,he,rfl⟩:=gS h;rw[cu];intro j hj;have hj:j<xs.length:=by simpa using hj
  exact jw n xs[j] _ (he j _ _ (by simp[hj]) (by simp[hj]))
 |n+1,.dct _,b,h=>by cases h
 |n+1,.mpi _,b,h=>by cases h
 |n+1,.mpt _,b,h=>by cases h
 |n+1,.mpz _,b,h=>by cases h
 | n+1,.tup xs,b,h=>by
  have h:(if xs.length=xs.length then rC (D.eqf n) xs xs else none)=some b:=h;rw[if_pos rfl] at h;obtain⟨_,e,he,rfl⟩:=gS h;rw[cu];intro j hj;have hj:j<xs.length:=by simpa using hj
  exact jw n xs[j] _ (he j _ _ (by simp[hj]) (by simp[hj]))
section
variable {pins:List (Addr×Obj)}{σ:L2.St}{H:Hp}{s:Shared}
theorem fN.inj:∀{es:List DictEntry}{kvs kvs':List (Key×Option Int)},fN es kvs->fN es kvs'->kvs=kvs'
 |_,_,_,.nil,h=>by cases h;rfl
 | _,_,_,.cons hh hk hv r,h=>by
  cases h with
  |cons hh' hk' hv' r' =>
   rw[hk] at hk';rw[hv] at hv';cases hk';cases hv';rw[fN.inj r r']
  |si hk' hv' r'=>rw[hk] at hk';cases hk'
  |sn hk' hv' r'=>rw[hk] at hk';cases hk'
 | _,_,_,.si hk hv r,h=>by
  cases h with
  |cons hh' hk' hv' r'=>rw[hk] at hk';cases hk'
  |si hk' hv' r' =>
   rw[hk] at hk';rw[hv] at hv';cases hk';cases hv';rw[fN.inj r r']
  |sn hk' hv' r'=>rw[hv] at hv';cases hv'
 | _,_,_,.sn hk hv r,h=>by
  cases h with
  |cons hh' hk' hv' r'=>rw[hk] at hk';cases hk'
  |si hk' hv' r'=>rw[hv] at hv';cases hv'
  |sn hk' hv' r' =>
   rw[hk] at hk';cases hk';rw[fN.inj r r']
theorem sg.inj {K:Frag}{a:Addr}{kvs kvs':List (Key×Option Int)}(h:sg K a kvs)(h':sg K a kvs'):kvs=kvs':=by
 obtain⟨o,es,ep,h1,h2,h3,h4,_⟩:=h;obtain⟨o',es',ep',h1',h2',h3',h4',_⟩:=h';rw[h1] at h1';cases h1';rw[h3] at h3';cases h3';exact h4.inj h4'
theorem kE (I:L2.Inv X pins σ H s){a:Addr}{kvs:List (Key×Option Int)}(h:sg X.K a kvs):∃ o,s.heap.get? a=some o/\o.cls = .type "dict"/\o.ExactDict:=by
 obtain⟨o,es,ep,h1,h2,h3,h4,_⟩:=h;exact⟨o,I.kIn a o h1,h2.1,h2⟩
noncomputable def nf:HO->Bool
 |.frz _ _=>false
 |_=>true
noncomputable def nt:HO->Bool
 |.tup _=>false
 |_=>true
theorem eD {H:Hp}{a:Addr}{u u':HO}(h:Rd H a u)(h':Rd H a u')(hu:nf u=true:=by rfl)(hu':nf u'=true:=by rfl):u=u':=by
 rcases h with h | ⟨o,h⟩<;>rcases h' with h' | ⟨o',h'⟩<;>rw[h] at h'
 .exact cj h'
 .rw[cj h'] at hu;cases hu
 .rw[<-cj h'] at hu';cases hu'
 .cases h';rfl
theorem kR (I:L2.Inv X pins σ H s){a:Addr}{o:Obj}(h:X.K.lookup a=some o):H a=none:=(I.bs a o (I.ok.mod.kin a o h)).2
theorem sM:∀{a b:List Int},a.map (Sum.inl (β:=Str))=b.map Sum.inl->a=b
 |[],[],_=>rfl
 |[],_::_,h=>by cases h
 |_::_,[],h=>by cases h
 | x::a,y::b,h=>by
  have h:(Sum.inl x:Key)::a.map Sum.inl=Sum.inl y::b.map Sum.inl:=h;injection h with h1 h2
  injection h1 with h1
  rw[h1,sM h2]
theorem uh:∀{a b:List (List Int)},oT a=oT b->a=b
 |[],[],_=>rfl
 |[],_::_,h=>by cases h
 |_::_,[],h=>by cases h
 | x::a,y::b,h=>by
  have h:(x.map Sum.inl,V.bl true)::oT a=(y.map Sum.inl,V.bl true)::oT b:=h;injection h with h1 h2
  injection h1 with h1 _
  rw[sM h1,uh h2]
theorem iT.not_rd (I:L2.Inv X pins σ H s){a:Addr}{vs:List V}{u:HO}(h:iT X.K H a vs)(h':Rd H a u)(hu:nf u=true:=by rfl)(ht:nt u=true:=by rfl):False:=by
 rcases h with h | h
 .rw[eD h' h hu] at ht;cases ht
 .obtain⟨o,_,_,h1,_⟩:=h;exact Rd.ne_none h' (kR I h1)
theorem pR:∀{a b:List Int},a.map V.int=b.map V.int->a=b
 |[],[],_=>rfl
 |[],_::_,h=>by cases h
 |_::_,[],h=>by cases h
 | x::a,y::b,h=>by
  injection h with h1 h2
  injection h1 with h1
  rw[h1,pR h2]
theorem qG.inj (I:Inv X pins σ H s):∀{m m':MV}{v:V},qG X.K H m v->qG X.K H m' v->m=m'
 |.tr,.tr,_,_,_=>rfl
 |.int i,.int j,_,h,h'=>by cases h;cases h';rfl
 | .tup a,.tup b,_,⟨p,e,h⟩,⟨p',e',h'⟩=>by
  subst e;cases e';rw[pR (I.tuple_inj h.sq h'.sq)]
 |.tr,.int _,_,h,h'=>by cases h;cases h'
 |.int _,.tr,_,h,h'=>by cases h;cases h'
 |.tr,.tup _,_,h,⟨_,e,_⟩=>by cases h;cases e
 |.tup _,.tr,_,⟨_,e,_⟩,h=>by cases h;cases e
 |.int _,.tup _,_,h,⟨_,e,_⟩=>by cases h;cases e
 |.tup _,.int _,_,⟨_,e,_⟩,h=>by cases h;cases e
theorem iR.inj (I:Inv X pins σ H s):∀{a b:List (Int×MV)}{xs:List (Key×V)},iR X.K H a xs->iR X.K H b xs->a=b
 |[],[],_,_,_=>rfl
 |[],_::_,[],_,h=>h.elim
 |_::_,[],[],h,_=>h.elim
 |[],_::_,_::_,h,_=>h.elim
 |_::_,[],_::_,_,h=>h.elim
 |_::_,_::_,[],h,_=>h.elim
 | (k,m)::a,(k',m')::b,x::xs,⟨h1,h2,h3⟩,⟨g1,g2,g3⟩=>by
  rw[h1] at g1;injection g1 with g1
  have g1:k=k':=g1;rw[g1,show m=m' from qG.inj I h2 g2,iR.inj I h3 g3]
theorem Rep.inj (I:Inv X pins σ H s){d:D}{v:V}{G:List Addr}(h:Rep X.K H d v G):∀{e:D}{G':List Addr},Rep X.K H e v G'->d=e:=by
 refine Rep.rec (motive_1:=fun d v G _=>∀{e:D}{G':List Addr},Rep X.K H e v G'->d=e) (motive_2:=fun ds vs G _=>∀{es:List D}{G':List Addr},aG X.K H es vs G'->ds=es) ?non ?bl ?int ?str ?lst ?tup ?dct ?mpi ?mpt ?mpz ?nil ?cons h
 case non =>
  intro e' G' h;cases h;rfl
 case bl =>
  intro _ e' G' h;cases h;rfl
 case int =>
  intro _ e' G' h;cases h;rfl
 case str =>
  intro _ e' G' h;cases h;rfl
 case mpi =>
  intro p0 ks0 xs0 h r0 e' G' q;cases q with
  |mpi h' r'=>
   rw[h] at h';cases h';rw[iR.inj I r0 r']
  |mpz h' r'=>rw[h] at h';cases h'
  |mpt h'=>exact nomatch eD (.inl h) h'
  |lst h' _=>exact nomatch eD (.inl h) h'
  |tup h' _=>exact (iT.not_rd I h'.sq (.inl h)).elim
  |dct h' =>
   obtain⟨o,_,_,h1,_⟩:=h';exact absurd (kR I h1) (Rd.ne_none (.inl h))
 case mpz =>
  intro p0 ks0 xs0 o0 h r0 e' G' q;cases q with
  |mpz h' r'=>
   rw[h] at h';cases h';rw[iR.inj I r0 r']
  |mpi h' r'=>rw[h] at h';cases h'
  |mpt h'=>exact nomatch eD (.inr ⟨_,h⟩) h'
  |lst h' _=>exact nomatch eD (.inr ⟨_,h⟩) h'
  |tup h' _=>exact (iT.not_rd I h'.sq (.inr ⟨_,h⟩)).elim
  |dct h' =>
   obtain⟨o,_,_,h1,_⟩:=h';exact absurd (kR I h1) (Rd.ne_none (.inr ⟨_,h⟩))
 case mpt =>
  intro p0 ks0 h e' G' q;cases q with
  |mpt h'=>
   have:=eD h h';injection this with this
   rw[uh this]
  |mpi h' _=>exact nomatch eD h (.inl h')
  |mpz h' _=>exact nomatch eD h (.inr ⟨_,h'⟩)
  |lst h' _=>exact nomatch eD h h'
  |tup h' _=>exact (iT.not_rd I h'.sq h).elim
  |dct h' =>
   obtain⟨o,_,_,h1,_⟩:=h';exact absurd (kR I h1) (Rd.ne_none h)
 case lst =>
  intro p0 vs0 ds0 G0 h r ih e' G' q;cases q with
  |mpi h' _=>exact nomatch eD h (.inl h')
  |mpz h' _=>exact nomatch eD h (.inr ⟨_,h'⟩)
  |mpt h'=>exact nomatch eD h h'
  |lst h' r' =>
   have e:=I.list_inj (.inl h) (.inl h');subst e;rw[ih r']
  |dct h' =>
   obtain⟨its,_,pl,_⟩:=I.list (.inl h);obtain⟨o,ho,hc,_⟩:=pl.isList;obtain⟨o',ho',hc',_⟩:=kE I h';rw[ho] at ho';cases ho';rw[hc] at hc';injection hc' with z;exact absurd z (by decide)
  |tup h' r' =>
   obtain⟨its,_,pl,_⟩:=I.list (.inl h);obtain⟨its',_,pt,_⟩:=I.tuple h'.sq;obtain⟨o,ho,hc,_⟩:=pl.isList;obtain⟨o',ho',hc',_⟩:=pt;rw[ho] at ho';cases ho';rw[hc] at hc';injection hc' with z;exact absurd z (by decide)
 case tup =>
  intro p0 vs0 ds0 G0 h r ih e' G' q;cases q with
  |mpi h' _=>exact (iT.not_rd I h.sq (.inl h')).elim
  |mpz h' _=>exact (iT.not_rd I h.sq (.inr ⟨_,h'⟩)).elim
  |mpt h'=>exact (iT.not_rd I h.sq h').elim
  |tup h' r' =>
   have e:=I.tuple_inj h.sq h'.sq;subst e;rw[ih r']
  |dct h' =>
   obtain⟨its',_,pt,_⟩:=I.tuple h.sq;obtain⟨o,ho,hc,_⟩:=pt;obtain⟨o',ho',hc',_⟩:=kE I h';rw[ho] at ho';cases ho';rw[hc] at hc';injection hc' with z;exact absurd z (by decide)
  |lst h' r' =>
   obtain⟨its,_,pl,_⟩:=I.list (.inl h');obtain⟨its',_,pt,_⟩:=I.tuple h.sq;obtain⟨o,ho,hc,_⟩:=pl.isList;obtain⟨o',ho',hc',_⟩:=pt;rw[ho] at ho';cases ho';rw[hc] at hc';injection hc' with z;exact absurd z (by decide)
 case dct =>
  intro p0 ks0 h e' G' q;cases q with
  |mpi h' _ =>
   obtain⟨o,_,_,h1,_⟩:=h;exact absurd (kR I h1) (Rd.ne_none (.inl h'))
  |mpz h' _ =>
   obtain⟨o,_,_,h1,_⟩:=h;exact absurd (kR I h1) (Rd.ne_none (.inr ⟨_,h'⟩))
  |mpt h' =>
   obtain⟨o,_,_,h1,_⟩:=h;exact absurd (kR I h1) (Rd.ne_none h')
  |dct h'=>rw[sg.inj h h']
  |lst h' r' =>
   obtain⟨its,_,pl,_⟩:=I.list (.inl h');obtain⟨o,ho,hc,_⟩:=pl.isList;obtain⟨o',ho',hc',_⟩:=kE I h;rw[ho] at ho';cases ho';rw[hc] at hc';injection hc' with z;exact absurd z (by decide)
  |tup h' r' =>
   obtain⟨its',_,pt,_⟩:=I.tuple h'.sq;obtain⟨o,ho,hc,_⟩:=pt;obtain⟨o',ho',hc',_⟩:=kE I h;rw[ho] at ho';cases ho';rw[hc] at hc';injection hc' with z;exact absurd z (by decide)
 case nil=>intro e' G' h;cases h;rfl
 case cons =>
  intro d0 v0 ds0 vs0 G0 G1 h r i1 i2 e' G' q;cases q with
  |cons h' r'=>rw[i1 h',i2 r']
open SeqAt in
theorem tQ (I:Inv X pins σ H s):∀(n:Nat) (A:Around) (d e:D) (v w:V) (G G':List Addr) (u u':Value) (b:Bool),A.units+n<cLine->Rep X.K H d v G->Rep X.K H e w G'->RelV v u->RelV w u'->D.eqf n d e=some b->RcAt A s u u' b/\EqAt A s u u' b
 |0,_,_,_,_,_,_,_,_,_,_,_,_,_,_,_,h=>by cases h
 | n+1,A,d,e,v,w,G,G',u,u',b,hu,r1,r2,q1,q2,h=>by
  have hu1:A.in1.units+n<cLine:=by show A.units+1+n<cLine;omega
  have hu0:A.units<cLine:=by omega
  have items:∀{xs ys:List D}{vs ws:List V}{G1 G2:List Addr}{its its':List Value}{c:Bool},aG X.K H xs vs G1->aG X.K H ys ws G2->aL vs its->aL ws its'->rC (D.eqf n) xs ys=some c ->
    its.toArray.size=its'.toArray.size/\∃ ee:Nat->Bool,c=(List.range its.toArray.size).all ee/\∀ j (h1:j<its.toArray.size) (h2:j<its'.toArray.size),EqAt A.in1 s its.toArray[j] its'.toArray[j] (ee j):=by
   intro xs ys vs ws G1 G2 its its' c a1 a2 b1 b2 hc;obtain⟨hl,ee,he,rfl⟩:=gS hc;have l1:=a1.len;have l2:=a2.len;have l3:=b1.length;have l4:=b2.length;have sz:its.toArray.size=xs.length:=by rw[aj];omega
   refine⟨by rw[aj,aj];omega,ee,by rw[sz],fun j h1 h2=>?_⟩;have j1:j<xs.length:=by rw[<-sz];exact h1
   have j2:j<ys.length:=by omega
   obtain⟨v1,g1,e1,p1,_⟩:=a1.get (i:=j) (d:=xs[j]) (by simp[j1]);obtain⟨v2,g2,e2,p2,_⟩:=a2.get (i:=j) (d:=ys[j]) (by simp[j2]);obtain⟨u1,f1,t1⟩:=b1.get e1;obtain⟨u2,f2,t2⟩:=b2.get e2;have x1:its.toArray[j]=u1:=by
    have:=List.getElem?_eq_some_iff.mp f1;simpa using this.2
   have x2:its'.toArray[j]=u2:=by
    have:=List.getElem?_eq_some_iff.mp f2;simpa using this.2
   rw[x1,x2];exact (tQ I n A.in1 _ _ _ _ _ _ _ _ _ hu1 p1 p2 t1 t2 (he j _ _ (by simp[j1]) (by simp[j2]))).2
  have refs:∀{l m:Addr}{c:Bool},(l=m->c=true)->RcAt A s (.ref l) (.ref m) c->RcAt A s (.ref l) (.ref m) c/\EqAt A s (.ref l) (.ref m) c:=fun {l m c} hs hr=>⟨hr,by
   by_cases z:l=m
   .subst z;rw[hs rfl];exact EqAt.same _
   .exact EqAt.of_refs z hr⟩
  cases d with
  |dct _=>cases h
  |mpi _=>cases e<;>cases h
  |mpt _=>cases e<;>cases h
  |mpz _=>cases e<;>cases h
  |non =>
   obtain⟨rfl,rfl⟩:=r1.non_inv;cases q1;cases e with
   |dct _=>cases h
   |mpi _=>cases h
   |mpt _=>cases h
   |mpz _=>cases h
   |non=>obtain⟨rfl,rfl⟩:=r2.non_inv;cases q2;cases h;exact⟨RcAt.none_none,EqAt.same _⟩
   |bl c=>obtain⟨rfl,rfl⟩:=r2.bl_inv;cases q2;cases h;exact⟨RcAt.none_bool c,EqAt.none_bool c⟩
   |int i=>obtain⟨rfl,rfl⟩:=r2.int_inv;obtain⟨t,rfl⟩:=q2;cases h;exact⟨RcAt.none_int i t,EqAt.none_int i t⟩
   |str x=>obtain⟨rfl,rfl⟩:=r2.str_inv;obtain⟨t,rfl⟩:=q2;cases h;exact⟨RcAt.none_str x t,EqAt.none_str x t⟩
   |lst ys =>
    obtain⟨m,ws,g,rfl,rfl,a1,a2⟩:=r2.lst_inv;cases q2;obtain⟨its,_,pl,_⟩:=I.list (.inl a1);cases h;exact⟨RcAt.none_list pl.isList hu0,EqAt.none_list pl.isList hu0⟩
   |tup ys =>
    obtain⟨m,ws,rfl,a1,a2⟩:=r2.tup_inv;cases q2;obtain⟨its,_,pl,_⟩:=I.tuple a1;cases h;exact⟨RcAt.none_tuple pl hu0,EqAt.none_tuple pl hu0⟩
  |bl a =>
   obtain⟨rfl,rfl⟩:=r1.bl_inv;cases q1;cases e with
   |dct _=>cases h
   |mpi _=>cases h
   |mpt _=>cases h
   |mpz _=>cases h
   |non=>obtain⟨rfl,rfl⟩:=r2.non_inv;cases q2;cases h;exact⟨RcAt.bool_none a,EqAt.bool_none a⟩
   |bl c=>obtain⟨rfl,rfl⟩:=r2.bl_inv;cases q2;cases h;exact⟨RcAt.bool_bool a c,EqAt.bool_bool a c⟩
   |int i=>obtain⟨rfl,rfl⟩:=r2.int_inv;obtain⟨t,rfl⟩:=q2;cases h;exact⟨RcAt.bool_int a i t,EqAt.bool_int a i t⟩
   |str x=>obtain⟨rfl,rfl⟩:=r2.str_inv;obtain⟨t,rfl⟩:=q2;cases h;exact⟨RcAt.bool_str a x t,EqAt.bool_str a x t⟩
   |lst ys =>
    obtain⟨m,ws,g,rfl,rfl,a1,a2⟩:=r2.lst_inv;cases q2;obtain⟨its,_,pl,_⟩:=I.list (.inl a1);cases h;exact⟨RcAt.bool_list a pl.isList hu0,EqAt.bool_list a pl.isList hu0⟩
   |tup ys =>
    obtain⟨m,ws,rfl,a1,a2⟩:=r2.tup_inv;cases q2;obtain⟨its,_,pl,_⟩:=I.tuple a1;cases h;exact⟨RcAt.bool_tuple a pl hu0,EqAt.bool_tuple a pl hu0⟩
  |int a =>
   obtain⟨rfl,rfl⟩:=r1.int_inv;obtain⟨t0,rfl⟩:=q1;cases e with
   |dct _=>cases h
   |mpi _=>cases h
   |mpt _=>cases h
   |mpz _=>cases h
   |non=>obtain⟨rfl,rfl⟩:=r2.non_inv;cases q2;cases h;exact⟨RcAt.int_none a t0,EqAt.int_none a t0⟩
   |bl c=>obtain⟨rfl,rfl⟩:=r2.bl_inv;cases q2;cases h;exact⟨RcAt.int_bool a t0 c,EqAt.int_bool a t0 c⟩
   |int i=>obtain⟨rfl,rfl⟩:=r2.int_inv;obtain⟨t,rfl⟩:=q2;cases h;exact⟨RcAt.int_int a t0 i t,EqAt.int_int a t0 i t⟩
   |str x=>obtain⟨rfl,rfl⟩:=r2.str_inv;obtain⟨t,rfl⟩:=q2;cases h;exact⟨RcAt.int_str a t0 x t,EqAt.int_str a t0 x t⟩
   |lst ys =>
    obtain⟨m,ws,g,rfl,rfl,a1,a2⟩:=r2.lst_inv;cases q2;obtain⟨its,_,pl,_⟩:=I.list (.inl a1);cases h;exact⟨RcAt.int_list a t0 pl.isList hu0,EqAt.int_list a t0 pl.isList hu0⟩
   |tup ys =>
    obtain⟨m,ws,rfl,a1,a2⟩:=r2.tup_inv;cases q2;obtain⟨its,_,pl,_⟩:=I.tuple a1;cases h;exact⟨RcAt.int_tuple a t0 pl hu0,EqAt.int_tuple a t0 pl hu0⟩
  |str a =>
   obtain⟨rfl,rfl⟩:=r1.str_inv;obtain⟨t0,rfl⟩:=q1;cases e with
   |dct _=>cases h
   |mpi _=>cases h
   |mpt _=>cases h
   |mpz _=>cases h
   |non=>obtain⟨rfl,rfl⟩:=r2.non_inv;cases q2;cases h;exact⟨RcAt.str_none a t0,EqAt.str_none a t0⟩
   |int i=>obtain⟨rfl,rfl⟩:=r2.int_inv;obtain⟨t,rfl⟩:=q2;cases h;exact⟨RcAt.str_int a t0 i t,EqAt.str_int a t0 i t⟩
   |str x=>obtain⟨rfl,rfl⟩:=r2.str_inv;obtain⟨t,rfl⟩:=q2;cases h;exact⟨RcAt.str_str a t0 x t,EqAt.str_str a t0 x t⟩
   |bl c=>obtain⟨rfl,rfl⟩:=r2.bl_inv;cases q2;cases h;exact⟨RcAt.str_bool a t0 c,EqAt.str_bool a t0 c⟩
   |lst ys =>
    obtain⟨m,ws,g,rfl,rfl,a1,a2⟩:=r2.lst_inv;cases q2;obtain⟨its,_,pl,_⟩:=I.list (.inl a1);cases h;exact⟨RcAt.str_list a t0 pl.isList hu0,EqAt.str_list a t0 pl.isList hu0⟩
   |tup ys =>
    obtain⟨m,ws,rfl,a1,a2⟩:=r2.tup_inv;cases q2;obtain⟨its,_,pl,_⟩:=I.tuple a1;cases h;exact⟨RcAt.str_tuple a t0 pl hu0,EqAt.str_tuple a t0 pl hu0⟩
  |lst xs =>
   obtain⟨l,vs,g,rfl,rfl,a1,a2⟩:=r1.lst_inv;cases q1;obtain⟨its,rv,pl,_⟩:=I.list (.inl a1);cases e with
   |dct _=>cases h
   |mpi _=>cases h
   |mpt _=>cases h
   |mpz _=>cases h
   |non=>obtain⟨rfl,rfl⟩:=r2.non_inv;cases q2;cases h;exact⟨RcAt.list_none pl.isList hu0,EqAt.list_none pl.isList hu0⟩
   |lst ys =>
    obtain⟨m,ws,g',rfl,rfl,b1,b2⟩:=r2.lst_inv;cases q2;obtain⟨its',rv',pl',_⟩:=I.list (.inl b1);have same:l=m->b=true:=fun z=>by
     subst z;have e0:=Rep.inj I r1 r2;rw[e0] at h;exact jw _ _ _ h
    have h:(if xs.length=ys.length then rC (D.eqf n) xs ys else some false)=some b:=h;by_cases hl:xs.length=ys.length
    .rw[if_pos hl] at h;obtain⟨hz,ee,rfl,he⟩:=items a2 b2 rv rv' h;exact refs same (RcAt.lists pl.isList pl'.isList hz hu0 he)
    .rw[if_neg hl] at h;cases h;have hz:(its.toArray.size != its'.toArray.size)=true:=by
      have l1:=a2.len;have l2:=b2.len;have l3:=rv.length;have l4:=rv'.length;simp only[bne_iff_ne,ne_eq,List.size_toArray];omega
     exact refs same (RcAt.lists_lengths pl.isList pl'.isList hz hu0)
   |bl c=>obtain⟨rfl,rfl⟩:=r2.bl_inv;cases q2;cases h;exact⟨RcAt.list_bool c pl.isList hu0,EqAt.list_bool c pl.isList hu0⟩
   |int c=>obtain⟨rfl,rfl⟩:=r2.int_inv;obtain⟨t,rfl⟩:=q2;cases h;exact⟨RcAt.list_int c t pl.isList hu0,EqAt.list_int c t pl.isList hu0⟩
   |str c=>obtain⟨rfl,rfl⟩:=r2.str_inv;obtain⟨t,rfl⟩:=q2;cases h;exact⟨RcAt.list_str c t pl.isList hu0,EqAt.list_str c t pl.isList hu0⟩
   |tup ys =>
    obtain⟨m,ws,rfl,b1,b2⟩:=r2.tup_inv;cases q2;obtain⟨its',rv',pl',_⟩:=I.tuple b1;cases h;exact⟨RcAt.list_tuple pl.isList pl' hu0,EqAt.list_tuple pl.isList pl' hu0⟩
  |tup xs =>
   obtain⟨l,vs,rfl,a1,a2⟩:=r1.tup_inv;cases q1;obtain⟨its,rv,pl,_⟩:=I.tuple a1;cases e with
   |dct _=>cases h
   |mpi _=>cases h
   |mpt _=>cases h
   |mpz _=>cases h
   |tup ys =>
    obtain⟨m,ws,rfl,b1,b2⟩:=r2.tup_inv;cases q2;obtain⟨its',rv',pl',_⟩:=I.tuple b1;have same:l=m->b=true:=fun z=>by
     subst z;have e0:=Rep.inj I r1 r2;rw[e0] at h;exact jw _ _ _ h
    have h:(if xs.length=ys.length then rC (D.eqf n) xs ys else none)=some b:=h;by_cases hl:xs.length=ys.length
    .rw[if_pos hl] at h;obtain⟨hz,ee,rfl,he⟩:=items a2 b2 rv rv' h;have q:=RcAt.tuples (e:=ee) pl pl' hu0 he;rw[<-hz,Nat.min_self,fq,Bool.and_true] at q;exact refs same q
    .rw[if_neg hl] at h;cases h
   |non=>obtain⟨rfl,rfl⟩:=r2.non_inv;cases q2;cases h;exact⟨RcAt.tuple_none pl hu0,EqAt.tuple_none pl hu0⟩
   |bl c=>obtain⟨rfl,rfl⟩:=r2.bl_inv;cases q2;cases h;exact⟨RcAt.tuple_bool c pl hu0,EqAt.tuple_bool c pl hu0⟩
   |int c=>obtain⟨rfl,rfl⟩:=r2.int_inv;obtain⟨t,rfl⟩:=q2;cases h;exact⟨RcAt.tuple_int c t pl hu0,EqAt.tuple_int c t pl hu0⟩
   |str c=>obtain⟨rfl,rfl⟩:=r2.str_inv;obtain⟨t,rfl⟩:=q2;cases h;exact⟨RcAt.tuple_str c t pl hu0,EqAt.tuple_str c t pl hu0⟩
   |lst ys =>
    obtain⟨m,ws,g',rfl,rfl,b1,b2⟩:=r2.lst_inv;cases q2;obtain⟨its',rv',pl',_⟩:=I.list (.inl b1);cases h;exact⟨RcAt.tuple_list pl pl'.isList hu0,EqAt.tuple_list pl pl'.isList hu0⟩
end
end
section
open PySem.SeqAt
open PySem.AutoSeq1 (wpAny_loadPart')
open PySem.MeetsSeq PySem.MeetsSeq2 PySem.MeetsSeq3
theorem yZ (A:Around)(s:Shared)(a:Int)(t:Tok)(c:Int)(u:Tok)(prog:Program)(w:World)(E:Value->Shared->Prop)(Q:Value->Shared->Prop)(h:Q (.bool (decide (a<=c))) s) :
  wpAny (model prog w) A (richCompare .LtE (.int a t) (.int c u)) Q E s :=
 (PyProof.Rows.le_int h:wpAny (model prog w) A (compareOp .LtE (.int a t) (.int c u)) Q E s)
noncomputable def uY (R:Result->Shared->Prop)(s0:Shared)(z1 z2:Nat)(rest:List (Value×Value)):Prop :=
 ∃(xs ys:List Value) (p q:List Int),rest=xs.zip ys/\IntsAre xs p/\IntsAre ys q/\p.length+z2=q.length+z1/\R (.ok (.ret (.bool (lV p q)))) s0
variable {s0:Shared}{z1 z2:Nat}
theorem uY.turn {R:Result->Shared->Prop}{y x:Value}{rest:List (Value×Value)}(h:uY R s0 z1 z2 ((y,x)::rest)):∃ a t c u,y = .int a t/\x = .int c u/\(a=c->uY R s0 z1 z2 rest)/\(a≠c->R (.ok (.ret (.bool (decide (a<=c))))) s0):=by
 obtain⟨xs,ys,p,q,hz,h1,h2,hl,hR⟩:=h;cases h1 with
 |nil=>rw[List.zip_nil_left] at hz;cases hz
 |cons a t h1'=>cases h2 with
  |nil=>rw[List.zip_nil_right] at hz;cases hz
  |cons c u h2' =>
   rw[fh] at hz;injection hz with e1 e2
   injection e1 with e3 e4
   refine⟨a,t,c,u,e3,e4,fun e=>?_,fun e=>?_⟩
   .refine⟨_,_,_,_,e2,h1',h2',?_,?_⟩
    .simp only[List.length_cons] at hl;omega
    .unfold lV at hR;rw[if_pos e] at hR;exact hR
   .unfold lV at hR;rw[if_neg e] at hR;exact hR
theorem uY.fin {R:Result->Shared->Prop}(h:uY R s0 z1 z2 []):R (.ok (.ret (.bool (decide (z1<=z2))))) s0:=by
 obtain⟨xs,ys,p,q,hz,h1,h2,hl,hR⟩:=h;have e:lV p q=decide (z1<=z2):=by
  cases h1 with
  |nil=>exact (decide_eq_true (by simp only[List.length_nil] at hl;omega)).symm
  |cons a t h1'=>cases h2 with
   |nil=>exact (decide_eq_false (by simp only[List.length_cons,List.length_nil] at hl;omega)).symm
   |cons c u h2'=>rw[fh] at hz;cases hz
 rw[<-e];exact hR
theorem le_meets (l b:Addr)(xs ys:Array Value)(n n2:Nat)(dd dd2:Option Addr)(sl sl2:Array (Option Value))(p q:List Int)(hp:IntsAre xs.toList p)(hq:IntsAre ys.toList q) :
  Meets (Builtin.«tuple.__le__» ⟨[.ref l,.ref b],[]⟩) (fun _ R s=>s.heap.get? l=some { cls:=.type "tuple",dict:=dd,data:=.seq xs n,slots:=sl }/\s.heap.get? b=some { cls:=.type "tuple",dict:=dd2,data:=.seq ys n2,slots:=sl2 }/\R (.ok (.ret (.bool (lV p q)))) s) :=
 .of_wp fun prog w A R s h=>by
  obtain⟨hl,hb,h⟩:=h;have f2:=AutoSeq1.sub_tuple_tuple;have z1:xs.size=p.length:=by rw[<-hp.length];simp
  have z2:ys.size=q.length:=by rw[<-hq.length];simp
  obtain⟨hp',g,d,tk,os⟩:=s
  wp_walk using wpAny_loadPart' hl,wpAny_loadPart' hb,wpAny_forIn_list _ (fun rest b s'=>b.1=none/\s'=⟨hp',g,d,tk,os⟩/\uY R ⟨hp',g,d,tk,os⟩ xs.size ys.size rest) _
  case turn =>
   rintro⟨y,x⟩ rest b s' ⟨hb',rfl,hL⟩;obtain⟨a,t,c,u,rfl,rfl,k1,k2⟩:=hL.turn;obtain⟨e,he,hiff⟩:=HT.pN A.in1 ⟨hp',g,d,tk,os⟩ a t c u;refine wpAny_bind (he prog w _ _ ?_);cases e with
   |true =>
    have k:=k1 (hiff.mp rfl)
    wp_walk
    exact⟨rfl,rfl,k⟩
   |false =>
    have k:=k2 (fun q=>absurd (hiff.mpr q) az);have hri:=yZ A.in1 ⟨hp',g,d,tk,os⟩ a t c u prog w
    wp_walk using hri
    exact⟨_,rfl,by simpa using k⟩
  case fin =>
   rintro⟨b1,b2⟩ s' ⟨hb',rfl,hL⟩;simp only at hb';subst hb';have hR:=hL.fin
   wp_walk
   exact⟨_,rfl,by simpa[Builtin.Tuple.tupleCompareSizes] using hR⟩
  case h =>
   exact⟨rfl,rfl,xs.toList,ys.toList,p,q,rfl,hp,hq,by omega,h⟩
end
variable {A:Around}{b:Addr}{prog:Program}{w:World}{ys:Array Value}
theorem zJ {E:Value->Shared->Prop}{xs:Array Value}{p q:List Int}{Q:Value->Shared->Prop}(hl:IsTup s.heap l xs)(hb:IsTup s.heap b ys)(hp:IntsAre xs.toList p)(hq:IntsAre ys.toList q)
  (hu:A.units<cLine) (h:Q (.bool (lV p q)) s):wpAny (model prog w) A (compareOp .LtE (.ref l) (.ref b)) Q E s:=by
 obtain⟨⟨c1,d1,t1,sl1⟩,ho,hc,n,hd⟩:=id hl;obtain⟨⟨c2,d2,t2,sl2⟩,ho2,hc2,n2,hd2⟩:=id hb;cases hc;cases hd;cases hc2;cases hd2;exact richCompare_meets_room (op:=.LtE) ⟨_,ho,rfl⟩ ⟨_,ho2,rfl⟩ PySem.F.slot_tuple_le PySem.F.entry_tuple_le (PySem.F.args_tuple_le_2 _ _) (le_meets l b xs ys n n2 d1 d2 sl1 sl2 p q hp hq)
  ⟨ho,ho2,show Value.bool (lV p q)≠Value.notImplemented/\Q (.bool (lV p q)) s from ⟨(fun x=>nomatch x),h⟩⟩ hu
def oa (A:Around)(s:Shared)(y x:Value)(b:Bool):Prop:=∀(prog:Program) (w:World) (E Q:Value->Shared->Prop),Q (.bool b) s->wpAny (model prog w) A (richCompare .Lt y x) Q E s
noncomputable def B4 (A:Around)(s:Shared)(z:Bool):List (Value×Value)->Bool->Prop
 |[],b=>b=z
 |p::r,b=>∃ e,SeqAt.EqAt A.in1 s p.1 p.2 e/\(if e=true then B4 A s z r b else oa A.in1 s p.1 p.2 b)
section
open PySem.SeqAt
open PySem.AutoSeq1 (wpAny_loadPart')
open PySem.MeetsSeq PySem.MeetsSeq2 PySem.MeetsSeq3
theorem uH (l b:Addr)(xs ys:Array Value)(n n2:Nat)(dd dd2:Option Addr)(sl sl2:Array (Option Value))(c:Bool) :
  Meets (Builtin.«tuple.__lt__» ⟨[.ref l,.ref b],[]⟩) (fun A R s=>s.heap.get? l=some { cls:=.type "tuple",dict:=dd,data:=.seq xs n,slots:=sl }/\s.heap.get? b=some { cls:=.type "tuple",dict:=dd2,data:=.seq ys n2,slots:=sl2 }/\B4 A s (decide (xs.size<ys.size)) (xs.toList.zip ys.toList) c/\R (.ok (.ret (.bool c))) s) :=
 .of_wp fun prog w A R s h=>by
  obtain⟨hl,hb,hc,h⟩:=h;have f2:=AutoSeq1.sub_tuple_tuple;obtain⟨hp',g,d,tk,os⟩:=s
  wp_walk using wpAny_loadPart' hl,wpAny_loadPart' hb,wpAny_forIn_list _ (fun rest b s'=>b.1=none/\s'=⟨hp',g,d,tk,os⟩/\B4 A ⟨hp',g,d,tk,os⟩ (decide (xs.size<ys.size)) rest c) _
  case turn =>
   rintro⟨y,x⟩ rest b s' ⟨hb',rfl,hL⟩;obtain⟨e,he,hr⟩:=hL;refine wpAny_bind (he prog w _ _ ?_);cases e with
   |true =>
    rw[if_pos rfl] at hr
    wp_walk
    exact⟨rfl,rfl,hr⟩
   |false =>
    rw[if_neg az] at hr;have hri:=hr prog w
    wp_walk using hri
    exact⟨_,rfl,h⟩
  case fin =>
   rintro⟨b1,b2⟩ s' ⟨hb',rfl,hL⟩;simp only at hb';subst hb';have hL:c=_:=hL;rw[hL] at h
   wp_walk
   exact⟨_,rfl,by simpa[Builtin.Tuple.tupleCompareSizes] using h⟩
  case h =>
   exact⟨rfl,rfl,hc⟩
theorem Aj (l b:Addr)(xs ys:Array Value)(n n2:Nat)(dd dd2:Option Addr)(sl sl2:Array (Option Value))(c:Bool):∀(k i:Nat),min xs.size ys.size - i=k ->
  Meets (Builtin.«list.__eq__.loop» ⟨[.ref l,.ref b,rawInt (i:Int),rawInt 0],[]⟩) (fun A R s=>s.heap.get? l=some { cls:=.type "list",dict:=dd,data:=.seq xs n,slots:=sl }/\s.heap.get? b=some { cls:=.type "list",dict:=dd2,data:=.seq ys n2,slots:=sl2 }/\B4 A s (decide (xs.size<ys.size)) ((xs.toList.zip ys.toList).drop i) c/\R (.ok (.ret (.bool c))) s):=by
 intro k
 induction k with
 |zero =>
  intro i hk prog w A R s h;obtain⟨hl,hb,hc,hR⟩:=h;have hz:(xs.toList.zip ys.toList).drop i=[]:=List.drop_eq_nil_of_le (by rw[fu,ay,ay];omega);rw[hz] at hc;have hc:c=_:=hc;have e12:xs[i]? = none\/ys[i]? = none:=by
   by_cases h1:i<xs.size
   .right;rw[Array.getElem?_eq_none_iff];omega
   .left;rw[Array.getElem?_eq_none_iff];omega
  unfold Builtin.«list.__eq__.loop»
  wp_walk using wpAny_loadPart' hl,wpAny_loadPart' hb
  rw[cq];rw[hc] at hR;have fin:∀(f:PySem.Fin) (s':Shared),f = .done (.ret (.bool (decide (xs.size<ys.size))))->s'=s->(match f with
   |.done f=>R (.ok f) s'
   |.again c'=>c'.quiet=true/\codeAny (model prog w) A c' R s'):=fun f s' e1 e2=>by subst e1 e2;exact hR
  rcases e12 with e | e
  .rw[e]
   wp_walk using wpAny_loadPart' hl,wpAny_loadPart' hb
   exact hR
  .rw[e];cases xs[i]?<;>(dsimp only;wp_walk using wpAny_loadPart' hl,wpAny_loadPart' hb;exact hR)
 |succ k ih =>
  intro i hk prog w A R s h;obtain⟨hl,hb,hc,hR⟩:=h;have hi1:i<xs.size:=by omega
  have hi2:i<ys.size:=by omega
  have hz:(xs.toList.zip ys.toList).drop i=(xs[i],ys[i])::(xs.toList.zip ys.toList).drop (i+1):=by
   rw[iq (by rw[fu,ay,ay];omega)];simp
  rw[hz] at hc;obtain⟨e,he,hr⟩:=hc;have e1:xs[i]? = some xs[i]:=by simp[hi1]
  have e2:ys[i]? = some ys[i]:=by simp[hi2]
  unfold Builtin.«list.__eq__.loop»
  wp_walk using wpAny_loadPart' hl,wpAny_loadPart' hb
  rw[cq,e1,e2];dsimp only;refine wpAny_bind (he prog w _ _ ?_);cases e with
  |true =>
   rw[if_pos rfl] at hr;rw[if_pos rfl];refine wpAny_pure ⟨plainId_quiet plain_eq_loop _,codeAny_builtin entry_eq_loop ?_⟩;rw[Around.under_plainId plain_eq_loop _];exact ih (i+1) (by omega) prog w A R s ⟨hl,hb,hr,hR⟩
  |false =>
   rw[if_neg az] at hr;rw[if_neg az];have hri:=hr prog w
   wp_walk using wpAny_loadPart' hl,wpAny_loadPart' hb
   rw[e1,e2];dsimp only
   wp_walk using hri
   exact hR
theorem uW (l b:Addr)(xs ys:Array Value)(n n2:Nat)(dd dd2:Option Addr)(sl sl2:Array (Option Value))(c:Bool) :
  Meets (Builtin.«list.__lt__» ⟨[.ref l,.ref b],[]⟩) (fun A R s=>s.heap.get? l=some { cls:=.type "list",dict:=dd,data:=.seq xs n,slots:=sl }/\s.heap.get? b=some { cls:=.type "list",dict:=dd2,data:=.seq ys n2,slots:=sl2 }/\B4 A s (decide (xs.size<ys.size)) (xs.toList.zip ys.toList) c/\R (.ok (.ret (.bool c))) s):=by
 intro prog w A R s h;have h':=h;obtain⟨hl,hb,hc,hR⟩:=h;have f2:=AutoSeq1.sub_list_list;unfold Builtin.«list.__lt__»
 wp_walk using wpAny_loadPart' hl,wpAny_loadPart' hb
 refine⟨plainId_quiet plain_eq_loop _,codeAny_builtin entry_eq_loop ?_⟩;rw[Around.under_plainId plain_eq_loop _];exact Aj l b xs ys n n2 dd dd2 sl sl2 c _ 0 rfl prog w A R s ⟨hl,hb,hc,hR⟩
theorem oa.tuples {A:Around}{s:Shared}{l b:Addr}{xs ys:Array Value}{c:Bool}(hl:IsTup s.heap l xs)(hb:IsTup s.heap b ys)(hu:A.units<cLine)(h:B4 A s (decide (xs.size<ys.size)) (xs.toList.zip ys.toList) c):oa A s (.ref l) (.ref b) c:=by
 intro prog w E Q hQ;obtain⟨⟨c1,d1,t1,sl1⟩,ho,hc,n,hd⟩:=id hl;obtain⟨⟨c2,d2,t2,sl2⟩,ho2,hc2,n2,hd2⟩:=id hb;cases hc;cases hd;cases hc2;cases hd2;exact richCompare_meets_room (op:=.Lt) ⟨_,ho,rfl⟩ ⟨_,ho2,rfl⟩ PySem.F.slot_tuple_lt PySem.F.entry_tuple_lt (PySem.F.args_tuple_lt_2 _ _) (uH l b xs ys n n2 d1 d2 sl1 sl2 c)
  ⟨ho,ho2,h,show Value.bool c≠Value.notImplemented/\Q (.bool c) s from ⟨(fun x=>nomatch x),hQ⟩⟩ hu
theorem oa.lists {A:Around}{s:Shared}{l b:Addr}{xs ys:Array Value}{c:Bool}(hl:s.heap.IsList l xs)(hb:s.heap.IsList b ys)(hu:A.units<cLine)(h:B4 A s (decide (xs.size<ys.size)) (xs.toList.zip ys.toList) c):oa A s (.ref l) (.ref b) c:=by
 intro prog w E Q hQ;obtain⟨⟨c1,d1,t1,sl1⟩,ho,hc,n,hd⟩:=id hl;obtain⟨⟨c2,d2,t2,sl2⟩,ho2,hc2,n2,hd2⟩:=id hb;cases hc;cases hd;cases hc2;cases hd2;exact richCompare_meets_room (op:=.Lt) ⟨_,ho,rfl⟩ ⟨_,ho2,rfl⟩ PySem.F.slot_list_lt PySem.F.entry_list_lt (PySem.F.args_list_lt_2 _ _) (uW l b xs ys n n2 d1 d2 sl1 sl2 c)
  ⟨ho,ho2,h,show Value.bool c≠Value.notImplemented/\Q (.bool c) s from ⟨(fun x=>nomatch x),hQ⟩⟩ hu
end
section
variable {X:Cx}{pins:List (Addr×Obj)}{σ:L2.St}{H:Hp}{s:Shared}
theorem rg (I:Inv X pins σ H s)(hu1:A.in1.units+n<cLine)(ih:∀(d e:D) (v w:V) (G G':List Addr) (u u':Value) (b:Bool),Rep X.K H d v G->Rep X.K H e w G'->RelV v u->RelV w u'->D.ltf n d e=some b->oa A.in1 s u u' b){z1 z2:Nat}{b:Bool} :
  ∀{xs ys:List D}{vs ws:List V}{G1 G2:List Addr}{its its':List Value},aG X.K H xs vs G1->aG X.K H ys ws G2->aL vs its->aL ws its'->xs.length+z2=ys.length+z1->EJ (D.eqf n) (D.ltf n) xs ys=some b->B4 A s (decide (z1<z2)) (its.zip its') b
 | [],[],_,_,_,_,_,_,a1,a2,b1,b2,hl,h=>by
  cases a1;cases a2;cases b1;cases b2;cases h;exact (decide_eq_false (by simp only[List.length_nil] at hl;omega)).symm
 | [],y::ys,_,_,_,_,_,_,a1,a2,b1,b2,hl,h=>by
  cases a1;cases b1;cases h;rw[List.zip_nil_left];exact (decide_eq_true (by simp only[List.length_nil,List.length_cons] at hl;omega)).symm
 | x::xs,[],_,_,_,_,_,_,a1,a2,b1,b2,hl,h=>by
  cases a2;cases b2;cases h;rw[List.zip_nil_right];exact (decide_eq_false (by simp only[List.length_nil,List.length_cons] at hl;omega)).symm
 | x::xs,y::ys,_,_,_,_,_,_,a1,a2,b1,b2,hl,h=>by
  unfold EJ at h;obtain⟨e,h1,h2⟩:=ae.mp h;cases a1 with
  |cons p1 p2=>cases a2 with
   |cons r1 r2=>cases b1 with
    |cons t1 t2=>cases b2 with
     |cons q1 q2 =>
      refine⟨e,(tQ I n A.in1 _ _ _ _ _ _ _ _ _ hu1 p1 r1 t1 q1 h1).2,?_⟩;cases e with
      |true =>
       rw[if_pos rfl] at h2 ⊢;exact rg I hu1 ih p2 r2 t2 q2 (by simp only[List.length_cons] at hl;omega) h2
      |false =>
       rw[if_neg az] at h2 ⊢;exact ih _ _ _ _ _ _ _ _ _ p1 r1 t1 q1 h2
theorem BZ (I:Inv X pins σ H s):∀(n:Nat) (A:Around) (d e:D) (v w:V) (G G':List Addr) (u u':Value) (b:Bool),A.units+n<cLine->Rep X.K H d v G->Rep X.K H e w G'->RelV v u->RelV w u'->D.ltf n d e=some b->oa A s u u' b
 |0,_,_,_,_,_,_,_,_,_,_,_,_,_,_,_,h=>by cases h
 | n+1,A,d,e,v,w,G,G',u,u',b,hu,r1,r2,q1,q2,h=>by
  have hu1:A.in1.units+n<cLine:=by show A.units+1+n<cLine;omega
  have hu0:A.units<cLine:=by omega
  have ih:=fun d e v w G G' u u' b=>BZ I n A.in1 d e v w G G' u u' b hu1
  cases d with
  |int i=>cases e with
   |int j =>
    cases h;obtain⟨rfl,rfl⟩:=r1.int_inv;obtain⟨rfl,rfl⟩:=r2.int_inv;obtain⟨t,rfl⟩:=q1;obtain⟨t',rfl⟩:=q2;exact fun prog w E Q hQ=>HT.k7 A s _ t _ t' prog w E Q hQ
   |_=>cases h
  |tup xs=>cases e with
   |tup ys =>
    obtain⟨m,vs,rfl,a1,a2⟩:=r1.tup_inv;obtain⟨m',ws,rfl,c1,c2⟩:=r2.tup_inv;cases q1;cases q2;obtain⟨its,rv,pl,_⟩:=I.tuple a1;obtain⟨its',rv',pl',_⟩:=I.tuple c1;have l1:=a2.len;have l2:=c2.len;have l3:=rv.length;have l4:=rv'.length;exact oa.tuples pl pl' hu0 (rg I hu1 ih a2 c2 rv rv' (by rw[aj,aj];omega) h)
   |_=>cases h
  |lst xs=>cases e with
   |lst ys =>
    obtain⟨m,vs,g,rfl,rfl,a1,a2⟩:=r1.lst_inv;obtain⟨m',ws,g',rfl,rfl,c1,c2⟩:=r2.lst_inv;cases q1;cases q2;obtain⟨its,rv,pl,_⟩:=I.list (.inl a1);obtain⟨its',rv',pl',_⟩:=I.list (.inl c1);have l1:=a2.len;have l2:=c2.len;have l3:=rv.length;have l4:=rv'.length;exact oa.lists pl.isList pl'.isList hu0 (rg I hu1 ih a2 c2 rv rv' (by rw[aj,aj];omega) h)
   |_=>cases h
  |_=>cases h
end
section
variable {X:Cx}{pins:List (Addr×Obj)}{σ:L2.St}{H:Hp}{s:Shared}
open SeqAt in
theorem GP (I:Inv X pins σ H s)(n:Nat)(A:Around)(d e:D)(v w:V)(G G':List Addr)(u u':Value)(b:Bool)(hu:A.units+n<cLine)(r1:Rep X.K H d v G)(r2:Rep X.K H e w G')(q1:RelV v u)(q2:RelV w u')(h:D.eqf n d e=some b):RcNeAt A s u u' (!b):=by
 cases n with
 |zero=>cases h
 |succ n =>
  have hu1:A.in1.units+n<cLine:=by show A.units+1+n<cLine;omega
  have hu0:A.units<cLine:=by omega
  have items:∀{xs ys:List D}{vs ws:List V}{G1 G2:List Addr}{its its':List Value}{c:Bool},aG X.K H xs vs G1->aG X.K H ys ws G2->aL vs its->aL ws its'->rC (D.eqf n) xs ys=some c ->
    its.toArray.size=its'.toArray.size/\∃ ee:Nat->Bool,c=(List.range its.toArray.size).all ee/\∀ j (h1:j<its.toArray.size) (h2:j<its'.toArray.size),EqAt A.in1 s its.toArray[j] its'.toArray[j] (ee j):=by
   intro xs ys vs ws G1 G2 its its' c a1 a2 b1 b2 hc;obtain⟨hl,ee,he,rfl⟩:=gS hc;have l1:=a1.len;have l2:=a2.len;have l3:=b1.length;have l4:=b2.length;have sz:its.toArray.size=xs.length:=by rw[aj];omega
   refine⟨by rw[aj,aj];omega,ee,by rw[sz],fun j h1 h2=>?_⟩;have j1:j<xs.length:=by rw[<-sz];exact h1
   have j2:j<ys.length:=by omega
   obtain⟨v1,g1,e1,p1,_⟩:=a1.get (i:=j) (d:=xs[j]) (by simp[j1]);obtain⟨v2,g2,e2,p2,_⟩:=a2.get (i:=j) (d:=ys[j]) (by simp[j2]);obtain⟨u1,f1,t1⟩:=b1.get e1;obtain⟨u2,f2,t2⟩:=b2.get e2;have x1:its.toArray[j]=u1:=by
    have:=List.getElem?_eq_some_iff.mp f1;simpa using this.2
   have x2:its'.toArray[j]=u2:=by
    have:=List.getElem?_eq_some_iff.mp f2;simpa using this.2
   rw[x1,x2];exact (tQ I n A.in1 _ _ _ _ _ _ _ _ _ hu1 p1 p2 t1 t2 (he j _ _ (by simp[j1]) (by simp[j2]))).2
  have lsti:∀{ys:List D}{w:V}{g:List Addr}{u:Value},Rep X.K H (.lst ys) w g->RelV w u->∃ m its vs g',u = .ref m/\s.heap.IsList m its.toArray/\aL vs its/\aG X.K H ys vs g':=fun {ys w g u} r q=>by
   obtain⟨m,ws,g',rfl,rfl,a1,a2⟩:=r.lst_inv;cases q;obtain⟨its,rv,pl,_⟩:=I.list (.inl a1);exact⟨m,its,ws,g',rfl,pl.isList,rv,a2⟩
  have tupi:∀{ys:List D}{w:V}{g:List Addr}{u:Value},Rep X.K H (.tup ys) w g->RelV w u->∃ m its vs,u = .ref m/\s.heap.IsTuple m its.toArray/\aL vs its/\aG X.K H ys vs g:=fun {ys w g u} r q=>by
   obtain⟨m,ws,rfl,a1,a2⟩:=r.tup_inv;cases q;obtain⟨its,rv,pl,_⟩:=I.tuple a1;exact⟨m,its,ws,rfl,pl,rv,a2⟩
  cases d with
  |dct _=>cases h
  |mpi _=>cases e<;>cases h
  |mpt _=>cases e<;>cases h
  |mpz _=>cases e<;>cases h
  |non =>
   obtain⟨rfl,rfl⟩:=r1.non_inv;cases q1;cases e with
   |dct _=>cases h
   |mpi _=>cases h
   |mpt _=>cases h
   |mpz _=>cases h
   |non=>obtain⟨rfl,rfl⟩:=r2.non_inv;cases q2;cases h;exact RcNeAt.none_none
   |bl c=>obtain⟨rfl,rfl⟩:=r2.bl_inv;cases q2;cases h;exact RcNeAt.none_bool c
   |int i=>obtain⟨rfl,rfl⟩:=r2.int_inv;obtain⟨t,rfl⟩:=q2;cases h;exact RcNeAt.none_int i t
   |str x=>obtain⟨rfl,rfl⟩:=r2.str_inv;obtain⟨t,rfl⟩:=q2;cases h;exact RcNeAt.none_str x t
   |lst ys=>obtain⟨m,its,vs,g',rfl,pl,_,_⟩:=lsti r2 q2;cases h;exact RcNeAt.none_list pl hu0
   |tup ys=>obtain⟨m,its,vs,rfl,pl,_,_⟩:=tupi r2 q2;cases h;exact RcNeAt.none_tuple pl hu0
  |bl a =>
   obtain⟨rfl,rfl⟩:=r1.bl_inv;cases q1;cases e with
   |dct _=>cases h
   |mpi _=>cases h
   |mpt _=>cases h
   |mpz _=>cases h
   |non=>obtain⟨rfl,rfl⟩:=r2.non_inv;cases q2;cases h;exact RcNeAt.bool_none a
   |bl c=>obtain⟨rfl,rfl⟩:=r2.bl_inv;cases q2;cases h;exact RcNeAt.bool_bool a c
   |int i=>obtain⟨rfl,rfl⟩:=r2.int_inv;obtain⟨t,rfl⟩:=q2;cases h;exact RcNeAt.bool_int a i t
   |str x=>obtain⟨rfl,rfl⟩:=r2.str_inv;obtain⟨t,rfl⟩:=q2;cases h;exact RcNeAt.bool_str a x t
   |lst ys=>obtain⟨m,its,vs,g',rfl,pl,_,_⟩:=lsti r2 q2;cases h;exact RcNeAt.bool_list a pl hu0
   |tup ys=>obtain⟨m,its,vs,rfl,pl,_,_⟩:=tupi r2 q2;cases h;exact RcNeAt.bool_tuple a pl hu0
  |int a =>
   obtain⟨rfl,rfl⟩:=r1.int_inv;obtain⟨t0,rfl⟩:=q1;cases e with
   |dct _=>cases h
   |mpi _=>cases h
   |mpt _=>cases h
   |mpz _=>cases h
   |non=>obtain⟨rfl,rfl⟩:=r2.non_inv;cases q2;cases h;exact RcNeAt.int_none a t0
   |bl c=>obtain⟨rfl,rfl⟩:=r2.bl_inv;cases q2;cases h;exact RcNeAt.int_bool a t0 c
   |int i=>obtain⟨rfl,rfl⟩:=r2.int_inv;obtain⟨t,rfl⟩:=q2;cases h;exact RcNeAt.int_int a t0 i t
   |str x=>obtain⟨rfl,rfl⟩:=r2.str_inv;obtain⟨t,rfl⟩:=q2;cases h;exact RcNeAt.int_str a t0 x t
   |lst ys=>obtain⟨m,its,vs,g',rfl,pl,_,_⟩:=lsti r2 q2;cases h;exact RcNeAt.int_list a t0 pl hu0
   |tup ys=>obtain⟨m,its,vs,rfl,pl,_,_⟩:=tupi r2 q2;cases h;exact RcNeAt.int_tuple a t0 pl hu0
  |str a =>
   obtain⟨rfl,rfl⟩:=r1.str_inv;obtain⟨t0,rfl⟩:=q1;cases e with
   |dct _=>cases h
   |mpi _=>cases h
   |mpt _=>cases h
   |mpz _=>cases h
   |non=>obtain⟨rfl,rfl⟩:=r2.non_inv;cases q2;cases h;exact RcNeAt.str_none a t0
   |bl c=>obtain⟨rfl,rfl⟩:=r2.bl_inv;cases q2;cases h;exact RcNeAt.str_bool a t0 c
   |int i=>obtain⟨rfl,rfl⟩:=r2.int_inv;obtain⟨t,rfl⟩:=q2;cases h;exact RcNeAt.str_int a t0 i t
   |str x=>obtain⟨rfl,rfl⟩:=r2.str_inv;obtain⟨t,rfl⟩:=q2;cases h;exact RcNeAt.str_str a t0 x t
   |lst ys=>obtain⟨m,its,vs,g',rfl,pl,_,_⟩:=lsti r2 q2;cases h;exact RcNeAt.str_list a t0 pl hu0
   |tup ys=>obtain⟨m,its,vs,rfl,pl,_,_⟩:=tupi r2 q2;cases h;exact RcNeAt.str_tuple a t0 pl hu0
  |lst xs =>
   obtain⟨l,its,vs,g1,rfl,pl,rv,a2⟩:=lsti r1 q1;cases e with
   |dct _=>cases h
   |mpi _=>cases h
   |mpt _=>cases h
   |mpz _=>cases h
   |non=>obtain⟨rfl,rfl⟩:=r2.non_inv;cases q2;cases h;exact RcNeAt.list_none pl hu0
   |bl c=>obtain⟨rfl,rfl⟩:=r2.bl_inv;cases q2;cases h;exact RcNeAt.list_bool c pl hu0
   |int c=>obtain⟨rfl,rfl⟩:=r2.int_inv;obtain⟨t,rfl⟩:=q2;cases h;exact RcNeAt.list_int c t pl hu0
   |str c=>obtain⟨rfl,rfl⟩:=r2.str_inv;obtain⟨t,rfl⟩:=q2;cases h;exact RcNeAt.list_str c t pl hu0
   |lst ys =>
    obtain⟨m,its',ws,g2,rfl,pl',rv',b2⟩:=lsti r2 q2;have h:(if xs.length=ys.length then rC (D.eqf n) xs ys else some false)=some b:=h;by_cases hl:xs.length=ys.length
    .rw[if_pos hl] at h;obtain⟨hz,ee,rfl,he⟩:=items a2 b2 rv rv' h;exact RcNeAt.lists pl pl' hz hu0 he
    .rw[if_neg hl] at h;cases h;have hz:(its.toArray.size != its'.toArray.size)=true:=by
      have l1:=a2.len;have l2:=b2.len;have l3:=rv.length;have l4:=rv'.length;simp only[bne_iff_ne,ne_eq,List.size_toArray];omega
     exact RcNeAt.lists_lengths pl pl' hz hu0
   |tup ys=>obtain⟨m,its',ws,rfl,pl',_,_⟩:=tupi r2 q2;cases h;exact RcNeAt.list_tuple pl pl' hu0
  |tup xs =>
   obtain⟨l,its,vs,rfl,pl,rv,a2⟩:=tupi r1 q1;cases e with
   |dct _=>cases h
   |mpi _=>cases h
   |mpt _=>cases h
   |mpz _=>cases h
   |non=>obtain⟨rfl,rfl⟩:=r2.non_inv;cases q2;cases h;exact RcNeAt.tuple_none pl hu0
   |bl c=>obtain⟨rfl,rfl⟩:=r2.bl_inv;cases q2;cases h;exact RcNeAt.tuple_bool c pl hu0
   |int c=>obtain⟨rfl,rfl⟩:=r2.int_inv;obtain⟨t,rfl⟩:=q2;cases h;exact RcNeAt.tuple_int c t pl hu0
   |str c=>obtain⟨rfl,rfl⟩:=r2.str_inv;obtain⟨t,rfl⟩:=q2;cases h;exact RcNeAt.tuple_str c t pl hu0
   |lst ys=>obtain⟨m,its',ws,g2,rfl,pl',_,_⟩:=lsti r2 q2;cases h;exact RcNeAt.tuple_list pl pl' hu0
   |tup ys =>
    obtain⟨m,its',ws,rfl,pl',rv',b2⟩:=tupi r2 q2;have h:(if xs.length=ys.length then rC (D.eqf n) xs ys else none)=some b:=h;by_cases hl:xs.length=ys.length
    .rw[if_pos hl] at h;obtain⟨hz,ee,rfl,he⟩:=items a2 b2 rv rv' h;have q:=RcNeAt.tuples (e:=ee) pl pl' hu0 he;rw[<-hz,Nat.min_self,fq,Bool.and_true] at q;exact q
    .rw[if_neg hl] at h;cases h
end
variable {G' G1 G2:List Addr}{a p:Addr}{d1:D}{kvs:List (Key×Option Int)}{u:Value}
section
variable {X:Cx}
theorem gX (h:Rep K H d v G)(s:d.cO=true):hU v=true:=by
 cases h<;>simp_all [D.cO,hU]
theorem fL:∀{ds:List D}{vs:List V}{G:List Addr},aG K H ds vs G->ds.all D.cO=true->vs.all hU=true
 |_,_,_,.nil,_=>rfl
 | _,_,_,.cons h r,s=>by
  simp only[List.all_cons,Bool.and_eq_true] at s ⊢;exact⟨gX h s.1,fL r s.2⟩
theorem AZ {e:D}{w:V}(h:Rep K H d v G)(h':Rep K H e w G')(s:d.cO=true)(s':e.cO=true):zc v w=D.eqs d e:=by
 cases h<;>first | (cases s;done) | (cases h'<;>first | (cases s';done) | rfl | simp[zc,D.eqs])
theorem lT {x:D}{w:V}{G0:List Addr}(hx:Rep K H x w G0)(sx:x.cO=true):∀{ds:List D}{vs:List V}{G:List Addr},aG K H ds vs G->ds.all D.cO=true->inV w vs=ds.any fun y=>D.eqs y x
 |_,_,_,.nil,_=>rfl
 | _,_,_,.cons h r,s=>by
  simp only[List.all_cons,Bool.and_eq_true] at s;have ih:=lT hx sx r s.2;unfold inV at ih ⊢;rw[dw,dw,ih,AZ h hx s.1 sx]
theorem iR.any (n:Int):∀{q:List (Int×MV)}{x:List (Key×V)},iR K H q x->(x.any fun kv=>decide (kv.1=Sum.inl n))=q.any fun kv=>decide (kv.1=n)
 |[],[],_=>rfl
 | (k,m)::q,p::x,⟨a,_,c⟩=>by
  rw[dw,dw,c.any n,a];congr 1;exact decide_eq_decide.mpr ⟨fun e=>by injection e,fun e=>by rw[e]⟩
 |[],_::_,h=>h.elim
 |_::_,[],h=>h.elim
theorem iR.val (n:Int):∀{q:List (Int×MV)}{x:List (Key×V)}{e:Int×MV},iR K H q x->(q.find? fun kv=>decide (kv.1=n))=some e->∃ v,iW x (.inl n)=some v/\qG K H e.2 v
 |[],[],_,_,h=>by cases h
 | (k,m)::q,p::x,e,⟨a,b,c⟩,h=>by
  by_cases hk:k=n
  .rw[List.find?_cons_of_pos (by simpa using hk)] at h;cases h;exact⟨p.2,jC (by rw[a,hk]),b⟩
  .rw[List.find?_cons_of_neg (by simpa using hk)] at h;rw[ju (by rw[a];exact fun z=>hk (by injection z))];exact c.val n h
 |[],_::_,_,h,_=>h.elim
 |_::_,[],_,h,_=>h.elim
theorem iL {K:Frag}{H:Hp}:∀ ks:List Int,aG K H (ks.map D.int) (ks.map V.int) []
 |[]=>.nil
 |k::ks=>.cons (G:=[]) (G':=[]) (.int k) (iL ks)
theorem qG.rep:∀{m:MV}{v:V},qG K H m v->Rep K H (Gj m) v []
 |.tr,_,h=>by cases h;exact .bl true
 |.int i,_,h=>by cases h;exact .int i
 |.tup is,_,⟨b,e,h⟩=>by subst e;exact .tup h (iL is)
theorem lM:∀{a b:List Int},(a.map Sum.inl:List Key)=b.map Sum.inl->a=b
 |[],[],_=>rfl
 |[],_::_,e=>by simp at e
 |_::_,[],e=>by simp at e
 | x::xs,y::ys,e=>by
  rw[ao,ao] at e;injection e with e1 e2
  rw[Sum.inl.inj e1,lM e2]
theorem oX (n:List Int):∀ ks:List (List Int),((oT ks).any fun kv=>decide (kv.1=n.map Sum.inl))=ks.contains n
 |[]=>rfl
 | k::ks=>by
  show (decide ((k.map Sum.inl:List Key)=n.map Sum.inl) || (oT ks).any fun kv=>decide (kv.1=n.map Sum.inl))=_;rw[oX n ks,List.contains_cons];congr 1;by_cases e:k=n
  .subst e;simp
  .rw[bj (fun z=>e (lM z)),beq_eq_false_iff_ne.mpr (df e)]
theorem kI {i j:Int}(h:aG K H [.int i,.int j] vs G):vs=[.int i,.int j]/\G=[]:=by
 cases h with
 |cons h r=>cases r with
  |cons h' r' =>
   cases r';obtain⟨rfl,rfl⟩:=h.int_inv;obtain⟨rfl,rfl⟩:=h'.int_inv;exact⟨rfl,rfl⟩
theorem yG {σ:L2.St}{ks:List Key}(I:Inv X pins σ H s)(h:iT X.K H a (ks.map kV)):(tupleKind (aN X.prog X.w)).is s.heap ks a:=by
 obtain⟨its,r,⟨o,h1,h2,n,h3⟩,_⟩:=I.tuple h;exact⟨o,its.toArray,n,h1,h2,h3,by simpa using jP r⟩
noncomputable def vV:Option Int->V
 |none=>.non
 |some i=>.int i
theorem uk:∀ z:Option Int,Rep K H (FD z) (vV z) []
 |none=>.non
 |some i=>.int i
theorem wa (q:Key×Option Int)(kvs:List (Key×Option Int))(k:Key):qH (q::kvs) k=if q.1=k then some q.2 else qH kvs k:=by
 unfold qH;rw[List.find?_cons];by_cases h:q.1=k
 .rw[c9 h,if_pos h];rfl
 .rw[bj h,if_neg h]
theorem oH (q:Key×Value)(kvs:List (Key×Value))(k:Key):valueAt (q::kvs) k=if q.1=k then some q.2 else valueAt kvs k:=by
 unfold valueAt;rw[List.find?_cons];by_cases h:q.1=k
 .rw[c9 h,if_pos h];rfl
 .rw[bj h,if_neg h]
theorem fN.pairs {P:Program}{w:World}:∀{es:List DictEntry}{kvs:List (Key×Option Int)},fN es kvs->(∀ e∈es,∀ s t,e.key = .str s t->e.hash=hashStr w s)->∃ vs:List (Key×Value),Pairs (aN P w) es vs/\vs.map (·.1)=kvs.map (·.1) /\
  (∀ k,(∀ z,qH kvs k=some z->∃ u,RelV (vV z) u/\valueAt vs k=some u)/\(valueAt vs k).isSome=(qH kvs k).isSome)/\(∀ e∈es,∃ k,(aN P w).is k e.key=true/\e.hash=(aN P w).hash k):=by
 have step:∀{e:DictEntry}{es:List DictEntry}{k:Key}{z:Option Int}{kvs:List (Key×Option Int)}{u:Value},(aN P w).is k e.key=true->e.hash=(aN P w).hash k->e.val=u->RelV (vV z) u ->
   (∃ vs:List (Key×Value),Pairs (aN P w) es vs/\vs.map (·.1)=kvs.map (·.1)/\(∀ k,(∀ z,qH kvs k=some z->∃ u,RelV (vV z) u/\valueAt vs k=some u)/\(valueAt vs k).isSome=(qH kvs k).isSome)/\(∀ e∈es,∃ k,(aN P w).is k e.key=true/\e.hash=(aN P w).hash k)) ->
   ∃ vs:List (Key×Value),Pairs (aN P w) (e::es) vs/\vs.map (·.1)=((k,z)::kvs).map (·.1)/\(∀ k',(∀ z',qH ((k,z)::kvs) k'=some z'->∃ u,RelV (vV z') u/\valueAt vs k'=some u)/\(valueAt vs k').isSome=(qH ((k,z)::kvs) k').isSome)/\(∀ e'∈e::es,∃ k,(aN P w).is k e'.key=true/\e'.hash=(aN P w).hash k):=by
  intro e es k z kvs u hk hh hv hr ⟨vs,p1,p2,p3,p4⟩;refine⟨(k,u)::vs,.cons hk hv p1,by rw[ao,ao,p2],fun k'=>?_,fun e' he=>?_⟩
  .rw[wa,oH];by_cases h:k=k'
   .rw[if_pos h,if_pos h];exact⟨fun z' q=>by cases q;exact⟨u,hr,rfl⟩,rfl⟩
   .rw[if_neg h,if_neg h];exact p3 k'
  .rcases cg.mp he with rfl | he
   .exact⟨k,hk,hh⟩
   .exact p4 e' he
 intro es kvs h
 induction h with
 |nil=>exact fun _=>⟨[],.nil,rfl,fun k=>⟨fun z h=>(by cases h),rfl⟩,fun _ h=>(nomatch h)⟩
 |@cons e es k v kvs t u hh hk hv r ih=>exact fun hs=>step (by rw[hk];exact dY P w k t) hh hv ⟨u,rfl⟩ (ih fun e he=>hs e (ah _ he))
 |@si e es k v kvs t u hk hv r ih=>exact fun hs=>step (by rw[hk];exact dB P w k t) (hs e ai k t hk) hv ⟨u,rfl⟩ (ih fun e he=>hs e (ah _ he))
 |@sn e es k kvs t hk hv r ih=>exact fun hs=>step (by rw[hk];exact dB P w k t) (hs e ai k t hk) hv (show RelV .non .none from rfl) (ih fun e he=>hs e (ah _ he))
theorem qW {σ:L2.St}(hx:za X.w X.K)(I:Inv X pins σ H s)(h:sg X.K p kvs):∃ vs,s.heap.DictOf (aN X.prog X.w) p vs /\
  (∀ k,(∀ z,qH kvs k=some z->∃ u,RelV (vV z) u/\valueAt vs k=some u)/\(valueAt vs k).isSome=(qH kvs k).isSome)/\(∀ z v r,kvs=(.inr z,v)::r->(p==sysModules)=false):=by
 obtain⟨o,es,ep,h1,h2,h3,h4,h5⟩:=h;obtain⟨vs,p1,p2,p3,p4⟩:=h4.pairs (P:=X.prog) (w:=X.w) fun e he s t q=>(hx p o es ep h1 h3 kvs h4 e he s t q).2
 refine⟨vs,⟨o,es,ep,I.kIn _ o h1,h2,h3,fun e he=>p4 e (by simpa using he),p1,by rw[p2];exact h5⟩,p3,fun z v r q=>?_⟩;subst q;cases hl:es.toList with
 |nil=>rw[hl] at h4;cases h4
 |cons e l =>
  have hm:e∈es.toList:=by rw[hl];exact ai
  have hk:∃ t,e.key = .str z t:=by
   rw[hl] at h4;cases h4 with
   |si hk hv r=>exact⟨_,hk⟩
   |sn hk hv r=>exact⟨_,hk⟩
  obtain⟨t,hk⟩:=hk;exact (hx p o es ep h1 h3 _ h4 e hm z t hk).1
theorem vT {E:Value->Shared->Prop}{σ:L2.St}{x y:V}{v:Value}{b:Bool}{Q:Value->Shared->Prop}(hx:za X.w X.K)(I:Inv X pins σ H s)(r1:Rep X.K H d1 x G1)(r2:Rep X.K H (.dct kvs) y G2)(rx:RelV x v)(ry:RelV y u)(hb:inD d1 (.dct kvs)=some b) :
  ((∀ s',Inv X pins σ H s'->Q (.bool b) s')->wpAny (model X.prog X.w) A (compareOp .In v u) Q E s)/\((∀ s',Inv X pins σ H s'->Q (.bool (!b)) s')->wpAny (model X.prog X.w) A (compareOp .NotIn v u) Q E s):=by
 cases r2 with
 |@dct p _ hp =>
  match kvs,hb,hp with
  | (.inr z,q)::r,hb,hp =>
   cases d1 with
   |str w =>
    cases hb;obtain⟨rfl,rfl⟩:=r1.str_inv;cases ry;obtain⟨t,rfl⟩:=rx;obtain⟨vs,dd,p3,p5⟩:=qW hx I hp;have e:=(p3 (.inr w)).2;refine⟨fun h=>wpAny_in_of (dB X.prog X.w w t) (p5 z q r rfl) dd.mapOf ?_,fun h=>wpAny_notIn_of (dB X.prog X.w w t) (p5 z q r rfl) dd.mapOf ?_⟩
    .rw[e];exact h _ (I.tok _)
    .rw[e];exact h _ (I.tok _)
   |_=>cases hb
noncomputable def isMp:D->Bool
 |.mpi _=>true
 |.mpt _=>true
 |.mpz _=>true
 |_=>false
theorem iI {E:Value->Shared->Prop}{σ:L2.St}{d2:D}{x y:V}{v:Value}{b:Bool}{Q:Value->Shared->Prop}(hu:A.units+1<cLine)(I:Inv X pins σ H s)(r1:Rep X.K H d1 x G1)(r2:Rep X.K H d2 y G2)(rx:RelV x v)(ry:RelV y u)(hm:isMp d2=true)(hb:inD d1 d2=some b) :
  ((∀ s',Inv X pins σ H s'->Q (.bool b) s')->wpAny (model X.prog X.w) A (compareOp .In v u) Q E s)/\((∀ s',Inv X pins σ H s'->Q (.bool (!b)) s')->wpAny (model X.prog X.w) A (compareOp .NotIn v u) Q E s):=by
 cases r2 with
 |@mpi p ks xs hr kr =>
  have inv:(∃ k,d1 = .int k/\b=ks.any fun q=>decide (q.1=k))\/∃ i j,d1 = .tup [.int i,.int j]/\ks=[]/\b=false:=by
   cases d1 with
   |int k=>cases hb;exact .inl ⟨_,rfl,rfl⟩
   |tup ts =>
    obtain⟨i,j,rfl⟩:∃ i j,ts=[.int i,.int j]:=by
     cases ts with
     |nil=>cases hb
     |cons a r=>cases a with
      |int i=>cases r with
       |nil=>cases hb
       |cons c q=>cases c with
        |int j=>cases q with
         |nil=>exact⟨i,j,rfl⟩
         |cons _ _=>cases hb
        |_=>cases hb
      |_=>cases hb
    have hb:(if ks.isEmpty then some false else none)=some b:=hb;by_cases he:ks.isEmpty=true
    .rw[if_pos he] at hb;cases hb;exact .inr ⟨_,_,rfl,List.isEmpty_iff.mp he,rfl⟩
    .rw[if_neg he] at hb;cases hb
   |_=>cases hb
  rcases inv with ⟨k,rfl,rfl⟩ | ⟨i,j,rfl,rfl,rfl⟩
  .obtain⟨rfl,rfl⟩:=r1.int_inv;obtain rfl:u = .ref p:=ry;have g:Ap H p (.int k) (iW xs (.inl k)):=.inl ⟨xs,.inl k,.inl hr,rfl,rfl⟩;have e:(iW xs (.inl k)).isSome=ks.any fun q=>decide (q.1=k):=by rw[<-gQ,kr.any]
   exact⟨fun h=>Gf hu I g rx (by rw[e];exact h),fun h=>ud hu I g rx (by rw[e];exact h)⟩
  .obtain⟨q,vs,rfl,a1,a2⟩:=r1.tup_inv;obtain⟨rfl,rfl⟩:=kI a2;obtain rfl:u = .ref p:=ry;obtain rfl:v = .ref q:=rx;cases xs with
   |cons _ _=>exact kr.elim
   |nil =>
   obtain⟨z,hd,vs,rel,o,es,ep,h1,h2,h3,h4,h5,h6⟩:=ke I.hok (.inl hr);cases rel;have hes:es.toList=[]:=by
    cases q:es.toList with
    |nil=>rfl
    |cons x r=>rw[q] at h5;cases h5
   have dd:s.heap.DictOfH (tupleKind (aN X.prog X.w)) p []:=⟨o,es,ep,h1,h2,h3,hes,fun x hx=>(nomatch hx),bu⟩;have ky:(tupleKind (aN X.prog X.w)).is s.heap ([i,j].map Sum.inl) q:=yG I a1;exact⟨fun h=>wpAny_in_heap (tupleKind_room_in1 hu) ky hd dd (h _ (I.tok _)),fun h=>wpAny_notIn_heap (tupleKind_room_in1 hu) ky hd dd (h _ (I.tok _))⟩
 |@mpz p ks xs ob hr kr =>
  have inv:∃ k,d1 = .int k/\b=ks.any fun q=>decide (q.1=k):=by
   cases d1 with
   |int k=>cases hb;exact⟨_,rfl,rfl⟩
   |_=>cases hb
  obtain⟨k,rfl,rfl⟩:=inv;obtain⟨rfl,rfl⟩:=r1.int_inv;obtain rfl:u = .ref p:=ry;have g:Ap H p (.int k) (iW xs (.inl k)):=.inl ⟨xs,.inl k,.inr ⟨_,hr⟩,rfl,rfl⟩;have e:(iW xs (.inl k)).isSome=ks.any fun q=>decide (q.1=k):=by rw[<-gQ,kr.any]
  exact⟨fun h=>Gf hu I g rx (by rw[e];exact h),fun h=>ud hu I g rx (by rw[e];exact h)⟩
 |@mpt p ks hr =>
  have inv:∃ i j,d1 = .tup [.int i,.int j]/\b=ks.contains [i,j]:=by
   cases d1 with
   |tup ts=>cases ts with
     |nil=>cases hb
     |cons a r=>cases a with
      |int i=>cases r with
       |nil=>cases hb
       |cons c q=>cases c with
        |int j=>cases q with
         |nil=>cases hb;exact⟨i,j,rfl,rfl⟩
         |cons _ _=>cases hb
        |_=>cases hb
      |_=>cases hb
   |_=>cases hb
  obtain⟨i,j,rfl,rfl⟩:=inv;obtain⟨q,vs,rfl,a1,a2⟩:=r1.tup_inv;obtain⟨rfl,rfl⟩:=kI a2;obtain rfl:u = .ref p:=ry;obtain rfl:v = .ref q:=rx;obtain⟨z,hd,xs,rel,dd⟩:=qk I.hok hr;have ky:(tupleKind (aN X.prog X.w)).is s.heap ([i,j].map Sum.inl) q:=yG I a1;have e:ks.contains [i,j]=((atKey xs ([i,j].map Sum.inl))).isSome:=by
   have e1:=(rel.val ([i,j].map Sum.inl)).isSome_eq;rw[ir] at e1;rw[<-e1,<-gQ,oX]
  refine⟨fun h=>wpAny_in_heap (tupleKind_room_in1 hu) ky hd dd ?_,fun h=>wpAny_notIn_heap (tupleKind_room_in1 hu) ky hd dd ?_⟩
  .rw[<-e];exact h _ (I.tok _)
  .rw[<-e];exact h _ (I.tok _)
 |_=>cases hm
theorem fO:∀{xs:List D}{k:List Int},eB xs=some k->xs=k.map D.int
 |[],k,h=>by cases h;rfl
 | .int i::r,k,h=>by
  have h:(eB r).map (i :: ·)=some k:=h;rw[aa] at h;obtain⟨k',h1,rfl⟩:=h;rw[fO h1];rfl
theorem jI:∀{ns:List Int}{vs:List V}{G:List Addr}{us:List Value},aG K H (ns.map D.int) vs G->aL vs us->IntsAre us ns
 |[],_,_,_,.nil,.nil=>.nil
 | n::ns,_,_,_,.cons h r,.cons x y=>by
  obtain⟨rfl,_⟩:=h.int_inv;obtain⟨t,rfl⟩:=x;exact .cons _ _ (jI r y)
theorem sD (op:CmpOp)(hx:X.A.units+40<cLine/\za X.w X.K):gI X (compareOp op) (Bl X.K fun x y=>(kB op x y).map .bl):=by
 have hu:=hx.1;intro pins s σ H x y v u Q I rx ry h;obtain⟨d1,d2,d,G,rs,hd,k⟩:=h;obtain⟨G1,G2,r1,r2,rfl⟩:=rs.inv2;rw[aa] at hd;obtain⟨b,hb,rfl⟩:=hd;have fin:Q (.bl b) H:=k _ H [] (.bl b) gG.nil;have ep:∀ c,c=b->EP X pins σ Q (.bool c) s:=fun c e=>⟨.bl b,H,I,by rw[e];rfl,fin⟩
 have onInts:∀{f:Int->Int->Bool},(∀ i j,kB op (.int i) (.int j)=some (f i j))->(∀ d1 d2,(∀ i j,¬ (d1 = .int i/\d2 = .int j))->kB op d1 d2=none)->gI X (compareOp op) (vF fun i j=>.bl (f i j))->wpAny (model X.prog X.w) X.A (compareOp op v u) (EP X pins σ Q) X.xe s:=by
  intro f h1 h2 ho;by_cases hi:∃ i j,d1 = .int i/\d2 = .int j
  .obtain⟨i,j,rfl,rfl⟩:=hi;rw[h1] at hb;cases hb;obtain⟨rfl,rfl⟩:=r1.int_inv;obtain⟨rfl,rfl⟩:=r2.int_inv;exact ho pins s σ H _ _ v u Q I rx ry ⟨i,j,rfl,rfl,fin⟩
  .rw[h2 d1 d2 fun i j z=>hi ⟨i,j,z⟩] at hb;cases hb
 have nope:∀(op:CmpOp),(op = .Gt\/op = .GtE)->∀ d1 d2:D,(∀ i j,¬ (d1 = .int i/\d2 = .int j))->kB op d1 d2=none:=by
  intro op ho d1 d2 hn;cases d1 with
  |int i =>
   cases d2 with
   |int j=>exact absurd ⟨rfl,rfl⟩ (hn i j)
   |_=>rcases ho with rfl | rfl<;>rfl
  |_=>rcases ho with rfl | rfl<;>rfl
 cases op with
 |Lt =>
  cases d1 with
  |int i =>
   cases d2 with
   |int j =>
    cases hb;obtain⟨rfl,rfl⟩:=r1.int_inv;obtain⟨rfl,rfl⟩:=r2.int_inv;exact EX pins s σ H _ _ v u Q I rx ry ⟨i,j,rfl,rfl,fin⟩
   |_=>cases hb
  |tup xs =>
   cases d2 with
   |tup ys=>exact BZ I 39 X.A _ _ _ _ _ _ _ _ _ (by omega) r1 r2 rx ry hb _ _ _ _ (ep _ rfl)
   |_=>cases hb
  |_=>cases hb
 |LtE =>
  cases d1 with
  |int i =>
   cases d2 with
   |int j =>
    cases hb;obtain⟨rfl,rfl⟩:=r1.int_inv;obtain⟨rfl,rfl⟩:=r2.int_inv;exact Gz pins s σ H _ _ v u Q I rx ry ⟨i,j,rfl,rfl,fin⟩
   |_=>cases hb
  |tup xs =>
   cases d2 with
   |tup ys =>
    have hb:((eB xs).bind fun a=>(eB ys).map fun b=>lV a b)=some b:=hb;rw[ae] at hb;obtain⟨ks,h1,hb⟩:=hb;rw[aa] at hb;obtain⟨ls,h2,rfl⟩:=hb;obtain rfl:=fO h1;obtain rfl:=fO h2;obtain⟨p,vs,rfl,a1,a2⟩:=r1.tup_inv;obtain⟨q,ws,rfl,b1,b2⟩:=r2.tup_inv;cases rx;cases ry;obtain⟨its,rv,p1,_⟩:=I.tuple a1;obtain⟨its2,rv2,p2,_⟩:=I.tuple b1;exact zJ p1 p2 (jI a2 (by simpa using rv)) (jI b2 (by simpa using rv2)) (by omega) (ep _ rfl)
   |_=>cases hb
  |_=>cases hb
 |Gt=>exact onInts (fun _ _=>rfl) (nope .Gt (.inl rfl)) EL
 |GtE=>exact onInts (fun _ _=>rfl) (nope .GtE (.inr rfl)) GK
 |Eq =>
  have hb:D.eqf 40 d1 d2=some b:=hb;exact (tQ I 40 X.A d1 d2 x y G1 G2 v u b hu r1 r2 rx ry hb).1 _ _ _ _ (ep b rfl)
 |NotEq =>
  have hb:(D.eqf 40 d1 d2).map (!·)=some b:=hb;rw[aa] at hb;obtain⟨c,hc,rfl⟩:=hb;exact GP I 40 X.A d1 d2 x y G1 G2 v u c hu r1 r2 rx ry hc _ _ _ _ (ep _ rfl)
 |Is =>
  cases d2 with
  |non =>
   obtain⟨rfl,rfl⟩:=r2.non_inv;refine Em pins s σ H _ _ v u Q I rx ry ⟨rfl,?_⟩;have hb:some (mK d1)=some b:=hb;cases hb;have:decide (x=V.non)=mK d1:=by
    cases r1<;>rfl
   rw[this];exact fin
  |bl c =>
   cases d1 with
   |bl a =>
    cases hb;obtain⟨rfl,rfl⟩:=r1.bl_inv;obtain⟨rfl,rfl⟩:=r2.bl_inv;cases rx;cases ry;exact wpAny_is_plain rfl (ep _ (by cases a<;>cases c<;>rfl))
   |_=>cases hb
  |_=>cases hb
 |IsNot =>
  cases d2 with
  |non =>
   obtain⟨rfl,rfl⟩:=r2.non_inv;refine z9 pins s σ H _ _ v u Q I rx ry ⟨rfl,?_⟩;have hb:some (!mK d1)=some b:=hb;cases hb;have:(!decide (x=V.non)) = !mK d1:=by
    cases r1<;>rfl
   rw[this];exact fin
  |bl c =>
   cases d1 with
   |bl a =>
    cases hb;obtain⟨rfl,rfl⟩:=r1.bl_inv;obtain⟨rfl,rfl⟩:=r2.bl_inv;cases rx;cases ry;exact wpAny_isNot_plain rfl (ep _ (by cases a<;>cases c<;>rfl))
   |_=>cases hb
  |_=>cases hb
 |In =>
  have hb:inD d1 d2=some b:=hb;cases d2 with
  |lst ys =>
   have hb:(if d1.cO&&ys.all D.cO then some (ys.any fun y=>D.eqs y d1) else none)=some b:=hb;by_cases hc:(d1.cO&&ys.all D.cO)=true
   .rw[if_pos hc] at hb;cases hb;rw[ag] at hc;obtain⟨p,vs,g,rfl,rfl,a1,a2⟩:=r2.lst_inv;refine nK pins s σ H _ _ v u Q I rx ry ⟨p,vs,rfl,.inl (.inl a1),gX r1 hc.1,fL a2 hc.2,?_⟩;rw[lT r1 hc.1 a2 hc.2];exact fin
   .rw[if_neg hc] at hb;cases hb
  |tup ys =>
   have hb:(if d1.cO&&ys.all D.cO then some (ys.any fun y=>D.eqs y d1) else none)=some b:=hb;by_cases hc:(d1.cO&&ys.all D.cO)=true
   .rw[if_pos hc] at hb;cases hb;rw[ag] at hc;obtain⟨p,vs,rfl,a1,a2⟩:=r2.tup_inv;refine nK pins s σ H _ _ v u Q I rx ry ⟨p,vs,rfl,.inr a1,gX r1 hc.1,fL a2 hc.2,?_⟩;rw[lT r1 hc.1 a2 hc.2];exact fin
   .rw[if_neg hc] at hb;cases hb
  |str z =>
   cases d1 with
   |str w =>
    cases hb;obtain⟨rfl,rfl⟩:=r1.str_inv;obtain⟨rfl,rfl⟩:=r2.str_inv;exact vc pins s σ H _ _ v u Q I rx ry ⟨w,z,rfl,rfl,fin⟩
   |_=>cases hb
  |mpi ks=>exact (iI (by omega) I r1 r2 rx ry rfl hb).1 fun s' I'=>⟨.bl b,H,I',rfl,fin⟩
  |dct kvs=>exact (vT hx.2 I r1 r2 rx ry hb).1 fun s' I'=>⟨.bl b,H,I',rfl,fin⟩
  |mpt ks=>exact (iI (by omega) I r1 r2 rx ry rfl hb).1 fun s' I'=>⟨.bl b,H,I',rfl,fin⟩
  |mpz ks=>exact (iI (by omega) I r1 r2 rx ry rfl hb).1 fun s' I'=>⟨.bl b,H,I',rfl,fin⟩
  |_=>cases hb
 |NotIn =>
  have hb:(inD d1 d2).map (!·)=some b:=hb;rw[aa] at hb;obtain⟨c,hi,rfl⟩:=hb;clear hb;cases d2 with
  |lst ys =>
   have hi:(if d1.cO&&ys.all D.cO then some (ys.any fun y=>D.eqs y d1) else none)=some c:=hi;by_cases hc:(d1.cO&&ys.all D.cO)=true
   .rw[if_pos hc] at hi;cases hi;rw[ag] at hc;obtain⟨p,vs,g,rfl,rfl,a1,a2⟩:=r2.lst_inv;refine jG pins s σ H _ _ v u Q I rx ry ⟨p,vs,rfl,.inl (.inl a1),gX r1 hc.1,fL a2 hc.2,?_⟩;rw[lT r1 hc.1 a2 hc.2];exact fin
   .rw[if_neg hc] at hi;cases hi
  |tup ys =>
   have hi:(if d1.cO&&ys.all D.cO then some (ys.any fun y=>D.eqs y d1) else none)=some c:=hi;by_cases hc:(d1.cO&&ys.all D.cO)=true
   .rw[if_pos hc] at hi;cases hi;rw[ag] at hc;obtain⟨p,vs,rfl,a1,a2⟩:=r2.tup_inv;refine jG pins s σ H _ _ v u Q I rx ry ⟨p,vs,rfl,.inr a1,gX r1 hc.1,fL a2 hc.2,?_⟩;rw[lT r1 hc.1 a2 hc.2];exact fin
   .rw[if_neg hc] at hi;cases hi
  |str z =>
   cases d1 with
   |str w =>
    cases hi;obtain⟨rfl,rfl⟩:=r1.str_inv;obtain⟨rfl,rfl⟩:=r2.str_inv;exact oN pins s σ H _ _ v u Q I rx ry ⟨w,z,rfl,rfl,fin⟩
   |_=>cases hi
  |mpi ks=>exact (iI (by omega) I r1 r2 rx ry rfl hi).2 fun s' I'=>⟨.bl _,H,I',rfl,fin⟩
  |dct kvs=>exact (vT hx.2 I r1 r2 rx ry hi).2 fun s' I'=>⟨.bl _,H,I',rfl,fin⟩
  |mpt ks=>exact (iI (by omega) I r1 r2 rx ry rfl hi).2 fun s' I'=>⟨.bl _,H,I',rfl,fin⟩
  |mpz ks=>exact (iI (by omega) I r1 r2 rx ry rfl hi).2 fun s' I'=>⟨.bl _,H,I',rfl,fin⟩
  |_=>cases hi
theorem yh (n:Nat)(i:Int):Pc.fU n i=L2.fU n i:=rfl
theorem Az (hx:za X.w X.K):zb X (EA X.K):=by
 intro value slice pins s σ H x y v u Q I rx ry h hs;obtain⟨d1,d2,d,G,rs,hd,k⟩:=h;obtain⟨G1,G2,r1,r2,rfl⟩:=rs.inv2;cases d2 with
 |int i =>
  obtain⟨rfl,rfl⟩:=r2.int_inv;rw[aw] at k;have seq:∀{xs:List D}{vs:List V}{g:List Addr},aG X.K H xs vs g->((fU xs.length i).bind fun j=>xs[j]?)=some d->∃ w g',Av vs i=some w/\Rep X.K H d w g'/\g'.Sublist g:=fun {xs vs g} r e=>by
   rw[ae] at e;obtain⟨j,e1,e2⟩:=e;obtain⟨w,g',a,b,c⟩:=r.get e2;refine⟨w,g',?_,b,c⟩;unfold Av;rw[<-r.len,<-yh,e1];exact a
  cases d1 with
  |lst xs =>
   obtain⟨p,vs,g,rfl,rfl,a1,a2⟩:=r1.lst_inv;obtain⟨w,g',e1,e2,e3⟩:=seq a2 hd;exact uj value slice pins s σ H _ _ v u Q I rx ry ⟨p,vs,i,w,rfl,rfl,.inl a1,e1,k w g' e2 (e3.trans (List.sublist_cons_self _ _))⟩ hs
  |tup xs =>
   obtain⟨p,vs,rfl,a1,a2⟩:=r1.tup_inv;obtain⟨w,g',e1,e2,e3⟩:=seq a2 hd;exact yQ value slice pins s σ H _ _ v u Q I rx ry ⟨p,vs,i,w,rfl,rfl,a1,e1,k w g' e2 e3⟩ hs
  |str z =>
   obtain⟨rfl,rfl⟩:=r1.str_inv;have hd:(if z.length<=lim then ((Pc.fU z.cps.toList.length i).bind fun j=>z.cps.toList[j]?).map (fun c=>D.str ⟨#[c]⟩) else none)=some d:=hd;by_cases hl:z.length<=lim
   .rw[if_pos hl,aa] at hd;obtain⟨c,hc,rfl⟩:=hd;exact D9 value slice pins s σ H _ _ v u Q I rx ry ⟨z,i,c,rfl,rfl,fF hl,hc,k _ [] (.str _) (gx _)⟩ hs
   .rw[if_neg hl] at hd;cases hd
  |dct kvs =>
   cases r1 with
   |dct hp =>
    have hd:(qH kvs (Sum.inl i)).map FD=some d:=hd;rw[aa] at hd;obtain⟨z,hz,rfl⟩:=hd;cases rx;obtain⟨t,rfl⟩:=ry;obtain⟨vs,dd,p3,_⟩:=qW hx I hp;obtain⟨u',ru,hu⟩:=(p3 (.inl i)).1 z hz;have fin:EP X pins σ Q u' { s with toks:=s.toks+1 }:=⟨vV z,H,I.tok _,ru,k _ [] (uk z) (gx _)⟩;exact subscriptTail_builtinR (x:=u') dd.mapOf.typeIs slot_dict_getitem.lookup (wpAny_getItem_of (Q:=fun r s'=>r=u'/\EP X pins σ Q r s') (dY X.prog X.w i t) dd.mapOf hu ⟨rfl,fin⟩) hs
  |mpi ks =>
   cases r1 with
   |@mpi p _ xs hr kr =>
    have hd:(ks.find? fun q=>decide (q.1=i)).map (fun q=>Gj q.2)=some d:=hd;rw[aa] at hd;obtain⟨e,he,rfl⟩:=hd;obtain⟨v',hv',mr⟩:=kr.val i he;cases rx;obtain⟨t,rfl⟩:=ry;obtain⟨z,lo,vs,rel,dd⟩:=ke I.hok (.inl hr);obtain⟨u',hu,ru⟩:∃ u',valueAt vs (.inl i)=some u'/\RelV v' u':=by
     have:=rel.val (.inl i);rw[hv'] at this;cases q:valueAt vs (.inl i) with
     |none=>rw[q] at this;exact this.elim
     |some u'=>rw[q] at this;exact⟨u',rfl,this⟩
    have fin:EP X pins σ Q u' { s with toks:=s.toks+1 }:=⟨v',H,I.tok _,ru,k _ [] mr.rep (gx _)⟩;exact subscriptTail_builtinR (x:=u') dd.mapOf.typeIs slot_dict_getitem.lookup (wpAny_getItem_of (Q:=fun r s'=>r=u'/\EP X pins σ Q r s') (dY X.prog X.w i t) dd.mapOf hu ⟨rfl,fin⟩) hs
  |mpz ks =>
   cases r1 with
   |@mpz p _ xs ob hr kr =>
    have hd:(ks.find? fun q=>decide (q.1=i)).map (fun q=>Gj q.2)=some d:=hd;rw[aa] at hd;obtain⟨e,he,rfl⟩:=hd;obtain⟨v',hv',mr⟩:=kr.val i he;cases rx;obtain⟨t,rfl⟩:=ry;obtain⟨z,lo,vs,rel,dd⟩:=ke I.hok (.inr ⟨_,hr⟩);obtain⟨u',hu,ru⟩:∃ u',valueAt vs (.inl i)=some u'/\RelV v' u':=by
     have:=rel.val (.inl i);rw[hv'] at this;cases q:valueAt vs (.inl i) with
     |none=>rw[q] at this;exact this.elim
     |some u'=>rw[q] at this;exact⟨u',rfl,this⟩
    have fin:EP X pins σ Q u' { s with toks:=s.toks+1 }:=⟨v',H,I.tok _,ru,k _ [] mr.rep (gx _)⟩;exact subscriptTail_builtinR (x:=u') dd.mapOf.typeIs slot_dict_getitem.lookup (wpAny_getItem_of (Q:=fun r s'=>r=u'/\EP X pins σ Q r s') (dY X.prog X.w i t) dd.mapOf hu ⟨rfl,fin⟩) hs
  |_=>cases hd
 |str i =>
  obtain⟨rfl,rfl⟩:=r2.str_inv;rw[aw] at k;cases d1 with
  |dct kvs =>
   cases r1 with
   |dct hp =>
    have hd:(qH kvs (Sum.inr i)).map FD=some d:=hd;rw[aa] at hd;obtain⟨z,hz,rfl⟩:=hd;cases rx;obtain⟨t,rfl⟩:=ry;obtain⟨vs,dd,p3,_⟩:=qW hx I hp;obtain⟨u',ru,hu⟩:=(p3 (.inr i)).1 z hz;have fin:EP X pins σ Q u' { s with toks:=s.toks+1 }:=⟨vV z,H,I.tok _,ru,k _ [] (uk z) (gx _)⟩;exact subscriptTail_builtinR (x:=u') dd.mapOf.typeIs slot_dict_getitem.lookup (wpAny_getItem_of (Q:=fun r s'=>r=u'/\EP X pins σ Q r s') (dB X.prog X.w i t) dd.mapOf hu ⟨rfl,fin⟩) hs
  |_=>cases hd
 |_=>cases d1<;>cases hd
end
variable {F:Nat->List Addr}{Q:VK}{e:Expr}{env:En}{i:Nat}{r:Rt}{x:Str}
section
variable {X:Cx}{T:Tb}{a b c:Expr}{ca cb cc:Ex}{pos:Pos}
theorem DO (hN:X.N[i]? = some x)(hv:B2 X.env.scope x)(hd:(x==("__debug__" : Str))=false) (hcd:(x==("__classdict__" : Str))=false):PE X (.Name x pos) (tE X.K T (.var i)):=by
 refine bG (rX hN hv hd hcd) fun σ H Q ⟨P,env,F,re,p,hev,k⟩=>?_
 unfold ev at hev;cases hs:env[i]? with
 |none=>rw[hs] at hev;cases hev
 |some o =>
  cases o with
  |none=>rw[hs] at hev;cases hev
  |some q =>
   obtain⟨d,t⟩:=q;rw[hs] at hev;simp only[Rs.ok.injEq] at hev;subst hev;obtain⟨v,e1,rp⟩:=re.val i d t hs;refine⟨v,e1,k v H (F i) (aI.refl _) rp ?_⟩;cases hf:d.flat with
   |true =>
    rw[rp.flat hf];exact bP.nil
   |false =>
    simp only[Bool.false_eq_true,if_false];have ow:aZ t=true->bP env F H (.mv [i]) H (F i):=fun o=>by
     obtain⟨n1,n2,n3⟩:=re.one i d t hs o;refine⟨fun a ha=>.inr ⟨i,d,t,ha,hs,fun q hq=>by cases t<;>simp_all [aY,aZ,Rt.roots]⟩,fun R e=>?_⟩;cases e;exact⟨n1,n2,fun a ha=>.inr ⟨i,d,t,by simp,ha,hs,o⟩⟩
    cases t with
    |own=>exact ow rfl
    |lk=>exact ow rfl
    |sh R=>exact⟨fun a ha=>.inr ⟨i,d,.sh R,ha,hs,fun q hq=>hq⟩,fun R' e=>by cases e⟩
theorem gY (h:PE X e (tC v))(hr:∀ H,Rep X.K H d v []):PE X e (tE X.K T (.cst d)):=by
 refine bG h fun σ H Q ⟨P,env,F,re,p,hev,k⟩=>?_
 unfold ev at hev;cases hev;exact k v H [] (aI.refl _) (hr H) bP.nil
theorem Dz (h:PE X e (tC v))(hr:∀ H,Rep X.K H (T.gl i) v []):PE X e (tE X.K T (.glb i)):=by
 refine bG h fun σ H Q ⟨P,env,F,re,p,hev,k⟩=>?_
 unfold ev at hev;cases hev;exact k v H [] (aI.refl _) (hr H) bP.nil
theorem Dx (ha:PE X a (tE X.K T ca)):PE X (.UnaryOp .USub a pos) (tE X.K T (.neg ca)):=by
 refine bG (FV B8 ha) fun σ H Q ⟨P,env,F,re,p,hev,k⟩=>?_
 unfold ev at hev;obtain⟨q,h1,hev⟩:=Rs.bind_ok hev;refine⟨P,env,F,re,q,h1,fun v H1 G s rp rt=>?_⟩;cases hq:q.1 with
 |int i =>
  rw[hq] at hev rp;cases hev;obtain⟨rfl,rfl⟩:=rp.int_inv;exact⟨i,rfl,k _ H1 [] s (.int _) bP.nil⟩
 |_=>rw[hq] at hev;cases hev
theorem DD {op:CmpOp}(hu:X.A.units+40<cLine/\za X.w X.K)(ha:PE X a (tE X.K T ca))(hb:PE X b (tE X.K T cb))(hm:behindInMarks op b=false):PT X (.Compare a [op] [b] pos) (nS X.K T (.cmp op ca cb)):=by
 refine rP (Be (sD op hu) ha hb hm) fun σ H Q ⟨P,env,F,re,p0,bb,hev,ht,k⟩=>?_
 unfold ev at hev;obtain⟨p,h1,hev⟩:=Rs.bind_ok hev;obtain⟨q,h2,hev⟩:=Rs.bind_ok hev;obtain⟨d,h3,hev⟩:=Rs.bind_ok hev;have h3:=cF h3;cases hev;obtain rfl:d=bb:=cj ht;refine two re h1 h2 fun x y H2 G ar=>⟨p.1,q.1,.bl d,G,ar.reps,by simp[h3],fun v H' G' rp nv=>?_⟩
 obtain⟨rfl,_⟩:=rp.bl_inv;exact⟨d,rfl,k H' (ar.same.trans nv.same)⟩
variable {rest:List Expr}
theorem De (ha:PE X a (tE X.K T ca))(hb:PE X (.BoolOp .And (b::rest) pos) (tE X.K T cb)):PE X (.BoolOp .And (a::b::rest) pos) (tE X.K T (.and ca cb)):=by
 refine bG (DE ha hb) fun σ H Q ⟨P,env,F,re,p,hev,k⟩=>?_
 unfold ev at hev;obtain⟨q,h1,hev⟩:=Rs.bind_ok hev;refine⟨P,env,F,re,q,h1,fun v H1 G s rp rt=>?_⟩;cases hq:q.1 with
 |bl kb =>
  rw[hq] at hev rp;obtain⟨rfl,rfl⟩:=rp.bl_inv;cases kb with
  |true=>exact⟨true,rfl,by rw[if_pos rfl];exact⟨P,env,F,re.same s,p,hev,fun v H' G s' rp' rt'=>k v H' G (s.trans s') rp' (rt'.back s)⟩⟩
  |false =>
   cases hev;exact⟨false,rfl,by rw[if_neg az];exact k _ H1 [] s (.bl _) bP.nil⟩
 |_=>rw[hq] at hev;cases hev
theorem FL (ha:PE X a (tE X.K T ca))(hb:PE X (.BoolOp .Or (b::rest) pos) (tE X.K T cb)):PE X (.BoolOp .Or (a::b::rest) pos) (tE X.K T (.or ca cb)):=by
 refine bG (Ez ha hb) fun σ H Q ⟨P,env,F,re,p,hev,k⟩=>?_
 unfold ev at hev;obtain⟨q,h1,hev⟩:=Rs.bind_ok hev;refine⟨P,env,F,re,q,h1,fun v H1 G s rp rt=>?_⟩;cases hq:q.1 with
 |bl kb =>
  rw[hq] at hev rp;obtain⟨rfl,rfl⟩:=rp.bl_inv;cases kb with
  |false=>exact⟨false,rfl,by rw[if_neg az];exact⟨P,env,F,re.same s,p,hev,fun v H' G s' rp' rt'=>k v H' G (s.trans s') rp' (rt'.back s)⟩⟩
  |true =>
   cases hev;exact⟨true,rfl,by rw[if_pos rfl];exact k _ H1 [] s (.bl _) bP.nil⟩
 |_=>rw[hq] at hev;cases hev
theorem Ee (ha:PE X a (tE X.K T ca)):PE X (.UnaryOp .Not a pos) (tE X.K T (.not ca)):=by
 refine bG (DJ ha) fun σ H Q ⟨P,env,F,re,p,hev,k⟩=>?_
 unfold ev at hev;obtain⟨q,h1,hev⟩:=Rs.bind_ok hev;refine⟨P,env,F,re,q,h1,fun v H1 G s rp rt=>?_⟩;cases hq:q.1 with
 |bl kb =>
  rw[hq] at hev rp;obtain⟨rfl,rfl⟩:=rp.bl_inv;cases hev;exact⟨kb,rfl,k _ H1 [] s (.bl _) bP.nil⟩
 |_=>rw[hq] at hev;cases hev
theorem Dr (ha:PT X a (nS X.K T ca))(hb:PW X (.BoolOp .And (b::rest) pos) (nS X.K T cb)):PW X (.BoolOp .And (a::b::rest) pos) (nS X.K T (.and ca cb)):=by
 intro wh pins s σ H Q I h;refine DV ha hb wh pins s σ H Q I ?_;obtain⟨P,env,F,re,p,bb,hev,ht,k⟩:=h;unfold ev at hev;obtain⟨q,h1,hev⟩:=Rs.bind_ok hev;cases hq:q.1 with
 |bl kb =>
  rw[hq] at hev;cases kb with
  |true=>exact⟨P,env,F,re,q,true,h1,by rw[hq];rfl,fun H' s=>by show if true=true then _ else _;rw[if_pos rfl];exact⟨P,env,F,re.same s,p,bb,hev,ht,fun H2 s2=>k H2 (s.trans s2)⟩⟩
  |false =>
   cases hev;cases ht;exact⟨P,env,F,re,q,false,h1,by rw[hq];rfl,fun H' s=>by show if false=true then _ else _;rw[if_neg az];exact k H' s⟩
 |_=>rw[hq] at hev;cases hev
theorem EY (ha:PT X a (nS X.K T ca))(hb:PW X (.BoolOp .Or (b::rest) pos) (nS X.K T cb)):PW X (.BoolOp .Or (a::b::rest) pos) (nS X.K T (.or ca cb)):=by
 intro wh pins s σ H Q I h;refine Gd ha hb wh pins s σ H Q I ?_;obtain⟨P,env,F,re,p,bb,hev,ht,k⟩:=h;unfold ev at hev;obtain⟨q,h1,hev⟩:=Rs.bind_ok hev;cases hq:q.1 with
 |bl kb =>
  rw[hq] at hev;cases kb with
  |false=>exact⟨P,env,F,re,q,false,h1,by rw[hq];rfl,fun H' s=>by show if false=true then _ else _;rw[if_neg az];exact⟨P,env,F,re.same s,p,bb,hev,ht,fun H2 s2=>k H2 (s.trans s2)⟩⟩
  |true =>
   cases hev;cases ht;exact⟨P,env,F,re,q,true,h1,by rw[hq];rfl,fun H' s=>by show if true=true then _ else _;rw[if_pos rfl];exact k H' s⟩
 |_=>rw[hq] at hev;cases hev
theorem Dd (ha:PT X a (nS X.K T ca)):PT X (.UnaryOp .Not a pos) (nS X.K T (.not ca)):=by
 refine rP (CI ha) fun σ H Q ⟨P,env,F,re,p,bb,hev,ht,k⟩=>?_
 unfold ev at hev;obtain⟨q,h1,hev⟩:=Rs.bind_ok hev;cases hq:q.1 with
 |bl kb =>
  rw[hq] at hev;cases hev;cases ht;exact⟨P,env,F,re,q,kb,h1,by rw[hq];rfl,fun H' s=>k H' s⟩
 |_=>rw[hq] at hev;cases hev
theorem zO {b:Bool}(rp:Rep K H d v G)(h:truth d=some b):DY K v H b:=by
 cases rp with
 |dct _=>cases h
 |mpi _=>cases h
 |mpt _=>cases h
 |mpz _=>cases h
 |non=>cases h;rfl
 |bl c=>cases h;rfl
 |int i=>cases h;rfl
 |str z =>
  simp only[truth] at h;by_cases hl:z.length<=lim
  .rw[if_pos hl] at h;cases h;exact⟨fF hl,rfl⟩
  .rw[if_neg hl] at h;cases h
 |lst a r =>
  rename_i vs ds g;cases h;refine .inl ⟨vs,.inl a,?_⟩;have:=r.len;cases ds<;>cases vs<;>simp_all
 |tup a r =>
  rename_i vs ds;cases h;refine .inr (.inl ⟨vs,a.sq,?_⟩);have:=r.len;cases ds<;>cases vs<;>simp_all
theorem cA (h:PE X e (tE X.K T ca))(he:∀ whole,isTrue e X.env whole=(do let v <- whole;standAt e.pos;holding [v] (truthy v))):PT X e (nS X.K T ca):=by
 refine rP (xT h he) fun σ H Q ⟨P,env,F,re,p,bb,hev,ht,k⟩=>?_
 exact⟨P,env,F,re,p,hev,fun v H' G s rp rt=>⟨bb,zO rp ht,k H' s⟩⟩
theorem Dq (hc:PT X c (nS X.K T cc))(ha:PE X a (tE X.K T ca))(hb:PE X b (tE X.K T cb)):PE X (.IfExp c a b pos) (tE X.K T (.ite cc ca cb)):=by
 refine bG (yH hc ha hb) fun σ H Q ⟨P,env,F,re,p,hev,k⟩=>?_
 unfold ev at hev;obtain⟨q,h1,hev⟩:=Rs.bind_ok hev;obtain⟨kb,h2,hev⟩:=Rs.bind_ok hev;refine⟨P,env,F,re,q,kb,h1,cF h2,fun H' s=>?_⟩;cases kb with
 |true=>rw[if_pos rfl];exact⟨P,env,F,re.same s,p,hev,fun v H2 G s' rp' rt'=>k v H2 G (s.trans s') rp' (rt'.back s)⟩
 |false=>rw[if_neg az];exact⟨P,env,F,re.same s,p,hev,fun v H2 G s' rp' rt'=>k v H2 G (s.trans s') rp' (rt'.back s)⟩
variable {es:List Expr}{cs:kL}
theorem n5:PA X [] (uo X.K T .nil):=by
 refine xI rY fun σ H Q ⟨P,env,F,re,l,hev,k⟩=>?_
 unfold bC at hev;cases hev;exact k [] H [] (.nil (aI.refl _))
theorem jv (ha:PE X a (tE X.K T ca))(hr:PA X es (uo X.K T cs))(hs:starEach (a::es) X.env=(false,eval a X.env)::starEach es X.env):PA X (a::es) (uo X.K T (.cons ca cs)):=by
 refine xI (kF ha hr hs) fun σ H Q ⟨P,env,F,re,l,hev,k⟩=>?_
 unfold bC at hev;obtain⟨p,h1,hev⟩:=Rs.bind_ok hev;obtain⟨q,h2,hev⟩:=Rs.bind_ok hev;cases hev;exact⟨P,env,F,re,p,h1,fun v H1 G s rp rt=>⟨P,env,F,re.same s,q,h2,fun vs H2 G' ar=>k (v::vs) H2 _ (.cons s rp rt ar)⟩⟩
theorem bP.addNew {H1:Hp}(h:bP env F H r H1 G)(e:aI H H1)(hp:H1 p=none)(hl:∀ a∈G,H1 a≠none):bP env F H r (upd H1 p (.lst vs)) (p::G) where
 cont:=fun a ha=>by
  rcases cg.mp ha with rfl | ha
  .exact .inl (aI.no e hp)
  .exact h.cont a ha
 mv:=fun R hr=>by
  obtain⟨a,b,c⟩:=h.mv R hr;refine⟨List.nodup_cons.mpr ⟨fun z=>hl p z hp,a⟩,fun x hx=>?_,fun x hx=>?_⟩
  .rcases cg.mp hx with rfl | hx
   .exact⟨.l _,aK⟩
   .obtain⟨ws,q⟩:=b x hx;exact⟨ws,aI.new hp _ _ q⟩
  .rcases cg.mp hx with rfl | hx
   .exact .inl (aI.no e hp)
   .exact c x hx
theorem Cu (h:PA X es (uo X.K T cs)):PE X (.List es pos) (tE X.K T (.lst cs)):=by
 refine bG (wY h) fun σ H Q ⟨P,env,F,re,p,hev,k⟩=>?_
 unfold ev at hev;obtain⟨l,h1,hev⟩:=Rs.bind_ok hev;by_cases hl:l.length<=lim
 .rw[if_pos hl] at hev;cases hev;refine⟨P,env,F,re,l,h1,fun vs H1 G ar=>?_⟩;have rs:=ar.reps;have hlen:=rs.len;rw[ab] at hlen;refine⟨by rw[<-hlen];exact fF hl,fun q hq=>?_⟩;have e:=aI.new (o:=.lst vs) hq;exact k _ _ (q::G) (ar.same.trans e) (.lst (.inl aK) (rs.same e)) ((ar.comb re).addNew ar.same hq fun a ha=>rs.nn ha)
 .rw[if_neg hl] at hev;cases hev
theorem Ei {x1:Nat}(h:PA X es (uo X.K T cs)):PE X (.Tuple es x1 pos) (tE X.K T (.tup cs)):=by
 refine bG (C5 h) fun σ H Q ⟨P,env,F,re,p,hev,k⟩=>?_
 unfold ev at hev;obtain⟨l,h1,hev⟩:=Rs.bind_ok hev;by_cases hl:l.length<=lim
 .rw[if_pos hl] at hev;cases hev;refine⟨P,env,F,re,l,h1,fun vs H1 G ar=>?_⟩;have rs:=ar.reps;have hlen:=rs.len;rw[ab] at hlen;refine⟨by rw[<-hlen];exact fF hl,fun q hq=>?_⟩;have e:=aI.new (o:=.tup vs) hq;exact k _ _ G (ar.same.trans e) (.tup (.inl aK) (rs.same e)) ((ar.comb re).later e)
 .rw[if_neg hl] at hev;cases hev
def Cg (K:Frag)(n:Nat)(f:List D->Rs (D×Bool)):Sp:=fun vs H Q E=>∃ ds G,ds.length=n/\aG K H ds vs G/\∃ r,f ds = .ok r/\∀ v H' G',aI H H'->Rep K H' r.1 v G'->(∀ a∈G',H a=none\/a∈G)->(r.2=true->G'.Nodup/\∀ a∈G',H a=none/\∃ vs:ML,H' a=some vs.o)->Q v H'
theorem tW {f:List D->Rs (D×Bool)}{E:XK}(h:Cg K n f vs H Q E):vs.length=n:=by
 obtain⟨ds,G,h1,h2,_⟩:=h;rw[<-h1,h2.len]
theorem nD {f:Nat}{σ:L2.St}(hn:∀ ds r,T.cl f ds = .ok r->ds.length=n)(h:tE X.K T (.call f cs) σ H Q):xQ (Cg X.K n (T.cl f)) [] E0 (uo X.K T cs) σ H Q:=by
 obtain⟨P,env,F,re,p,hev,k⟩:=h;unfold ev at hev;obtain⟨l,h1,hev⟩:=Rs.bind_ok hev;obtain⟨r,h2,hev⟩:=Rs.bind_ok hev;cases hev;refine⟨P,env,F,re,l,h1,fun vs H1 G ar=>?_⟩;show Cg X.K n (T.cl f) (vs ++ []) H1 Q E0;rw[aw];refine⟨l.map (·.1),G,hn _ _ h2,ar.reps,r,h2,fun v H' G' s rp sub fr=>k v H' G' (ar.same.trans s) rp ?_⟩;cases hr:r.2 with
 |true =>
  obtain⟨a,b⟩:=fr hr;have c:∀ x∈G',H x=none:=fun x hx=>aI.no ar.same (b x hx).1
  exact⟨fun x hx=>.inl (c x hx),fun R e=>⟨a,fun x hx=>(b x hx).2,fun x hx=>.inl (c x hx)⟩⟩
 |false =>
  refine⟨fun x hx=>?_,fun R e=>by cases e⟩;rcases sub x hx with q | q
  .exact .inl (aI.no ar.same q)
  .exact ar.cont x q
end
def nU (K:Frag)(b:C8):List V->Hp->VK->Prop:=fun xs H Q=>∃ ds d G,aG K H ds xs G/\l7 b ds=some d/\∀ v H' G',Rep K H' d v G'->gG H H' G d G'->Q v H'
variable {cs:kL}{us:List Value}
section
variable {X:Cx}{T:Tb}
theorem pE {b:C8}{σ:L2.St}(h:tE X.K T (.blt b cs) σ H Q):tCB (nU X.K b) (uo X.K T cs) σ H Q:=by
 obtain⟨P,env,F,re,p,hev,k⟩:=h;unfold ev at hev;obtain⟨l,h1,hev⟩:=Rs.bind_ok hev;obtain⟨d,h2,hev⟩:=Rs.bind_ok hev;cases hev;exact⟨P,env,F,re,l,h1,fun vs H1 G ar=>⟨l.map (·.1),d,G,ar.reps,cF h2,fun v H' G' rp nv=>k v H' G' (ar.same.trans nv.same) rp (bP.new ar nv fun _ z=>z)⟩⟩
theorem aG.of1 (h:aG K H [d] xs G):∃ x,xs=[x]/\Rep K H d x G:=by
 cases h with
 |cons r s=>cases s;exact⟨_,rfl,by rw[aw];exact r⟩
theorem aG.of2 {e:D}(h:aG K H [d,e] xs G):∃ x y G1 G2,xs=[x,y]/\Rep K H d x G1/\Rep K H e y G2:=by
 cases h with
 |cons r s =>
  cases s with
  |cons r' s'=>cases s';exact⟨_,_,_,_,rfl,r,r'⟩
theorem Dn (d:Addr)(hd:(d==sysModules)=false):MeetsIn prog w (Builtin.«dict.__len__» ⟨[.ref d],[]⟩) (fun _ R s=>∃ o es ep,s.heap.get? d=some o/\o.ExactDict/\o.data = .dict es ep/\R (.ok (.ret (.int es.size s.toks))) { s with toks:=s.toks+1 }):=by
 intro A R s h;obtain⟨o,es,ep,h1,h2,h3,h⟩:=h;unfold Builtin.«dict.__len__»
 wp_walk
 rw[h3];unfold Builtin.Dict.pendingCount;rw[hd]
 wp_walk
 simpa using h
theorem ve:eR X (.builtin "len") (nU X.K .len):=by
 intro pins s σ H xs us Q I r h;obtain⟨ds,d,G,rs,hd,k⟩:=h
 match ds,hd with
 |[.lst ys],hd =>
  cases hd;obtain⟨x,rfl,rp⟩:=rs.of1;obtain⟨p,vs,g,rfl,rfl,a1,a2⟩:=rp.lst_inv;exact jx pins s σ H _ us Q I r ⟨p,vs,rfl,.inl (.inl a1),by rw[<-a2.len];exact k _ H [] (.int _) gG.nil⟩
 |[.tup ys],hd =>
  cases hd;obtain⟨x,rfl,rp⟩:=rs.of1;obtain⟨p,vs,rfl,a1,a2⟩:=rp.tup_inv;exact jx pins s σ H _ us Q I r ⟨p,vs,rfl,.inr a1,by rw[<-a2.len];exact k _ H [] (.int _) gG.nil⟩
 |[.str z],hd =>
  have hd:(if z.length<=lim then some (D.int (z.length:Int)) else none)=some d:=hd;by_cases hl:z.length<=lim
  .rw[if_pos hl] at hd;cases hd;obtain⟨x,rfl,rp⟩:=rs.of1;obtain⟨rfl,rfl⟩:=rp.str_inv;exact om pins s σ H _ us Q I r ⟨z,rfl,fF hl,k _ H [] (.int _) gG.nil⟩
  .rw[if_neg hl] at hd;cases hd
 |[.mpt ks],hd =>
  cases hd;obtain⟨x,rfl,rp⟩:=rs.of1;obtain⟨u,rfl,rx⟩:=r.one;cases rp with
  |@mpt p _ hr =>
   obtain rfl:u = .ref p:=rx;obtain⟨z,lo,xs,rel,dd⟩:=qk I.hok hr;have hty:=dd.typeIs;obtain⟨o,es,ep,h1,h2,h3,h4,_,_⟩:=dd;have hl:ks.length=es.size:=by
    have e1:=Paired.length rel;have e2:=ic List.length h4;unfold oT at e1;rw[ab] at e1 e2;rw[e1,<-e2,ay]
   have hz:ks.length<=sizeLine:=by
    unfold oT at z
    rwa [ab] at z
   rw[sizeLine_eq] at hz;refine call_len_slot (n:=(ks.length:Int)) hty PySem.F.slot_dict_len (fun Q' hQ'=>call_meetsIn PySem.F.slot_dict_len hty PySem.F.entry_dict_len (PySem.F.args_dict_len_1 _) (Dn p lo) ⟨o,es,ep,h1,h2,h3,?_⟩) (by omega) (by omega) ⟨.int _,H,(I.tok _).tok _,⟨_,rfl⟩,k _ H [] (.int _) gG.nil⟩;rw[<-hl];exact hQ'
theorem pH {σ:L2.St}(I:Inv X pins σ H s)(r:aL xs us)(rs:aG X.K H ds xs G)(hd:l7 .list ds=some d)(k:∀ v H' G',Rep X.K H' d v G'->gG H H' G d G'->Q v H')(hn:∀ ks,ds≠[.mpi ks]):wpAny (model X.prog X.w) X.A (call (.type "list") us) (EP X pins σ Q) X.xe s:=by
 match ds,hd with
 |[.mpi ks],hd=>exact absurd rfl (hn ks)
 |[.lst ys],hd =>
  cases hd;obtain⟨x,rfl,rp⟩:=rs.of1;obtain⟨p,vs,g,rfl,rfl,a1,a2⟩:=rp.lst_inv;refine jE pins s σ H _ us Q I r ⟨p,vs,rfl,.inl (.inl a1),fun l hl=>?_⟩;obtain⟨n1,n2⟩:=eV (G0:=p::g) a2 (fun a ha=>ah _ ha) hl;exact k _ _ _ n1 n2
 |[.tup ys],hd =>
  cases hd;obtain⟨x,rfl,rp⟩:=rs.of1;obtain⟨p,vs,rfl,a1,a2⟩:=rp.tup_inv;refine jE pins s σ H _ us Q I r ⟨p,vs,rfl,.inr a1,fun l hl=>?_⟩;obtain⟨n1,n2⟩:=eV (G0:=G) a2 (fun a ha=>ha) hl;exact k _ _ _ n1 n2
end
def fZ (K:Frag)(P:Addr->Prop)(H0:Hp)(J:It)(ds:List D)(G:List Addr):Prop:=∀ H,jN P H0 H->(∀(i:Nat) (d:D),ds[i]? = some d->J.go i H/\∀ x H',J.yld i H x H'->aI H H'/\∃ G',Rep K H' d x G'/\∀ a∈G',a∈G)/\J.stop ds.length H
noncomputable def tI (K:Frag)(T:Tb)(it:qM):TI:=fun σ H R=>∃ P env F,RE K P env σ H F/\∃ p,dM T it env = .ok p/\∀ J H' G,aI H H'->bP env F H (.sh p.2) H' G->(∀ a∈G,H' a≠none)->(∀ P',(∀ a∈G,P' a)->fZ K P' H' J p.1 G)->R J H'
variable {H0:Hp}
theorem vv {P:Addr->Prop}(h1:Rd H0 p (.lst vs))(h2:aG K H0 ds vs G)(hp:∀ a∈p::G,P a):fZ K P H0 (Itl K p) ds (p::G):=fun H e=>by
 have ep:=e.keep p (hp p ai);have h1':Rd H p (.lst vs):=by
  rcases h1 with q | ⟨o,q⟩
  .exact .inl (ep.trans q)
  .exact .inr ⟨o,ep.trans q⟩
 have h2':=e.reps h2 fun a ha=>hp a (ah _ ha)
 refine⟨fun i d hd=>?_,⟨vs,.inl h1',by rw[h2.len];exact au _⟩⟩;obtain⟨v,G',a,b,c⟩:=h2'.get hd;refine⟨⟨vs,v,.inl h1',a⟩,fun x H' ⟨e1,e2⟩=>?_⟩;subst e1;have:=e2 vs (.inl h1');rw[a] at this;cases this;exact⟨aI.refl _,G',b,fun z hz=>ah _ (c.subset hz)⟩
theorem yo {P:Addr->Prop}(h1:jW K H0 p vs)(h2:aG K H0 ds vs G)(hp:∀ a∈G,P a):fZ K P H0 (Itt K p) ds G:=fun H e=>by
 have h1':=e.tqT h1;have h2':=e.reps h2 hp;refine⟨fun i d hd=>?_,⟨vs,h1'.sq,by rw[h2.len];exact au _⟩⟩;obtain⟨v,G',a,b,c⟩:=h2'.get hd;refine⟨⟨vs,v,h1'.sq,a⟩,fun x H' ⟨e1,e2⟩=>?_⟩;subst e1;have:=e2 vs h1'.sq;rw[a] at this;cases this;exact⟨aI.refl _,G',b,fun z hz=>c.subset hz⟩
noncomputable def Fp (xs:List V):It:=⟨fun i _=>i<xs.length,fun i H x H'=>H'=H/\xs[i]? = some x,fun i _=>xs.length<=i⟩
theorem mX {P:Addr->Prop}(hr:∀ H,aG K H ds vs []):fZ K P H0 (Fp vs) ds []:=fun H e=>by
 have hl:=(hr H).len;refine⟨fun i d hd=>?_,by show vs.length<=ds.length;omega⟩;obtain⟨v,G',a,b,c⟩:=(hr H).get hd;refine⟨by show i<vs.length;rw[<-hl];exact (List.getElem?_eq_some_iff.mp hd).1,fun x H' ⟨e1,e2⟩=>?_⟩;subst e1;rw[a] at e2;cases e2;exact⟨aI.refl _,G',b,fun z hz=>c.subset hz⟩
variable {P:Program}{it:Addr}{tg:Expr}
theorem mO {Pv:Nat->Value->Prop}{St:Nat->Heap->Prop}(W:∀ A:Around,A.handled=none->Walks P w A it [it] [it] xs.length Pv St)(hP:∀ i v,Pv i v->∃ x,xs[i]? = some x/\RelV x v)
  (ob:∀ i h,St i h->∃ o n vs,h.get? it=some o/\o.cls = .type n/\o.data = .fields vs/\["enumerate","zip","dict_itemiterator","dict_reverseitemiterator","odict_iterator","itertools.zip_longest","itertools.pairwise"].contains n=false)
  (fr:∀ i h h',St i h->(∀ o,h.get? it=some o->h'.get? it=some o)->St i h') (le:∀ i h,St i h->i<=xs.length) (slf:∀(A:Around) (i:Nat) (s:Shared) (Q E:Value->Shared->Prop),St i s.heap->Q (.ref it) s->wpAny (model P w) A (pyIter (.ref it)) Q E s):Turn P w K tg (Fp xs) [it] it St where
 mem:=by simp
 obj:=fun i h st b hb=>by
  have e:b=it:=by simpa using hb
  subst e;obtain⟨o,n,vs,h1,h2,h3,_⟩:=ob i h st;exact⟨o,h1,fun v z=>by rw[h3] at z;cases z⟩
 keep:=fun i h h' st k=>fr i h h' st fun o e=>k it (by simp) o e
 item:=by
  intro X hp hw hK hc i pins s σ H E I hf st hg;subst hp hw hK;obtain⟨f0,f1,f2,f3,f4,f5⟩:=hf it (by simp);refine (W X.A (I.ok.hd hc)).item i s _ _ hg st fun v h' tk hv st' kk=>?_
  obtain⟨x,ex,rx⟩:=hP i v hv;have I1:Inv X pins σ H { s with heap:=h',toks:=tk }:=I.turned (fun b o hb e=>kk b o (by simpa using hb) e) f0 f1 f3 f4 f5;obtain⟨o,n,vs,h1,h2,h3,h4⟩:=ob (i+1) h' st';exact⟨v,rfl,tY (s:={ s with heap:=h',toks:=tk }) (n:=n) h1 h2 h3 h4 ⟨x,H,I1,rx,⟨rfl,ex⟩,st',fun b hb=>(hf b hb).1⟩⟩
 done:=by
  intro X hp hw hK hc i pins s σ H E I hf st hg;subst hp hw hK;obtain⟨f0,f1,f2,f3,f4,f5⟩:=hf it (by simp);have hi:i=xs.length:=Nat.le_antisymm (le i _ st) hg;subst hi;exact (W X.A (I.ok.hd hc)).done s _ _ st fun h' tk kk=>⟨rfl,I.turned (fun b o hb e=>kk b o (by simpa using hb) e) f0 f1 f3 f4 f5⟩
 self:=fun A i s Q E st h=>slf A i s Q E st h
noncomputable def dG (a c:Int)(n:Nat):List V:=(List.range n).map fun (i:Nat)=>.int (a+(i:Int)*c)
theorem jf (a c:Int)(n:Nat):(dG a c n).length=n:=by simp[dG]
theorem fT {K:Frag}{H:Hp}(c:Int):∀(n:Nat) (a:Int),aG K H (bK a c n) (dG a c n) []
 |0,a=>.nil
 | n+1,a=>by
  have e:dG a c (n+1) = .int a::dG (a+c) c n:=by
   unfold dG;rw[i8,ao,cz];congr 1
   .simp
   .refine ij fun i _=>?_
    simp only[Function.comp_apply,V.int.injEq,Nat.succ_eq_add_one]
    push_cast
    rw[Int.add_mul];omega
  rw[e];show aG K H (.int a::bK (a+c) c n) _ ([] ++ []);exact .cons (.int a) (fT c n (a+c))
theorem jL (a b c:Int)(hc:c≠0):0<=Builtin.Range.rangeSize a b c:=by
 unfold Builtin.Range.rangeSize;split
 .rename_i h;split
  .have:0<=(b - a - 1) / c:=Int.ediv_nonneg (by omega) (by omega);omega
  .omega
 .split
  .have:0<=(a - b - 1) / (-c):=Int.ediv_nonneg (by omega) (by omega);omega
  .omega
theorem pG {a b c:Int}(ha:fJ a=true)(hb:fJ b=true)(hc:c≠0)(hs:c.natAbs<1073741824):Builtin.Range.small a b c=true:=by
 unfold fJ at ha hb;have ha:=gn ha;have hb:=gn hb;have hn:=jL a b c hc;have hu:Builtin.Range.rangeSize a b c<2 ^ 63:=by
  unfold Builtin.Range.rangeSize;split
  .split
   .have:=Int.ediv_le_self (b:=c) (a:=b - a - 1) (by omega);omega
   .decide
  .split
   .have:=Int.ediv_le_self (b:=-c) (a:=a - b - 1) (by omega);omega
   .decide
 unfold Builtin.Range.small;simp only[Builtin.Range.rangeFitsLong,Bool.and_eq_true,Bool.or_eq_true,decide_eq_true_eq,beq_iff_eq];refine⟨⟨⟨⟨⟨by omega,by omega⟩,by omega,by omega⟩,by omega,by omega⟩,by omega,hu⟩,.inr ?_⟩;split<;>simp only[Bool.and_eq_true,decide_eq_true_eq]<;>omega
variable {t:Tok}
section
variable {X:Cx}{tg:Expr}
theorem jQ {σ:L2.St}{R:It->Hp->Prop}{E:Value->Shared->Prop}{lo hi c:Int}{u v:Tok}{tk:Nat}(I:Inv X pins σ H s)(h1:fJ lo=true)(h2:fJ hi=true)(h3:c≠0)(h4:c.natAbs<1073741824)
  (q:R (Fp (dG lo c (Builtin.Range.rangeSize lo hi c).toNat)) H):wpAny (model X.prog X.w) X.A (pyIter (.ref s.heap.objs.size)) (BW X pins σ tg R) E { s with heap:=s.heap.push { cls:=.type "range",data:=.fields #[.int lo t,.int hi u,.int c v] },toks:=tk }:=by
 refine wpAny_pyIter_range (IsRange.new ..) (pG h1 h2 h3 h4) ?_;have I1:Inv X pins σ H { s with heap:=s.heap.push { cls:=.type "range",data:=.fields #[.int lo t,.int hi u,.int c v] },toks:=tk }:=I.kept fun b o e=>Heap.get?_push_of_some _ e
 have hn:=jL lo hi c h3;let n:=(Builtin.Range.rangeSize lo hi c).toNat;refine⟨(s.heap.push { cls:=.type "range",data:=.fields #[.int lo t,.int hi u,.int c v] }).objs.size,[(s.heap.push { cls:=.type "range",data:=.fields #[.int lo t,.int hi u,.int c v] }).objs.size],
  (fun i h=>i<=n/\IsRangeIter h (s.heap.push { cls:=.type "range",data:=.fields #[.int lo t,.int hi u,.int c v] }).objs.size (lo+(i:Nat)*c) ((n:Int) - (i:Nat)) c),_,H,rfl,
  I1.kept (t':=tk) fun b o e=>Heap.get?_push_of_some _ e,mO (Pv:=fun i v=>i<n/\∃ t,v = .int (lo+i*c) t) (fun A hA=>?_) (fun i v hv=>?_) (fun i h st=>?_) (fun i h h' st k=>⟨st.1,k _ st.2⟩) (fun i h st=>by rw[jf];exact st.1) (fun A i s Q E st h=>wpAny_pyIter_rangeiter st.2 h),?_,fun b hb=>?_,q⟩
 .rw[jf];have W:=Walks.range (prog:=X.prog) (w:=X.w) hA (s.heap.push { cls:=.type "range",data:=.fields #[.int lo t,.int hi u,.int c v] }).objs.size lo c n;exact⟨W.sub,fun i h h' st k=>⟨st.1,W.frame i h h' st.2 k⟩,fun i s Q E hi st hQ=>W.item i s Q E hi st.2 fun v h' tk hv st' kk=>hQ v h' tk ⟨hi,hv⟩ ⟨hi,st'⟩ kk,fun s Q E st hQ=>W.done s Q E st.2 hQ,fun i s Q E st h=>W.self i s Q E st.2 h⟩
 .obtain⟨hi',t',rfl⟩:=hv;exact⟨.int (lo+i*c),by unfold dG;rw[List.getElem?_map,List.getElem?_range hi'];rfl,t',rfl⟩
 .exact⟨_,_,_,st.2,rfl,rfl,by decide⟩
 .refine⟨dg _,?_⟩;have e1:lo+((0:Nat):Int)*c=lo:=by simp
  have e2:((n:Nat):Int) - ((0:Nat):Int)=Builtin.Range.rangeSize lo hi c:=by omega
  rw[e1,e2];exact Heap.get?_push_size _ rfl
 .have e:b=(s.heap.push { cls:=.type "range",data:=.fields #[.int lo t,.int hi u,.int c v] }).objs.size:=by simpa using hb
  subst e;exact I1.fpOk (au _) (I1.hok.fresh (au _))
end
variable {c:Ex}{o:Obj}{pos:Pos}
section
variable {X:Cx}{tg:Expr}{T:Tb}{pins:List (Addr×Obj)}{σ:L2.St}{H:Hp}{s:Shared}{R:It->Hp->Prop}{E:Value->Shared->Prop}
theorem As (I:Inv X pins σ H s)(hq:iX X.K H a xs)(q:R (Itl X.K a) H):wpAny (model X.prog X.w) X.A (pyIter (.ref a)) (BW X pins σ tg R) E s:=by
 obtain⟨its,rv,p,hz⟩:=I.list hq;refine wpAny_pyIter_list p.isList ?_;refine⟨s.heap.objs.size,[s.heap.objs.size],_,_,H,rfl,I.kept (t':=s.toks) fun b o e=>Heap.get?_push_of_some _ e,uK a _,⟨_,Heap.get?_push_size _ rfl,rfl,rfl⟩,fun b hb=>?_,q⟩;have e:b=s.heap.objs.size:=by simpa using hb
 subst e;exact I.fpOk (au _) (I.hok.fresh (au _))
theorem wQ (I:Inv X pins σ H s)(hq:iT X.K H a xs)(q:R (Itt X.K a) H):wpAny (model X.prog X.w) X.A (pyIter (.ref a)) (BW X pins σ tg R) E s:=by
 obtain⟨its,rv,p,hz⟩:=I.tuple hq;refine wpAny_pyIter_tuple (show s.heap.IsTuple a its.toArray from p) ?_;refine⟨s.heap.objs.size,[s.heap.objs.size],_,_,H,rfl,I.kept (t':=s.toks) fun b o e=>Heap.get?_push_of_some _ e,rB a _,⟨_,Heap.get?_push_size _ rfl,rfl,rfl⟩,fun b hb=>?_,q⟩;have e:b=s.heap.objs.size:=by simpa using hb
 subst e;exact I.fpOk (au _) (I.hok.fresh (au _))
noncomputable def ItZ (d:Addr)(o:Obj)(xs:List (Key×V)):It:=⟨fun i H=>H d=some (.frz o (.dK xs))/\i<xs.length,fun i H x H'=>H'=H/\∃ kv,xs[i]? = some kv/\x=kV kv.1,fun i H=>H d=some (.frz o (.dK xs))/\xs.length<=i⟩
theorem vj {tg:Expr}{d:Addr}{xs:List (Key×V)}{vs:List (Key×Value)}{ep:Nat}(hne:d≠it)(rel:KV xs vs)(hat:∀ h:Heap,h.get? d=some o->h.DictAt (aN P w) d vs ep):Turn P w K tg (ItZ d o xs) [it] it (fun i h=>i<=vs.length/\h.IsKeyIter it d i vs.length ep) where
 mem:=by simp
 obj:=fun i h st b hb=>by
  have e:b=it:=by simpa using hb
  subst e;obtain⟨_,o',h1,h2,h3⟩:=st;exact⟨o',h1,fun v z=>by rw[h3] at z;cases z⟩
 keep:=fun i h h' st k=>⟨st.1,st.2.at fun o e=>k it (by simp) o e⟩
 item:=by
  intro X hp hw hK hc i pins s σ H E I hf st hg;subst hp hw hK;obtain⟨f0,f1,f2,f3,f4,f5⟩:=hf it (by simp);obtain⟨hz,hlt⟩:=hg;have ho:s.heap.get? d=some o:=(I.hok d _ hz).1;have hl:=rel.length;refine (Walks.dictKeys (I.ok.hd hc) it d hne vs ep).item i s _ _ (by omega) ⟨st.2,hat _ ho⟩ fun v h' tk hv st' kk=>?_
  obtain⟨k,x,hx,hk⟩:=hv;have I1:Inv X pins σ H { s with heap:=h',toks:=tk }:=I.turned (fun b o hb e=>kk b o (by simpa using hb) e) f0 f1 f3 f4 f5;obtain⟨oi,h1,h2,h3⟩:=st'.1;obtain⟨kv,e1⟩:∃ kv,xs[i]? = some kv:=⟨xs[i],List.getElem?_eq_getElem hlt⟩;have ek:kv.1=k:=by
   have:=ic (fun l:List Key=>l[i]?) rel.keys;simp only[List.getElem?_map,e1,hx,Option.map_some,Option.some.injEq] at this;exact this
  have rx:RelV (kV kv.1) v:=by
   rw[ek];rcases bA (show ku k v=true from hk) with ⟨i,t,rfl,rfl⟩ | ⟨x,t,rfl,rfl⟩
   .exact⟨t,rfl⟩
   .exact⟨t,rfl⟩
  exact⟨v,rfl,tY (s:={ s with heap:=h',toks:=tk }) (n:="dict_keyiterator") h1 h2 h3 (by decide) ⟨kV kv.1,H,I1,rx,⟨rfl,kv,e1,rfl⟩,⟨by omega,st'.1⟩,fun b hb=>(hf b hb).1⟩⟩
 done:=by
  intro X hp hw hK hc i pins s σ H E I hf st hg;subst hp hw hK;obtain⟨f0,f1,f2,f3,f4,f5⟩:=hf it (by simp);obtain⟨hz,hge⟩:=hg;have ho:s.heap.get? d=some o:=(I.hok d _ hz).1;have hl:=rel.length;have hi:i=vs.length:=by have:=st.1;omega
  subst hi;exact (Walks.dictKeys (I.ok.hd hc) it d hne vs ep).done s _ _ ⟨st.2,hat _ ho⟩ fun h' tk kk=>⟨rfl,I.turned (fun b o hb e=>kk b o (by simpa using hb) e) f0 f1 f3 f4 f5⟩
 self:=fun A i s Q E st h=>wpAny_pyIter_keyiter st.2 h
theorem zv {xs:List (Key×V)}(I:Inv X pins σ H s)(hq:H a=some (.frz o (.dK xs)))(q:R (ItZ a o xs) H):wpAny (model X.prog X.w) X.A (pyIter (.ref a)) (BW X pins σ tg R) E s:=by
 have ho:s.heap.get? a=some o:=(I.hok a _ hq).1;obtain⟨z,lo,vs,rel,dd⟩:=ke I.hok (.inr ⟨_,hq⟩);obtain⟨ep,o',es,h1,h2⟩:=dd.dictAt;rw[ho] at h1;cases h1;refine wpAny_pyIter_dict lo ⟨o,es,ho,h2⟩ ?_;refine⟨s.heap.objs.size,[s.heap.objs.size],_,_,H,rfl,I.kept (t':=s.toks) fun b o e=>Heap.get?_push_of_some _ e,vj (vs:=vs) (ep:=ep) (ax (Heap.lt_size ho)) rel (fun h e=>⟨o,es,e,h2⟩),⟨dg _,⟨_,Heap.get?_push_size _ rfl,rfl,rfl⟩⟩,fun b hb=>?_,q⟩;have e:b=s.heap.objs.size:=by simpa using hb
 subst e;exact I.fpOk (au _) (I.hok.fresh (au _))
theorem uT {P:Addr->Prop}{xs:List (Key×V)}{ks:List (Int×MV)}(h1:H0 p=some (.frz o (.dK xs)))(h2:iR K H0 ks xs):fZ K P H0 (ItZ p o xs) (ks.map fun q=>.int q.1) []:=fun H e=>by
 have h1':=e.fz _ _ _ h1;have hl:=h2.len;refine⟨fun i d hd=>?_,⟨h1',by rw[ab];omega⟩⟩;have hi:i<ks.length:=by have:=(List.getElem?_eq_some_iff.mp hd).1;rwa [ab] at this
 refine⟨⟨h1',by omega⟩,fun x H' ⟨e1,kv,e2,e3⟩=>?_⟩;subst e1 e3;refine⟨aI.refl _,[],?_,fun a ha=>nomatch ha⟩;rw[List.getElem?_map] at hd;have key:∀{ks:List (Int×MV)}{xs:List (Key×V)}{i:Nat}{kv:Key×V}{q:Int×MV},iR K H0 ks xs->xs[i]? = some kv->ks[i]? = some q->kv.1 = .inl q.1:=by
  intro ks
  induction ks with
  |nil=>intro xs i kv q _ _ h;cases h
  |cons a r ih =>
   intro xs i kv q h e1 e2;cases xs with
   |nil=>cases e1
   |cons x xs =>
    cases i with
    |zero=>cases e1;cases e2;exact h.1
    |succ i=>exact ih h.2.2 e1 e2
 cases hq:ks[i]? with
 |none=>rw[hq] at hd;cases hd
 |some q =>
  rw[hq] at hd;cases hd;rw[key h2 e2 hq];exact .int q.1
noncomputable def n9 (z:Str):List V:=z.cps.toList.map fun c=>.str ⟨#[c]⟩
theorem DP {z:Str}(I:Inv X pins σ H s)(q:R (Fp (n9 z)) H):wpAny (model X.prog X.w) X.A (pyIter (.str z t)) (BW X pins σ tg R) E s:=by
 have hlen:(n9 z).length=z.cps.size:=by simp[n9]
 have core:∀(nm:String) (hn:["enumerate","zip","dict_itemiterator","dict_reverseitemiterator","odict_iterator","itertools.zip_longest","itertools.pairwise"].contains nm=false)
   (W:∀ A:Around,A.handled=none->Walks X.prog X.w A s.heap.objs.size [s.heap.objs.size] [s.heap.objs.size] z.cps.size (SignAt z) (fun i h=>h.IsStrIter s.heap.objs.size nm z t i))
   (slf:∀(A:Around) (i:Nat) (s':Shared) (Q E:Value->Shared->Prop),s'.heap.IsStrIter s.heap.objs.size nm z t i->Q (.ref s.heap.objs.size) s'->wpAny (model X.prog X.w) A (pyIter (.ref s.heap.objs.size)) Q E s'),
   BW X pins σ tg R (.ref s.heap.objs.size) { s with heap:=s.heap.push { cls:=.type nm,data:=.fields #[.str z t,.int 0 0] } }:=by
  intro nm hn W slf;refine⟨s.heap.objs.size,[s.heap.objs.size],(fun i h=>i<=z.cps.size/\h.IsStrIter s.heap.objs.size nm z t i),_,H,rfl,I.kept (t':=s.toks) fun b o e=>Heap.get?_push_of_some _ e,
   mO (Pv:=SignAt z) (fun A hA=>?_) (fun i v hv=>?_) (fun i h st=>?_) (fun i h h' st k=>⟨st.1,let ⟨o,ho,r⟩:=st.2;⟨o,k o ho,r⟩⟩) (fun i h st=>by rw[hlen];exact st.1) (fun A i s Q E st h=>slf A i s Q E st.2 h),⟨dg _,⟨_,Heap.get?_push_size _ rfl,rfl,rfl⟩⟩,fun b hb=>?_,q⟩
  .rw[hlen];have W:=W A hA;exact⟨W.sub,fun i h h' st k=>⟨st.1,W.frame i h h' st.2 k⟩,fun i s Q E hi st hQ=>W.item i s Q E hi st.2 fun v h' tk hv st' kk=>hQ v h' tk hv ⟨hi,st'⟩ kk,fun s Q E st hQ=>W.done s Q E st.2 hQ,fun i s Q E st h=>W.self i s Q E st.2 h⟩
  .obtain⟨c,u,e,rfl⟩:=hv;exact⟨.str ⟨#[c]⟩,by simp[n9];exact e,u,rfl⟩
  .obtain⟨o,ho,hc,hd⟩:=st.2;exact⟨o,nm,_,ho,hc,hd,hn⟩
  .have e:b=s.heap.objs.size:=by simpa using hb
   subst e;exact I.fpOk (au _) (I.hok.fresh (au _))
 cases ha:z.cps.all (· < 128)
 .exact wpAny_pyIter_wide ha (core "str_iterator" (by decide) (fun A' hA=>Walks.strWide hA _ z t) fun A i s' Q E st h=>wpAny_pyIter_striter_wide st h)
 .exact wpAny_pyIter_ascii ha (core "str_ascii_iterator" (by decide) (fun A' hA=>Walks.strAscii hA _ z t) fun A i s' Q E st h=>wpAny_pyIter_striter_ascii st h)
theorem lQ {H:Hp}:∀(cs:List Nat),aG K H (cs.map fun c=>D.str ⟨#[c]⟩) (cs.map fun c=>V.str ⟨#[c]⟩) []
 |[]=>.nil
 | c::cs=>by
  show aG K H (_::_) (_::_) ([] ++ []);exact .cons (.str _) (lQ cs)
theorem yf (h:PE X e (tE X.K T c)):PI X tg e (tI X.K T (.seq c)):=by
 intro pins s σ H R I hq;obtain⟨P,env,F,re,p,hev,k⟩:=hq;unfold dM at hev;obtain⟨q,h1,hev⟩:=Rs.bind_ok hev;obtain⟨l,h2,hev⟩:=Rs.bind_ok hev;have h2:=cF h2;cases hev;refine cH (h pins s σ H (fun v H'=>∃ G,aI H H'/\Rep X.K H' q.1 v G/\bP env F H q.2 H' G) I ⟨P,env,F,re,q,h1,fun v H' G s rp rt=>⟨G,s,rp,rt⟩⟩) fun u s1 ⟨v,H1,I1,r1,G,e,rp,rt⟩=>?_
 have rt':bP env F H (.sh q.2.roots) H1 G:=rt.part (fun _ h=>h) (fun _ h=>h) fun R e=>by cases e
 cases hd:q.1 with
 |lst xs =>
  rw[hd] at rp h2;cases h2;obtain⟨a,vs,g,rfl,rfl,a1,a2⟩:=rp.lst_inv;cases r1;exact As I1 (.inl a1) (k _ H1 (a::g) e rt' (fun b hb=>rp.nn hb) fun P' hP=>vv a1 a2 hP)
 |tup xs =>
  rw[hd] at rp h2;cases h2;obtain⟨a,vs,rfl,a1,a2⟩:=rp.tup_invT;cases r1;exact wQ I1 a1.sq (k _ H1 G e rt' (fun b hb=>rp.nn hb) fun P' hP=>yo a1 a2 hP)
 |str z =>
  rw[hd] at rp h2;simp only[wy] at h2;by_cases hl:z.length<=lim
  .rw[if_pos hl] at h2;cases h2;obtain⟨rfl,rfl⟩:=rp.str_inv;obtain⟨t,rfl⟩:=r1;exact DP I1 (k _ H1 [] e bP.nil (fun _ h=>(nomatch h)) fun P' hP=>mX fun H=>lQ _)
  .rw[if_neg hl] at h2;cases h2
 |mpz ks =>
  rw[hd] at rp h2;cases h2;cases rp with
  |@mpz a _ xs o hz kr =>
   cases r1;exact zv I1 hz (k _ H1 [] e rt' (fun _ h=>(nomatch h)) fun P' hP=>uT hz kr)
 |_=>rw[hd] at h2;cases h2
theorem j8 (a b:Int):(Builtin.Range.rangeSize a b 1).toNat=(b - a).toNat:=by
 rw[rangeSize_one];split<;>omega
theorem DF {es:List Expr}{it:qM}{p:Pos}{e0:Expr}{rest:List Expr}(hes:es=e0::rest)(hg:Gl X "range") (hm:X.mg "range" = none) (ha:PA X es (uo X.K T cs)) (hs:starEach es X.env=(false,eval e0 X.env)::starEach rest X.env) (hpl:(backTo pos (starEach rest X.env)).any (·.1)=false)
  (hit:∀ env p,dM T it env = .ok p->p.2=[]/\∃ l,bC T cs env = .ok l/\((∃ j,l.map (·.1)=[.int j]/\fJ j=true/\p.1=bK 0 1 j.toNat)\/(∃ i j,l.map (·.1)=[.int i,.int j]/\fJ i=true/\fJ j=true/\p.1=bK i 1 (j - i).toNat) \/
   ∃ i j k,l.map (·.1)=[.int i,.int j,.int k]/\fJ i=true/\fJ j=true/\k≠0/\k.natAbs<1073741824/\p.1=bK i k (Builtin.Range.rangeSize i j k).toNat)) :
  PI X tg (.Call (.Name "range" p) es [] pos) (tI X.K T it):=by
 subst hes;intro pins s σ H R I hq;obtain⟨P,env,F,re,q,hev,k⟩:=hq;obtain⟨hq2,l,hl,hc⟩:=hit env q hev;refine Call_ (fC I hg hm boot_range (cy (cH (ha pos pins s σ H (fun vs H'=>∃ G,Args X.K env F H H' l vs G) I ⟨P,env,F,re,l,hl,fun vs H' G ar=>⟨G,ar⟩⟩) fun us s1 ⟨vs,H1,I1,r1,G,ar⟩=>?_) hs hpl));have rs:=ar.reps;have fin:∀(a c:Int) (n:Nat),q.1=bK a c n->R (Fp (dG a c n)) H1:=fun a c n e=>by
  refine k _ H1 [] ar.same bP.nil (fun _ h=>(nomatch h)) fun P' _=>?_
  rw[e];exact mX fun H=>fT c n a
 have one:∀{d:D}{ds:List D}{vs:List V}{us:List Value}{G:List Addr},aG X.K H1 (d::ds) vs G->aL vs us->∀ i,d = .int i->∃ t us' vs' G',us = .int i t::us'/\vs = .int i::vs'/\aG X.K H1 ds vs' G'/\aL vs' us':=by
  intro d ds vs us G r rv i e;subst e;cases r with
  |cons r rr =>
   obtain⟨rfl,rfl⟩:=r.int_inv;cases rv with
   |cons x y =>
    obtain⟨t,rfl⟩:=x;exact⟨t,_,_,_,rfl,rfl,rr,y⟩
 have nil:∀{vs:List V}{us:List Value}{G:List Addr},aG X.K H1 [] vs G->aL vs us->us=[]:=by
  intro vs us G r rv;cases r;cases rv;rfl
 rcases hc with ⟨j,e1,e2,e3⟩ | ⟨i,j,e1,e2,e3,e4⟩ | ⟨i,j,c,e1,e2,e3,e4,e5,e6⟩
 .rw[e1] at rs;obtain⟨t,us',vs',G',rfl,_,rs,r1⟩:=one rs r1 j rfl;obtain rfl:=nil rs r1;refine call_range_1 (jQ (c:=1) I1 (by decide) e2 (by decide) (by decide) ?_);refine fin _ _ _ ?_;rw[e3,j8];simp
 .rw[e1] at rs;obtain⟨t,us',vs',G',rfl,_,rs,r1⟩:=one rs r1 i rfl;obtain⟨t',us'',vs'',G'',rfl,_,rs,r1⟩:=one rs r1 j rfl;obtain rfl:=nil rs r1;refine call_range_2 (jQ (c:=1) I1 e2 e3 (by decide) (by decide) ?_);refine fin _ _ _ ?_;rw[e4,j8]
 .rw[e1] at rs;obtain⟨t,us',vs',G',rfl,_,rs,r1⟩:=one rs r1 i rfl;obtain⟨t',us'',vs'',G'',rfl,_,rs,r1⟩:=one rs r1 j rfl;obtain⟨t3,us3,vs3,G3,rfl,_,rs,r1⟩:=one rs r1 c rfl;obtain rfl:=nil rs r1;refine call_range_3 e4 (jQ (c:=c) I1 e2 e3 e4 e5 ?_) (.inl (PyProof.noPylong_small e5));exact fin _ _ _ e6
end
variable {h:Heap}{o':Obj}
theorem wD (e:(h.push o).get? b=some o'):(b=h.objs.size/\o'=o)\/h.get? b=some o':=by
 obtain⟨e1,e2⟩:=Heap.get?_some_iff.mp e;by_cases hb:b=h.objs.size
 .left;subst hb;refine⟨rfl,?_⟩;have:(h.push o).objs[h.objs.size]? = some o:=by cases h;simp[Heap.push]
  rw[this] at e1;exact (cj e1).symm
 .right;refine Heap.get?_some_iff.mpr ⟨?_,e2⟩;cases h;simpa[Heap.push,Array.getElem?_push,hb] using e1
theorem eE (e:h.get? a=some o)(e':h.get? b=some o')(n:o.cls≠o'.cls):a≠b:=by
 rintro rfl;rw[e] at e';cases e';exact n rfl
theorem bX (b i j:Nat)(h:i≠j):(b+i:Nat)≠b+j:=by omega
theorem dH (b n i:Nat)(h:b+4<n)(hi:i<=4):b+i<n:=by omega
theorem Cq (n b:Nat)(h:b=n+1\/b=n):n<=b:=by omega
theorem sC (n b:Nat)(h:b=n+4\/b=n+2\/b=n+3\/b=n\/b=n+1):n<=b:=by omega
variable {h':Heap}
section
variable {X:Cx}{pins:List (Addr×Obj)}{σ:L2.St}{H:Hp}{s:Shared}
theorem eJ {t':Nat}{ch:List Addr}(I:Inv X pins σ H s)(k:∀ b o,b∉ch->s.heap.get? b=some o->h'.get? b=some o)(hf:∀ b∈ch,fQ X pins H b):Inv X pins σ H { s with heap:=h',toks:=t' }:=by
 have nit:∀ b u,H b=some u->b∉ch:=fun b u e z=>by
  have:=(hf b z).1;rw[this] at e;cases e
 refine I.step (g':=s.gens) (d':=s.drawn) (ch:=ch) (fun b hb=>?_) (fun b o _ _ hc e _=>k b o hc e) (fun b o _ _ hc e _=>⟨o.slots,k b o hc e⟩) (fun _ _ _ _ n=>n)
  (fun b o hc e=>⟨o,k b o hc e⟩) (fun _ _ e=>e) (fun _ _ _ e=>e) (fun b ps e=>⟨#[],by rw[e];simp⟩) (fun m hm=>?_) (fun b u e=>?_) I.bare
 .obtain⟨f0,f1,f2,f3,f4,f5⟩:=hf b hb;exact⟨f3,f1,f4,f5⟩
 .obtain⟨o,es,ep,ho,r⟩:=hm;exact⟨o,es,ep,k _ o (fun z=>(hf _ z).2.1 rfl) ho,r⟩
 .refine (I.hok b u e).stay (fun c v hc q=>k c v ?_ q) (fun _ q=>q) fun _ _ q=>q
  rcases hc with z | z
  .rw[z];exact nit b u e
  .exact nit c _ z
theorem paired {t':Nat}{ch:List Addr}{x y:V}{v:Value}(I:Inv X pins σ H s)(hu:RelV x u)(hv:RelV y v)(hT:h'.get? s.heap.objs.size=some { cls:=.type "tuple",data:=.seq #[u,v] })
  (k:∀ b o,b∉ch->s.heap.get? b=some o->h'.get? b=some o) (hf:∀ b∈ch,fQ X pins H b) (hl:∀ b∈ch,b<s.heap.objs.size):Inv X pins σ (upd H s.heap.objs.size (.tup [x,y])) { s with heap:=h',toks:=t' }:=by
 have I1:Inv X pins σ (upd H s.heap.objs.size (.tup [x,y])) { s with heap:=s.heap.push { cls:=.type "tuple",data:=.seq #[u,v] },toks:=t' } :=
  I.laid (fun _ _ q=>Heap.get?_push_of_some _ q) (au _) ⟨by show 2<=sizeLine;decide,[u,v],.cons hu (.cons hv .nil),⟨_,Heap.get?_push_size _ rfl,rfl,_,rfl⟩⟩
 refine eJ (s:={ s with heap:=s.heap.push { cls:=.type "tuple",data:=.seq #[u,v] },toks:=t' }) (ch:=ch) I1 (fun b o hb q=>?_) fun b hb=>?_
 .rcases wD q with ⟨rfl,rfl⟩ | q
  .exact hT
  .exact k b o hb q
 .obtain⟨f0,f⟩:=hf b hb;exact⟨by rw[aJ (ax (hl b hb))];exact f0,f⟩
end
noncomputable def Ite (K:Frag)(l:Addr):It:=⟨fun i H=>∃ xs x,iX K H l xs/\xs[i]? = some x,fun i H v H'=>∃ T x,v = .ref T/\H T=none/\(∀ xs,iX K H l xs->xs[i]? = some x)/\H'=upd H T (.tup [.int i,x]),fun i H=>∃ xs,iX K H l xs/\xs.length<=i⟩
variable {elts:List Expr}{x1:Nat}
theorem uM (l e it:Addr)(hne:e≠it):Turn P w K (.Tuple elts x1 pos) (Ite K l) [e,it] e (fun i h=>(∃ old,IsEnum h e it (i:Nat) old)/\h.IsListIter it l i) where
 mem:=by simp
 obj:=fun i h st b hb=>by
  obtain⟨⟨old,he⟩,hit⟩:=st;have hb:b=e\/b=it:=by simpa using hb
  rcases hb with rfl | rfl
  .exact⟨_,he,fun v z=>by cases z⟩
  .obtain⟨o,e,c,d⟩:=hit;exact⟨o,e,fun v z=>by rw[d] at z;cases z⟩
 keep:=fun i h h' st k=>⟨let ⟨old,he⟩:=st.1;⟨old,k e (by simp) _ he⟩,st.2.at fun o z=>k it (by simp) o z⟩
 item:=by
  intro X hP hw hK hc i pins s σ H E I hf st hg;subst hP hw hK;obtain⟨xs,x,hq,hx⟩:=hg;obtain⟨its,rv,p,hz⟩:=I.list hq;obtain⟨u,hu,ru⟩:=rv.get hx;obtain⟨⟨old,he⟩,hit⟩:=st;have lts:∀ b∈[e,it],b<s.heap.objs.size:=fun b hb=>by
   have hb:b=e\/b=it:=by simpa using hb
   rcases hb with rfl | rfl
   .exact Heap.lt_size he
   .obtain⟨o,e,_⟩:=hit;exact Heap.lt_size e
  refine wpAny_pyNext_enum_item he hit p.isList (x:=u) (by simpa using hu) hne fun h' ho hit' hT hsz hk=>?_
  have I2:Inv X pins σ (upd H s.heap.objs.size (.tup [.int i,x])) { s with heap:=h',toks:=s.toks+1 } :=
   paired (ch:=[e,it]) I ⟨s.toks,rfl⟩ ru hT (fun b o hb q=>hk b o (fun z=>hb (by simp[z])) (fun z=>hb (by simp[z])) q) hf lts
  have f2:∀ b∈[e,it],fQ X pins (upd H s.heap.objs.size (.tup [.int i,x])) b:=fun b hb=>by
   obtain⟨f0,f⟩:=hf b hb;exact⟨by rw[aJ (ax (lts b hb))];exact f0,f⟩
  refine⟨_,rfl,wpAny_letOwnedTupleGo_enum (s:={ s with heap:=h',toks:=s.toks+1 }) ho fun h2 he2 hs2=>?_⟩;refine⟨.ref s.heap.objs.size,_,eJ (ch:=[e]) I2 (fun b o hb q=>hs2.extBut b o (fun z=>hb (by simp[z])) q) (fun b hb=>f2 b (by simp at hb;simp[hb])),rfl,⟨_,x,rfl,I.fresh,fun ys hy=>by rw[I.list_inj hy hq];exact hx,rfl⟩,⟨⟨_,by simpa using he2⟩,hit'.at fun o z=>hs2.extBut it o (Ne.symm hne) z⟩,fun b hb=>(f2 b hb).1⟩
 done:=by
  intro X hP hw hK hc i pins s σ H E I hf st hg;subst hP hw hK;obtain⟨xs,hq,hx⟩:=hg;obtain⟨its,rv,p,hz⟩:=I.list hq;obtain⟨⟨old,he⟩,hit⟩:=st;have hl:=rv.length;exact wpAny_pyNext_enum_end (I.ok.hd hc) he hit p.isList (by simp;omega) fun h' eb=>⟨rfl,eJ (t':=s.toks) (ch:=[it]) I (fun b o hb q=>eb b o (fun z=>hb (by simp[z])) q) fun b hb=>hf b (by simp at hb;simp[hb])⟩
 self:=fun A i s Q E st h=>by
  obtain⟨⟨old,he⟩,_⟩:=st;exact wpAny_pyIter_enum he h
theorem uF {P:Addr->Prop}(h1:Rd H0 p (.lst vs))(h2:aG K H0 ds vs G)(hp:∀ a∈p::G,P a):fZ K P H0 (Ite K p) (ds.zipIdx.map fun q=>.tup [.int q.2,q.1]) (p::G):=fun H e=>by
 have ep:=e.keep p (hp p ai);have h1':Rd H p (.lst vs):=by
  rcases h1 with q | ⟨o,q⟩
  .exact .inl (ep.trans q)
  .exact .inr ⟨o,ep.trans q⟩
 have h2':=e.reps h2 fun a ha=>hp a (ah _ ha)
 refine⟨fun i d hd=>?_,⟨vs,.inl h1',by rw[ab,List.length_zipIdx,h2.len];exact au _⟩⟩;have hd:∃ d',ds[i]? = some d'/\d = .tup [.int i,d']:=by
  rw[List.getElem?_map,List.getElem?_zipIdx] at hd;cases q:ds[i]? with
  |none=>rw[q] at hd;cases hd
  |some d'=>rw[q] at hd;simp at hd;exact⟨d',rfl,hd.symm⟩
 obtain⟨d',hd',rfl⟩:=hd;obtain⟨v,G',a,b,c⟩:=h2'.get hd';refine⟨⟨vs,v,.inl h1',a⟩,fun x H' ⟨T,x',e1,e2,e3,e4⟩=>?_⟩;subst e1 e4;have:=e3 vs (.inl h1');rw[a] at this;cases this;have sm:aI H (upd H T (.tup [.int i,v])):=aI.new e2;refine⟨sm,G',.tup (.inl aK) ?_,fun z hz=>ah _ (c.subset hz)⟩;have r:=aG.cons (Rep.int (K:=K) (H:=upd H T (.tup [.int i,v])) (i:Int)) (aG.cons (b.same sm) .nil);rw[aw,gb] at r;exact r
noncomputable def Itz (K:Frag)(l m:Addr):It:=⟨fun i H=>∃ xs ys x y,iX K H l xs/\iX K H m ys/\xs[i]? = some x/\ys[i]? = some y,
 fun i H v H'=>∃ T x y,v = .ref T/\H T=none/\(∀ xs,iX K H l xs->xs[i]? = some x)/\(∀ ys,iX K H m ys->ys[i]? = some y)/\H'=upd H T (.tup [x,y]),fun i H=>∃ xs ys,iX K H l xs/\iX K H m ys/\(xs.length<=i\/ys.length<=i)⟩
variable {j:Nat}
theorem m7 {m:Addr}{xs:Array Value}{v:Value}(hz:IsZip h (b+4) (b+2) (b+3) .none)(hTO:IsPair h (b+3) u v)(h1:h.IsListIter b l i)(h2:h.IsListIter (b+1) m j)
  (p:h.IsList l xs) (q:h.IsList m ys):ZipApart (b+4) (b+2) (b+3) b (b+1) l m:=by
 obtain⟨o1,e1,c1,_⟩:=h1;obtain⟨o2,e2,c2,_⟩:=h2;obtain⟨o3,e3,c3,_⟩:=p;obtain⟨o4,e4,c4,_⟩:=q;refine⟨bX b 2 4 (by decide),bX b 3 4 (by decide),bX b 0 4 (by decide),bX b 1 4 (by decide),bX b 2 3 (by decide),bX b 2 0 (by decide),bX b 2 1 (by decide),bX b 3 0 (by decide),bX b 3 1 (by decide),bX b 0 1 (by decide),?_,?_,?_,?_,?_,?_,?_,?_⟩
 .exact eE e3 hz (by rw[c3];simp)
 .exact eE e3 hTO (by rw[c3];simp)
 .exact eE e3 e1 (by rw[c3,c1];simp)
 .exact eE e3 e2 (by rw[c3,c2];simp)
 .exact eE e4 hz (by rw[c4];simp)
 .exact eE e4 hTO (by rw[c4];simp)
 .exact eE e4 e1 (by rw[c4,c1];simp)
 .exact eE e4 e2 (by rw[c4,c2];simp)
theorem yD (l m b:Addr):Turn P w K (.Tuple elts x1 pos) (Itz K l m) [b+4,b+2,b+3,b,b+1] (b+4)
  (fun i h=>IsZip h (b+4) (b+2) (b+3) .none/\IsPair h (b+2) (.ref b) (.ref (b+1))/\(∃ u v,IsPair h (b+3) u v)/\h.IsListIter b l i/\h.IsListIter (b+1) m i) where
 mem:=by simp
 obj:=fun i h st c hc=>by
  obtain⟨hz,hTI,⟨u,v,hTO⟩,h1,h2⟩:=st;simp only[List.mem_cons,List.not_mem_nil,or_false] at hc;rcases hc with rfl | rfl | rfl | rfl | rfl
  .exact⟨_,hz,fun v z=>by cases z⟩
  .exact⟨_,hTI,fun v z=>by cases z⟩
  .exact⟨_,hTO,fun v z=>by cases z⟩
  .obtain⟨o,e,c,d⟩:=h1;exact⟨o,e,fun v z=>by rw[d] at z;cases z⟩
  .obtain⟨o,e,c,d⟩:=h2;exact⟨o,e,fun v z=>by rw[d] at z;cases z⟩
 keep:=fun i h h' st k=>by
  obtain⟨hz,hTI,⟨u,v,hTO⟩,h1,h2⟩:=st;exact⟨k _ (by simp) _ hz,k _ (by simp) _ hTI,⟨u,v,k _ (by simp) _ hTO⟩,h1.at fun o z=>k _ (by simp) o z,h2.at fun o z=>k _ (by simp) o z⟩
 item:=by
  intro X hP hw hK hc i pins s σ H E I hf st hg;subst hP hw hK;obtain⟨xs,ys,x,y,hq,hq',hx,hy⟩:=hg;obtain⟨its,rv,p,_⟩:=I.list hq;obtain⟨its',rv',p',_⟩:=I.list hq';obtain⟨u,hu,ru⟩:=rv.get hx;obtain⟨v,hv,rv2⟩:=rv'.get hy;obtain⟨hz,hTI,⟨u0,v0,hTO⟩,h1,h2⟩:=st;have A:=m7 hz hTO h1 h2 p.isList p'.isList;have lts:∀ c∈[b+4,b+3,b,b+1],c<s.heap.objs.size:=fun c hc=>by
   have:=Heap.lt_size hz;simp only[List.mem_cons,List.not_mem_nil,or_false] at hc;rcases hc with rfl | rfl | rfl | rfl
   .exact dH _ _ 4 this (by decide)
   .exact dH _ _ 3 this (by decide)
   .exact dH _ _ 0 this (by decide)
   .exact dH _ _ 1 this (by decide)
  have hf':∀ c∈[b+4,b+3,b,b+1],fQ X pins H c:=fun c hc=>hf c (by
   simp only[List.mem_cons,List.not_mem_nil,or_false] at hc ⊢;rcases hc with rfl | rfl | rfl | rfl<;>simp)
  refine wpAny_pyNext_zip_item A hz hTI hTO h1 h2 p.isList p'.isList (x:=u) (y:=v) (by simpa using hu) (by simpa using hv) fun h' a1 a2 a3 a4 a5 a6 hk=>?_
  have I2:Inv X pins σ (upd H s.heap.objs.size (.tup [x,y])) { s with heap:=h' } :=
   paired (t':=s.toks) (ch:=[b+4,b+3,b,b+1]) I ru rv2 a5 (fun c o hc q=>hk c o (fun z=>hc (by simp[z])) (fun z=>hc (by simp[z])) (fun z=>hc (by simp[z])) (fun z=>hc (by simp[z])) q) hf' lts
  have f2:∀ c∈[b+4,b+2,b+3,b,b+1],fQ X pins (upd H s.heap.objs.size (.tup [x,y])) c:=fun c hc=>by
   obtain⟨f0,f⟩:=hf c hc;have:=Heap.lt_size hz;have hlt:c<s.heap.objs.size:=by
    simp only[List.mem_cons,List.not_mem_nil,or_false] at hc;rcases hc with rfl | rfl | rfl | rfl | rfl
    .exact dH _ _ 4 this (by decide)
    .exact dH _ _ 2 this (by decide)
    .exact dH _ _ 3 this (by decide)
    .exact dH _ _ 0 this (by decide)
    .exact dH _ _ 1 this (by decide)
   exact⟨by rw[aJ (ax hlt)];exact f0,f⟩
  refine⟨_,rfl,wpAny_letOwnedTupleGo_zip (s:={ s with heap:=h' }) a1 fun h3 hz3 hs3=>?_⟩;refine⟨.ref s.heap.objs.size,_,eJ (t':=s.toks) (ch:=[b+4]) I2 (fun c o hc q=>hs3.extBut c o (fun z=>hc (by simp[z])) q) (fun c hc=>f2 c (by simp at hc;simp[hc])),rfl,
   ⟨_,x,y,rfl,I.fresh,fun zs hz=>by rw[I.list_inj hz hq];exact hx,fun zs hz=>by rw[I.list_inj hz hq'];exact hy,rfl⟩,
   ⟨hz3,hs3.extBut _ _ A.TIz (hk _ _ A.TIz A.TITO A.TIi1 A.TIi2 hTI),⟨_,_,hs3.extBut _ _ A.TOz a2⟩,a3.at fun o z=>hs3.extBut _ o A.i1z z,a4.at fun o z=>hs3.extBut _ o A.i2z z⟩,fun c hc=>(f2 c hc).1⟩
 done:=by
  intro X hP hw hK hc i pins s σ H E I hf st hg;subst hP hw hK;obtain⟨xs,ys,hq,hq',hx⟩:=hg;obtain⟨its,rv,p,_⟩:=I.list hq;obtain⟨its',rv',p',_⟩:=I.list hq';have hl:=rv.length;have hl':=rv'.length;obtain⟨hz,hTI,⟨u0,v0,hTO⟩,h1,h2⟩:=st;have A:=m7 hz hTO h1 h2 p.isList p'.isList;refine wpAny_pyNext_zip_end (I.ok.hd hc) A hz hTI hTO h1 h2 p.isList p'.isList ?_ fun h' hk=>⟨rfl,eJ (t':=s.toks) (ch:=[b+4,b+3,b,b+1]) I (fun c o hc q=>hk c o (fun z=>hc (by simp[z])) (fun z=>hc (by simp[z])) (fun z=>hc (by simp[z])) (fun z=>hc (by simp[z])) q) fun c hc=>hf c ?_⟩
  .rcases hx with hx | hx
   .left;simp;omega
   .right;simp;omega
  .simp only[List.mem_cons,List.not_mem_nil,or_false] at hc ⊢;rcases hc with rfl | rfl | rfl | rfl<;>simp
 self:=fun A i s Q E st h=>wpAny_pyIter_zip st.1 h
variable {q:Addr}
theorem xU {P:Addr->Prop}{us:List V}{es:List D}(h1:Rd H0 p (.lst vs))(h2:aG K H0 ds vs G)(h3:Rd H0 q (.lst us))(h4:aG K H0 es us G')(hp:∀ a∈(p::G)++(q::G'),P a) :
  fZ K P H0 (Itz K p q) ((ds.zip es).map fun z=>.tup [z.1,z.2]) ((p::G)++(q::G')):=fun H e=>by
 have ep:=e.keep p (hp p (by simp));have eq:=e.keep q (hp q (by simp));have h1':Rd H p (.lst vs):=by
  rcases h1 with q | ⟨o,q⟩
  .exact .inl (ep.trans q)
  .exact .inr ⟨o,ep.trans q⟩
 have h3':Rd H q (.lst us):=by
  rcases h3 with q | ⟨o,q⟩
  .exact .inl (eq.trans q)
  .exact .inr ⟨o,eq.trans q⟩
 have h2':=e.reps h2 fun a ha=>hp a (by simp[ha])
 have h4':=e.reps h4 fun a ha=>hp a (by simp[ha])
 refine⟨fun i d hd=>?_,⟨vs,us,.inl h1',.inl h3',?_⟩⟩
 .have hd:∃ d1 d2,ds[i]? = some d1/\es[i]? = some d2/\d = .tup [d1,d2]:=by
   rw[List.getElem?_map] at hd;rw[aa] at hd;obtain⟨⟨d1,d2⟩,hd,rfl⟩:=hd;rw[List.getElem?_zip_eq_some] at hd;exact⟨d1,d2,hd.1,hd.2,rfl⟩
  obtain⟨d1,d2,hd1,hd2,rfl⟩:=hd;obtain⟨v1,g1,a1,b1,c1⟩:=h2'.get hd1;obtain⟨v2,g2,a2,b2,c2⟩:=h4'.get hd2;refine⟨⟨vs,us,v1,v2,.inl h1',.inl h3',a1,a2⟩,fun x H' ⟨T,x',y',e1,e2,e3,e4,e5⟩=>?_⟩;subst e1 e5;have t1:=e3 vs (.inl h1');rw[a1] at t1;cases t1;have t2:=e4 us (.inl h3');rw[a2] at t2;cases t2;have sm:aI H (upd H T (.tup [v1,v2])):=aI.new e2;refine⟨sm,g1++(g2 ++ []),.tup (.inl aK) (.cons (b1.same sm) (.cons (b2.same sm) .nil)),fun z hz=>?_⟩;simp only[List.append_nil,List.mem_append] at hz;rcases hz with hz | hz
  .exact bf _ (ah _ (c1.subset hz))
  .exact ak _ (ah _ (c2.subset hz))
 .rw[ab,fu,h2.len,h4.len];omega
variable {H':Hp}{R:List Nat}
section
variable {X:Cx}{T:Tb}
theorem iB {l:List (D×Rt)}(ar:Args X.K env F H H' l vs G)(h:∀ q,q∈aP (l.map (·.2))->q∈R):bP env F H (.sh R) H' G where
 cont:=fun a ha=>(ar.cont a ha).imp id fun ⟨i,d,t,x,y,z⟩=>⟨i,d,t,x,y,fun q hq=>h q (z q hq)⟩
 mv:=fun R e=>by cases e
theorem vt {l:List D}(h:tF d=some l):d = .lst l:=by
 cases d<;>simp[tF] at h
 rw[h]
end
def tS (K:Frag)(T:Tb)(c:St):TS:=fun D σ H=>∃ P Z env F,RE K P env σ H F/\(∀ i,∀ a∈F i,Z a)/\(∀ a,¬ P a->Z a)/\post K P Z env F H D (aQ T c env)
def DQ (K:Frag)(T:Tb)(c:bW):TS:=fun D σ H=>∃ P Z env F,RE K P env σ H F/\(∀ i,∀ a∈F i,Z a)/\(∀ a,¬ P a->Z a)/\post K P Z env F H D (aE T c env)
section
variable {K:Frag}{P Z:Addr->Prop}{env:En}{σ:L2.St}{H:Hp}{F:Nat->List Addr}{D:Ends}
theorem cG {α:Type}{x:Rs α}{k:α->Fl}(h:post K P Z env F H D (fI env x k)):∃ a,x = .ok a/\post K P Z env F H D (k a):=by
 cases x with
 |ok a=>exact⟨a,rfl,h⟩
 |exc e=>exact h.elim
 |bad=>exact h.elim
theorem After.same (re:RE K P env σ H F)(hz:∀ i,∀ a∈F i,Z a)(e:aI H H'):After K P Z env F H env σ H' F:=⟨re.same e,hz,jN.of_same re.pl e,rW.refl _ _⟩
theorem DX (re:RE K P env σ H F)(hz:∀ i,∀ a∈F i,Z a)(zp:∀ a,¬ P a->Z a)(rt:bP env F H r H' G):∀ a∈G,Z a:=fun a ha=>by
 rcases rt.cont a ha with q | ⟨j,_,_,f,_⟩
 .exact zp a fun z=>re.pl a z q
 .exact hz j a f
end
variable {cb:bW}{iter:Expr}{mv:Bool}{pos':Pos}
section
variable {X:Cx}{T:Tb}{pos:Pos}{e:Expr}{c:Ex}
theorem zj:mY X [] (DQ X.K T .nil):=by
 refine t9 AQ fun D σ H ⟨P,Z,env,F,re,hz,zp,h⟩=>?_
 unfold aE at h;exact h σ H F (After.same re hz (aI.refl _))
theorem xO {st:Stmt}{rest:List Stmt}{cs:St}{cr:bW}(h1:PS X st (tS X.K T cs))(h2:mY X rest (DQ X.K T cr)):mY X (st::rest) (DQ X.K T (.cons cs cr)):=by
 refine t9 (xf h1 h2) fun D σ H ⟨P,Z,env,F,re,hz,zp,h⟩=>⟨P,Z,env,F,re,hz,zp,?_⟩
 unfold aE at h;cases hs:aQ T cs env with
 |nx env' =>
  rw[hs] at h;exact fun σ' H' F' af=>⟨P,Z,env',F',af.re,af.z,zp,post.trans af h⟩
 |bk env'=>rw[hs] at h;exact h
 |ct env'=>rw[hs] at h;exact h
 |rt d fr=>rw[hs] at h;exact h
 |xc e env'=>rw[hs] at h;exact h
 |bad=>rw[hs] at h;exact h
theorem zT:PS X (.Pass pos) (tS X.K T .pass):=by
 refine cT zA fun D σ H ⟨P,Z,env,F,re,hz,zp,h⟩=>?_
 unfold aQ at h;exact h σ H F (After.same re hz (aI.refl _))
theorem Du:PS X (.Expr (.Constant (.str x) j pos) pos') (tS X.K T .pass):=by
 refine cT Ce fun D σ H ⟨P,Z,env,F,re,hz,zp,h⟩=>?_
 unfold aQ at h;exact h σ H F (After.same re hz (aI.refl _))
theorem Ar:PS X (.Return none pos) (tS X.K T .retN):=by
 refine cT Bb fun D σ H ⟨P,Z,env,F,re,hz,zp,h⟩=>?_
 unfold aQ at h;exact h .non H [] .non (jN.refl _) (fun _ h=>(nomatch h)) fun _=>⟨bu,fun _ h=>(nomatch h)⟩
theorem Cw (he:PE X e (tE X.K T c)):PS X (.Return (some e) pos) (tS X.K T (.ret c)):=by
 refine cT (DC he) fun D σ H ⟨P,Z,env,F,re,hz,zp,h⟩=>?_
 unfold aQ at h;obtain⟨p,hp,h⟩:=cG h;refine⟨P,env,F,re,p,hp,fun v H' G s rp rt=>h v H' G rp (jN.of_same re.pl s) (DX re hz zp rt) fun fr=>?_⟩;cases hr:p.2 with
 |sh R=>rw[hr] at fr;cases fr
 |mv R =>
  rw[hr] at fr;obtain⟨a,b,d⟩:=rt.mv R hr;refine⟨a,fun x hx=>⟨fun z=>?_,b x hx⟩⟩;rcases d x hx with q | ⟨i,d2,t2,hi,f,e2,o2⟩
  .exact re.pl x z q
  .have:=cu.mp fr i hi;split at this
   .rename_i d' q;exact re.wr i d' q x f z
   .cases this
theorem Al (he:PE X e (tE X.K T c))(hs:swapsWith e none pos.line X.env=pure false):PS X (.Expr e pos) (tS X.K T (.expr c)):=by
 refine cT (kH he hs) fun D σ H ⟨P,Z,env,F,re,hz,zp,h⟩=>?_
 unfold aQ at h;obtain⟨p,hp,h⟩:=cG h;exact⟨P,env,F,re,p,hp,fun v H' G s rp rt=>h σ H' F (After.same re hz s)⟩
theorem CG {a b:List Stmt}{ca:bW}(hc:PT X e (nS X.K T c))(ha:mY X a (DQ X.K T ca))(hb:mY X b (DQ X.K T cb)):PS X (.If e a b pos) (tS X.K T (.ite c ca cb)):=by
 refine cT (EI hc ha hb) fun D σ H ⟨P,Z,env,F,re,hz,zp,h⟩=>?_
 unfold aQ at h;obtain⟨p,hp,h⟩:=cG h;cases ht:truth p.1 with
 |none=>rw[ht] at h;exact h.elim
 |some k =>
  rw[ht] at h;refine⟨P,env,F,re,p,k,hp,ht,fun H' s=>?_⟩;have af:=After.same (Z:=Z) re hz s;cases k with
  |true=>show if true=true then _ else _;rw[if_pos rfl];exact⟨P,Z,env,F,af.re,hz,zp,post.trans af h⟩
  |false=>show if false=true then _ else _;rw[if_neg az];exact⟨P,Z,env,F,af.re,hz,zp,post.trans af h⟩
theorem ym (hN:X.N.Nodup)(hi:X.N[i]? = some x)(hx:Loc X.env.scope x)(he:PE X e (tE X.K T c))(hs:swapsWith e (some (.Name x pos')) pos.line X.env=pure false)(hf:X.fn x=true\/X.env.scope.names.lookup x=some .local) :
  PS X (.Assign [.Name x pos'] e pos) (tS X.K T (.asg (.nm i) c mv)):=by
 refine cT (Ej hN hi hx he hs hf) fun D σ H ⟨P,Z,env,F,re,hz,zp,h⟩=>?_
 unfold aQ at h;obtain⟨p,hp,h⟩:=cG h;exact⟨P,env,F,re,p,hp,fun v H' G s rp rt=>vP re hz zp s rp rt h⟩
noncomputable def fW:List Nat->BE
 |[]=>GF
 |i::is=>B0 (mJ i) (fW is)
theorem jq:∀{is:List Nat}{vs:List V}{σ:L2.St}{H:Hp}{Q:L2.St->Hp->Prop},is.length=vs.length->Q (setM is vs σ) H->fW is vs σ H Q
 |[],[],_,_,_,_,q=>⟨rfl,q⟩
 |i::is,v::vs,σ,H,Q,hl,q=>⟨v,vs,rfl,jq (is:=is) (vs:=vs) (by simpa using hl) q⟩
 |[],_::_,_,_,_,hl,_=>by simp at hl
 |_::_,[],_,_,_,hl,_=>by simp at hl
theorem Bf {is:List Nat}(hg:PG X tg (yJ X.K is.length (fW is)))(he:PE X e (tE X.K T c))(hs:swapsWithSole [tg] e pos.line X.env=pure false)(hw:swappedStores [tg] e X.env=pure none)(h1:(assignEach [tg] X.env).map (·.2)=[assign tg X.env]) :
  PS X (.Assign [tg] e pos) (tS X.K T (.asg (.tp is) c mv)):=by
 refine cT (w6 he hg hs hw h1) fun D σ H ⟨P,Z,env,F,re,hz,zp,h⟩=>?_
 unfold aQ at h;obtain⟨p,hp,h⟩:=cG h;refine⟨P,env,F,re,p,hp,fun v H' G s rp rt=>?_⟩;have re':=re.same s;have ez:=DX re hz zp rt;have iS:=jN.of_same (P:=P) re.pl s;unfold vg at h;cases hd:p.1 with
 |tup ds =>
  rw[hd] at h rp;obtain⟨a,vs,rfl,a1,a2⟩:=rp.tup_inv;have fin:∀{o:Option En},post X.K P Z env F H D (Au o)->(∀ env',o=some env'->∃ F',RE X.K P env' (setM is vs σ) H' F'/\(∀ i,∀ a∈F' i,Z a)/\rW env F env' F'/\is.length=vs.length)->yJ X.K is.length (fW is) (.ref a) σ H' D.nx:=fun {o} h q=>by
   cases o with
   |none=>exact h.elim
   |some env' =>
    obtain⟨F',b1,b2,b3,b4⟩:=q env' rfl;exact⟨a,vs,rfl,a1,b4.symm,jq b4 (h _ H' F' ⟨b1,b2,iS,b3⟩)⟩
  have shared:post X.K P Z env F H D (if is.all (fun i=>!p.2.roots.contains i) then Au (bindM (fun d=>bJ d p.2.roots) is ds env) else .bad)->yJ X.K is.length (fW is) (.ref a) σ H' D.nx:=fun h=>by
   by_cases hc:is.all (fun i=>!p.2.roots.contains i)=true
   .rw[if_pos hc] at h;refine fin h fun env' he'=>lO re' hz a2 ez (fun x hx j d' t' ej o m=>?_) he'
    rcases rt.cont x hx with q | ⟨k,d2,t2,f,e2,sr⟩
    .exact absurd q (re.nn ej m)
    .exact sr j ((re.one j d' t' ej o).2.2 x m k d2 t2 e2 f)
   .rw[if_neg hc] at h;exact h.elim
  cases hr:p.2 with
  |sh R=>rw[hr] at h shared;exact shared h
  |mv R =>
   cases R with
   |cons r0 R0=>rw[hr] at h shared;exact shared h
   |nil =>
    rw[hr] at h;obtain⟨m1,m2,m3⟩:=rt.mv [] hr;have fresh:∀ a∈G,H a=none:=fun a ha=>by
     rcases m3 a ha with q | ⟨_,_,_,q,_⟩
     .exact q
     .cases q
    exact fin h fun env' he'=>m9 re' hz a2 m1 m2 (fun x hx z=>re.pl x z (fresh x hx)) ez (fun x hx j m=>by
     obtain⟨d2,t2,e2⟩:=re.at' m;exact re.nn e2 m (fresh x hx)) he'
 |_=>rw[hd] at h;exact h.elim
noncomputable def rf (K:Frag):kz->TG
 |.nm i=>mJ i
 |.tp is=>yJ K is.length (fW is)
theorem qf {P Z:Addr->Prop}{env':En}{σ:L2.St}{t:kz}{d:Pc.D}{Q:L2.St->Hp->Prop}(re:RE K P env σ H F)(hz:∀ i,∀ a∈F i,Z a)(rp:Rep K H d v G)(gz:∀ a∈G,Z a)
  (hs:∀ a∈G,∀(j:Nat) (d':Pc.D) (t':Tg),env[j]? = some (some (d',t'))->aZ t'=true->a∈F j->j∈R) (hb:aW R t d env=some env') (hQ:∀ σ' F',RE K P env' σ' H F'->(∀ i,∀ a∈F' i,Z a)->rW env F env' F'->Q σ' H):rf K t v σ H Q:=by
 cases t with
 |nm i =>
  simp only[aW] at hb;by_cases hi:i<env.length
  .rw[if_pos hi] at hb;cases hb;exact hQ _ _ (sJ re hi rp hs) (mU hz gz) (lX hi pF)
  .rw[if_neg hi] at hb;cases hb
 |tp is =>
  cases d with
  |tup ds =>
   simp only[aW] at hb;obtain⟨a,vs,rfl,a1,a2⟩:=rp.tup_inv;obtain⟨F',b1,b2,b3,b4⟩:=lO re hz a2 gz hs hb;exact⟨a,vs,rfl,a1,b4.symm,jq b4 (hQ _ F' b1 b2 b3)⟩
  |_=>cases hb
theorem jr {t:kz}{b:En->Fl}:∀(ds:List Pc.D) (env:En),(∀ e,bQ t R b ds env≠.bk e)/\∀ e,bQ t R b ds env≠.ct e
 |[],env=>⟨fun e z=>(by cases z),fun e z=>(by cases z)⟩
 | d::ds,env=>by
  unfold bQ;cases aW R t d env with
  |none=>exact⟨fun e z=>(by cases z),fun e z=>(by cases z)⟩
  |some env' =>
   simp only;cases b env' with
   |nx e'=>exact jr ds e'
   |ct e'=>exact jr ds e'
   |bk e'=>exact⟨fun e z=>(by cases z),fun e z=>(by cases z)⟩
   |rt d fr=>exact⟨fun e z=>(by cases z),fun e z=>(by cases z)⟩
   |xc x e'=>exact⟨fun e z=>(by cases z),fun e z=>(by cases z)⟩
   |bad=>exact⟨fun e z=>(by cases z),fun e z=>(by cases z)⟩
theorem CL {t:kz}{it:qM}{b:List Stmt}(hp:PassesOwn (model X.prog X.w) X.A X.env X.xe)(hc:X.calm=true)(hi:PI X tg iter (tI X.K T it))(hg:PG X tg (rf X.K t))(hb:mY X b (DQ X.K T cb))(hs:∀ x,foldedSetIterable iter X.env x=pure x) :
  PS X (.For tg iter b [] pos) (tS X.K T (.forr t it cb)):=by
 refine cT (CV hp hc hi hg hb hs) fun D σ H ⟨P,Z,env,F,re,hz,zp,h⟩=>?_
 unfold aQ at h;obtain⟨p,hp,h⟩:=cG h;refine⟨P,env,F,re,p,hp,fun J H1 G s1 rt nn wk=>?_⟩;have af1:=After.same (Z:=Z) re hz s1;have h:=post.trans af1 h;let P':Addr->Prop:=fun a=>P a\/a∈G
 have wk:=wk P' fun a ha=>.inr ha
 have seen:∀ a∈G,∀(i:Nat) (d:Pc.D) (t:Tg),env[i]? = some (some (d,t))->aZ t=true->a∈F i->i∈p.2:=fun a ha i d t e o m=>by
  rcases rt.cont a ha with q | ⟨k,d2,t2,f,e2,sr⟩
  .exact absurd q (re.nn e m)
  .exact sr i ((re.one i d t e o).2.2 a m k d2 t2 e2 f)
 have reL:RE X.K P' (lock p.2 env) σ H1 F:=af1.re.locked nn seen;have gz:∀ a∈G,Z a:=DX re hz zp rt;let E':Ends:={ D with nx:=fun σ' H'=>∀ env' F',After X.K P' Z (lock p.2 env) F H1 env' σ' H' F'->D.nx σ' H' };have stepP:∀{f:Fl},(∀ e,f≠.bk e)->(∀ e,f≠.ct e)->post X.K P Z env F H1 D (match f with | .nx e=>.nx (unlock p.2 env e) | x=>x)->post X.K P' Z (lock p.2 env) F H1 D f:=fun {f} nb nc h=>by
  cases f with
  |nx e=>exact fun σ' H' F' af=>h σ' H' F' (af.unlocked af1.re)
  |bk e=>exact absurd rfl (nb e)
  |ct e=>exact absurd rfl (nc e)
  |rt d fr=>exact fun v H' G' rp ev z f=>h v H' G' rp (ev.weak fun _ q=>.inl q) z fun w=>⟨(f w).1,fun a ha=>⟨fun q=>((f w).2 a ha).1 (.inl q),((f w).2 a ha).2⟩⟩
  |xc x e=>exact h
  |bad=>exact h
 have h:=stepP (jr _ _).1 (jr _ _).2 h;have zpL:∀ a,¬ P' a->Z a:=fun a ha=>zp a fun q=>ha (.inl q)
 refine⟨fun i m σ' H'=>m=p.1.length - i/\i<=p.1.length/\∃ env' F',After X.K P' Z (lock p.2 env) F H1 env' σ' H' F'/\post X.K P' Z env' F' H' D (bQ t p.2 (aE T cb) (p.1.drop i) env'),⟨p.1.length,by simp,Nat.zero_le _,lock p.2 env,F,After.same reL hz (aI.refl _),by simpa using h⟩,?_⟩;rintro i m σ2 H2 ⟨rfl,hi,env2,F2,af2,h2⟩;obtain⟨w1,w2⟩:=wk H2 af2.ev;by_cases hlt:i<p.1.length
 .right;have hd:p.1[i]? = some p.1[i]:=by simp[hlt]
  obtain⟨g1,g2⟩:=w1 i _ hd;refine⟨g1,fun σ' H'=>∃ env' F',After X.K P' Z (lock p.2 env) F H1 env' σ' H' F'/\post X.K P' Z env' F' H' D (bQ t p.2 (aE T cb) (p.1.drop (i+1)) env'),fun σ' H' q=>⟨p.1.length - (i+1),by omega,rfl,hlt,q⟩,fun x H3 y=>?_⟩;obtain⟨s3,G3,rp3,sub3⟩:=g2 x H3 y;have af3:=After.same (Z:=Z) af2.re af2.z s3;have h2:=post.trans af3 h2;rw[iq hlt] at h2;unfold bQ at h2;cases hb:aW p.2 t p.1[i] env2 with
  |none=>rw[hb] at h2;exact h2.elim
  |some env4 =>
   rw[hb] at h2;refine qf af3.re af2.z rp3 (fun a ha=>gz a (sub3 a ha)) (fun a ha j d' t' ej o m=>?_) hb fun σ4 F4 re4 z4 lk4=>?_
   .cases t' with
    |own=>exact absurd (.inr (sub3 a ha)) (af2.re.wr j d' ej a m)
    |lk =>
     obtain⟨e5,e6⟩:=af2.lk j d' ej;rw[e6] at m;obtain⟨t0,e0,o0,_⟩:=eY e5;exact seen a (sub3 a ha) j d' t0 e0 (o0.trans o) m
    |sh Q=>cases o
   .have af4:After X.K P' Z env2 F2 H3 env4 σ4 H3 F4:=⟨re4,z4,jN.refl _,lk4⟩;refine⟨P',Z,env4,F4,re4,z4,zpL,?_⟩;have h2:=post.trans af4 h2;have all:=(af2.trans af3).trans af4;cases hs:aE T cb env4 with
    |nx e'=>simp only[hs] at h2;exact fun σ' H' F' af5=>⟨e',F',all.trans af5,post.trans af5 h2⟩
    |ct e'=>simp only[hs] at h2;exact fun σ' H' F' af5=>⟨e',F',all.trans af5,post.trans af5 h2⟩
    |bk e'=>simp only[hs] at h2;exact h2
    |rt d fr=>simp only[hs] at h2;exact h2
    |xc x e'=>simp only[hs] at h2;exact h2
    |bad=>simp only[hs] at h2;exact h2
 .left;have e:i=p.1.length:=by omega
  subst e;rw[List.drop_length] at h2;exact⟨w2,h2 σ2 H2 F2 (After.same af2.re af2.z (aI.refl _))⟩
end
noncomputable def fP (cells:List (Str×Addr)):List (Str×NameKind)->List (Str×Addr)->List (Str×Addr)
 |[],acc=>acc
 | (n,k)::r,acc=>fP cells r (if k == .free then (match cells.lookup n with | some c=>(n,c)::acc | none=>acc) else acc)
variable {scope:Scope}
theorem r6 {env:Env}(h:∀ x,(x,NameKind.free)∈scope.names->∃ c,env.cells.lookup x=some c):closureFor scope env=pure (fP env.cells scope.names []):=by
 unfold closureFor;have gen:∀(names:List (Str×NameKind)) (acc:List (Str×Addr)),(∀ x,(x,NameKind.free)∈names->∃ c,env.cells.lookup x=some c) ->
   (forIn names acc fun (p:Str×NameKind) (cs:List (Str×Addr))=>(match p with
    | (name,kind)=>if (kind == .free)=true then (do let c <- cellOf env name;pure (ForInStep.yield ((name,c)::cs))) else pure (ForInStep.yield cs):Sem (ForInStep (List (Str×Addr)))))=(pure (fP env.cells names acc):Sem (List (Str×Addr))):=by
  intro names
  induction names with
  |nil=>intro acc _;rfl
  |cons x r ih =>
   intro acc hx;obtain⟨n,k⟩:=x;rw[List.forIn_cons];simp only[fP];have hr:∀ x,(x,NameKind.free)∈r->∃ c,env.cells.lookup x=some c:=fun x hm=>hx x (ah _ hm)
   by_cases hk:(k==NameKind.free)=true
   .have e:k = .free:=by simpa using hk
    subst e;obtain⟨c,hc⟩:=hx n ai;simp only[hk,if_true,cellOf,hc];exact ih ((n,c)::acc) hr
   .simp only[hk,if_false];exact ih acc hr
 have:=gen scope.names [] h;simpa using this
variable {cells:List (Str×Addr)}
theorem mS {c:Addr}:∀{names:List (Str×NameKind)}{acc:List (Str×Addr)},(∀ y d,acc.lookup y=some d->cells.lookup y=some d)->(fP cells names acc).lookup x=some c->cells.lookup x=some c
 |[],acc,ha,h=>ha x c h
 | (n,k)::r,acc,ha,h=>by
  simp only[fP] at h;refine mS (names:=r) (fun y d q=>?_) h;by_cases hk:(k==NameKind.free)=true
  .rw[if_pos hk] at q;cases hc:cells.lookup n with
   |none=>rw[hc] at q;exact ha y d q
   |some e =>
    rw[hc] at q;simp only[List.lookup_cons] at q;cases hy:y==n with
    |true =>
     rw[hy] at q;have:=eq_of_beq hy;subst this;rw[hc];exact q
    |false=>rw[hy] at q;exact ha y d q
  .rw[if_neg hk] at q;exact ha y d q
theorem nO:∀{names:List (Str×NameKind)}{acc:List (Str×Addr)},(∃ c,acc.lookup x=some c)->∃ c,(fP cells names acc).lookup x=some c
 |[],acc,h=>h
 | (n,k)::r,acc,h=>by
  simp only[fP];refine nO (names:=r) ?_;by_cases hk:(k==NameKind.free)=true
  .rw[if_pos hk];cases hc:cells.lookup n with
   |none=>exact h
   |some e =>
    simp only[List.lookup_cons];cases hy:x==n with
    |true=>exact⟨e,rfl⟩
    |false=>exact h
  .rw[if_neg hk];exact h
theorem lL {c:Addr}(hc:cells.lookup x=some c):∀{names:List (Str×NameKind)}{acc:List (Str×Addr)},(x,NameKind.free)∈names->∃ c,(fP cells names acc).lookup x=some c
 |[],acc,h=>by cases h
 | (n,k)::r,acc,h=>by
  simp only[fP];rcases cg.mp h with e | h
  .cases e;refine nO (names:=r) ?_;simp only[beq_self_eq_true,if_true,hc,List.lookup_cons];exact⟨c,rfl⟩
  .exact lL hc (names:=r) h
noncomputable def inner (X:Cx)(scope:Scope)(N':List Str)(C:Addr)(s0:Shared)(H0:Hp)(ex:List Addr):Cx :=
 { X with N:=N',s₀:=s0,H₀:=H0,env:=compEnvC scope (cellsFrom (C+1) scope.names (fP X.env.cells scope.names [])) C X.env,outer:=X.stack,stack:=X.stack,ex:=ex,fn:=fun x=>scope.names.lookup x==some .cell,pn:=[],xe:=fun _ _=>False }
structure dR (X:Cx)(scope:Scope)(N':List Str)(pick:List (Option Nat)):Prop where
 kind:scope.kind = .function
 cells:∀ y∈scope.names,y.2 = .cell->scope.names.lookup y.1=some .cell
 names:∀ y∈scope.names,y.2 = .local->scope.names.lookup y.1=some .local
 len:pick.length=N'.length
 outer:∀ x,scope.names.lookup x=some .free->(X.env.kindOf x=some .cell\/X.env.kindOf x=some .free)
 free:∀ x,(x,NameKind.free)∈scope.names->scope.names.lookup x=some .free
 pick:∀(i j:Nat) (x:Str),pick[i]? = some (some j)->N'[i]? = some x->scope.names.lookup x=some .free/\X.N[j]? = some x
noncomputable def fB (σ:L2.St)(pick:List (Option Nat)):L2.St:=pick.map fun o=>o.bind fun j=>(σ[j]?).join
theorem eL {env:Env}:∀{names:List (Str×NameKind)}{x:Str}{k:NameKind},(names.map fun (n,k)=>if (k==NameKind.free&&env.scope.kind == .function&&env.kindOf n==some .cell) then (n,NameKind.cell) else (n,k)).lookup x=some k ->
  ∃ k0,names.lookup x=some k0/\(k=k0\/(k0 = .free/\k = .cell))
 |[],_,_,h=>by simp at h
 | (n,k0)::r,x,k,h=>by
  rw[ao] at h;by_cases hc:(k0==NameKind.free&&env.scope.kind == .function&&env.kindOf n==some .cell)=true
  .simp only[hc,if_true,List.lookup_cons] at h;simp only[List.lookup_cons];cases hx:x==n with
   |true =>
    rw[hx] at h;cases h;rw[ag,ag] at hc;exact⟨k0,rfl,.inr ⟨by simpa using hc.1.1,rfl⟩⟩
   |false=>rw[hx] at h;exact eL h
  .have hc:(k0==NameKind.free&&env.scope.kind == .function&&env.kindOf n==some .cell)=false:=by simpa using hc
   simp only[hc,Bool.false_eq_true,if_false,List.lookup_cons] at h;simp only[List.lookup_cons];cases hx:x==n with
   |true=>rw[hx] at h;cases h;exact⟨k0,rfl,.inl rfl⟩
   |false=>rw[hx] at h;exact eL h
theorem eP {env:Env}:∀{names:List (Str×NameKind)}{x:Str},names.lookup x=some .free ->
  (names.map fun (n,k)=>if (k==NameKind.free&&env.scope.kind == .function&&env.kindOf n==some .cell) then (n,NameKind.cell) else (n,k)).lookup x=some .cell \/
  (names.map fun (n,k)=>if (k==NameKind.free&&env.scope.kind == .function&&env.kindOf n==some .cell) then (n,NameKind.cell) else (n,k)).lookup x=some .free
 |[],_,h=>by simp at h
 | (n,k0)::r,x,h=>by
  rw[ao];by_cases hc:(k0==NameKind.free&&env.scope.kind == .function&&env.kindOf n==some .cell)=true
  .simp only[hc,if_true,List.lookup_cons] at h ⊢;cases hx:x==n with
   |true=>left;rfl
   |false=>rw[hx] at h;exact eP h
  .have hc:(k0==NameKind.free&&env.scope.kind == .function&&env.kindOf n==some .cell)=false:=by simpa using hc
   simp only[hc,Bool.false_eq_true,if_false,List.lookup_cons] at h ⊢;cases hx:x==n with
   |true=>rw[hx] at h;cases h;right;rfl
   |false=>rw[hx] at h;exact eP h
theorem fS:∀(names:List (Str×NameKind)) (n:Nat) (acc:List (Str×Addr)),cellsFrom n names acc=cellsFrom n names []++acc
 |[],_,_=>rfl
 | (nm,k)::r,n,acc=>by
  unfold cellsFrom;split
  .rw[fS r (n+1) ((nm,n)::acc),fS r (n+1) [(nm,n)],dh];rfl
  .exact fS r n acc
theorem sj:∀(names:List (Str×NameKind)) (n:Nat) {x:Str}{c:Addr},(x,c)∈cellsFrom n names []->(x,NameKind.cell)∈names
 |[],_,_,_,h=>by cases h
 | (nm,k)::r,n,x,c,h=>by
  unfold cellsFrom at h;split at h
  .rename_i hk;rw[fS] at h;rcases ig.mp h with h | h
   .exact ah _ (sj r _ h)
   .have e:(x,c)=(nm,n):=by simpa using h
    cases e;rw[show k = .cell by simpa using hk];exact ai
  .exact ah _ (sj r _ h)
theorem n8:∀(names:List (Str×NameKind)) (n:Nat) {x:Str},(x,NameKind.cell)∈names->∃ c,(cellsFrom n names []).lookup x=some c
 | (nm,k)::r,n,x,h=>by
  unfold cellsFrom;rcases cg.mp h with e | h
  .cases e;rw[if_pos (by decide),fS,gj];cases (cellsFrom (n+1) r []).lookup nm with
   |some c=>exact⟨c,rfl⟩
   |none=>exact⟨n,by simp⟩
  .split
   .obtain⟨c,hc⟩:=n8 r (n+1) h;rw[fS,gj,hc];exact⟨c,rfl⟩
   .exact n8 r n h
theorem nfe {M:Model}{E:Value->Shared->Prop}{globals:Addr}{cl:List (Str×Addr)}{qual:Str}{env:Env}{Q:Env->Shared->Prop}
  (h:Q { scope:=scope,locals:=s.heap.objs.size,globals:=globals,cells:=cellsFrom (s.heap.objs.size+1) scope.names cl,qual:=qual,func:=none,code:=env.code,frame:=env.frame,builtins:=env.builtins } { s with heap:=pushCells (s.heap.push { cls:=.type "dict",data:=.dict #[] }) scope.names }) :
  wpAny M A (newFunctionEnv scope globals cl [] qual none .none (some env)) Q E s:=by
 simp only[newFunctionEnv,Option.isSome_some,if_true];refine wpAny_bind (wpAny_alloc (wpAny_bind (wpAny_layCells _ (fun name kind cells=>by cases hkc:kind==NameKind.cell<;>simp[hkc]) _ _ _ _ ?_)));rw[show ({ s with heap:=s.heap.push { cls:=.type "dict",data:=.dict #[] } }:Shared).heap.objs.size=s.heap.objs.size+1 from Heap.size_push ..];exact wpAny_pure h
variable {fp:List Addr}
section
variable {X:Cx}{scope:Scope}{N':List Str}{pick:List (Option Nat)}{pins:List (Addr×Obj)}{σ:L2.St}{H:Hp}{s:Shared}
theorem pC (S:dR X scope N' pick)(I:Inv X pins σ H s)(hf:∀ b∈fp,fQ X pins H b)(hl:∀ b∈fp,b<s.heap.objs.size) :
  Inv (inner X scope N' s.heap.objs.size s H fp) [] (fB σ pick) H { s with heap:=pushCells (s.heap.push { cls:=.type "dict",data:=.dict #[] }) scope.names }:=by
 have old:∀ x c,(fP X.env.cells scope.names []).lookup x=some c->X.env.cells.lookup x=some c:=fun x c h=>mS (acc:=[]) (fun y d q=>by simp at q) h
 have hk:∀ b o,s.heap.get? b=some o->(pushCells (s.heap.push { cls:=.type "dict",data:=.dict #[] }) scope.names).get? b=some o:=fun b o e=>pushCells_keeps _ _ b o (Heap.get?_push_of_some _ e)
 have hn:(pushCells (s.heap.push { cls:=.type "dict",data:=.dict #[] }) scope.names).Ns s.heap.objs.size (fun _=>none):=(Heap.Ns.new s.heap (.type "dict")).keeps (pushCells_keeps _ _);have ok:=cellsFrom_ok scope.names (s.heap.push { cls:=.type "dict",data:=.dict #[] }) (s.heap.objs.size+1) [] ⟨fun _ _ hm=>(nomatch hm),List.Pairwise.nil⟩ (by rw[Heap.size_push];exact au _);rw[Heap.size_push] at ok;generalize hh:pushCells (s.heap.push { cls:=.type "dict",data:=.dict #[] }) scope.names=h' at *;have oldlt:∀ x c,X.env.cells.lookup x=some c->c<s.heap.objs.size:=fun x c h=>by
  obtain⟨v,hv⟩:=I.cell x c h;exact hv.lt
 have look:∀ x c,(cellsFrom (s.heap.objs.size+1) scope.names (fP X.env.cells scope.names [])).lookup x=some c->((x,c)∈cellsFrom (s.heap.objs.size+1) scope.names []/\s.heap.objs.size+1<=c)\/((x,NameKind.cell)∉scope.names/\X.env.cells.lookup x=some c):=fun x c h=>by
  rw[fS,gj] at h;cases q:(cellsFrom (s.heap.objs.size+1) scope.names []).lookup x with
  |some c' =>
   rw[q] at h;cases h;have hm:=cm q;exact .inl ⟨hm,(ok.empty _ _ hm).2⟩
  |none =>
   rw[q] at h;refine .inr ⟨fun z=>?_,old x c h⟩;obtain⟨c',hc'⟩:=n8 scope.names (s.heap.objs.size+1) z;rw[q] at hc';cases hc'
 have sees:∀ x c,scope.names.lookup x=some .free->(fP X.env.cells scope.names []).lookup x=some c->(cellsFrom (s.heap.objs.size+1) scope.names (fP X.env.cells scope.names [])).lookup x=some c:=fun x c hx h=>by
  rw[fS,gj];cases q:(cellsFrom (s.heap.objs.size+1) scope.names []).lookup x with
  |some c' =>
   have:=S.cells _ (sj _ _ (cm q)) rfl;rw[hx] at this;cases this
  |none=>rw[h];rfl
 refine⟨⟨I.ok.mod,S.kind,I.ok.glob,I.ok.blt,au _,fun x y c h1 h2=>?inj,fun x hx=>?_,fun x c hx h=>?cab,I.ok.hd,I.ok.frames,.inl rfl,fun b hb=>?_,I.bs,br I.ok.bsz I.sz,fun b o e hb=>?_,fun b hb hb'=>?_,I.stack,I.stkFree⟩,
  rfl,I.bare,Un.kept hk,⟨_,hn,fun i x v h1 h2 h3=>?_⟩,fun x c h=>?_,I.hok.fresh (Nat.le_refl _),fun x c h=>?frc,fun p hp=>absurd (show p∈([]:List (Addr×Obj)) from hp) (by simp),I.hok.kept hk,?_⟩
 case inj =>
  rcases look x c h1 with ⟨m1,l1⟩ | ⟨_,o1⟩<;>rcases look y c h2 with ⟨m2,l2⟩ | ⟨_,o2⟩
  .exact name_of_addr ok.apart m1 m2
  .exact absurd (be (oldlt y c o2) (iu l1)) (du _)
  .exact absurd (be (oldlt x c o1) (iu l2)) (du _)
  .exact I.ok.inj x y c o1 o2
 case cab =>
  have hx:scope.names.lookup x=some .cell:=by simpa[inner] using hx
  rcases look x c h with ⟨_,l1⟩ | ⟨n1,_⟩
  .exact br (Nat.le_succ _) l1
  .exact absurd (cm hx) n1
 case frc =>
  rcases look x c h with ⟨_,l1⟩ | ⟨_,o1⟩
  .exact I.hok.fresh (br (Nat.le_succ _) l1)
  .exact I.freeC x c o1
 .have hx:(relabel scope X.env).names.lookup x=some .cell\/(relabel scope X.env).names.lookup x=some .free:=hx;have hfree:scope.names.lookup x=some .free\/scope.names.lookup x=some .cell:=by
   rcases hx with hx | hx
   .obtain⟨k0,h1,h2 | ⟨h2,_⟩⟩:=eL hx
    .subst h2;exact .inr h1
    .rw[h2] at h1;exact .inl h1
   .obtain⟨k0,h1,h2 | ⟨h2,h3⟩⟩:=eL hx
    .subst h2;exact .inl h1
    .cases h3
  rcases hfree with hfree | hfree
  .obtain⟨c,hc⟩:=I.ok.has x (S.outer x hfree);obtain⟨c',hc'⟩:=lL (acc:=[]) hc (cm hfree);exact⟨c',sees x c' hfree hc'⟩
  .obtain⟨c,hc⟩:=n8 scope.names (s.heap.objs.size+1) (cm hfree);refine⟨c,?_⟩;show (cellsFrom (s.heap.objs.size+1) scope.names (fP X.env.cells scope.names [])).lookup x=some c;rw[fS,gj,hc];rfl
 .refine⟨ax (hl b hb),fun x c h=>?_⟩;rcases look x c h with ⟨_,l1⟩ | ⟨_,o1⟩
  .exact fun e=>du _ (be (hl b hb) (e ▸ iu l1))
  .exact (hf b hb).2.2.2.2.1 x c o1
 .obtain⟨f0,f1,f2,f3,f4,f5⟩:=hf b hb;rcases f3 with f3 | f3
  .exact I.ok.noex b o e f3
  .exact absurd (be (Heap.lt_size e) (br I.ok.bsz f3)) (du _)
 .obtain⟨f0,f1,f2,f3,f4,f5⟩:=hf b hb;exact (cg.mp (I.stkSub b hb')).elim f1 f2
 ·
  have h2':(pick.map fun o=>o.bind fun j=>(σ[j]?).join)[i]? = some (some v):=h2;rw[List.getElem?_map] at h2';cases hp:pick[i]? with
  |none=>rw[hp] at h2';cases h2'
  |some o =>
   rw[hp] at h2';cases o with
   |none=>simp at h2'
   |some j =>
    simp only[Option.map_some,Option.bind_some,Option.some.injEq] at h2';have hj:σ[j]? = some (some v):=by
     cases q:σ[j]? with
     |none=>rw[q] at h2';cases h2'
     |some o=>rw[q] at h2';cases o with
      |none=>cases h2'
      |some w=>simp at h2';rw[h2']
    obtain⟨k1,k2⟩:=S.pick i j x hp h1;obtain⟨m0,hn0,hl0⟩:=I.loc;have vis:B2 X.env.scope x:=by
     rcases S.outer x k1 with q | q
     .exact .inr (.inl q)
     .exact .inr (.inr q)
    obtain⟨u,r,lk⟩:=hl0 j x v k2 hj vis;refine⟨u,r,?_⟩;rcases lk with ⟨z,_⟩ | ⟨_,c,hc,hcell⟩
    .rcases S.outer x k1 with q | q<;>· rw[z] at q;cases q
    .obtain⟨c',hc'⟩:=lL (names:=scope.names) (acc:=[]) hc (cm k1);have:=old x c' hc';rw[hc] at this;cases this;refine .inr ⟨eP k1,c,sees x c k1 hc',?_⟩;obtain⟨o,ho,hd⟩:=hcell;exact⟨o,hk c o ho,hd⟩
 .rcases look x c h with ⟨m1,_⟩ | ⟨_,o1⟩
  .exact⟨none,(ok.empty _ _ m1).1⟩
  .obtain⟨v,o,ho,hd⟩:=I.cell x c o1;exact⟨v,o,hk c o ho,hd⟩
 .show (pick.map _).length=N'.length;rw[ab,S.len]
end
noncomputable abbrev sR (ifs:List Expr)(env:Env):Sem Bool:=forIn ifs true fun c r=>if r=true then do let ok <- isTrue c env (eval c env);pure (ForInStep.yield ok) else pure (ForInStep.yield r)
noncomputable def Ep (X:Cx)(ifs:List Expr)(t:TT):Prop :=
 ∀(pins:List (Addr×Obj)) (s:Shared) (σ:L2.St) (H:Hp) (Q:Bool->Hp->Prop),Inv X pins σ H s->t σ H Q->wpAny (model X.prog X.w) X.A (sR ifs X.env) (TP X pins σ Q) X.xe s
variable {X:Cx}
theorem AA:Ep X [] (fun _ H Q=>Q true H):=fun _ _ _ H Q I h=>wpAny_tests_nil ⟨H,I,h⟩
theorem AF {c:Expr}{t:TT}(h:PT X c t):Ep X [c] t:=fun pins s σ H Q I q=>wpAny_tests_one (h pins s σ H Q I q)
section
variable {prog:Program}{w:World}{A:Around}{R:Result->Shared->Prop}{s:Shared}
theorem pd {elt target:Expr}{ifs:List Expr}{it acc:Value}{env:Env}(I:Nat->Shared->Prop)
  (turn:∀ n s,I n s->wpAny (model prog w) A (pyNext it) (fun r s₁=>match r with
   |none=>R (.ok .next) s₁
   |some v=>wpAny (model prog w) A (letOwnedTupleGo target it v) (fun _ s₀=>wpAny (model prog w) A (assign target env v) (fun _ s₂ =>
     wpAny (model prog w) A (sR ifs env) (fun ok s₃ =>
      if ok=true then wpAny (model prog w) A (eval elt env) (fun x s₄ =>
       wpAny (model prog w) A (call (.builtin "list.append") [acc,x]) (fun _ s₅=>∃ m,m<n/\I m s₅) (fun _ _=>False) s₄) (fun _ _=>False) s₃
      else ∃ m,m<n/\I m s₃) (fun _ _=>False) s₂) (fun _ _=>False) s₀) (fun _ _=>False) s₁) (fun _ _=>False) s)
  (n:Nat) (h:I n s):codeAny (model prog w) A (.compLoop (.ListComp elt [⟨target,iter,ifs,0⟩] scope pos) 0 it acc env) R s:=by
 refine codeAny_loop rfl I (fun n s hI=>?_) n h;show wpAny _ A ((compTurn (.ListComp elt [⟨target,iter,ifs,0⟩] scope pos) 0 it acc env).onRaise (fun x=>do noteFrame x env;theTreesLotGoes x)) _ _ s;refine wpAny_noted ?_;rw[compTurn_list];refine wpAny_bind (wpAny_standAt (wpAny_bind (wpAny_mono (turn n s hI) (fun r s₁ h₁=>?_) fun _ _ h'=>h'.elim)));cases r with
 |none=>exact wpAny_pure h₁
 |some v =>
  refine wpAny_bind (wpAny_mono h₁ (fun _ s₀ h₀=>?_) fun _ _ h'=>h'.elim);refine wpAny_bind (wpAny_mono h₀ (fun _ s₂ h₂=>wpAny_bind (wpAny_mono h₂ (fun ok s₃ h₃=>?_) fun _ _ h'=>h'.elim)) fun _ _ h'=>h'.elim);cases ok with
  |false=>exact wpAny_pure ⟨rfl,h₃⟩
  |true =>
   exact wpAny_bind (wpAny_bind (wpAny_mono h₃ (fun x s₄ h₄=>wpAny_bind (wpAny_mono h₄ (fun _ s₅ h₅=>wpAny_pure (wpAny_pure ⟨rfl,h₅⟩)) fun _ _ h'=>h'.elim)) fun _ _ h'=>h'.elim))
end
def vW (pick:List (Option Nat))(wi:TI)(g:TG)(tt:TT)(te:TE):TE:=fun σ H Q=>wi σ H fun J H1=>∀ l,H1 l=none->∃ W:Nat->Nat->Hp->Prop,(∃ m,W 0 m (upd H1 l (.lst [])))/\∀ i m H,W i m H ->
 (J.stop i H/\Q (.ref l) H)\/(J.go i H/\∃ N:Hp->Prop,(∀ H',N H'->∃ m',m'<m/\W (i+1) m' H')/\∀ x H',J.yld i H x H'->g x (fB σ pick) H' fun σ2 H2 =>
  tt σ2 H2 fun b H3=>if b=true then te σ2 H3 fun y H4=>∃ xs,H4 l=some (.lst xs)/\xs.length<sizeLine/\N (upd H4 l (.lst (xs ++ [y]))) else N H3)
section
variable {X:Cx}{scope:Scope}{N':List Str}{pick:List (Option Nat)}{tg iter elt:Expr}{ifs:List Expr}{pos:Pos}{wi:TI}{g:TG}{tt:TT}{te:TE}
theorem lA (S:dR X scope N' pick)(hc:X.calm=true)(hin:∀ C s0 H0 ex,PG (inner X scope N' C s0 H0 ex) tg g/\Ep (inner X scope N' C s0 H0 ex) ifs tt/\PE (inner X scope N' C s0 H0 ex) elt te)
  (gk:∀(v:V) (σ:L2.St) (H:Hp) (Q:L2.St->Hp->Prop),g v σ H Q->g v σ H fun σ' H'=>Q σ' H'/\σ'.length=σ.length/\∀(i:Nat) u,pick[i]?≠some none->σ[i]? = some u->σ'[i]? = some u)
  {σ:L2.St}{tn:Nat->Heap->Prop}{J:It}{E:Value->Shared->Prop}{RR:Value->Addr->Result->Shared->Prop}(I:Inv X pins σ H s) (T:Turn X.prog X.w X.K tg J fp it tn) (st:tn 0 s.heap) (hf:∀ b∈fp,fQ X pins H b)
  (Q:VK) (h:∀ l,H l=none->∃ W:Nat->Nat->Hp->Prop,(∃ m,W 0 m (upd H l (.lst [])))/\∀ i m H,W i m H ->
   (J.stop i H/\Q (.ref l) H)\/(J.go i H/\∃ N:Hp->Prop,(∀ H',N H'->∃ m',m'<m/\W (i+1) m' H')/\∀ x H',J.yld i H x H'->g x (fB σ pick) H' fun σ2 H2 =>
    tt σ2 H2 fun b H3=>if b=true then te σ2 H3 fun y H4=>∃ xs,H4 l=some (.lst xs)/\xs.length<sizeLine/\N (upd H4 l (.lst (xs ++ [y]))) else N H3))
  (hR:∀(l C:Addr) (s':Shared) (H':Hp) (m:Str->Option Value),s'.heap.Ns C m->fQ X pins H' C->Q (.ref l) H'->Inv X pins σ H' s'->RR (.ref l) C (.ok .next) s') :
  wpAny (model X.prog X.w) X.A (newList []) (fun acc s₃=>wpAny (model X.prog X.w) X.A (newFunctionEnv scope X.env.globals (fP X.env.cells scope.names []) [] X.env.qual none .none (some X.env)) (fun cenv s₄ =>
   codeAny (model X.prog X.w) X.A (.compStart (.ListComp elt [⟨tg,iter,ifs,0⟩] scope pos) 0 (.ref it) acc { cenv with scope:=relabel scope X.env }) (RR acc cenv.locals) s₄) E s₃) E s:=by
 have hltI:∀ b∈fp,b<s.heap.objs.size:=fun b hb=>let ⟨o,e,_⟩:=T.obj 0 _ st b hb;Heap.lt_size e
 refine wpAny_newObj_type (nfe ?_);dsimp only;have I3:Inv X pins σ (upd H s.heap.objs.size (.lst [])) { s with heap:=s.heap.push { cls:=.type "list",data:=.seq ([]:List Value).toArray } }:=I.lnew (ys:=[]) (its:=[]) (t':=s.toks) .nil (dg _);obtain⟨W,⟨m0,w0⟩,turn⟩:=h s.heap.objs.size I.fresh;have hC:(s.heap.push { cls:=.type "list",dict:=none,data:=.seq ([]:List Value).toArray }).objs.size=s.heap.objs.size+1:=Heap.size_push ..;have hf3:∀ b∈fp,fQ X pins (upd H s.heap.objs.size (.lst [])) b:=fun b hb=>⟨by rw[aJ (ax (hltI b hb))];exact (hf b hb).1,(hf b hb).2⟩
 have keep3:∀ b o,(s.heap.push { cls:=.type "list",dict:=none,data:=.seq ([]:List Value).toArray }).get? b=some o->(pushCells ((s.heap.push { cls:=.type "list",dict:=none,data:=.seq ([]:List Value).toArray }).push { cls:=.type "dict",data:=.dict #[] }) scope.names).get? b=some o:=fun b o e=>pushCells_keeps _ _ b o (Heap.get?_push_of_some _ e)
 have I4:=pC (s:={ s with heap:=s.heap.push { cls:=.type "list",dict:=none,data:=.seq ([]:List Value).toArray } }) S I3 hf3 (fun b hb=>by show b<(s.heap.push _).objs.size;rw[hC];exact dn (hltI b hb));dsimp only at I4;generalize hh₁:pushCells ((s.heap.push { cls:=.type "list",dict:=none,data:=.seq ([]:List Value).toArray }).push { cls:=.type "dict",data:=.dict #[] }) scope.names=h₁ at *;have st4:tn 0 h₁:=T.keep 0 _ _ st fun b hb o e=>keep3 b o (Heap.get?_push_of_some _ e)
 generalize hY:inner X scope N' (s.heap.push { cls:=.type "list",dict:=none,data:=.seq ([]:List Value).toArray }).objs.size { s with heap:=s.heap.push { cls:=.type "list",dict:=none,data:=.seq ([]:List Value).toArray } } (upd H s.heap.objs.size (.lst [])) fp=Y at I4;have hYin:=hin (s.heap.push { cls:=.type "list",dict:=none,data:=.seq ([]:List Value).toArray }).objs.size { s with heap:=s.heap.push { cls:=.type "list",dict:=none,data:=.seq ([]:List Value).toArray } } (upd H s.heap.objs.size (.lst [])) fp;rw[hY] at hYin;obtain⟨yg,yt,ye⟩:=hYin;have yE:Y.env=compEnvC scope (cellsFrom ((s.heap.push { cls:=.type "list",dict:=none,data:=.seq ([]:List Value).toArray }).objs.size+1) scope.names (fP X.env.cells scope.names [])) (s.heap.push { cls:=.type "list",dict:=none,data:=.seq ([]:List Value).toArray }).objs.size X.env:=by rw[<-hY];rfl
 have hCL:(s.heap.push { cls:=.type "list",dict:=none,data:=.seq ([]:List Value).toArray }).objs.size≠X.env.locals:=by
  rw[hC];exact gp (dn I.lt)
 have back:∀{H5:Hp}{s5:Shared},Inv Y [] (fB σ pick) H5 s5->Q (.ref s.heap.objs.size) H5->RR (.ref s.heap.objs.size) (s.heap.push { cls:=.type "list",dict:=none,data:=.seq ([]:List Value).toArray }).objs.size (.ok .next) s5:=fun {H5 s5} I5 q=>by
  subst hY;obtain⟨m,hn,_⟩:=I5.loc;have J5:Inv X pins σ H5 s5:=Inv.call' I3 I5.os I5.base I5.hok I5.bare fun b hb=>by
   obtain⟨f0,f1,f2,f3,f4,f5⟩:=hf b hb;exact⟨f3,f1,f4,f5⟩
  have lt3:∀{b:Addr}{o:Obj},s.heap.get? b=some o->b≠(s.heap.push { cls:=.type "list",dict:=none,data:=.seq ([]:List Value).toArray }).objs.size:=fun e=>by rw[hC];exact ax (dn (Heap.lt_size e))
  refine hR _ _ s5 H5 m hn ⟨I5.free,hCL,I.nofs (by rw[hC];exact Nat.le_succ _),.inr (by rw[hC];exact Nat.le_succ_of_le I.sz),fun x c e z=>?_,fun p hp z=>?_⟩ q J5
  .obtain⟨v,o,ho,_⟩:=I.cell x c e;exact lt3 ho z
  .exact lt3 (I.pin p hp).1 z
 have yP:Y.prog=X.prog:=by rw[<-hY];rfl
 have yw:Y.w=X.w:=by rw[<-hY];rfl
 have yK:Y.K=X.K:=by rw[<-hY];rfl
 have yA:Y.A=X.A:=by rw[<-hY];rfl
 have yc:Y.calm=true:=by rw[<-hY];exact hc
 have yx:Y.xe=fun _ _=>False:=by rw[<-hY];rfl
 have yp:Y.pn=[]:=by rw[<-hY];rfl
 have yex:Y.ex=fp:=by rw[<-hY];rfl
 have stat:∀{H':Hp},(∀ b∈fp,H' b=none)->∀ b∈fp,fQ Y [] H' b:=fun {H'} hn b hb=>by
  have hb':b∈Y.ex:=by rw[yex];exact hb
  obtain⟨x1,x2⟩:=I4.ok.exf b hb';exact⟨hn b hb,x1,I4.ok.exfs b hb',.inl hb',x2,fun p hp=>by rw[yp] at hp;cases hp⟩
 rw[<-yP,<-yw,<-yA];have loop:codeAny (model Y.prog Y.w) Y.A (.compLoop (.ListComp elt [⟨tg,iter,ifs,0⟩] scope pos) 0 (.ref it) (.ref s.heap.objs.size) Y.env) (RR (.ref s.heap.objs.size) (s.heap.push { cls:=.type "list",dict:=none,data:=.seq ([]:List Value).toArray }).objs.size) { s with heap:=h₁ }:=by
  refine pd (fun n s5=>∃ i H5,Inv Y [] (fB σ pick) H5 s5/\tn i s5.heap/\(∀ b∈fp,H5 b=none)/\W i n H5) ?_ m0 ⟨0,_,I4,st4,fun b hb=>(hf3 b hb).1,w0⟩;rintro n s5 ⟨i,H5,I5,st5,fr5,w5⟩;rcases turn i n H5 w5 with ⟨stop,qn⟩ | ⟨go,N,hN,step⟩
  .have d:=T.done Y yP yw yK yc i [] s5 (fB σ pick) H5 (fun _ _=>False) I5 (stat fr5) st5 stop;rw[<-yP,<-yw] at d;refine cH d fun r s6 ⟨hr,I6⟩=>?_
   subst hr;exact back I6 qn
  .have d:=T.item Y yP yw yK yc i [] s5 (fB σ pick) H5 (fun _ _=>False) I5 (stat fr5) st5 go;rw[<-yP,<-yw] at d;refine cH d fun r s6 ⟨u,hr,h6⟩=>?_
   subst hr;refine cH h6 fun _ s7 ⟨x,H7,I7,r7,y7,st7,fr7⟩=>?_
   have I7':=I7.pinned (stat fr7) (T.obj _ _ st7);have yg':=yg _ s7 (fB σ pick) H7 x u _ I7' r7 (gk _ _ _ _ (step x H7 y7));rw[yx] at yg';refine cH yg' fun _ s8 ⟨σ8,H8,I8,q8,l8,k8⟩=>?_
   have yt':=yt _ s8 σ8 H8 _ I8 q8;rw[yx] at yt';refine cH yt' fun b s9 ⟨H9,I9,q9⟩=>?_
   have again:∀{σ':L2.St}{H':Hp}{s':Shared},Inv Y ([]++lF fp s7.heap) σ' H' s'->σ'=σ8->N H'->∃ m,m<n/\∃ i H5,Inv Y [] (fB σ pick) H5 s'/\tn i s'.heap/\(∀ b∈fp,H5 b=none)/\W i m H5:=fun {σ' H' s'} J e nn=>by
    subst e;obtain⟨m',hm,w'⟩:=hN H' nn;refine⟨m',hm,i+1,H',(J.unpinned).weak (l8.symm) (fun j v e=>?_),T.keep _ _ _ st7 fun b hb o e=>(J.pin (b,o) (ak _ (ak _ (eW hb e)))).1,fun b hb=>?_,w'⟩
    .refine k8 j _ (fun z=>?_) e;unfold fB at e;rw[List.getElem?_map,z] at e;simp at e
    .obtain⟨o,e,_⟩:=T.obj _ _ st7 b hb;exact (J.pin (b,o) (ak _ (ak _ (eW hb e)))).2.1
   cases b with
   |false =>
    rw[if_neg az];exact again I9 rfl q9
   |true =>
    rw[if_pos rfl];have q9:te σ8 H9 fun y H4=>∃ xs,H4 s.heap.objs.size=some (.lst xs)/\xs.length<sizeLine/\N (upd H4 s.heap.objs.size (.lst (xs ++ [y]))):=q9
    have ye':=ye _ s9 σ8 H9 _ I9 q9;rw[yx] at ye';refine cH ye' fun v s10 ⟨y,H10,I10,r10,xs,e10,z10,n10⟩=>?_
    have ap:=nR _ s10 σ8 H10 (.ref s.heap.objs.size) [y] (.ref s.heap.objs.size) [v] (fun _ H'=>N H') I10 rfl (.cons r10 .nil) ⟨s.heap.objs.size,xs,y,rfl,rfl,e10,z10,n10⟩;rw[yx] at ap;exact cH ap fun _ s11 ⟨_,H11,I11,_,n11⟩=>again I11 rfl n11
 show codeAny (model Y.prog Y.w) Y.A (.compStart (.ListComp elt [⟨tg,iter,ifs,0⟩] scope pos) 0 (.ref it) (.ref s.heap.objs.size) (compEnvC scope (cellsFrom ((s.heap.push { cls:=.type "list",dict:=none,data:=.seq ([]:List Value).toArray }).objs.size+1) scope.names (fP X.env.cells scope.names [])) (s.heap.push { cls:=.type "list",dict:=none,data:=.seq ([]:List Value).toArray }).objs.size X.env))
  (RR (.ref s.heap.objs.size) (s.heap.push { cls:=.type "list",dict:=none,data:=.seq ([]:List Value).toArray }).objs.size) { s with heap:=h₁ }
 rw[<-yE];refine codeAny_compStart_list loop ?_;have l2:=loop;rw[yP,yw] at l2 ⊢;exact T.self Y.A 0 _ _ _ st4 l2
theorem fA (S:dR X scope N' pick)(hh:∀ x,(X.env.kindOf x=some .cell\/X.env.kindOf x=some .free)->∃ c,X.env.cells.lookup x=some c):closureFor scope X.env=pure (fP X.env.cells scope.names []) :=
 r6 fun x hx=>hh x (S.outer x (S.free x hx))
theorem zN (S:dR X scope N' pick)(hc:X.calm=true)(hi:PI X tg iter wi)(hin:∀ C s0 H0 ex,PG (inner X scope N' C s0 H0 ex) tg g/\Ep (inner X scope N' C s0 H0 ex) ifs tt/\PE (inner X scope N' C s0 H0 ex) elt te)
  (gk:∀(v:V) (σ:L2.St) (H:Hp) (Q:L2.St->Hp->Prop),g v σ H Q->g v σ H fun σ' H'=>Q σ' H'/\σ'.length=σ.length/\∀(i:Nat) u,pick[i]?≠some none->σ[i]? = some u->σ'[i]? = some u) (hs:∀ x,foldedSetIterable iter X.env x=pure x) :
  PE X (.ListComp elt [⟨tg,iter,ifs,0⟩] scope pos) (vW pick wi g tt te):=by
 intro pins s σ H Q I h;rw[eval_ListComp];refine wpAny_comprehension_free (use:=none) rfl hs (fA S I.ok.has) S.kind S.names (cH (hi pins s σ H _ I h) fun v s1 h1=>cH h1 fun itv s2 h2=>?_);obtain⟨it,fp,tn,J,H2,e,I2,T,st2,f2,q⟩:=h2;subst e;refine lA (RR:=fun acc C=>compPost (model X.prog X.w) X.A X.xe none (EP X pins σ Q) acc C) S hc hin gk I2 T st2 f2 Q q fun l C s' H' m hn fc hq J0=>?_
 obtain⟨f0,f1,f2,f3,f4,f5⟩:=fc;exact⟨m,hn,fun h' sb=>⟨.ref l,H',J0.turned (t':=s'.toks) (fun b o hb e=>sb.extBut b o hb e) f0 f1 f3 f4 f5,rfl,hq⟩⟩
theorem qX {spos:Pos}(S:dR X scope N' pick)(hc:X.calm=true)(hi:PI X tg iter wi)(hin:∀ C s0 H0 ex,PG (inner X scope N' C s0 H0 ex) tg g/\Ep (inner X scope N' C s0 H0 ex) ifs tt/\PE (inner X scope N' C s0 H0 ex) elt te)
  (gk:∀(v:V) (σ:L2.St) (H:Hp) (Q:L2.St->Hp->Prop),g v σ H Q->g v σ H fun σ' H'=>Q σ' H'/\σ'.length=σ.length/\∀(i:Nat) u,pick[i]?≠some none->σ[i]? = some u->σ'[i]? = some u) (hs:∀ x,foldedSetIterable iter X.env x=pure x)
  (hN:X.N.Nodup) (hx:X.N[i]? = some x) (hl:Loc X.env.scope x) (hf:X.fn x=true\/X.env.scope.names.lookup x=some .local) (hsw:swapsWith (.ListComp elt [⟨tg,iter,ifs,0⟩] scope pos) (some (.Name x pos')) spos.line X.env=pure true) :
  PS X (.Assign [.Name x pos'] (.ListComp elt [⟨tg,iter,ifs,0⟩] scope pos) spos) (A9 (vW pick wi g tt te) (mJ i)):=by
 intro pins s σ H D I h;rw[exec_Assign_Name_used _ _ _ _ hsw];refine wpAny_bind (wpAny_standAt (wpAny_bind ?_));show wpAny _ X.A (do let _ <- comprehension (.ListComp elt [⟨tg,iter,ifs,0⟩] scope pos) scope X.env _ (newList []) false (eval iter X.env) (some (assign (.Name x pos') X.env))) _ _ s;refine wpAny_bind (wpAny_mono (wpAny_comprehension_free (use:=some (assign (.Name x pos') X.env)) (Q:=fun _ s'=>SP X pins D .next s') rfl hs (fA S I.ok.has) S.kind S.names
  (cH (hi pins s σ H _ I h) fun v s1 h1=>cH h1 fun itv s2 h2=>?_)) (fun _ s' hq=>wpAny_pure (wpAny_pure hq)) fun _ _ e=>e)
 obtain⟨it,fp,tn,J,H2,e,I2,T,st2,f2,q⟩:=h2;subst e;refine lA (RR:=fun acc C=>compPost (model X.prog X.w) X.A X.xe (some (assign (.Name x pos') X.env)) (fun _ s'=>SP X pins D .next s') acc C) S hc hin gk I2 T st2 f2 (fun x H1=>mJ i x σ H1 D.nx) q fun l C s' H' m hn fc hq J0=>?_
 obtain⟨o,es,ep,ho,hd,hr⟩:=id hn;have J1:=J0.pinned (fp:=[C]) (fun b hb=>by rw[gh.mp hb];exact fc) fun b hb=>by rw[gh.mp hb];exact⟨o,ho,fun v z=>by rw[hd] at z;cases z⟩
 show wpAny (model X.prog X.w) X.A (assign (.Name x pos') X.env (.ref l)) _ _ s';refine wpAny_assign_Name (kS J1 hN hx hl (v:=.ref l) rfl (fun s2 I2=>?_) hf);have hC2:=(I2.pin (C,o) (List.mem_append_right _ (List.mem_append_right _ (eW (by simp) ho)))).1;obtain⟨f0,f1,f2,f3,f4,f5⟩:=fc;refine⟨m,⟨o,es,ep,hC2,hd,hr⟩,fun h' sb=>?_⟩;exact⟨_,H',I2.unpinned.turned (t':=s2.toks) (fun b o hb e=>sb.extBut b o hb e) f0 f1 f3 f4 f5,hq⟩
end
noncomputable def dW (own:Nat)(pick:List Nat):List (Option Nat):=List.replicate own none++pick.map some
theorem oq (σ:L2.St)(pk:List (Option Nat)):(fB σ pk).length=pk.length:=by simp[fB]
theorem mz (env:En)(own:Nat)(pick:List Nat):(bM env own pick).length=own+pick.length:=by simp[bM]
noncomputable def mW (F:Nat->List Addr)(env:En)(own:Nat)(pick:List Nat):Nat->List Addr:=fun i=>match (bM env own pick)[i]? with
 | some (some _)=>match pick[i - own]? with
  |some j=>F j
  |none=>[]
 |_=>[]
variable {own:Nat}{pick:List Nat}
theorem eS {d:D}{t:Tg}(h:(bM env own pick)[i]? = some (some (d,t))):t = .sh []/\own<=i/\∃ j t0,pick[i - own]? = some j/\env[j]? = some (some (d,t0)):=by
 unfold bM at h;by_cases hi:i<own
 .rw[List.getElem?_append_left (by simpa using hi),List.getElem?_replicate] at h;split at h<;>cases h
 .have hi:own<=i:=iz hi;rw[List.getElem?_append_right (by simpa using hi),List.length_replicate,List.getElem?_map] at h;cases hp:pick[i - own]? with
  |none=>rw[hp] at h;cases h
  |some j =>
   rw[hp] at h;simp only[Option.map_some,Option.some.injEq] at h;split at h
   .rename_i d0 t0 q;cases h;exact⟨rfl,hi,j,t0,rfl,q⟩
   .cases h
section
variable {K:Frag}{P:Addr->Prop}{env:En}{σ:L2.St}{H:Hp}{F:Nat->List Addr}
theorem RE.picked (re:RE K P env σ H F)(own:Nat)(pick:List Nat):RE K (fun _=>False) (bM env own pick) (fB σ (dW own pick)) H (mW F env own pick) where
 len:=by rw[mz,oq];simp[dW]
 val:=fun i d t h=>by
  obtain⟨rfl,hi,j,t0,hp,he⟩:=eS h;obtain⟨v,e,r⟩:=re.val j d t0 he;refine⟨v,?_,?_⟩
  .unfold fB dW;rw[List.getElem?_map,List.getElem?_append_right (by simpa using hi),List.length_replicate,List.getElem?_map,hp];simp[e]
  .unfold mW;rw[h,hp];exact r
 emp:=fun i h=>by
  unfold mW;split
  .rename_i p q;exact absurd q (h p.1 p.2)
  .rfl
 one:=fun i d t h o=>by
  obtain⟨rfl,_⟩:=eS h;cases o
 wr:=fun i d h=>by
  obtain⟨q,_⟩:=eS h;cases q
 pl:=fun _ h=>h.elim
theorem vA (re:RE K P env σ H F)(h:a∈mW F env own pick i):∃ j∈pick,∃ d t,a∈F j/\env[j]? = some (some (d,t)):=by
 unfold mW at h;split at h
 .rename_i p q;obtain⟨_,hi,j,t0,hp,he⟩:=eS (d:=p.1) (t:=p.2) q;rw[hp] at h;exact⟨j,List.mem_of_getElem? hp,p.1,t0,h,he⟩
 .cases h
end
noncomputable def D4 (K:Frag)(T:Tb):lH->TT
 |.none=>fun _ H Q=>Q true H
 |.some c=>nS K T c
section
variable {X:Cx}{T:Tb}{scope:Scope}{N':List Str}{own:Nat}{pick:List Nat}{t:kz}{it:qM}{c:lH}{e:Ex}
theorem C3 {σ:L2.St}{Q:Bool->Hp->Prop}{P:Addr->Prop}{k:Bool}(re:RE X.K P env σ H F)(hk:lr T c env = .ok k)(q:∀ H',aI H H'->Q k H'):D4 X.K T c σ H Q:=by
 cases c with
 |none =>
  unfold lr at hk;cases hk;exact q H (aI.refl _)
 |some c =>
  unfold lr at hk;obtain⟨p,h1,h2⟩:=Rs.bind_ok hk;exact⟨P,env,F,re,p,k,h1,cF h2,q⟩
theorem mN {σ:L2.St}(h:tE X.K T (.comp own pick t it c e) σ H Q):vW (dW own pick) (tI X.K T it) (rf X.K t) (D4 X.K T c) (tE X.K T e) σ H Q:=by
 obtain⟨P,env,F,re,p0,hev,k⟩:=h;unfold ev at hev;obtain⟨p,h1,hev⟩:=Rs.bind_ok hev;obtain⟨tot,h2,hev⟩:=Rs.bind_ok hev;have hlim:p.1.length<=lim:=Decidable.byContradiction fun hn=>by rw[if_neg hn] at hev;cases hev
 rw[if_pos hlim] at hev;cases hev;refine⟨P,env,F,re,p,h1,fun J H1 Gs s1 rt nn wk l hl=>?_⟩;have re1:=re.same s1;have wk:=wk (fun a=>a∈Gs) fun a ha=>ha
 let S0:Addr->Prop:=fun a=>a∈Gs\/∃ j∈pick,∃ d t,a∈F j/\env[j]? = some (some (d,t))
 have S0n:∀ a,S0 a->H1 a≠none:=fun a ha=>by
  rcases ha with ha | ⟨j,_,d,t,m,ej⟩
  .exact nn a ha
  .exact re1.nn ej m
 have lS:¬ S0 l:=fun z=>S0n l z hl
 refine⟨fun i m H2=>m=p.1.length - i/\i<=p.1.length/\∃(acc rest:List (D×Rt)) (vs:List V) (G:List Addr),dP (fun d=>bB (aW [] t d (bM env own pick)) (lr T c) (ev T e)) (p.1.drop i) = .ok rest/\tot=acc++rest/\acc.length<=i/\H2 l=some (.lst vs)/\aG X.K H2 (acc.map (·.1)) vs G/\aI H1 H2/\l∉G /\
  (∀ a∈G,H1 a=none\/S0 a)/\(acc.all (fun q=>q.1.flat || eK q.2)=true->G.Nodup/\∀ a∈G,H1 a=none/\∃ ws:ML,H2 a=some ws.o),?_,?_⟩
 .refine⟨p.1.length,by simp,Nat.zero_le _,[],tot,[],[],by simpa using h2,rfl,Nat.le_refl _,aK,.nil,aI.new hl,by simp,fun _ h=>(nomatch h),fun _=>⟨List.nodup_nil,fun _ h=>(nomatch h)⟩⟩
 .rintro i m H2 ⟨rfl,hi,acc,rest,vs,G,hgo,htot,hacc,hl2,rs,s2,hlG,hG,hfr⟩;obtain⟨w1,w2⟩:=wk H2 (jN.of_same (fun a ha=>nn a ha) s2);by_cases hlt:i<p.1.length
  .right;have hd:p.1[i]? = some p.1[i]:=by simp[hlt]
   obtain⟨g1,g2⟩:=w1 i _ hd;refine⟨g1,fun H3=>i+1<=p.1.length/\∃(acc rest:List (D×Rt)) (vs:List V) (G:List Addr),dP (fun d=>bB (aW [] t d (bM env own pick)) (lr T c) (ev T e)) (p.1.drop (i+1)) = .ok rest/\tot=acc++rest/\acc.length<=i+1/\H3 l=some (.lst vs)/\aG X.K H3 (acc.map (·.1)) vs G/\aI H1 H3/\l∉G /\
    (∀ a∈G,H1 a=none\/S0 a)/\(acc.all (fun q=>q.1.flat || eK q.2)=true->G.Nodup/\∀ a∈G,H1 a=none/\∃ ws:ML,H3 a=some ws.o),fun H3 q=>⟨p.1.length - (i+1),by omega,rfl,q⟩,fun x H3 y=>?_⟩
   obtain⟨s3,G3,rp3,sub3⟩:=g2 x H3 y;rw[iq hlt] at hgo;unfold dP at hgo;obtain⟨o,hstep,hgo⟩:=Rs.bind_ok hgo;obtain⟨rest',hrest,hgo⟩:=Rs.bind_ok hgo;cases hb:aW [] t p.1[i] (bM env own pick) with
   |none=>rw[hb] at hstep;cases hstep
   |some env4 =>
    rw[hb] at hstep;unfold bB at hstep;obtain⟨kc,hkc,hstep⟩:=Rs.bind_ok hstep;have rep:=(re1.same (s2.trans s3)).picked own pick;let Z:Addr->Prop:=fun a=>S0 a
    have zF:∀ i,∀ a∈mW F env own pick i,Z a:=fun i a ha=>by
     obtain⟨j,hj,d,t,m,ej⟩:=vA (re1.same (s2.trans s3)) ha;exact .inr ⟨j,hj,d,t,m,ej⟩
    refine qf (Z:=Z) rep zF rp3 (fun a ha=>.inl (sub3 a ha)) (fun a ha j d' t' ej o m=>?_) hb fun σ4 F4 re4 z4 _=>?_
    .obtain⟨rfl,_⟩:=eS ej;cases o
    .refine C3 re4 hkc fun H5 s5=>?_
     have base5:=s2.trans (s3.trans s5);have l5:H5 l=some (.lst vs):=s5 _ _ (s3 _ _ hl2);cases kc with
     |false =>
      show if false=true then _ else _
      rw[if_neg az];simp only[Bool.false_eq_true,if_false] at hstep;cases hstep;cases hgo;refine⟨hlt,acc,rest',vs,G,hrest,htot,Nat.le_succ_of_le hacc,l5,rs.same (s3.trans s5),base5,hlG,hG,fun f=>?_⟩;obtain⟨n1,n2⟩:=hfr f;exact⟨n1,fun a ha=>⟨(n2 a ha).1,let ⟨ws,q⟩:=(n2 a ha).2;⟨ws,s5 _ _ (s3 _ _ q)⟩⟩⟩
     |true =>
      show if true=true then _ else _
      rw[if_pos rfl];simp only[if_true] at hstep;obtain⟨q,hq,hstep⟩:=Rs.bind_ok hstep;cases hstep;cases hgo;refine⟨_,env4,F4,re4.same s5,q,hq,fun yv H6 Gy s6 rpy rty=>?_⟩;have l6:H6 l=some (.lst vs):=s6 _ _ l5;have base6:=base5.trans s6;have old6:=s3.trans (s5.trans s6);have yS:∀ a∈Gy,H5 a=none\/S0 a:=fun a ha=>(rty.cont a ha).imp id fun ⟨i,d,t,m,_⟩=>z4 i a m
      have ly:l∉Gy:=fun z=>by
       rcases yS l z with q | q
       .rw[l5] at q;cases q
       .exact lS q
      have len6:vs.length=acc.length:=by have:=rs.len;rw[ab] at this;exact this.symm
      refine⟨vs,l6,Nat.lt_of_le_of_lt (Nat.le_trans (Nat.le_of_eq len6) (Nat.le_trans hacc (Nat.le_of_lt (Nat.lt_of_lt_of_le hlt hlim)))) (by decide),hlt,acc ++ [q],rest',vs ++ [yv],G++(Gy ++ []),hrest,by rw[htot];simp,by simp;exact hacc,aK,?_,?_,?_,?_,?_⟩
      .rw[bz];exact (aG.append (rs.same old6) (.cons rpy .nil)).upd l6 (by simp;exact⟨hlG,ly⟩)
      .intro b o e;rw[aJ (fun z=>by subst z;rw[hl] at e;cases e)];exact base6 _ _ e
      .simp;exact⟨hlG,ly⟩
      .intro a ha;rw[aw] at ha;rcases ig.mp ha with ha | ha
       .exact hG a ha
       .exact (yS a ha).imp (aI.no base5) id
      .intro f;rw[List.all_append,ag] at f;obtain⟨n1,n2⟩:=hfr f.1;have fy:Gy.Nodup/\∀ a∈Gy,H5 a=none/\∃ ws:ML,H6 a=some ws.o:=by
        have f2:q.1.flat=true\/eK q.2=true:=by simpa using f.2
        rcases f2 with f2 | f2
        .rw[rpy.flat f2];exact⟨bu,fun _ h=>(nomatch h)⟩
        .have:q.2 = .mv []:=by
          cases hr:q.2 with
          |sh R=>rw[hr] at f2;cases f2
          |mv R=>cases R with
           |nil=>rfl
           |cons a b=>rw[hr] at f2;cases f2
         obtain⟨m1,m2,m3⟩:=rty.mv [] this;refine⟨m1,fun a ha=>⟨?_,m2 a ha⟩⟩;rcases m3 a ha with z | ⟨_,_,_,z,_⟩
         .exact z
         .cases z
       rw[aw];refine⟨ef.mpr ⟨n1,fy.1,fun a ha b hb z=>?_⟩,fun a ha=>?_⟩
       .subst z;obtain⟨_,ws,w⟩:=n2 a ha;have:=s5 _ _ (s3 _ _ w);rw[(fy.2 a hb).1] at this;cases this
       .have ne:a≠l:=fun z=>by
         subst z;rcases ig.mp ha with ha | ha
         .exact hlG ha
         .exact ly ha
        rcases ig.mp ha with ha | ha
        .obtain⟨u1,ws,w⟩:=n2 a ha;exact⟨u1,ws,by rw[aJ ne];exact old6 _ _ w⟩
        .obtain⟨u1,ws,w⟩:=fy.2 a ha;exact⟨aI.no base5 u1,ws,by rw[aJ ne];exact w⟩
  .left;have ei:i=p.1.length:=by omega
   subst ei;refine⟨w2,?_⟩;rw[List.drop_length] at hgo;unfold dP at hgo;cases hgo;rw[aw] at htot;subst htot;refine k _ H2 (l::G) (s1.trans s2) (.lst (.inl hl2) rs) ?_;have hl0:=aI.no s1 hl;cases hf:tot.all (fun q=>q.1.flat || eK q.2) with
   |true =>
    obtain⟨n1,n2⟩:=hfr hf;have new:∀ a∈l::G,H a=none:=fun a ha=>by
     rcases cg.mp ha with rfl | ha
     .exact hl0
     .exact aI.no s1 (n2 a ha).1
    refine⟨fun a ha=>.inl (new a ha),fun R e=>⟨List.nodup_cons.mpr ⟨hlG,n1⟩,fun a ha=>?_,fun a ha=>.inl (new a ha)⟩⟩;rcases cg.mp ha with rfl | ha
    .exact⟨.l _,hl2⟩
    .exact (n2 a ha).2
   |false =>
    refine⟨fun a ha=>?_,fun R e=>by cases e⟩;rcases cg.mp ha with rfl | ha
    .exact .inl hl0
    .rcases hG a ha with q | q | ⟨j,hj,d,t,m,ej⟩
     .exact .inl (aI.no s1 q)
     .exact (rt.cont a q).imp id fun ⟨i,d,t,x,y,z⟩=>⟨i,d,t,x,y,fun r hr=>bf _ (z r hr)⟩
     .refine .inr ⟨j,d,t,m,ej,fun r hr=>ak _ ?_⟩;unfold mC;rw[List.mem_flatten];exact⟨aY j t,List.mem_map.mpr ⟨j,hj,by rw[ej]⟩,hr⟩
theorem mE {t:kz}{pk:List (Option Nat)}(ht:∀ i,(t = .nm i\/∃ is,t = .tp is/\i∈is)->pk[i]? = some none)(v:V)(σ:L2.St)(H:Hp)(Q:L2.St->Hp->Prop)(h:rf K t v σ H Q) :
  rf K t v σ H fun σ' H'=>Q σ' H'/\σ'.length=σ.length/\∀(i:Nat) u,pk[i]?≠some none->σ[i]? = some u->σ'[i]? = some u:=by
 cases t with
 |nm i=>exact⟨h,by simp,fun j u hj e=>by rw[List.getElem?_set_ne];exact e;rintro rfl;exact hj (ht i (.inl rfl))⟩
 |tp is =>
  obtain⟨a,xs,e1,e2,e3,h⟩:=h;refine⟨a,xs,e1,e2,e3,?_⟩;have gen:∀(is:List Nat) (xs:List V) (σ1:L2.St),(∀ i∈is,pk[i]? = some none)->σ1.length=σ.length->(∀(i:Nat) u,pk[i]?≠some none->σ[i]? = some u->σ1[i]? = some u)->fW is xs σ1 H Q->fW is xs σ1 H fun σ' H'=>Q σ' H'/\σ'.length=σ.length/\∀(i:Nat) u,pk[i]?≠some none->σ[i]? = some u->σ'[i]? = some u:=by
   intro is
   induction is with
   |nil=>intro xs σ1 _ hl hk h;exact⟨h.1,h.2,hl,hk⟩
   |cons j js ih =>
    intro xs σ1 hi hl hk h;obtain⟨v,r,e,h⟩:=h;refine⟨v,r,e,ih r (σ1.set j (some v)) (fun i hm=>hi i (List.mem_cons_of_mem _ hm)) (by simp[hl]) (fun i u hi' e'=>?_) h⟩;rw[List.getElem?_set_ne];exact hk i u hi' e';rintro rfl;exact hi' (hi j ai)
  exact gen is xs σ (fun i hm=>ht i (.inr ⟨is,rfl,hm⟩)) rfl (fun _ _ _ e=>e) h
end
def km (K:Frag)(T:Tb)(x:Nat)(path:lH):TE:=fun σ H Q=>∃ P env F po v p,RE K P env σ H F/\iS T path env = .ok po/\σ[x]? = some (some v)/\PV K H v po p/\∀ H',aI H H'->Q (.ref p) H'
section
variable {X:Cx}{T:Tb}{pos:Pos}{i:Nat}{x:Str}
theorem CA (hN:X.N[i]? = some x)(hv:B2 X.env.scope x)(hd:(x==("__debug__" : Str))=false) (hcd:(x==("__classdict__" : Str))=false):PE X (.Name x pos) (km X.K T i .none):=by
 refine bG (rX hN hv hd hcd) fun σ H Q ⟨P,env,F,po,v,p,re,hpo,hv,pv,k⟩=>?_
 unfold iS at hpo;cases hpo;cases pv;exact⟨_,hv,k H (aI.refl _)⟩
theorem Ac (hN:X.N[i]? = some x)(hv:B2 X.env.scope x)(hd:(x==("__debug__" : Str))=false) (hcd:(x==("__classdict__" : Str))=false) (he:PE X e (tE X.K T c)) (hs:kJ e):PE X (.Subscript (.Name x pos') e pos) (km X.K T i (.some c)):=by
 refine bG (BY (uj.or yQ) (rX hN hv hd hcd) he hs) fun σ H Q ⟨P,env,F,po,v,p,re,hpo,hv,pv,k⟩=>?_
 unfold iS at hpo;obtain⟨q,h1,hpo⟩:=Rs.bind_ok hpo;cases hq:q.1 with
 |int j =>
  rw[hq] at hpo;cases hpo;refine⟨v,hv,P,env,F,re,q,h1,fun w H1 G s rpi rti=>?_⟩;rw[hq] at rpi;obtain⟨rfl,_⟩:=rpi.int_inv;cases pv with
  |item h hj e =>
   rename_i r ws n;have hat:Av ws j=some (.ref p):=by
    unfold Av;rw[<-yh,hj];exact e
   rcases h with h | h
   .exact .inl ⟨r,ws,j,.ref p,rfl,rfl,.inl (aI.rd s h),hat,k H1 s⟩
   .exact .inr ⟨r,ws,j,.ref p,rfl,rfl,aI.sqT s h,hat,k H1 s⟩
 |_=>rw[hq] at hpo;cases hpo
end
def vm (K:Frag)(m:o9):V->List V->Hp->VK->Prop:=fun x vs H Q=>∃ l ws xs ds Gx G ys,x = .ref l/\H l=some (.lst ws)/\aG K H xs ws Gx/\aG K H ds vs G/\xj m xs ds=some ys/\ys.length<=lim/\l∉Gx/\l∉G/\Gx.Nodup /\
 ∀ us Gy v,aG K (upd H l (.lst us)) ys us Gy->(∀ a∈Gy,a∈Gx\/(m.copies=false/\a∈G))->((∀ a∈Gx,a∉G)->G.Nodup\/m.copies=true->Gy.Nodup)->Q v (upd H l (.lst us))
variable {T:Tb}{path:lH}
section
variable {X:Cx}
def yO:V->List V->Hp->VK->Prop:=fun x vs H Q=>∃ l b xs zs,x = .ref l/\vs=[.ref b]/\H l=some (.lst xs)/\Rd H b (.lst zs)/\xs.length+zs.length<=sizeLine/\Q .non (upd H l (.lst (xs++zs)))
theorem rJ:MtM X "list.extend" yO:=by
 intro pins s σ H x vs v us Q I rx rv h;obtain⟨l,b,xs,zs,rfl,rfl,hH,hB,hz,q⟩:=h;cases rx;obtain⟨u,rfl,ru⟩:=rv.one;cases ru;obtain⟨z,its,n,r,hl,e⟩:=I.lstM hH;obtain⟨z2,its2,n2,r2,hl2,e2⟩:=Inv.lstR I hB;have hsz:its.toArray.size+its2.toArray.size<=sizeLine:=by rw[aj,aj];omega
 have hlong:¬ (!its.toArray.isEmpty&&Builtin.List.listTooLong (its.toArray.size+its2.toArray.size))=true:=by
  rw[pW hsz,Bool.and_false];exact az
 refine call_meets F.slot_list_extend ⟨_,e,rfl⟩ F.entry_list_extend (F.args_list_extend_2 _ _)
  (AutoSeq1.list_extend_list_list_0 l its.toArray n b its2.toArray n2 hlong (by rw[aj];omega) (by omega)) ⟨e,e2,?_⟩
 refine⟨.non,_,I.lset (its':=its++its2) hH e (by simp) (r.append r2) ?_,rfl,q⟩;rw[aq];omega
theorem r9:MtM X "list.append" (vm X.K .append):=by
 intro pins s σ H x vs v us Q I rx rv h;obtain⟨l,ws,xs,ds,Gx,G,ys,rfl,hl,r1,r2,hm,hlen,n1,n2,nd,k⟩:=h
 match ds,hm with
 |[d],hm =>
  cases hm;obtain⟨y,rfl,rp⟩:=r2.of1;refine nR pins s σ H _ _ v us Q I rx rv ⟨l,ws,y,rfl,rfl,hl,?_,k (ws ++ [y]) (Gx++(G ++ [])) _ ?_ (fun a ha=>?_) fun dj o=>?_⟩
  .rw[<-r1.len];simp only[List.length_append,List.length_singleton] at hlen;exact be (be (gu _) hlen) oO
  .exact (r1.append (.cons rp .nil)).upd hl (by simp;exact⟨n1,n2⟩)
  .simp at ha;exact ha.imp id fun z=>⟨rfl,z⟩
  .rcases o with o | o
   .rw[aw];exact ef.mpr ⟨nd,o,fun a ha b hb z=>by subst z;exact dj a ha hb⟩
   .cases o
theorem sd:MtM X "list.extend" (vm X.K .extend):=by
 intro pins s σ H x vs v us Q I rx rv h;obtain⟨l,ws,xs,ds,Gx,G,ys,rfl,hl,r1,r2,hm,hlen,n1,n2,nd,k⟩:=h
 match ds,hm with
 |[.lst zs],hm =>
  have hm:(if D.flats zs then some (xs++zs) else none)=some ys:=hm;by_cases hf:D.flats zs=true
  .rw[if_pos hf] at hm;cases hm;obtain⟨y,rfl,rp⟩:=r2.of1;obtain⟨b,wz,gz,rfl,rfl,a1,a2⟩:=rp.lst_inv;have eg:gz=[]:=a2.flat hf;subst eg;refine rJ pins s σ H _ _ v us Q I rx rv ⟨l,b,ws,wz,rfl,rfl,hl,a1,?_,k (ws++wz) (Gx ++ []) _ ?_ (fun a ha=>?_) fun _ _=>?_⟩
   .rw[<-r1.len,<-a2.len];simp only[List.length_append] at hlen;exact br hlen oO
   .exact (r1.append a2).upd hl (by simp;exact n1)
   .simp at ha;exact .inl ha
   .rw[aw];exact nd
  .rw[if_neg hf] at hm;cases hm
theorem lY {m:o9}{D:Ends}{σ:L2.St}(h:tS X.K T (.mut i path m cs) D σ H):yB (tBM X.K "list" (vm X.K m) (km X.K T i path) (uo X.K T cs)) D σ H:=by
 obtain⟨P,Z,env,F,re,hz,zp,h⟩:=h;unfold aQ at h;cases hx:ownAt env i with
 |none=>rw[hx] at h;exact h.elim
 |some d =>
  rw[hx] at h;obtain⟨po,hpo,h⟩:=cG h;cases hat:d.at1 po with
  |none=>rw[hat] at h;exact h.elim
  |some xs =>
   rw[hat] at h;obtain⟨l,hl,h⟩:=cG h;cases hm:xj m xs (l.map (·.1)) with
   |none=>rw[hm] at h;exact h.elim
   |some ys =>
    rw[hm] at h;have hx':=eT hx;obtain⟨v,hv,_⟩:=re.val i d .own hx';obtain⟨p,pv,f⟩:=mP re hx hv hat;refine⟨P,env,F,po,v,p,re,hpo,hv,pv,fun H1 s1=>?_⟩;obtain⟨ws1,g1,e1,_⟩:=f H1 s1;refine⟨.inl ⟨rfl,ws1,.inl (.inl e1)⟩,P,env,F,re.same s1,l,hl,fun vs H2 G ar=>?_⟩;have s2:=s1.trans ar.same;obtain⟨ws,Gx,a1,a2,a3,a4,a5,a6,fs⟩:=f H2 s2;by_cases hroot:(aP (l.map (·.2))).contains i=true
    .simp only[hroot,if_true] at h;exact h.elim
    simp only[hroot,if_false] at h;have disj:∀ a∈F i,a∉G:=fun a ha hg=>by
     rcases ar.cont a hg with q | ⟨j,d2,t2,m2,e2,sr⟩
     .exact (re.same s1).nn hx' ha q
     .exact hroot (by simpa using sr i ((re.one i d .own hx' rfl).2.2 a ha j d2 t2 e2 m2))
    have nG:=disj p a3;refine⟨p,ws,xs,l.map (·.1),Gx,G,ys,rfl,a1,a2,ar.reps,hm,uB h,a6,nG,a5,fun us Gy w rs sub nd=>?_⟩;refine pe (N:=if m.copies then [] else G) re hz zp s2 hx hv a3 (fun R hR ndR=>?_) (fun hN hNd=>?_) h
    .cases hc:m.copies with
     |true=>exact⟨bu,fun _ h=>(nomatch h),fun _ h=>(nomatch h)⟩
     |false =>
      rw[hc] at hR;obtain⟨n1,n2,n3⟩:=Args.mv (re.same s1) ar hR ndR;exact⟨n1,n2,fun a ha=>(n3 a ha).imp (aI.no s1) id⟩
    .have ngy:Gy.Nodup:=nd (fun a ha=>disj a (a4 a ha)) (by
      cases hc:m.copies with
      |true=>exact .inr rfl
      |false=>rw[hc] at hNd;exact .inl hNd)
     obtain⟨G',b1,b2,b3⟩:=fs ys us Gy rs ngy (fun z=>(sub p z).elim a6 fun q=>nG q.2) fun a ha=>(sub a ha).imp id fun q z=>disj a z q.2
     refine⟨G',b1,b2,fun a ha=>?_⟩;rcases b3 a ha with q | q
     .exact .inl q
     .rcases sub a q with z | ⟨z1,z2⟩
      .exact .inl (a4 a z)
      .rw[z1];exact .inr z2
theorem uy {m:o9}{D:Ends}{σ:L2.St}(h:tS X.K T (.mut i path m .nil) D σ H):yB (EV X.K "list" (vm X.K m) (km X.K T i path)) D σ H:=by
 obtain⟨P,env,F,po,v,p,re,hpo,hv,pv,k⟩:=lY h;refine⟨P,env,F,po,v,p,re,hpo,hv,pv,fun H' s=>?_⟩;obtain⟨ty,P',env',F',re',l,hl,f⟩:=k H' s;unfold bC at hl;cases hl;exact⟨ty,f [] H' [] (.nil (aI.refl _))⟩
theorem x6 {e:Ex}{D:Ends}{σ:L2.St}(h:tS X.K T (.setix i path c e) D σ H):A9 (tE X.K T e) (FC (km X.K T i path) (tE X.K T c) BR) D σ H:=by
 obtain⟨P,Z,env,F,re,hz,zp,h⟩:=h;unfold aQ at h;cases hx:ownAt env i with
 |none=>rw[hx] at h;exact h.elim
 |some d =>
  rw[hx] at h;obtain⟨q,hq,h⟩:=cG h;obtain⟨po,hpo,h⟩:=cG h;cases hat:d.at1 po with
  |none=>rw[hat] at h;exact h.elim
  |some xs =>
   rw[hat] at h;obtain⟨qi,hqi,h⟩:=cG h;cases hqq:qi.1 with
   |int n =>
    rw[hqq] at h;cases hj:fU xs.length n with
    |none=>simp only[hj] at h;exact h.elim
    |some j =>
     simp only[hj] at h;have hx':=eT hx;obtain⟨v,hv,_⟩:=re.val i d .own hx';refine⟨P,env,F,re,q,hq,fun w H1 G s1 rp rt=>?_⟩;have re1:=re.same s1;obtain⟨p,pv,f⟩:=mP re1 hx hv hat;refine⟨P,env,F,po,v,p,re1,hpo,hv,pv,fun H2 s2=>⟨P,env,F,re1.same s2,qi,hqi,fun wi H3 Gi s3 rpi rti=>?_⟩⟩;rw[hqq] at rpi;obtain⟨rfl,_⟩:=rpi.int_inv;obtain⟨ws,Gx,a1,a2,a3,a4,a5,a6,fs⟩:=f H3 (s2.trans s3);have jl:=Dv hj;refine⟨p,ws,n,j,rfl,rfl,a1,by rw[<-a2.len];exact hj,?_⟩;have hroots:∀ R,q.2 = .mv R->i∉R->∀ a∈F i,a∉G:=fun R hr hiR a ha hg=>by
      rcases rt.cont a hg with z | ⟨k,d2,t2,m2,e2,sr⟩
      .exact re.nn hx' ha z
      .have:=sr i ((re.one i d .own hx' rfl).2.2 a ha k d2 t2 e2 m2);rw[hr] at this;exact hiR this
     have s13:=s2.trans s3;refine pe (N:=G) re hz zp (s1.trans s13) hx hv a3 (fun R hR ndR=>?_) (fun hN hNd=>?_) h
     .have hr:q.2 = .mv R:=by
       cases hr:q.2 with
       |sh Q=>rw[hr] at hR;cases hR
       |mv Q=>rw[hr] at hR;simp[dC] at hR;rw[hR]
      obtain⟨n1,n2,n3⟩:=rt.mv R hr;exact⟨n1,fun a ha=>let ⟨ws,z⟩:=n2 a ha;⟨ws,s13 _ _ z⟩,n3⟩
     .obtain⟨u,A,B,C,e1,e2,r1,g⟩:=a2.split (i:=j) (d:=xs[j]) (List.getElem?_eq_getElem jl);subst e2;have hpG:p∉G:=fun z=>hN p z a3
      have pAC:∀ b∈A++C,b≠p:=fun b hb z=>by
       rw[z] at hb;refine a6 ?_;rcases ig.mp hb with hb | hb
       .exact bf _ hb
       .exact ak _ (ak _ hb)
      have rs:=g (upd H3 p (.lst (ws.set j w))) q.1 w G (fun _ _=>jB a1) (jn (ws:=.l _) a1) (fun b hb _ h=>(aJ (pAC b hb)).trans h) ((rp.same s13).upd a1 hpG);have gsub:∀ a∈A++(G++C),a∈A++(B++C)\/a∈G:=fun a ha=>by
       simp only[List.mem_append] at ha ⊢;rcases ha with ha | ha | ha
       .exact .inl (.inl ha)
       .exact .inr ha
       .exact .inl (.inr (.inr ha))
      have ng:(A++(G++C)).Nodup:=by
       rw[ef] at a5;obtain⟨nA,nB,nAB⟩:=a5;rw[ef] at nB;obtain⟨_,nC,_⟩:=nB;rw[ef];refine⟨nA,ef.mpr ⟨hNd,nC,fun a ha b hb z=>?_⟩,fun a ha b hb z=>?_⟩
       .subst z;exact hN a ha (a4 a (by simp[hb]))
       .subst z;rcases ig.mp hb with hb | hb
        .exact hN a hb (a4 a (by simp[ha]))
        .exact nAB a ha a (by simp[hb]) rfl
      obtain⟨G',b1,b2,b3⟩:=fs (xs.set j q.1) (ws.set j w) _ rs ng (fun z=>(gsub p z).elim a6 hpG) fun a ha=>(gsub a ha).imp id fun z y=>hN a z y
      refine⟨G',b1,b2,fun a ha=>?_⟩;rcases b3 a ha with z | z
      .exact .inl z
      .exact (gsub a z).imp (a4 a) id
   |_=>rw[hqq] at h;exact h.elim
end
section
variable {X:Cx}
noncomputable def iE:List String:=["int","bool","str","list","tuple"]
theorem ty_type {T:String}(h:T∈iE):typeOf (.type T)=pure (.type "type"):=by
 simp only[iE,List.mem_cons,List.not_mem_nil,or_false] at h;rcases h with rfl | rfl | rfl | rfl | rfl<;>kernel_rfl
def Gh (K:Frag):List V->Hp->VK->Prop:=fun xs H Q=>∃ x T d G,xs=[x,.ty T]/\T∈iE/\((∀ kvs,d≠.dct kvs)/\(∀ ks,d≠.mpi ks)/\(∀ ks,d≠.mpt ks)/\∀ ks,d≠.mpz ks)/\Rep K H d x G/\Q (.bl (wx T d)) H
theorem uP:eR X (.builtin "isinstance") (Gh X.K):=by
 intro pins s σ H xs us Q I r h;obtain⟨x,T,d,G,rfl,hT,hnd,rp,q⟩:=h;obtain⟨u,w,rfl,rx,rt⟩:=r.two;obtain rfl:w=Value.type T:=rt;have hty:=ty_type hT;have yes:∀{Tx:String},s.TypeIs u Tx->isSubtype (.type Tx) (.type T)=pure true->wx T d=true->wpAny (model X.prog X.w) X.A (call (.builtin "isinstance") [u,.type T]) (EP X pins σ Q) X.xe s:=fun h1 h2 h3 =>
  call_isinstance (isinstance_true hty h2) ⟨h1,⟨.bl true,H,I,rfl,by rw[h3] at q;exact q⟩⟩
 have no:wx T d=false->EP X pins σ Q (.bool false) { s with toks:=s.toks+1 }:=fun h=>⟨.bl false,H,I.tok _,rfl,by rw[h] at q;exact q⟩
 simp only[iE,List.mem_cons,List.not_mem_nil,or_false] at hT;cases d with
 |dct kvs=>exact absurd rfl (hnd.1 kvs)
 |mpi ks=>exact absurd rfl (hnd.2.1 ks)
 |mpt ks=>exact absurd rfl (hnd.2.2.1 ks)
 |mpz ks=>exact absurd rfl (hnd.2.2.2 ks)
 |non =>
  obtain⟨rfl,_⟩:=rp.non_inv;cases rx;rcases hT with rfl | rfl | rfl | rfl | rfl
  .exact call_isinstance (isinstance_false_none (by decide) hty F.sub_NoneType_int) (no rfl)
  .exact call_isinstance (isinstance_false_none (by decide) hty F.sub_NoneType_bool) (no rfl)
  .exact call_isinstance (isinstance_false_none (by decide) hty F.sub_NoneType_str) (no rfl)
  .exact call_isinstance (isinstance_false_none (by decide) hty F.sub_NoneType_list) (no rfl)
  .exact call_isinstance (isinstance_false_none (by decide) hty F.sub_NoneType_tuple) (no rfl)
 |bl b =>
  obtain⟨rfl,_⟩:=rp.bl_inv;cases rx;rcases hT with rfl | rfl | rfl | rfl | rfl
  .exact yes (PySem.typeIs_bool s b) F.sub_bool_int rfl
  .exact yes (PySem.typeIs_bool s b) F.sub_bool_bool rfl
  .exact call_isinstance (isinstance_false_bool (by decide) hty F.sub_bool_str) (no rfl)
  .exact call_isinstance (isinstance_false_bool (by decide) hty F.sub_bool_list) (no rfl)
  .exact call_isinstance (isinstance_false_bool (by decide) hty F.sub_bool_tuple) (no rfl)
 |int i =>
  obtain⟨rfl,_⟩:=rp.int_inv;obtain⟨t,rfl⟩:=rx;rcases hT with rfl | rfl | rfl | rfl | rfl
  .exact yes (typeIs_int s i t) F.sub_int_int rfl
  .exact call_isinstance (isinstance_false_int (by decide) hty F.sub_int_bool) (no rfl)
  .exact call_isinstance (isinstance_false_int (by decide) hty F.sub_int_str) (no rfl)
  .exact call_isinstance (isinstance_false_int (by decide) hty F.sub_int_list) (no rfl)
  .exact call_isinstance (isinstance_false_int (by decide) hty F.sub_int_tuple) (no rfl)
 |str z =>
  obtain⟨rfl,_⟩:=rp.str_inv;obtain⟨t,rfl⟩:=rx;rcases hT with rfl | rfl | rfl | rfl | rfl
  .exact call_isinstance (isinstance_false_str (by decide) hty F.sub_str_int) (no rfl)
  .exact call_isinstance (isinstance_false_str (by decide) hty F.sub_str_bool) (no rfl)
  .exact yes (typeIs_str s z t) F.sub_str_str rfl
  .exact call_isinstance (isinstance_false_str (by decide) hty F.sub_str_list) (no rfl)
  .exact call_isinstance (isinstance_false_str (by decide) hty F.sub_str_tuple) (no rfl)
 |lst ds =>
  obtain⟨p,vs,g,rfl,_,a1,_⟩:=rp.lst_inv;cases rx;obtain⟨its,_,pl,_⟩:=I.list (.inl a1);obtain⟨o,ho,hc,_⟩:=pl.isList;rcases hT with rfl | rfl | rfl | rfl | rfl
  .exact call_isinstance (isinstance_false_list (by decide) hty F.sub_list_int) ⟨⟨o,ho,hc⟩,no rfl⟩
  .exact call_isinstance (isinstance_false_list (by decide) hty F.sub_list_bool) ⟨⟨o,ho,hc⟩,no rfl⟩
  .exact call_isinstance (isinstance_false_list (by decide) hty F.sub_list_str) ⟨⟨o,ho,hc⟩,no rfl⟩
  .exact yes ⟨o,ho,hc⟩ F.sub_list_list rfl
  .exact call_isinstance (isinstance_false_list (by decide) hty F.sub_list_tuple) ⟨⟨o,ho,hc⟩,no rfl⟩
 |tup ds =>
  obtain⟨p,vs,rfl,a1,_⟩:=rp.tup_inv;cases rx;obtain⟨its,_,pl,_⟩:=I.tuple a1;obtain⟨o,ho,hc,_⟩:=pl;rcases hT with rfl | rfl | rfl | rfl | rfl
  .exact call_isinstance (isinstance_false_tuple (by decide) hty F.sub_tuple_int) ⟨⟨o,ho,hc⟩,no rfl⟩
  .exact call_isinstance (isinstance_false_tuple (by decide) hty F.sub_tuple_bool) ⟨⟨o,ho,hc⟩,no rfl⟩
  .exact call_isinstance (isinstance_false_tuple (by decide) hty F.sub_tuple_str) ⟨⟨o,ho,hc⟩,no rfl⟩
  .exact call_isinstance (isinstance_false_tuple (by decide) hty F.sub_tuple_list) ⟨⟨o,ho,hc⟩,no rfl⟩
  .exact yes ⟨o,ho,hc⟩ F.sub_tuple_tuple rfl
theorem yi {b:String}{σ:L2.St}(hb:b∈iE)(h:tE X.K T (.blt (.isi b) (.cons c .nil)) σ H Q):tCB (Gh X.K) (wW (tE X.K T c) (wW (tC (.ty b)) CU)) σ H Q:=by
 obtain⟨P,env,F,re,p,hev,k⟩:=h;unfold ev bC bC at hev;obtain⟨l,h1,hev⟩:=Rs.bind_ok hev;obtain⟨q,h2,h1⟩:=Rs.bind_ok h1;cases h1;obtain⟨d',h3,hev⟩:=Rs.bind_ok hev;have h3:l7 (.isi b) [q.1]=some d':=cF h3;have hnd:(∀ kvs,q.1≠.dct kvs)/\(∀ ks,q.1≠.mpi ks)/\(∀ ks,q.1≠.mpt ks)/\∀ ks,q.1≠.mpz ks:=⟨fun kvs e=>(by rw[e] at h3;cases h3),fun kvs e=>(by rw[e] at h3;cases h3),fun kvs e=>(by rw[e] at h3;cases h3),fun kvs e=>(by rw[e] at h3;cases h3)⟩;have hd:d' = .bl (wx b q.1):=by
  cases hq:q.1 with
  |dct kvs=>exact absurd hq (hnd.1 kvs)
  |mpi ks=>exact absurd hq (hnd.2.1 ks)
  |mpt ks=>exact absurd hq (hnd.2.2.1 ks)
  |mpz ks=>exact absurd hq (hnd.2.2.2 ks)
  |_=>rw[hq] at h3;cases h3;rfl
 subst hd;cases hev;exact⟨P,env,F,re,q,h2,fun v H1 G s rp rt=>⟨v,b,q.1,G,rfl,hb,hnd,rp,k _ H1 [] s (.bl _) bP.nil⟩⟩
theorem pz:∀{r:List D},r.all D.isBl=true->∃ bs:List Bool,r=bs.map D.bl
 |[],_=>⟨[],rfl⟩
 | x::r,ha=>by
  rw[dz,ag] at ha;obtain⟨bs,rfl⟩:=pz ha.2;cases x with
  |bl c=>exact⟨c::bs,rfl⟩
  |_=>cases ha.1
theorem all_range (bs:List Bool):(List.range bs.length).all (fun i=>bs[i]?.getD true)=bs.all id:=by
 rw[Bool.eq_iff_iff,cu,cu];constructor
 .intro h x hx;obtain⟨i,hi,rfl⟩:=List.mem_iff_getElem.mp hx;have:=h i (by simpa using hi);simpa[hi] using this
 .intro h i hi;have hi:i<bs.length:=by simpa using hi
  simpa[hi] using h bs[i] (List.getElem_mem hi)
theorem lz:∀{ds:List D}{b:Bool},allB ds=some b->ds.all D.isBl=true->∃ bs:List Bool,ds=bs.map D.bl/\b=bs.all id
 |[],b,h,_=>by cases h;exact⟨[],rfl,rfl⟩
 | .bl c::r,b,h,ha=>by
  have ha':r.all D.isBl=true:=by simpa[D.isBl] using ha
  cases c with
  |false =>
   cases h;have:=pz ha';obtain⟨bs,rfl⟩:=this;exact⟨false::bs,rfl,by simp⟩
  |true =>
   obtain⟨bs,rfl,rfl⟩:=lz (ds:=r) h ha';exact⟨true::bs,rfl,by simp⟩
 |.non::r,b,h,_=>by cases h
 |.int _::r,b,h,_=>by cases h
 |.str _::r,b,h,_=>by cases h
 |.lst _::r,b,h,_=>by cases h
 |.tup _::r,b,h,_=>by cases h
theorem kZ:∀{bs:List Bool}{vs:List V}{G:List Addr}{us:List Value},aG K H (bs.map D.bl) vs G->aL vs us->us=bs.map Value.bool
 |[],_,_,_,.nil,.nil=>rfl
 | b::bs,_,_,_,.cons h r,.cons x y=>by
  obtain⟨rfl,_⟩:=h.bl_inv;cases x;rw[ao,<-kZ r y]
theorem uS (hc:X.calm=true):eR X (.builtin "all") (nU X.K .all):=by
 intro pins s σ H xs us Q I r h;obtain⟨ds,d,G,rs,hd,k⟩:=h
 match ds,hd with
 |[.lst ys],hd =>
  simp only[l7,B3] at hd;by_cases hb:ys.all D.isBl=true
  .rw[if_pos hb,aa] at hd;obtain⟨b,hb',rfl⟩:=hd;obtain⟨bs,rfl,rfl⟩:=lz hb' hb;obtain⟨x,rfl,rp⟩:=rs.of1;obtain⟨p,vs,g,rfl,rfl,a1,a2⟩:=rp.lst_inv;obtain⟨u,rfl,ru⟩:=r.one;cases ru;obtain⟨its,rv,pl,_⟩:=I.list (.inl a1);have ei:=kZ a2 rv;subst ei;have hlt:p<s.heap.objs.size:=by
    obtain⟨o,ho,_⟩:=pl.isList;exact Heap.lt_size ho
   refine call_all_walk (wpAny_pyIter_list pl.isList ⟨s.heap.objs.size,[s.heap.objs.size,p],[s.heap.objs.size],(bs.map Value.bool).toArray.size,_,_,fun i=>bs[i]?.getD true,rfl,Walks.list (A:=X.A.in1) (show X.A.in1.handled=none from I.ok.hd hc) s.heap.objs.size p (ax hlt) (bs.map Value.bool).toArray,⟨⟨_,Heap.get?_push_size _ rfl,rfl,rfl⟩,pl.isList.at fun o e=>Heap.get?_push_of_some _ e⟩,fun i v s' Q' E' hP hQ=>?_,fun h' tk hk=>?_⟩)
   .have hP:(bs.map Value.bool).toArray[i]? = some v:=hP;rw[List.getElem?_toArray,List.getElem?_map,aa] at hP;obtain⟨b,e1,rfl⟩:=hP;have hQ:Q' (bs[i]?.getD true) s':=hQ;rw[e1] at hQ;exact wpAny_truthy_bool hQ
   .have e:(List.range (bs.map Value.bool).toArray.size).all (fun i=>bs[i]?.getD true)=bs.all id:=by
     simp only[List.size_toArray,List.length_map];exact all_range bs
    rw[e];refine⟨.bl (bs.all id),H,?_,rfl,k _ H [] (.bl _) gG.nil⟩;have I1:Inv X pins σ H { s with heap:=s.heap.push { cls:=.type "list_iterator",data:=.fields #[.ref p,.int 0 0] } }:=I.kept (t':=s.toks) fun b o e=>Heap.get?_push_of_some _ e
    obtain⟨f0,f1,f2,f3,f4,f5⟩:=I.fpOk (b:=s.heap.objs.size) (au _) (I.hok.fresh (au _));exact I1.turned (t':=tk) (fun b o hb e=>hk b o (by simpa using hb) e) f0 f1 f3 f4 f5
  .rw[if_neg hb] at hd;cases hd
theorem mL:∀{ds:List D}{a r:Int},Ek a ds=some r->∃ ns:List Int,ds=ns.map D.int/\r=a+ns.sum
 |[],a,r,h=>by cases h;exact⟨[],rfl,by simp⟩
 | .int i::ds,a,r,h=>by
  obtain⟨ns,rfl,rfl⟩:=mL (ds:=ds) (a:=a+i) h;exact⟨i::ns,rfl,by rw[List.sum_cons];omega⟩
 |.non::_,_,_,h=>by cases h
 |.bl _::_,_,_,h=>by cases h
 |.str _::_,_,_,h=>by cases h
 |.lst _::_,_,_,h=>by cases h
 |.tup _::_,_,_,h=>by cases h
theorem lB:∀{ns:List Int}{vs:List V}{G:List Addr}{us:List Value},aG K H (ns.map D.int) vs G->aL vs us->us.length=ns.length/\∀ i u,us[i]? = some u->∃ t,u=Value.int (ns.getD i 0) t
 |[],_,_,_,.nil,.nil=>⟨rfl,fun i u h=>by simp at h⟩
 | n::ns,_,_,_,.cons h r,.cons x y=>by
  obtain⟨rfl,_⟩:=h.int_inv;obtain⟨t,rfl⟩:=x;obtain⟨a,b⟩:=lB r y;refine⟨by simp[a],fun i u h=>?_⟩;cases i with
  |zero=>simp at h;exact⟨t,by simp[<-h]⟩
  |succ i =>
   obtain⟨t',e⟩:=b i u (by simpa using h);exact⟨t',by simpa using e⟩
theorem vk (hc:X.calm=true):eR X (.builtin "sum") (nU X.K .sum):=by
 intro pins s σ H xs us Q I r h;obtain⟨ds,d,G,rs,hd,k⟩:=h
 match ds,hd with
 |[.lst ys],hd =>
  simp only[l7,BX] at hd;rw[aa] at hd;obtain⟨b,hb',rfl⟩:=hd;obtain⟨ns,rfl,rfl⟩:=mL hb';obtain⟨x,rfl,rp⟩:=rs.of1;obtain⟨p,vs,g,rfl,rfl,a1,a2⟩:=rp.lst_inv;obtain⟨u,rfl,ru⟩:=r.one;cases ru;obtain⟨its,rv,pl,_⟩:=I.list (.inl a1);obtain⟨hl,hv⟩:=lB a2 rv;have hlt:p<s.heap.objs.size:=by
   obtain⟨o,ho,_⟩:=pl.isList;exact Heap.lt_size ho
  refine call_sum_walkG (wpAny_pyIter_list pl.isList ⟨s.heap.objs.size,[s.heap.objs.size,p],[s.heap.objs.size],its.toArray.size,_,_,fun i=>ns.getD i 0,rfl,Walks.list (A:=X.A.in1) (show X.A.in1.handled=none from I.ok.hd hc) s.heap.objs.size p (ax hlt) its.toArray,⟨⟨_,Heap.get?_push_size _ rfl,rfl,rfl⟩,pl.isList.at fun o e=>Heap.get?_push_of_some _ e⟩,fun b hb=>?_,fun i v hP=>?_,fun h' tk t' hk=>?_⟩)
  .simp only[List.mem_cons,List.not_mem_nil,or_false] at hb;rw[Heap.size_push];rcases hb with rfl | rfl
   .exact gu _
   .exact dn hlt
  .have hP:its.toArray[i]? = some v:=hP;rw[List.getElem?_toArray] at hP;exact hv i v hP
  .rw[preSum_getD,aj,hl,List.take_length];refine⟨.int ns.sum,H,?_,⟨_,rfl⟩,by have:=k (.int (0+ns.sum)) H [] (.int _) gG.nil;rwa [Int.zero_add] at this⟩;have I1:Inv X pins σ H { s with heap:=s.heap.push { cls:=.type "list_iterator",data:=.fields #[.ref p,.int 0 0] } }:=I.kept (t':=s.toks) fun b o e=>Heap.get?_push_of_some _ e
   obtain⟨f0,f1,f2,f3,f4,f5⟩:=I.fpOk (b:=s.heap.objs.size) (au _) (I.hok.fresh (au _));exact I1.turned (t':=tk) (fun b o hb e=>hk b o (by simpa using hb) e) f0 f1 f3 f4 f5
end
variable {ks:List (List Int)}{m:MV}
section
variable {X:Cx}{T:Tb}
theorem vb {σ:L2.St}(h:tE X.K T .dnew σ H Q):yj σ H Q:=by
 obtain⟨P,env,F,re,p,hev,k⟩:=h;unfold ev at hev;cases hev;intro p hp;refine k _ _ [p] (aI.new hp) (.mpi (ks:=[]) (xs:=[]) aK trivial) ⟨fun a ha=>?_,fun R hR=>⟨by simp,fun a ha=>?_,fun a ha=>?_⟩⟩
 .obtain rfl:=gh.mp ha;exact .inl hp
 .obtain rfl:=gh.mp ha;exact⟨.k _,aK⟩
 .obtain rfl:=gh.mp ha;exact .inl hp
theorem iR.map (k:Int)(hm:qG K H m v):∀{q:List (Int×MV)}{x:List (Key×V)},iR K H q x->iR K H (q.map fun z=>if z.1=k then (z.1,m) else z) (x.map fun z=>if z.1=Sum.inl k then (z.1,v) else z)
 |[],[],_=>trivial
 | (j,n)::q,p::x,⟨a,b,c⟩=>by
  refine⟨?_,?_,c.map k hm⟩
  .show (if p.1=Sum.inl k then (p.1,v) else p).1=Sum.inl (if j=k then (j,m) else (j,n)).1;rw[show (if p.1=Sum.inl k then (p.1,v) else p).1=p.1 by split<;>rfl,show (if j=k then (j,m) else (j,n)).1=j by split<;>rfl];exact a
  .show qG K H (if j=k then (j,m) else (j,n)).2 (if p.1=Sum.inl k then (p.1,v) else p).2;by_cases e:j=k
   .rw[if_pos e,if_pos (by rw[a,<-e])];exact hm
   .rw[if_neg e,if_neg (by rw[a];exact fun z=>e (by injection z))];exact b
 |[],_::_,h=>h.elim
 |_::_,[],h=>h.elim
theorem iR.snoc (k:Int)(hm:qG K H m v):∀{q:List (Int×MV)}{x:List (Key×V)},iR K H q x->iR K H (q ++ [(k,m)]) (x ++ [(.inl k,v)])
 |[],[],_=>⟨rfl,hm,trivial⟩
 |_::_,_::_,⟨a,b,c⟩=>⟨a,b,c.snoc k hm⟩
 |[],_::_,h=>h.elim
 |_::_,[],h=>h.elim
theorem iR.put (k:Int){m:MV}(hm:qG K H m v){q:List (Int×MV)}{x:List (Key×V)}(h:iR K H q x):iR K H (xS q k m) (putK x (.inl k) v):=by
 unfold xS putK;rw[h.any k];split
 .exact h.map k hm
 .exact h.snoc k hm
theorem iK:∀{xs:List D}{k:List Int}{vs:List V}{G:List Addr},eB xs=some k->aG K H xs vs G->vs=k.map V.int
 |[],k,vs,G,h,r=>by cases h;cases r;rfl
 | .int i::xs,k,vs,G,h,r=>by
  have h:(eB xs).map (i :: ·)=some k:=h;rw[aa] at h;obtain⟨k',h1,rfl⟩:=h;cases r with
  |cons r1 r2 =>
   obtain⟨rfl,_⟩:=r1.int_inv;rw[iK h1 r2];rfl
 |.non::_,_,_,_,h,_=>by cases h
 |.bl _::_,_,_,_,h,_=>by cases h
 |.str _::_,_,_,_,h,_=>by cases h
 |.lst _::_,_,_,_,h,_=>by cases h
 |.tup _::_,_,_,_,h,_=>by cases h
 |.dct _::_,_,_,_,h,_=>by cases h
 |.mpi _::_,_,_,_,h,_=>by cases h
 |.mpt _::_,_,_,_,h,_=>by cases h
 |.mpz _::_,_,_,_,h,_=>by cases h
theorem CB (h:Di d=some m)(r:Rep K H d v G):qG K H m v:=by
 cases d with
 |bl b =>
  cases b with
  |true=>cases h;cases r;rfl
  |false=>cases h
 |int i=>cases h;cases r;rfl
 |tup xs =>
  have h:(eB xs).map MV.tup=some m:=h;rw[aa] at h;obtain⟨k,h1,rfl⟩:=h;obtain⟨q,vs,rfl,a1,a2⟩:=r.tup_invT;rw[iK h1 a2] at a1;exact⟨q,rfl,a1⟩
 |_=>cases h
theorem zo {o o':ML}(h:H p=some o.o)(b:Addr)(vs:List V)(t:jW K H b vs):jW K (upd H p o'.o) b vs:=by
 rcases t with t | t
 .refine .inl ((aJ fun e=>?_).trans t);subst e;rw[h] at t;cases o<;>cases t
 .exact .inr t
theorem Aq (ks:List (List Int))(n:List Int):putK (oT ks) (n.map .inl) (.bl true)=oT (uX ks n):=by
 unfold putK uX;rw[oX];split
 .unfold oT;rw[cz];refine ij fun k _=>?_
  show (if (k.map Sum.inl:List Key)=n.map Sum.inl then ((k.map Sum.inl:List Key),V.bl true) else (k.map Sum.inl,V.bl true))=_;split<;>rfl
 .unfold oT;rw[bz];rfl
theorem ug {P:Addr->Prop}{σ:L2.St}(re:RE K P env σ H F){ks:List (Int×MV)}(hx:env[i]? = some (some (.mpi ks,.own))):∃ p xs,σ[i]? = some (some (.ref p))/\F i=[p]/\H p=some (.dK xs)/\iR K H ks xs:=by
 obtain⟨v,hv,rp⟩:=re.val i _ _ hx;obtain⟨_,lv,_⟩:=re.one i _ _ hx rfl;generalize hF:F i=G at rp lv;cases rp with
 |@mpi p _ xs h kr=>exact⟨p,xs,hv,rfl,h,kr⟩
theorem A1 {P:Addr->Prop}{σ:L2.St}(re:RE K P env σ H F)(hx:env[i]? = some (some (.mpt ks,.own))):∃ p,σ[i]? = some (some (.ref p))/\F i=[p]/\H p=some (.dT (oT ks)):=by
 obtain⟨v,hv,rp⟩:=re.val i _ _ hx;obtain⟨_,lv,_⟩:=re.one i _ _ hx rfl;generalize hF:F i=G at rp lv;cases rp with
 |@mpt p _ h =>
  refine⟨p,hv,rfl,?_⟩;obtain⟨vs,q⟩:=lv p (by simp);rcases h with h | ⟨o,h⟩
  .exact h
  .rw[q] at h;cases vs<;>cases h
theorem uw {i j:Int}(hp:jH i j=true)(h:jW K H q [.int i,.int j]):H q=some (.tup ([i,j].map (kV∘Sum.inl))):=by
 rcases h with h | ⟨h,_⟩
 .exact h
 .have h:jH i j=false:=h;rw[hp] at h;cases h
theorem wo {σ:L2.St}(I:Inv X pins σ H s)(e:H a=some (.dK [])):Inv X pins σ (upd H a (.dT [])) s:=by
 obtain⟨z,hd,vs,rel,o,es,ep,h1,h2,h3,h4,h5,h6⟩:=xY I.hok e;cases rel;have hes:es.toList=[]:=by
  cases q:es.toList with
  |nil=>rfl
  |cons x r=>rw[q] at h5;cases h5
 exact kG (t':=s.toks) I (by rw[e];exact True.intro) ⟨rfl,fun _ _=>rfl⟩ ⟨o,h1⟩ ⟨dg _,hd,[],.nil,o,es,ep,h1,h2,h3,hes,bu⟩
def BA (H:Hp)(a:Addr)(y v:V)(H':Hp):Prop:=mw H a y v H'\/∃ k b,H a=some (.dK [])/\y = .ref b/\H b=some (.tup (k.map kV))/\H'=upd H a (.dT (putK [] k v))
def x5 (td ty tv:TE):TS:=fun D σ H=>tv σ H fun v H1=>td σ H1 fun x H2=>ty σ H2 fun y H3=>∃ a H4,x = .ref a/\BA H3 a y v H4/\D.nx σ H4
theorem Ae (H:Hp)(a:Addr)(o o':HO):upd (upd H a o) a o'=upd H a o':=by
 funext b;by_cases h:b=a
 .subst h;rw[aK,aK]
 .rw[aJ h,aJ h,aJ h]
theorem vM {o i value:Expr}{td ty tv:TE}(hu:X.A.units+1<cLine)(ho:PE X o td)(hi:PE X i ty)(hv:PE X value tv)(hs:swapsWith value (some (.Subscript o i pos')) pos.line X.env=pure false) :
  PS X (.Assign [.Subscript o i pos'] value pos) (x5 td ty tv):=by
 intro pins s σ H D I h;refine wpAny_Assign_Subscript (cH (hv pins s σ H _ I h) fun r s1 ⟨v,H1,I1,rv,q1⟩=>cH (ho pins s1 σ H1 _ I1 q1) fun u s2 ⟨x,H2,I2,rx,q2⟩=>cH (hi pins s2 σ H2 _ I2 q2) fun iv s3 ⟨y,H3,I3,ry,a,H4,ex,g,q3⟩=>?_) hs;subst ex;obtain rfl:u=Value.ref a:=rx;rcases g with g | ⟨k,b,e1,e2,e3,e4⟩
 .exact nk hu I3 g ry rv fun s4 I4=>⟨σ,H4,I4,q3⟩
 .subst e2 e4;have hb:b≠a:=fun z=>by subst z;rw[e1] at e3;cases e3
  refine nk hu (wo I3 e1) (mw.t (kvs:=[]) aK (by rw[aJ hb];exact e3) (by decide)) ry rv fun s4 I4=>⟨σ,_,I4,?_⟩
  rw[Ae];exact q3
theorem qD (h:pq d=true):d = .bl true:=by
 unfold pq at h;split at h
 .rfl
 .cases h
theorem xm {P:Addr->Prop}{σ:L2.St}(re:RE K P env σ H F){d' y u:D}(hx:env[i]? = some (some (d,.own)))(hp:Dw d y u=some d') :
  ∃ p,∃ m:ML,σ[i]? = some (some (.ref p))/\F i=[p]/\H p=some m.o/\∀ H3 wi Gi wv Gv,aI H H3->Rep K H3 y wi Gi->Rep K H3 u wv Gv->∃ m':ML,BA H3 p wi wv (upd H3 p m'.o)/\Rep K (upd H3 p m'.o) d' (.ref p) [p]:=by
 cases d with
 |mpi ks=>cases y with
  |int n =>
   have hp:(if ks.length<lim then (Di u).map fun m=>D.mpi (xS ks n m) else none)=some d':=hp;by_cases hl:ks.length<lim
   .rw[if_pos hl,aa] at hp;obtain⟨mv,hmv,rfl⟩:=hp;obtain⟨p,xs,hv,hF,hH,kr⟩:=ug re hx;refine⟨p,.k xs,hv,hF,hH,fun H3 wi Gi wv Gv sm rp ru=>?_⟩;have h3:H3 p=some (ML.k xs).o:=sm _ _ hH;have kr3:=kr.keep fun _ _=>aI.tqT sm
    have mr:=CB hmv ru;obtain⟨rfl,_⟩:=rp.int_inv;refine⟨.k (putK xs (.inl n) wv),.inl (mw.k (k:=.inl n) h3 ?_),.mpi aK ((kr3.put n mr).keep fun b vs=>zo (o':=.k _) h3 b vs)⟩;rw[kr.len,sizeLine_eq];unfold lim at hl;omega
   .rw[if_neg hl] at hp;cases hp
  |tup ts=>cases ks with
   |cons _ _=>cases ts with
    |nil=>cases hp
    |cons a r=>cases a with
     |int a=>cases r with
      |nil=>cases hp
      |cons c q=>cases c with
       |int b=>cases q<;>cases hp
       |_=>cases hp
     |_=>cases hp
   |nil=>cases ts with
    |nil=>cases hp
    |cons a r=>cases a with
     |int a=>cases r with
      |nil=>cases hp
      |cons c q=>cases c with
       |int b=>cases q with
        |cons _ _=>cases hp
        |nil =>
         have hp:(if pq u&&jH a b then some (D.mpt [[a,b]]) else none)=some d':=hp;by_cases ht:(pq u&&jH a b)=true
         .rw[if_pos ht] at hp;cases hp;rw[ag] at ht;obtain rfl:=qD ht.1;obtain⟨p,xs,hv,hF,hH,kr⟩:=ug re hx;cases xs with
          |cons _ _=>exact kr.elim
          |nil =>
           refine⟨p,.k [],hv,hF,hH,fun H3 wi Gi wv Gv sm rp ru=>⟨.t (oT [[a,b]]),.inr ?_,.mpt (.inl aK)⟩⟩;obtain⟨q,vs,rfl,a1,a2⟩:=rp.tup_invT;obtain⟨rfl,rfl⟩:=kI a2;cases ru;exact⟨[a,b].map Sum.inl,q,sm _ _ hH,rfl,uw ht.2 a1,rfl⟩
         .rw[if_neg ht] at hp;cases hp
       |_=>cases hp
     |_=>cases hp
  |_=>cases hp
 |mpt ks=>cases y with
  |tup ts=>cases ts with
   |nil=>cases hp
   |cons a r=>cases a with
    |int a=>cases r with
     |nil=>cases hp
     |cons c q=>cases c with
      |int b=>cases q with
       |cons _ _=>cases hp
       |nil =>
        have hp:(if (pq u&&jH a b)&&decide (ks.length<lim) then some (D.mpt (uX ks [a,b])) else none)=some d':=hp;by_cases ht:((pq u&&jH a b)&&decide (ks.length<lim))=true
        .rw[if_pos ht] at hp;cases hp;rw[ag,ag] at ht;have hl:=gn ht.2;obtain rfl:=qD ht.1.1;obtain⟨p,hv,hF,hH⟩:=A1 re hx;refine⟨p,.t (oT ks),hv,hF,hH,fun H3 wi Gi wv Gv sm rp ru=>⟨.t (oT (uX ks [a,b])),.inl ?_,.mpt (.inl aK)⟩⟩;obtain⟨q,vs,rfl,a1,a2⟩:=rp.tup_invT;obtain⟨rfl,rfl⟩:=kI a2;cases ru;show mw H3 p _ _ (upd H3 p (.dT (oT (uX ks [a,b]))));rw[<-Aq];refine mw.t (sm _ _ hH) (uw ht.1.2 a1) ?_;unfold oT;rw[ab,sizeLine_eq];unfold lim at hl;omega
        .rw[if_neg ht] at hp;cases hp
      |_=>cases hp
    |_=>cases hp
  |_=>cases hp
 |_=>cases hp
theorem vh {e:Ex}{D:Ends}{σ:L2.St}(h:tS X.K T (.putd i c e) D σ H):x5 (km X.K T i .none) (tE X.K T c) (tE X.K T e) D σ H:=by
 obtain⟨P,Z,env,F,re,hz,zp,h⟩:=h;unfold aQ at h;cases hx:ownAt env i with
 |none=>rw[hx] at h;exact h.elim
 |some d =>
  rw[hx] at h;obtain⟨u,hu,h⟩:=cG h;obtain⟨q,hq,h⟩:=cG h;cases hp:Dw d q.1 u.1 with
  |none=>rw[hp] at h;exact h.elim
  |some d' =>
   rw[hp] at h;have hx':=eT hx;obtain⟨p,m,hv,hF,hH,inv⟩:=xm re hx' hp;refine⟨P,env,F,re,u,hu,fun wv H1 Gv s1 rpv rtv=>⟨P,env,F,none,.ref p,p,re.same s1,by unfold iS;rfl,hv,.top p,fun H2 s2=>⟨P,env,F,re.same (s1.trans s2),q,hq,fun wi H3 Gi s3 rpi rti=>?_⟩⟩⟩;have e:=(s1.trans s2).trans s3;have hp3:H3 p=some m.o:=e _ _ hH;obtain⟨m',i1,i2⟩:=inv H3 wi Gi wv Gv e rpi (rpv.same (s2.trans s3));refine⟨p,upd H3 p m'.o,rfl,i1,?_⟩;have hpx:p∈F i:=by rw[hF];simp
   have re1:=re.same e;have re2:=re1.mutateM (vs:=m') (R:=[]) (N:=[]) (G:=[p]) (d':=d') hx' hv hpx i2 (by simp) (fun a ha=>.inl (by rw[hF];exact ha)) (fun a ha=>nomatch ha);have nPp:¬ P p:=re.wr i _ hx' p hpx;refine h σ _ _ ⟨re2,fun j a ha=>?_,(jN.of_same re.pl e).trans ⟨fun a z=>aJ (fun q=>nPp (q ▸ z)),fun b xs r=>?_,jn hp3⟩,fun j dj ej=>?_⟩
   .unfold mn at ha;split at ha
    .exact hz i a (by rw[hF];exact ha)
    .split at ha
     .exact hz j a ha
     .cases ha
   .refine (aJ (fun q=>?_)).trans r;subst q;rw[hp3] at r;cases m<;>cases r
   .by_cases hj:j=i
    .subst hj;rw[List.getElem?_set_self (by rw[cI];exact (List.getElem?_eq_some_iff.mp hx').1)] at ej;cases ej
    .rw[List.getElem?_set_ne (df hj)] at ej;refine⟨(cD ej).1,?_⟩;unfold mn;rw[if_neg hj,ej]
theorem nz {K:Frag}{H:Hp}:∀ ks:List (Int×MV),aG K H (ks.map fun q=>D.int q.1) (ks.map fun q=>V.int q.1) []
 |[]=>.nil
 |k::ks=>.cons (G:=[]) (G':=[]) (.int k.1) (nz ks)
theorem nM:∀{ks:List (Int×MV)}{xs:List (Key×V)}{vs:List (Key×Value)}{us:List Value},iR K H ks xs->KV xs vs->us.length=vs.length->(∀(j:Nat) u,us[j]? = some u->∃ k x,vs[j]? = some (k,x)/\(aN P w).is k u=true)->aL (ks.map fun q=>V.int q.1) us
 | [],[],_,us,_,r,hl,_=>by
  cases r;rw[List.length_eq_zero_iff.mp hl];exact .nil
 |[],_::_,_,_,h,_,_,_=>h.elim
 |_::_,[],_,_,h,_,_,_=>h.elim
 | (k,m)::ks,x::xs,_,us,⟨hk0,_,kr⟩,r,hl,h=>by
  have r:Paired _ (x::xs) _:=r;cases r with
  |@cons _ q _ qs h1 t =>
   cases us with
   |nil=>cases hl
   |cons u us =>
    obtain⟨k',y,e,hk⟩:=h 0 u rfl;have e:some q=some (k',y):=e;cases e;have h1:x.1=k':=h1.1;rw[hk0] at h1;have h1:(Sum.inl k:Key)=k':=h1;subst h1;obtain⟨i,t',e1,e2⟩ | ⟨x',t',e1,_⟩:=bA (show ku (.inl k) u=true from hk)
    .cases e1;exact .cons ⟨t',e2⟩ (nM kr t (ik hl) fun j u hu=>h (j+1) u hu)
    .cases e1
theorem qQ (hc:X.calm=true):eR X (.type "list") (nU X.K .list):=by
 intro pins s σ H xs us Q I r h;obtain⟨ds,d,G,rs,hd,k⟩:=h;by_cases hm:∃ ks,ds=[.mpi ks]
 .obtain⟨ks,rfl⟩:=hm;have hd:(if ks.length<=lim then some (D.lst (ks.map fun q=>D.int q.1)) else none)=some d:=hd;by_cases hl:ks.length<=lim
  .rw[if_pos hl] at hd;cases hd;obtain⟨x,rfl,rp⟩:=rs.of1;obtain⟨u,rfl,rx⟩:=r.one;cases rp with
   |@mpi p _ xs hr kr =>
    obtain rfl:u = .ref p:=rx;obtain⟨z,lo,vs,rel,dd⟩:=ke I.hok (.inl hr);obtain⟨ep,hat⟩:=dd.dictAt;have hlen:vs.length=ks.length:=by rw[<-rel.length,kr.len]
    refine PySem.W.kdl_call (PySem.W.kdl_dict (knd:=aN X.prog X.w) (kvs:=vs) (ep:=ep) lo) (I.ok.hd hc) hat (by rw[hlen,sizeLine_eq];unfold lim at hl;omega) fun h' tk acc c hk hD hacc=>?_
    have hv:aL (ks.map fun q=>V.int q.1) acc.toList:=nM kr rel (by rw[ay];exact hacc.1) fun j u hu=>hacc.2 j u (by rw[<-Array.getElem?_toList];exact hu)
    refine⟨.ref s.heap.objs.size,upd H s.heap.objs.size (.lst (ks.map fun q=>V.int q.1)),I.laid hk (au _) ⟨by rw[ab,sizeLine_eq];unfold lim at hl;omega,acc.toList,c,hv,by rw[hD,Array.toArray_toList]⟩,rfl,?_⟩;obtain⟨n1,n2⟩:=eV (G0:=[p]) (nz (K:=X.K) (H:=H) ks) (fun a ha=>nomatch ha) I.fresh;exact k _ _ _ n1 n2
  .rw[if_neg hl] at hd;cases hd
 .exact pH I r rs hd k fun ks e=>hm ⟨ks,e⟩
end
theorem bZ.live' {o:HO}(x:bZ P w H h a o):∃ ob,h.get? a=some ob:=by
 cases o with
 |lst xs=>obtain⟨_,_,_,_,e⟩:=x;exact⟨_,e⟩
 |tup xs=>obtain⟨_,_,_,ob,e,_⟩:=x;exact⟨_,e⟩
 |dK kvs=>obtain⟨_,_,_,_,o,_,_,e,_⟩:=x;exact⟨_,e⟩
 |dT kvs=>obtain⟨_,_,_,_,o,_,_,e,_⟩:=x;exact⟨_,e⟩
 |set S n=>obtain⟨o,_,_,_,e,_⟩:=x;exact⟨_,e⟩
 |ins C dx fs=>obtain⟨_,_,_,e,_⟩:=x;exact⟨_,e⟩
 |own y=>obtain⟨_,e⟩:=x;exact⟨_,e⟩
 |xd fs=>obtain⟨_,⟨_,_,_,e,_⟩,_⟩:=x;exact⟨_,e⟩
 |rng lo hi=>obtain⟨_,_,_,e⟩:=x;exact⟨_,e⟩
 |frz ob u=>obtain⟨e,_⟩:=x;exact⟨_,e⟩
 |tbl ps=>exact⟨_,(show h.get? a=some _ from x)⟩
 |met f y=>exact⟨_,(show h.get? a=some _ from x)⟩
 |ext φ=>obtain⟨_,⟨_,e⟩,_⟩:=x;exact⟨_,e⟩
theorem qA {σ:L2.St}{m:Str->Option Value}{B:Addr}{o:HO}{t':Nat}(I:Inv X pins σ H s)(hn:s.heap.Ns X.env.locals m)(hn':h'.Ns X.env.locals m)
  (k:∀ b o,b≠X.env.locals->s.heap.get? b=some o->h'.get? b=some o) (hB:∀ b o,s.heap.get? b=some o->b≠B) (new:bZ X.prog X.w (upd H B o) h' B o):Inv X pins σ (upd H B o) { s with heap:=h',toks:=t' }:=by
 have hnB:H B=none:=by
  cases e:H B with
  |none=>rfl
  |some u =>
   obtain⟨ob,q⟩:=bZ.live' (I.hok B u e);exact absurd rfl (hB B ob q)
 have nL:∀ b u,H b=some u->b≠X.env.locals:=fun b u e z=>by rw[z,I.free] at e;cases e
 refine I.step (g':=s.gens) (d':=s.drawn) (ch:=[]) (fun b hb=>nomatch hb) (fun b o' hL _ _ e _=>k b o' hL e) (fun b o' hL _ _ e _=>⟨o'.slots,k b o' hL e⟩) (fun b o' _ e n=>by rw[aJ (hB b o' e)];exact n) (fun b o' _ e=>?_)
  (fun b xs e=>by rw[aJ (bT e hnB)];exact e) (fun b ob u e=>by rw[aJ (bT e hnB)];exact e) (fun b ps e=>⟨#[],by rw[aJ (bT e hnB),e];simp⟩) (fun m' hm=>?_) (fun b u e=>?_) I.bare
 .by_cases hL:b=X.env.locals
  .subst hL;obtain⟨o2,_,_,q,_⟩:=hn';exact⟨o2,q⟩
  .exact⟨o',k b o' hL e⟩
 .obtain⟨o1,es,ep,e1,e2,e3,e4⟩:=hn;obtain⟨o2,es',ep',f1,f2,f3,f4⟩:=hm;rw[e1] at f1;cases f1;rw[e2] at f2;cases f2;have:m'=m:=funext fun x=>by rw[<-f4 x,e4 x]
  rw[this];exact hn'
 .by_cases hb:b=B
  .subst hb;rw[aK] at e;cases e;exact new
  .rw[aJ hb] at e;refine (I.hok b u e).stay (fun c v hc q=>k c v ?_ q) (fun c q=>?_) fun c xs q=>?_
   .rcases hc with z | z
    .rw[z];exact nL b u e
    .exact nL c _ z
   .rw[aJ (bT q hnB)];exact q
   .rw[aJ (bT q hnB)];exact q
section
variable {prog:Program}{w:World}{A:Around}
theorem wm {Q:Bool->Shared->Prop}{fin:Bool}:∀{us ws:List Value}{a b:List Int}(i:Nat),IntsAre us a->IntsAre ws b->fin=decide (us.length<ws.length)->Q (jV a b) s->PySem.W.KatLex prog w A true fin Q (us.zip ws) i s
 | _,_,_,_,i,.nil,.nil,hf,h=>by
  have:fin=false:=by rw[hf];rfl
  subst this;exact h
 | _,_,_,_,i,.nil,.cons _ _ r,hf,h=>by
  have:fin=true:=by rw[hf];simp
  subst this;exact h
 | _,_,_,_,i,.cons _ _ r,.nil,hf,h=>by
  have:fin=false:=by rw[hf];simp
  subst this;exact h
 | _,_,_,_,i,.cons (ns:=a) x t r,.cons (ns:=b) y u r',hf,h=>by
  rw[fh];refine PySem.W.kat_cons (wpAny_eqBool_int ?_);by_cases e:(x==y)=true
  .rw[e];refine PySem.W.kat_yes (wm (i+1) r r' ?_ ?_)
   .rw[hf];simp only[List.length_cons];exact decide_eq_decide.mpr (by omega)
   .have:jV (x::a) (y::b)=jV a b:=by
     show (if x==y then jV a b else decide (x<y))=_;rw[if_pos e]
    rw[this] at h;exact h
  .have e':(x==y)=false:=by simpa using e
   rw[e'];have hx:jV (x::a) (y::b)=decide (x<y):=by
    show (if x==y then jV a b else decide (x<y))=_;rw[if_neg e]
   rw[hx] at h;refine PySem.W.kat_no ?_;by_cases hi:i=0
   .subst hi;exact oneLt_int h
   .have:(true&&i==0)=false:=by simp[hi]
    rw[this];exact PySem.W.kat_one _ _ (wpAny_lt_int h)
def AE (h:Heap)(v:Value)(k:List Int):Prop:=∃ a o its n,v = .ref a/\h.get? a=some o/\o.cls = .type "tuple"/\o.data = .seq its n/\IntsAre its.toList k
theorem Dk {vs:List Value}{a b:List Int}{C:Bool->Shared->Prop}(hv:∀ i k,ks[i]? = some k->AE s.heap (vs.getD i .none) k)(ha:ks[i]? = some a)(hb:ks[j]? = some b)(h:C (jV a b) s) :
  PySem.W.kas_ask prog w A (tuples' true) vs i j C s:=by
 obtain⟨x,ox,xs,n,e1,h1,_,d1,i1⟩:=hv i a ha;obtain⟨y,oy,ys,n',e2,h2,_,d2,i2⟩:=hv j b hb;unfold PySem.W.kas_ask;rw[e1,e2];exact PySem.W.kat_lt h1 d1 h2 d2 (wm 0 i1 i2 (by simp) h)
theorem xN {α:Type}{f:Nat->Nat->Option Bool}{cmp:Nat->Nat->(Bool->Shared->Prop)->Shared->Prop}(hf:∀ i j b C,f i j=some b->C b s->cmp i j C s){Q:α->Shared->Prop}:∀{t:PySem.W.KasT α}{a:α},AG f t=some a->Q a s->t.kasWp cmp Q s
 | .ret x,a,h,q=>by
  cases h;exact q
 | .ask i j k,a,h,q=>by
  have h:((f i j).bind fun b=>AG f (k b))=some a:=h;rw[ae] at h;obtain⟨b,h1,h2⟩:=h;exact hf i j b _ h1 (xN hf h2 q)
end
theorem j3:∀ k:List Int,D.flats (k.map D.int)=true
 |[]=>rfl
 |_::k=>j3 k
section
variable {X:Cx}{pins:List (Addr×Obj)}{σ:L2.St}{H:Hp}{s:Shared}
theorem jY (I:Inv X pins σ H s):∀{ys:List D}{ks:List (List Int)}{vs:List V}{G:List Addr}{us:List Value},qa ys=some ks->aG X.K H ys vs G->aL vs us->ks.length=us.length/\(∀ i k,ks[i]? = some k->AE s.heap (us.getD i .none) k)/\(∀ k∈ks,k≠[])/\G=[]
 | [],ks,_,_,_,h,.nil,.nil=>by
  cases h;exact⟨rfl,fun i k h=>(by simp at h),fun k h=>(nomatch h),rfl⟩
 | .tup xs::r,ks,_,_,_,h,.cons r1 r2,.cons (b:=u) v1 v2=>by
  have h:((eB xs).bind fun k=>if k.isEmpty then none else (qa r).map (k :: ·))=some ks:=h;rw[ae] at h;obtain⟨k,h1,h2⟩:=h;by_cases he:k.isEmpty=true
  .rw[if_pos he] at h2;cases h2
  .rw[if_neg he,aa] at h2;obtain⟨ks',h3,rfl⟩:=h2;obtain⟨l,t,ne,g⟩:=jY I h3 r2 v2;have:=fO h1;subst this;have gf:=r1.flat (j3 k);obtain⟨p,vs',rfl,a1,a2⟩:=r1.tup_inv;obtain rfl:u = .ref p:=v1;obtain⟨its,rv,⟨o,e1,e2,n,e3⟩,_⟩:=I.tuple a1;refine⟨by simp[l],fun i k' hk=>?_,fun k' hk=>?_,by rw[gf,g];rfl⟩
   .cases i with
    |zero =>
     have hk:some k=some k':=hk;cases hk;exact⟨p,o,_,n,rfl,e1,e2,e3,jI a2 rv⟩
    |succ i=>exact t i k' hk
   .rcases cg.mp hk with rfl | hk
    .intro z;subst z;exact he rfl
    .exact ne k' hk
theorem kf:∀{ks:List (List Int)}{us:List Value},ks.length=us.length->(∀ i k,ks[i]? = some k->AE h (us.getD i .none) k)->(∀ k∈ks,k≠[])->∃ fs,PySem.W.KatTups h us fs/\fs.length=us.length/\∀ v∈fs,∃ i t,v=Value.int i t
 |[],[],_,_,_=>⟨[],.nil,rfl,fun _ h=>(nomatch h)⟩
 | k::ks,u::us,hl,ht,hn=>by
  obtain⟨fs,f1,f2,f3⟩:=kf (ks:=ks) (us:=us) (ik hl) (fun i k' h=>ht (i+1) k' h) fun k' h=>hn k' (ah _ h)
  obtain⟨a,o,its,n,e1,e2,e3,e4,e5⟩:=ht 0 k rfl;have e1:u = .ref a:=e1;subst e1;have hk:=hn k (ai ..);cases k with
  |nil=>exact absurd rfl hk
  |cons x k =>
   obtain⟨l⟩:=its;cases e5 with
   | cons _ t r=>exact⟨_,.cons e2 e3 e4 (by rfl) f1,by simp[f2],fun v hv=>by
     rcases cg.mp hv with rfl | hv
     .exact⟨x,t,rfl⟩
     .exact f3 v hv⟩
theorem nQ:∀{ys:List D}{vs:List V},aG K H ys vs []->∀ p:List Nat,aG K H (p.map fun i=>ys.getD i .non) (p.map fun i=>vs.getD i .non) []
 |ys,vs,r,[]=>.nil
 | ys,vs,r,i::p=>by
  refine .cons (G:=[]) (G':=[]) ?_ (nQ r p);dsimp only;rw[List.getD_eq_getElem?_getD,List.getD_eq_getElem?_getD];cases h:ys[i]? with
  |none =>
   have:vs[i]? = none:=by
    rw[List.getElem?_eq_none_iff] at h ⊢;rw[<-r.len];exact h
   rw[this];exact .non
  |some d =>
   obtain⟨v,G',e1,e2,e3⟩:=r.get h;rw[e1];obtain rfl:=List.sublist_nil.mp e3;exact e2
theorem mG (r:aL vs us):∀ p:List Nat,aL (p.map fun i=>vs.getD i .non) (p.map fun i=>us.getD i .none)
 |[]=>.nil
 | i::p=>by
  refine .cons ?_ (mG r p);dsimp only;rw[List.getD_eq_getElem?_getD,List.getD_eq_getElem?_getD];cases h:vs[i]? with
  |none =>
   have:us[i]? = none:=by
    rw[List.getElem?_eq_none_iff] at h ⊢;rw[<-r.length];exact h
   rw[this];exact (rfl:RelV .non .none)
  |some v =>
   obtain⟨u,e1,e2⟩:=r.get h;rw[e1];exact e2
end
theorem insI_perm (a:Int):∀ l:List Int,(insI a l).Perm (a::l)
 |[]=>.refl _
 | b::l=>by
  unfold insI;split
  .exact .refl _
  .exact ((insI_perm a l).cons b).trans (.swap a b l)
theorem dZ:∀ l:List Int,(bY l).Perm l
 |[]=>.refl _
 |a::l=>(insI_perm a _).trans ((dZ l).cons a)
theorem pB (a:Int):∀{l:List Int},l.Pairwise (·<=·)->(insI a l).Pairwise (·<=·)
 |[],_=>i4 _ _
 | b::l,h=>by
  have h':=List.pairwise_cons.mp h;unfold insI;split
  .rename_i e;refine List.pairwise_cons.mpr ⟨fun x hx=>?_,h⟩;rcases cg.mp hx with rfl | hx
   .exact e
   .exact Int.le_trans e (h'.1 x hx)
  .rename_i e;refine List.pairwise_cons.mpr ⟨fun x hx=>?_,pB a h'.2⟩;rcases cg.mp ((insI_perm a l).mem_iff.mp hx) with rfl | hx
   .omega
   .exact h'.1 x hx
theorem fX:∀ l:List Int,(bY l).Pairwise (·<=·)
 |[]=>.nil
 |a::l=>pB a (fX l)
theorem eN:∀{ns:List Int}{us:List Value},aL (ns.map V.int) us->IntsAre us ns
 |[],us,h=>by cases h;exact .nil
 | n::ns,us,h=>by
  cases h with
  |cons a b =>
   obtain⟨t,rfl⟩:=a;exact .cons _ t (eN b)
theorem jT:∀{ns:List Int}{us:List Value},IntsAre us ns->aL (ns.map V.int) us
 |[],us,h=>by cases h;exact .nil
 | n::ns,us,h=>by
  cases h with
  |cons _ t b=>exact .cons ⟨t,rfl⟩ (jT b)
section
variable {X:Cx}
theorem oW:eR X (.builtin "sorted") (nU X.K .sorted):=by
 intro pins s σ H xs us Q I r h;obtain⟨ds,d,G,rs,hd,k⟩:=h
 match ds,hd with
 |[.lst ys],hd =>
  have hd:(match eB ys with
   |some ns=>if ns.length<64 then some (D.lst ((bY ns).map .int)) else none
   |none=>(tH ys).map .lst)=some d:=hd
  cases hki:eB ys with
  |some ns =>
   rw[hki] at hd;by_cases h64:ns.length<64
   .simp only[if_pos h64] at hd;cases hd;obtain⟨x,rfl,rp⟩:=rs.of1;obtain⟨l,vs,g,rfl,rfl,a1,a2⟩:=rp.lst_inv;obtain⟨u,rfl,rx⟩:=r.one;obtain rfl:u = .ref l:=rx;obtain⟨its,rv,pl,_⟩:=I.list (.inl a1);obtain rfl:=iK hki a2;obtain⟨m,hn,_⟩:=id I.loc;have F:=Att.wJ hn;have N:News (Att.kT s.heap) X.env.locals s.heap (Att.ledger s.heap X.env.locals X.env.locals):=fun ⟨a,o⟩ hp=>by
     obtain⟨n1,_,e⟩:=Att.cW.mp hp;exact⟨e,n1,Att.jh _ _⟩
    refine PySem.W.kso_sorted F N pl.isList (eN rv) h64 fun B vs' ns' c h' F' N' l1 hi' len perm asc _=>?_
    obtain rfl:ns'=bY ns:=PySem.W.lks_uniq (perm.trans (dZ ns).symm) asc (fX ns);have hB:∀ b o,s.heap.get? b=some o->b≠B:=fun b o e z=>by
     by_cases hb:b=X.env.locals
     .exact (N' _ (ai ..)).2.1 (z.symm.trans hb)
     .exact absurd z (ax (l1 _ (Att.cW.mpr ⟨hb,hb,e⟩)))
    have hI:=qA (t':=s.toks) (o:=.lst ((bY ns).map V.int)) I hn F'.ns (fun b o hb e=>N'.get (ah _ (Att.cW.mpr ⟨hb,hb,e⟩))) hB ⟨by rw[ab,len,sizeLine_eq];omega,_,c,jT hi',N'.get (ai ..)⟩;refine⟨.ref B,_,hI,rfl,?_⟩;have hnB:H B=none:=by
     cases e:H B with
     |none=>rfl
     |some u =>
      obtain⟨ob,q⟩:=bZ.live' (I.hok B u e);exact absurd rfl (hB B ob q)
    obtain⟨n1,n2⟩:=eV (G0:=l::g) (iL (K:=X.K) (H:=H) (bY ns)) (fun a ha=>nomatch ha) hnB;exact k _ _ _ n1 n2
   .simp only[if_neg h64] at hd;cases hd
  |none =>
  rw[hki] at hd;have hd:(tH ys).map D.lst=some d:=hd;rw[aa] at hd;obtain⟨zs,hs,rfl⟩:=hd;unfold tH at hs;by_cases hl:2<=ys.length/\ys.length<64
  .rw[if_pos hl,ae] at hs;obtain⟨ks,hk,hs⟩:=hs;rw[ae] at hs;obtain⟨p,hp,hs⟩:=hs;by_cases hz:p.size<=64
   .rw[if_pos hz] at hs;cases hs;obtain⟨x,rfl,rp⟩:=rs.of1;obtain⟨l,vs,g,rfl,rfl,a1,a2⟩:=rp.lst_inv;obtain⟨u,rfl,rx⟩:=r.one;obtain rfl:u = .ref l:=rx;obtain⟨its,rv,pl,_⟩:=I.list (.inl a1);obtain⟨kl,kt,kn,rfl⟩:=jY I hk a2 rv;have hlen:its.length=ys.length:=by rw[<-rv.length,<-a2.len]
    obtain⟨m,hn,_⟩:=id I.loc;have F:=Att.wJ hn;have N:News (Att.kT s.heap) X.env.locals s.heap (Att.ledger s.heap X.env.locals X.env.locals):=fun ⟨a,o⟩ hp=>by
     obtain⟨n1,_,e⟩:=Att.cW.mp hp;exact⟨e,n1,Att.jh _ _⟩
    refine PySem.W.kat_sorted F N pl.isList (by omega) (by omega) fun B e1 h' F' N' l1=>?_
    have keep:∀ b o,b≠X.env.locals->s.heap.get? b=some o->h'.get? b=some o:=fun b o hb e=>N'.get (ah _ (Att.cW.mpr ⟨hb,hb,e⟩))
    have notL:∀{a:Addr}{o:Obj}{its:Array Value}{n:Nat},s.heap.get? a=some o->o.data = .seq its n->a≠X.env.locals:=fun {a o its n} e d z=>by
     obtain⟨o',es,ep,q1,q2,_⟩:=hn;rw[z,q1] at e;cases e;rw[q2] at d;cases d
    have kt':∀ i k,ks[i]? = some k->AE h' (its.getD i .none) k:=fun i k h=>by
     obtain⟨a,o,it,n,q1,q2,q3,q4,q5⟩:=kt i k h;exact⟨a,o,it,n,q1,keep a o (notL q2 q4) q2,q3,q4,q5⟩
    obtain⟨fs,f1,f2,f3⟩:=kf kl kt' kn;refine PySem.W.kat_kind (s:={ s with heap:=h' }) (T:=.type "int") f1 (by omega) (fun v hv=>?_) rfl ?_
    .obtain⟨i,t,rfl⟩:=f3 v hv;exact (PySem.W.Looks.now:PySem.W.Looks _ _ (pure (Value.type "int")) (Value.type "int"))
    .rw[hlen];refine xN (fun i j b C hb hC=>?_) hp ?_
     .rw[ae] at hb;obtain⟨ka,e1,e2⟩:=hb;rw[aa] at e2;obtain⟨kb,e3,rfl⟩:=e2;exact Dk kt' e1 e3 hC
     .refine PySem.W.KasFin.intro (s:={ s with heap:=h' }) F' N' (.head fun ⟨a,o⟩ hq=>ax (l1 _ hq)) fun h2 c F2 N2=>?_
      have hv:=mG rv p.toList;have hB:∀ b o,s.heap.get? b=some o->b≠B:=fun b o e z=>by
       by_cases hb:b=X.env.locals
       .exact (N' _ (ai ..)).2.1 (z.symm.trans hb)
       .exact absurd z (ax (l1 _ (Att.cW.mpr ⟨hb,hb,e⟩)))
      have hI:=qA (t':=s.toks) (o:=.lst (p.toList.map fun i=>vs.getD i .non)) I hn F2.ns (fun b o hb e=>N2.get (ah _ (Att.cW.mpr ⟨hb,hb,e⟩))) hB ⟨by rw[ab,ay,sizeLine_eq];omega,_,c,hv,N2.get (ai ..)⟩;refine⟨.ref B,_,hI,rfl,?_⟩;have hnB:H B=none:=by
       cases e:H B with
       |none=>rfl
       |some u =>
        obtain⟨ob,q⟩:=bZ.live' (I.hok B u e);exact absurd rfl (hB B ob q)
      obtain⟨n1,n2⟩:=eV (G0:=[l]) (nQ a2 p.toList) (fun a ha=>nomatch ha) hnB;exact k _ _ _ n1 n2
   .rw[if_neg hz] at hs;cases hs
  .rw[if_neg hl] at hs;cases hs
end
section
variable {X:Cx}{T:Tb}
end
structure jt (ty:String):Prop where
 item:∀{prog:Program}{w:World}{A:Around}{E:Value->Shared->Prop}{s:Shared}{it:Addr}{x:Str}{t:Tok}{i c:Nat}{Q:Value->Shared->Prop},s.heap.IsStrIter it ty x t i->x.cps[i]? = some c ->
  (∀ h',h'.IsStrIter it ty x t (i+1)->Heap.SameBut it s.heap h'->Q (.str ⟨#[c]⟩ s.toks) { s with heap:=h',toks:=s.toks+1 })->wpAny (model prog w) A (Builtin.SmallTypes.nextOf (.ref it)) Q E s
 done:∀{prog:Program}{w:World}{A:Around}{E:Value->Shared->Prop}{s:Shared}{it:Addr}{x:Str}{t:Tok}{i:Nat}{Q:Value->Shared->Prop},A.handled=none->s.heap.IsStrIter it ty x t i->x.cps[i]? = none ->
  (∀ h' e,Heap.ExtBut it s.heap h'->(∃ o,h'.get? e=some o/\o.cls = .type "StopIteration")->E (.ref e) { s with heap:=h' })->wpAny (model prog w) A (Builtin.SmallTypes.nextOf (.ref it)) Q E s
 n1:ty≠"list"
theorem zt:jt "str_ascii_iterator":=⟨fun a b c=>wpAny_nextOf_ascii_item a b c,fun a b c d=>wpAny_nextOf_ascii_end a b c d,by decide⟩
theorem An:jt "str_iterator":=⟨fun a b c=>wpAny_nextOf_wide_item a b c,fun a b c d=>wpAny_nextOf_wide_end a b c d,by decide⟩
section
variable {prog:Program}{w:World}{A:Around}{E:Value->Shared->Prop}{s:Shared}{z TI TO i1 i2 l1:Addr}{k1 k2:Nat}{xs:Array Value}{x a b:Value}{y:Str}{t:Tok}{c:Nat}{ty:String}
theorem zB {Q:Value->Shared->Prop}(S:jt ty)(D:ZipApart z TI TO i1 i2 l1 l1)(hz:IsZip s.heap z TI TO .none)(hTI:IsPair s.heap TI (.ref i1) (.ref i2))(hTO:IsPair s.heap TO a b)
  (h1:s.heap.IsListIter i1 l1 k1) (h2:s.heap.IsStrIter i2 ty y t k2) (hl1:s.heap.IsList l1 xs) (hx:xs[k1]? = some x) (hy:y.cps[k2]? = some c)
  (hQ:∀ h',IsZip h' z TI TO (rawInt s.heap.objs.size)->IsPair h' TO x (.str ⟨#[c]⟩ s.toks)->h'.IsListIter i1 l1 (k1+1)->h'.IsStrIter i2 ty y t (k2+1)->IsPair h' s.heap.objs.size x (.str ⟨#[c]⟩ s.toks)->h'.objs.size=s.heap.objs.size+1 ->
   (∀ c o,c≠z->c≠TO->c≠i1->c≠i2->s.heap.get? c=some o->h'.get? c=some o)->Q (.ref s.heap.objs.size) { s with heap:=h',toks:=s.toks+1 }) :
  wpAny (model prog w) A (Builtin.«zip.__next__» ⟨[.ref z],[]⟩) (fun fin s'=>∃ v,fin = .done (.ret v)/\Q v s') E s:=by
 show wpAny _ _ (field (.ref z) 2 >>= _) _ _ _;refine wpAny_bind (wpAny_field hz rfl (x:=.bool false) rfl ?_);show wpAny _ _ (field (.ref z) 3 >>= _) _ _ _;refine wpAny_bind (wpAny_field hz rfl (x:=.ref TI) rfl (wpAny_bind (wpAny_seqItems hTI rfl ?_)));show wpAny _ _ (Builtin.SmallTypes.ownedTupleIsFree (.ref z) >>= _) _ _ _;refine wpAny_bind ?_;unfold Builtin.SmallTypes.ownedTupleIsFree;refine wpAny_bind (wpAny_field hz rfl (x:=.none) rfl (wpAny_pure ?_));simp only[if_true];refine wpAny_bind (wpAny_rule (wpAny_bind (wpAny_field hz rfl (x:=.ref TO) rfl (wpAny_bind (wpAny_setField_rec hz (by simp) fun g1 e1 s1=>?_)))))
 replace e1:IsZip g1 z TI TO .ellipsis:=e1
 refine wpAny_bind ?_;simp only[List.zipIdx_cons,List.zipIdx_nil,List.forIn_cons,List.forIn_nil];refine wpAny_bind (wpAny_bind (wpAny_onRaise ?_));show wpAny _ _ (Builtin.SmallTypes.nextOf (.ref i1) >>= _) _ _ _;refine wpAny_bind (wpAny_nextOf_list_item (h1.extBut s1.extBut D.i1z) (hl1.extBut s1.extBut D.l1z) hx fun g2 f1 s2=>wpAny_pure ?_);have p2:IsPair g2 TO a b:=s2.extBut _ _ D.TOi1 (s1.extBut _ _ D.TOz hTO);refine wpAny_bind (wpAny_seqItems p2 rfl (wpAny_bind (wpAny_updateSeq_pair p2 fun g3 p3 s3=>wpAny_bind (wpAny_letGo (wpAny_pure ?_)))))
 replace p3:IsPair g3 TO x b:=p3
 refine wpAny_bind (wpAny_bind (wpAny_onRaise ?_));show wpAny _ _ (Builtin.SmallTypes.nextOf (.ref i2) >>= _) _ _ _;refine wpAny_bind (S.item (((h2.extBut s1.extBut D.i2z).extBut s2.extBut D.i12.symm).extBut s3.extBut D.TOi2.symm) hy fun g4 f2 s4=>wpAny_pure ?_);have p4:IsPair g4 TO x b:=s4.extBut _ _ D.TOi2 p3;refine wpAny_bind (wpAny_seqItems p4 rfl (wpAny_bind (wpAny_updateSeq_pair p4 fun g5 p5 s5=>wpAny_bind (wpAny_letGo (wpAny_pure (wpAny_pure ?_))))))
 replace p5:IsPair g5 TO x (.str ⟨#[c]⟩ s.toks):=p5
 refine wpAny_bind (wpAny_seqItems p5 rfl (wpAny_bind (wpAny_newTuple ?_)));have hsz:g5.objs.size=s.heap.objs.size:=by rw[s5.1,s4.1,s3.1,s2.1,s1.1]
 have z5:IsZip g5 z TI TO .ellipsis:=s5.extBut _ _ D.TOz.symm (s4.extBut _ _ D.i2z.symm (s3.extBut _ _ D.TOz.symm (s2.extBut _ _ D.i1z.symm e1)));have k5:∀ c o,c≠z->c≠TO->c≠i1->c≠i2->s.heap.get? c=some o->g5.get? c=some o:=fun c o c1 c2 c3 c4 e =>
  s5.extBut _ _ c2 (s4.extBut _ _ c4 (s3.extBut _ _ c2 (s2.extBut _ _ c3 (s1.extBut _ _ c1 e))))
 have n1:g5.IsListIter i1 l1 (k1+1):=((f1.extBut s3.extBut D.TOi1.symm).extBut s4.extBut D.i12).extBut s5.extBut D.TOi1.symm;have n2:g5.IsStrIter i2 ty y t (k2+1):=f2.extBut s5.extBut D.TOi2.symm;have zl:z<g5.objs.size:=Heap.lt_size z5;show wpAny _ _ (Builtin.SmallTypes.ownedTupleHandOut (.ref z) (.ref g5.objs.size) >>= _) _ _ _;refine wpAny_bind ?_;unfold Builtin.SmallTypes.ownedTupleHandOut;have z6:IsZip (g5.push { cls:=.type "tuple",data:=.seq #[x,.str ⟨#[c]⟩ s.toks] }) z TI TO .ellipsis:=Heap.get?_push_of_some _ z5;refine wpAny_bind (wpAny_setField_rec z6 (by simp) fun g7 z7 s7=>?_)
 replace z7:IsZip g7 z TI TO (rawInt g5.objs.size):=z7
 refine wpAny_setField_rec z7 (by simp) fun g8 z8 s8=>?_
 replace z8:IsZip g8 z TI TO (rawInt g5.objs.size):=z8
 have up:∀ c o,c≠z->g5.get? c=some o->g8.get? c=some o:=fun c o c1 e=>s8.extBut _ _ c1 (s7.extBut _ _ c1 (Heap.get?_push_of_some _ e))
 have t8:IsPair g8 g5.objs.size x (.str ⟨#[c]⟩ s.toks):=s8.extBut _ _ (gp zl) (s7.extBut _ _ (gp zl) (Heap.get?_push_size _ rfl));have y8:g8.objs.size=g5.objs.size+1:=by rw[s8.1,s7.1,Heap.size_push]
 rw[hsz] at z8 t8 y8;refine wpAny_pure ⟨_,rfl,?_⟩;show Q (.ref g5.objs.size) _;rw[hsz];exact hQ g8 z8 (up _ _ D.TOz p5) (n1.at fun o e=>up _ o D.i1z e) (n2.extBut (fun c o h e=>up c o h e) D.i2z) t8 y8 fun c o c1 c2 c3 c4 e=>up c o c1 (k5 c o c1 c2 c3 c4 e)
theorem CK {Q:Fin->Shared->Prop}(S:jt ty)(hh:A.handled=none)(D:ZipApart z TI TO i1 i2 l1 l1)(hz:IsZip s.heap z TI TO .none)(hTI:IsPair s.heap TI (.ref i1) (.ref i2))(hTO:IsPair s.heap TO a b)
  (h1:s.heap.IsListIter i1 l1 k1) (h2:s.heap.IsStrIter i2 ty y t k2) (hl1:s.heap.IsList l1 xs) (hend:xs[k1]? = none\/y.cps[k2]? = none)
  (hE:∀ h' e,(∀ c o,c≠z->c≠TO->c≠i1->c≠i2->s.heap.get? c=some o->h'.get? c=some o)->(∃ o,h'.get? e=some o/\o.cls = .type "StopIteration")->E (.ref e) { s with heap:=h' }) :
  wpAny (model prog w) A (Builtin.«zip.__next__» ⟨[.ref z],[]⟩) Q E s:=by
 show wpAny _ _ (field (.ref z) 2 >>= _) _ _ _;refine wpAny_bind (wpAny_field hz rfl (x:=.bool false) rfl ?_);show wpAny _ _ (field (.ref z) 3 >>= _) _ _ _;refine wpAny_bind (wpAny_field hz rfl (x:=.ref TI) rfl (wpAny_bind (wpAny_seqItems hTI rfl ?_)));show wpAny _ _ (Builtin.SmallTypes.ownedTupleIsFree (.ref z) >>= _) _ _ _;refine wpAny_bind ?_;unfold Builtin.SmallTypes.ownedTupleIsFree;refine wpAny_bind (wpAny_field hz rfl (x:=.none) rfl (wpAny_pure ?_));simp only[if_true];refine wpAny_bind (wpAny_rule (wpAny_bind (wpAny_field hz rfl (x:=.ref TO) rfl (wpAny_bind (wpAny_setField_rec hz (by simp) fun g1 e1 s1=>?_)))))
 replace e1:IsZip g1 z TI TO .ellipsis:=e1
 refine wpAny_bind ?_;simp only[List.zipIdx_cons,List.zipIdx_nil,List.forIn_cons,List.forIn_nil];refine wpAny_bind (wpAny_bind (wpAny_onRaise ?_));show wpAny _ _ (Builtin.SmallTypes.nextOf (.ref i1) >>= _) _ _ _;cases hx:xs[k1]? with
 |none =>
  refine wpAny_bind (wpAny_nextOf_list_end hh (h1.extBut s1.extBut D.i1z) (hl1.extBut s1.extBut D.l1z) hx fun g2 e s2 ⟨oe,hoe,hce⟩=>?_);have z2:IsZip g2 z TI TO .ellipsis:=s2 _ _ D.i1z.symm e1;have hez:e≠z:=fun x=>by subst x;rw[z2] at hoe;cases hoe;simp at hce
  exact wpAny_setField_rec z2 (by simp) fun g3 _ s3=>hE g3 e (fun c o c1 _ c3 _ x=>s3.extBut _ _ c1 (s2 _ _ c3 (s1.extBut _ _ c1 x))) ⟨oe,s3.extBut _ _ hez hoe,hce⟩
 |some x =>
  have hy:y.cps[k2]? = none:=hend.resolve_left fun h=>by rw[hx] at h;cases h
  refine wpAny_bind (wpAny_nextOf_list_item (h1.extBut s1.extBut D.i1z) (hl1.extBut s1.extBut D.l1z) hx fun g2 f1 s2=>wpAny_pure ?_);have p2:IsPair g2 TO a b:=s2.extBut _ _ D.TOi1 (s1.extBut _ _ D.TOz hTO);refine wpAny_bind (wpAny_seqItems p2 rfl (wpAny_bind (wpAny_updateSeq_pair p2 fun g3 p3 s3=>wpAny_bind (wpAny_letGo (wpAny_pure ?_)))));refine wpAny_bind (wpAny_bind (wpAny_onRaise ?_));show wpAny _ _ (Builtin.SmallTypes.nextOf (.ref i2) >>= _) _ _ _;refine wpAny_bind (S.done hh (((h2.extBut s1.extBut D.i2z).extBut s2.extBut D.i12.symm).extBut s3.extBut D.TOi2.symm) hy fun g4 e s4 ⟨oe,hoe,hce⟩=>?_);have z4:IsZip g4 z TI TO .ellipsis:=s4 _ _ D.i2z.symm (s3.extBut _ _ D.TOz.symm (s2.extBut _ _ D.i1z.symm e1));have hez:e≠z:=fun x=>by subst x;rw[z4] at hoe;cases hoe;simp at hce
  exact wpAny_setField_rec z4 (by simp) fun g5 _ s5=>hE g5 e (fun c o c1 c2 c3 c4 x=>s5.extBut _ _ c1 (s4 _ _ c4 (s3.extBut _ _ c2 (s2.extBut _ _ c3 (s1.extBut _ _ c1 x))))) ⟨oe,s5.extBut _ _ hez hoe,hce⟩
theorem A4 {Q:Option Value->Shared->Prop}(S:jt ty)(D:ZipApart z TI TO i1 i2 l1 l1)(hz:IsZip s.heap z TI TO .none)(hTI:IsPair s.heap TI (.ref i1) (.ref i2))(hTO:IsPair s.heap TO a b)
  (h1:s.heap.IsListIter i1 l1 k1) (h2:s.heap.IsStrIter i2 ty y t k2) (hl1:s.heap.IsList l1 xs) (hx:xs[k1]? = some x) (hy:y.cps[k2]? = some c)
  (hQ:∀ h',IsZip h' z TI TO (rawInt s.heap.objs.size)->IsPair h' TO x (.str ⟨#[c]⟩ s.toks)->h'.IsListIter i1 l1 (k1+1)->h'.IsStrIter i2 ty y t (k2+1)->IsPair h' s.heap.objs.size x (.str ⟨#[c]⟩ s.toks)->h'.objs.size=s.heap.objs.size+1 ->
   (∀ c o,c≠z->c≠TO->c≠i1->c≠i2->s.heap.get? c=some o->h'.get? c=some o)->Q (some (.ref s.heap.objs.size)) { s with heap:=h',toks:=s.toks+1 }) :
  wpAny (model prog w) A (pyNext (.ref z)) Q E s:=by
 have hT:s.TypeIs (.ref z) "zip":=⟨_,hz,rfl⟩;unfold pyNext;exact wpAny_bind (wpAny_attempt (wpAny_callSpecial?_slot (name:=Str.ofString "__next__") hT F.slot_zip_next
  (wpAny_call_entry F.slot_zip_next hT F.entry_zip_next
   (zB S D hz hTI hTO h1 h2 hl1 hx hy fun h' a1 a2 a3 a4 a5 a6 a7=>wpAny_pure (hQ h' a1 a2 a3 a4 a5 a6 a7)) (F.args_zip_next_1 _))))
theorem AJ {Q:Option Value->Shared->Prop}(S:jt ty)(hh:A.handled=none)(D:ZipApart z TI TO i1 i2 l1 l1)(hz:IsZip s.heap z TI TO .none)(hTI:IsPair s.heap TI (.ref i1) (.ref i2))(hTO:IsPair s.heap TO a b)
  (h1:s.heap.IsListIter i1 l1 k1) (h2:s.heap.IsStrIter i2 ty y t k2) (hl1:s.heap.IsList l1 xs) (hend:xs[k1]? = none\/y.cps[k2]? = none)
  (hQ:∀ h',(∀ c o,c≠z->c≠TO->c≠i1->c≠i2->s.heap.get? c=some o->h'.get? c=some o)->Q none { s with heap:=h' }):wpAny (model prog w) A (pyNext (.ref z)) Q E s:=by
 have hT:s.TypeIs (.ref z) "zip":=⟨_,hz,rfl⟩;unfold pyNext;refine wpAny_bind (wpAny_attempt (wpAny_callSpecial?_slot (name:=Str.ofString "__next__") hT F.slot_zip_next
  (wpAny_call_entry F.slot_zip_next hT F.entry_zip_next (CK S hh D hz hTI hTO h1 h2 hl1 hend fun h' e hk ⟨o,ho,hc⟩=>?_) (F.args_zip_next_1 _))))
 exact wpAny_bind (wpAny_isInstance (T:="StopIteration") (b:=true) ⟨o,ho,hc⟩ isSubtype_stop (wpAny_pure (hQ _ hk)))
end
variable {ty:String}{y:Str}
section
variable {prog:Program}{w:World}{A:Around}{E:Value->Shared->Prop}{s:Shared}
noncomputable abbrev zW (h:Heap)(l1:Addr)(ty:String)(y:Str)(t:Tok):Heap:=(zipH1 h l1).push { cls:=.type ty,data:=.fields #[.str y t,.int 0 0] }
noncomputable abbrev zH (h:Heap)(l1:Addr)(ty:String)(y:Str)(t:Tok):Heap:=(zW h l1 ty y t).push { cls:=.type "tuple",data:=.seq #[.ref h.objs.size,.ref (zipH1 h l1).objs.size] }
noncomputable abbrev AH (h:Heap)(l1:Addr)(ty:String)(y:Str)(t:Tok):Heap:=(zH h l1 ty y t).push { cls:=.type "tuple",data:=.seq #[.none,.none] }
noncomputable abbrev uZ (h:Heap)(l1:Addr)(ty:String)(y:Str)(t:Tok):Heap:=(AH h l1 ty y t).push { cls:=.type "zip",data:=.fields #[.none,.bool false,.bool false,.ref (zW h l1 ty y t).objs.size,.ref (zH h l1 ty y t).objs.size] }
noncomputable abbrev Gives (ty:String)(y:Str)(t:Tok):Prop:=∀{prog:Program}{w:World}{A:Around}{E:Value->Shared->Prop}{s:Shared}{Q:Value->Shared->Prop},Q (.ref s.heap.objs.size) { s with heap:=s.heap.push { cls:=.type ty,data:=.fields #[.str y t,.int 0 0] } }->wpAny (model prog w) A (pyIter (.str y t)) Q E s
theorem yd (l1:Addr)(xs:Array Value)(G:Gives ty y t) :
  Meets (Builtin.«zip.__new__» ⟨[.type "zip",.ref l1,.str y t],[]⟩) (fun _ R s=>s.heap.IsList l1 xs/\R (.ok (.ret (.ref (AH s.heap l1 ty y t).objs.size))) { s with heap:=uZ s.heap l1 ty y t }) :=
 .of_wp fun prog w A R s h=>by
  obtain⟨hp,g,d,tk,os⟩:=s;obtain⟨hl1,h⟩:=h;have hsub:=sub_zip;have hL1:Heap.IsList (Shared.heap ⟨hp,g,d,tk,os⟩) l1 xs:=hl1
  wp_walk using wpAny_pyIter_list hL1,G
  exact⟨_,rfl,h⟩
theorem zy {l1:Addr}{xs:Array Value}{Q:Value->Shared->Prop}(G:Gives ty y t)(hl1:s.heap.IsList l1 xs)
  (h:∀ h',IsZip h' (s.heap.objs.size+4) (s.heap.objs.size+2) (s.heap.objs.size+3) .none->IsPair h' (s.heap.objs.size+2) (.ref s.heap.objs.size) (.ref (s.heap.objs.size+1)) ->
   IsPair h' (s.heap.objs.size+3) .none .none->h'.IsListIter s.heap.objs.size l1 0->h'.IsStrIter (s.heap.objs.size+1) ty y t 0 ->
   (∀ c o,s.heap.get? c=some o->h'.get? c=some o)->Q (.ref (s.heap.objs.size+4)) { s with heap:=h' }) :
  wpAny (model prog w) A (call (.type "zip") [.ref l1,.str y t]) Q E s:=by
 refine callType_new F.called_zip (by decide) (F.typeCall_zip_2 _ _) (F.newCall_zip_2 _ _) (fun obj=>F.args_object_init_3 obj _ _) F.entry_zip_new (yd l1 xs G) ⟨hl1,?_⟩;have z1:(zipH1 s.heap l1).objs.size=s.heap.objs.size+1:=Heap.size_push ..;have z2:(zW s.heap l1 ty y t).objs.size=s.heap.objs.size+2:=by rw[Heap.size_push,z1]
 have z3:(zH s.heap l1 ty y t).objs.size=s.heap.objs.size+3:=by rw[Heap.size_push,z2]
 have z4:(AH s.heap l1 ty y t).objs.size=s.heap.objs.size+4:=by rw[Heap.size_push,z3]
 have g5:(uZ s.heap l1 ty y t).get? (AH s.heap l1 ty y t).objs.size=some _:=Heap.get?_push_size _ rfl;have g4:(uZ s.heap l1 ty y t).get? (zH s.heap l1 ty y t).objs.size=some _:=Heap.get?_push_of_some _ (Heap.get?_push_size _ rfl);have g3:(uZ s.heap l1 ty y t).get? (zW s.heap l1 ty y t).objs.size=some _:=Heap.get?_push_of_some _ (Heap.get?_push_of_some _ (Heap.get?_push_size _ rfl));have g2:(uZ s.heap l1 ty y t).get? (zipH1 s.heap l1).objs.size=some _:=Heap.get?_push_of_some _ (Heap.get?_push_of_some _ (Heap.get?_push_of_some _ (Heap.get?_push_size _ rfl)));have g1:(uZ s.heap l1 ty y t).get? s.heap.objs.size=some _:=Heap.get?_push_of_some _ (Heap.get?_push_of_some _ (Heap.get?_push_of_some _ (Heap.get?_push_of_some _ (Heap.get?_push_size _ rfl))));show _/\_;rw[z2,z3,z4] at g5;rw[z1,z2] at g3;rw[z3] at g4;rw[z1] at g2;rw[z4];exact⟨⟨_,g5,rfl⟩,h _ g5 g3 g4 ⟨_,g1,rfl,rfl⟩ ⟨_,g2,rfl,rfl⟩ fun c o x=>Heap.get?_push_of_some _ (Heap.get?_push_of_some _ (Heap.get?_push_of_some _ (Heap.get?_push_of_some _ (Heap.get?_push_of_some _ x))))⟩
end
noncomputable def Gm (K:Frag)(l:Addr)(y:Str):It:=⟨fun i H=>∃ xs x c,iX K H l xs/\xs[i]? = some x/\y.cps[i]? = some c,
 fun i H v H'=>∃ T x c,v = .ref T/\H T=none/\(∀ xs,iX K H l xs->xs[i]? = some x)/\y.cps[i]? = some c/\H'=upd H T (.tup [x,.str ⟨#[c]⟩]),fun i H=>∃ xs,iX K H l xs/\(xs.length<=i\/y.cps.size<=i)⟩
theorem pS {xs:Array Value}{v:Value}(S:jt ty)(hz:IsZip h (b+4) (b+2) (b+3) .none)(hTO:IsPair h (b+3) u v)(h1:h.IsListIter b l i)(h2:h.IsStrIter (b+1) ty y t j)
  (p:h.IsList l xs):ZipApart (b+4) (b+2) (b+3) b (b+1) l l:=by
 obtain⟨o1,e1,c1,_⟩:=h1;obtain⟨o2,e2,c2,_⟩:=h2;obtain⟨o3,e3,c3,_⟩:=p;have a1:=eE e3 hz (by rw[c3];simp);have a2:=eE e3 hTO (by rw[c3];simp);have a3:=eE e3 e1 (by rw[c3,c1];simp);have a4:=eE e3 e2 (by rw[c3,c2];intro z;injection z with z;exact S.n1 z.symm);exact⟨bX b 2 4 (by decide),bX b 3 4 (by decide),bX b 0 4 (by decide),bX b 1 4 (by decide),bX b 2 3 (by decide),bX b 2 0 (by decide),bX b 2 1 (by decide),bX b 3 0 (by decide),bX b 3 1 (by decide),bX b 0 1 (by decide),a1,a2,a3,a4,a1,a2,a3,a4⟩
theorem Ai (S:jt ty)(l b:Addr)(y:Str)(t:Tok):Turn P w K (.Tuple elts x1 pos) (Gm K l y) [b+4,b+2,b+3,b,b+1] (b+4)
  (fun i h=>IsZip h (b+4) (b+2) (b+3) .none/\IsPair h (b+2) (.ref b) (.ref (b+1))/\(∃ u v,IsPair h (b+3) u v)/\h.IsListIter b l i/\h.IsStrIter (b+1) ty y t i) where
 mem:=by simp
 obj:=fun i h st c hc=>by
  obtain⟨hz,hTI,⟨u,v,hTO⟩,h1,h2⟩:=st;simp only[List.mem_cons,List.not_mem_nil,or_false] at hc;rcases hc with rfl | rfl | rfl | rfl | rfl
  .exact⟨_,hz,fun v z=>by cases z⟩
  .exact⟨_,hTI,fun v z=>by cases z⟩
  .exact⟨_,hTO,fun v z=>by cases z⟩
  .obtain⟨o,e,c,d⟩:=h1;exact⟨o,e,fun v z=>by rw[d] at z;cases z⟩
  .obtain⟨o,e,c,d⟩:=h2;exact⟨o,e,fun v z=>by rw[d] at z;cases z⟩
 keep:=fun i h h' st k=>by
  obtain⟨hz,hTI,⟨u,v,hTO⟩,h1,⟨o,e,r⟩⟩:=st;exact⟨k _ (by simp) _ hz,k _ (by simp) _ hTI,⟨u,v,k _ (by simp) _ hTO⟩,h1.at fun o z=>k _ (by simp) o z,⟨o,k _ (by simp) o e,r⟩⟩
 item:=by
  intro X hP hw hK hc i pins s σ H E I hf st hg;subst hP hw hK;obtain⟨xs,x,c0,hq,hx,hy⟩:=hg;obtain⟨its,rv,p,_⟩:=I.list hq;obtain⟨u,hu,ru⟩:=rv.get hx;obtain⟨hz,hTI,⟨u0,v0,hTO⟩,h1,h2⟩:=st;have A:=pS S hz hTO h1 h2 p.isList;have all:∀ c∈[b+4,b+2,b+3,b,b+1],c<s.heap.objs.size:=fun c hc=>by
   have:=Heap.lt_size hz;simp only[List.mem_cons,List.not_mem_nil,or_false] at hc;rcases hc with rfl | rfl | rfl | rfl | rfl
   .exact dH _ _ 4 this (by decide)
   .exact dH _ _ 2 this (by decide)
   .exact dH _ _ 3 this (by decide)
   .exact dH _ _ 0 this (by decide)
   .exact dH _ _ 1 this (by decide)
  have sub:∀ c∈[b+4,b+3,b,b+1],c∈[b+4,b+2,b+3,b,b+1]:=fun c hc=>by
   simp only[List.mem_cons,List.not_mem_nil,or_false] at hc ⊢;rcases hc with rfl | rfl | rfl | rfl<;>simp
  refine A4 S A hz hTI hTO h1 h2 p.isList (x:=u) (c:=c0) (by simpa using hu) hy fun h' a1 a2 a3 a4 a5 a6 hk=>?_
  have I2:Inv X pins σ (upd H s.heap.objs.size (.tup [x,.str ⟨#[c0]⟩])) { s with heap:=h',toks:=s.toks+1 } :=
   paired (t':=s.toks+1) (ch:=[b+4,b+3,b,b+1]) I ru ⟨_,rfl⟩ a5 (fun c o hc q=>hk c o (fun z=>hc (by simp[z])) (fun z=>hc (by simp[z])) (fun z=>hc (by simp[z])) (fun z=>hc (by simp[z])) q) (fun c hc=>hf c (sub c hc)) fun c hc=>all c (sub c hc)
  have f2:∀ c∈[b+4,b+2,b+3,b,b+1],fQ X pins (upd H s.heap.objs.size (.tup [x,.str ⟨#[c0]⟩])) c:=fun c hc=>by
   obtain⟨f0,f⟩:=hf c hc;exact⟨by rw[aJ (ax (all c hc))];exact f0,f⟩
  refine⟨_,rfl,wpAny_letOwnedTupleGo_zip (s:={ s with heap:=h',toks:=s.toks+1 }) a1 fun h3 hz3 hs3=>?_⟩;refine⟨.ref s.heap.objs.size,_,eJ (t':=s.toks+1) (ch:=[b+4]) I2 (fun c o hc q=>hs3.extBut c o (fun z=>hc (by simp[z])) q) (fun c hc=>f2 c (by simp at hc;simp[hc])),rfl,
   ⟨_,x,c0,rfl,I.fresh,fun zs hz=>by rw[I.list_inj hz hq];exact hx,hy,rfl⟩,
   ⟨hz3,hs3.extBut _ _ A.TIz (hk _ _ A.TIz A.TITO A.TIi1 A.TIi2 hTI),⟨_,_,hs3.extBut _ _ A.TOz a2⟩,a3.at fun o z=>hs3.extBut _ o A.i1z z,a4.extBut hs3.extBut A.i2z⟩,fun c hc=>(f2 c hc).1⟩
 done:=by
  intro X hP hw hK hc i pins s σ H E I hf st hg;subst hP hw hK;obtain⟨xs,hq,hx⟩:=hg;obtain⟨its,rv,p,_⟩:=I.list hq;have hl:=rv.length;obtain⟨hz,hTI,⟨u0,v0,hTO⟩,h1,h2⟩:=st;have A:=pS S hz hTO h1 h2 p.isList;refine AJ S (I.ok.hd hc) A hz hTI hTO h1 h2 p.isList ?_ fun h' hk=>⟨rfl,eJ (t':=s.toks) (ch:=[b+4,b+3,b,b+1]) I (fun c o hc q=>hk c o (fun z=>hc (by simp[z])) (fun z=>hc (by simp[z])) (fun z=>hc (by simp[z])) (fun z=>hc (by simp[z])) q) fun c hc=>hf c ?_⟩
  .rcases hx with hx | hx
   .left;simp;omega
   .right;simp;omega
  .simp only[List.mem_cons,List.not_mem_nil,or_false] at hc ⊢;rcases hc with rfl | rfl | rfl | rfl<;>simp
 self:=fun A i s Q E st h=>wpAny_pyIter_zip st.1 h
theorem AN {P:Addr->Prop}(h1:Rd H0 p (.lst vs))(h2:aG K H0 ds vs G)(hp:∀ a∈(p::G) ++ [],P a) :
  fZ K P H0 (Gm K p y) ((ds.zip (y.cps.toList.map fun c=>D.str ⟨#[c]⟩)).map fun z=>.tup [z.1,z.2]) ((p::G) ++ []):=fun H e=>by
 have ep:=e.keep p (hp p (by simp));have h1':Rd H p (.lst vs):=by
  rcases h1 with q | ⟨o,q⟩
  .exact .inl (ep.trans q)
  .exact .inr ⟨o,ep.trans q⟩
 have h2':=e.reps h2 fun a ha=>hp a (by simp[ha])
 refine⟨fun i d hd=>?_,⟨vs,.inl h1',?_⟩⟩
 .obtain⟨d1,c,hd1,hd2,rfl⟩:∃ d1 c,ds[i]? = some d1/\y.cps[i]? = some c/\d = .tup [d1,.str ⟨#[c]⟩]:=by
   rw[List.getElem?_map,aa] at hd;obtain⟨⟨d1,d2⟩,hd,rfl⟩:=hd;rw[List.getElem?_zip_eq_some] at hd;obtain⟨e1,e2⟩:=hd;rw[List.getElem?_map,aa] at e2;obtain⟨c,e2,rfl⟩:=e2;exact⟨d1,c,e1,by simpa using e2,rfl⟩
  obtain⟨v1,g1,a1,b1,c1⟩:=h2'.get hd1;refine⟨⟨vs,v1,c,.inl h1',a1,hd2⟩,fun x H' ⟨T,x',c',e1,e2,e3,e4,e5⟩=>?_⟩;subst e1 e5;have t1:=e3 vs (.inl h1');rw[a1] at t1;cases t1;rw[hd2] at e4;cases e4;have sm:aI H (upd H T (.tup [v1,.str ⟨#[c]⟩])):=aI.new e2;refine⟨sm,g1++([] ++ []),.tup (.inl aK) (.cons (b1.same sm) (.cons (.str _) .nil)),fun z hz=>?_⟩;simp only[List.append_nil] at hz;simp only[List.append_nil];exact ah _ (c1.subset hz)
 .rw[ab,fu,h2.len,ab,show y.cps.toList.length=y.cps.size from rfl];omega
theorem mV {l:List D}(h:sH d=some l):d = .lst l\/∃ y,d = .str y/\l=y.cps.toList.map fun c=>D.str ⟨#[c]⟩:=by
 cases d<;>simp[sH] at h
 .exact .inr ⟨_,rfl,h.symm⟩
 .rw[h];exact .inl rfl
variable {tp:Pos}
section
variable {X:Cx}{T:Tb}
theorem El {f:Expr}{d:Ex}{p:Pos}(hg:Gl X "zip") (hm:X.mg "zip" = none) (ha:PA X [e,f] (uo X.K T (.cons c (.cons d .nil)))) (hs:starEach [e,f] X.env=(false,eval e X.env)::starEach [f] X.env) (hpl:(backTo pos (starEach [f] X.env)).any (·.1)=false):PI X (.Tuple elts x1 tp) (.Call (.Name "zip" p) [e,f] [] pos) (tI X.K T (.zip c d)):=by
 intro pins s σ H R I hq;obtain⟨P,env,F,re,q,hev,k⟩:=hq;unfold dM at hev;obtain⟨r,h1,hev⟩:=Rs.bind_ok hev;obtain⟨t,h2,hev⟩:=Rs.bind_ok hev;obtain⟨l,h3,hev⟩:=Rs.bind_ok hev;obtain⟨m,h4,hev⟩:=Rs.bind_ok hev;have h3:=vt (cF h3);cases hev;have hl:bC T (.cons c (.cons d .nil)) env = .ok [r,t]:=by unfold bC;rw[h1];unfold bC;rw[h2];unfold bC;rfl
 refine Call_ (fC I hg hm boot_zip (cy (cH (ha pos pins s σ H (fun vs H'=>∃ G,Args X.K env F H H' [r,t] vs G) I ⟨P,env,F,re,[r,t],hl,fun vs H' G ar=>⟨G,ar⟩⟩) fun us s1 ⟨vs,H1,I1,r1,G,ar⟩=>?_) hs hpl));have rs:aG X.K H1 [r.1,t.1] vs G:=ar.reps;rw[h3] at rs;rcases mV (cF h4) with e4 | ⟨y,e4,rfl⟩
 rotate_left
 .rw[e4] at rs;cases rs with
  |cons rp rs =>
   obtain⟨x',rfl,rp'⟩:=rs.of1;obtain⟨a,vs,g,rfl,rfl,a1,a2⟩:=rp.lst_inv;obtain⟨rfl,rfl⟩:=rp'.str_inv;obtain⟨u,v,rfl,ru,rv⟩:=r1.two;cases ru;obtain⟨tk,rfl⟩:=rv;obtain⟨its,_,pl,_⟩:=I1.list (.inl a1);have go:∀{ty:String},jt ty->Gives ty y tk->wpAny (model X.prog X.w) X.A (call (.type "zip") [.ref a,.str y tk]) (fun v s1=>wpAny (model X.prog X.w) X.A (pyIter v) (BW X pins σ (.Tuple elts x1 tp) R) X.xe s1) X.xe s1:=fun {ty} S G=>by
    refine zy G pl.isList fun h' q1 q2 q3 q4 q5 hk=>wpAny_pyIter_zip q1 ⟨_,_,_,_,H1,rfl,I1.kept (t':=s1.toks) hk,Ai S a s1.heap.objs.size y tk,⟨q1,q2,⟨_,_,q3⟩,q4,q5⟩,fun b hb=>?_,
     k _ H1 _ ar.same (iB ar fun q hq=>by simpa[aP] using hq) (fun b hb=>?_) fun P' hP=>AN a1 a2 hP⟩
    .simp only[List.mem_cons,List.not_mem_nil,or_false] at hb;have hb:s1.heap.objs.size<=b:=sC _ _ hb;exact I1.fpOk hb (I1.hok.fresh hb)
    .rw[aw] at hb;exact rp.nn hb
   cases ha:y.cps.all (· < 128)
   .exact go An fun h=>wpAny_pyIter_wide ha h
   .exact go zt fun h=>wpAny_pyIter_ascii ha h
 rw[e4] at rs;cases rs with
 |cons rp rs =>
  obtain⟨x',rfl,rp'⟩:=rs.of1;obtain⟨a,vs,g,rfl,rfl,a1,a2⟩:=rp.lst_inv;obtain⟨a',vs',g',rfl,rfl,a1',a2'⟩:=rp'.lst_inv;obtain⟨u,v,rfl,ru,rv⟩:=r1.two;cases ru;cases rv;obtain⟨its,_,pl,_⟩:=I1.list (.inl a1);obtain⟨its',_,pl',_⟩:=I1.list (.inl a1');refine call_zip_2 pl.isList pl'.isList fun h' q1 q2 q3 q4 q5 q6 hk=>wpAny_pyIter_zip q1 ⟨_,_,_,_,H1,rfl,I1.kept (t':=s1.toks) hk,yD a a' s1.heap.objs.size,⟨q1,q2,⟨_,_,q3⟩,q4,q5⟩,fun b hb=>?_,
   k _ H1 _ ar.same (iB ar fun q hq=>by simpa[aP] using hq) (fun b hb=>?_) fun P' hP=>xU a1 a2 a1' a2' hP⟩
  .simp only[List.mem_cons,List.not_mem_nil,or_false] at hb;have hb:s1.heap.objs.size<=b:=sC _ _ hb;exact I1.fpOk hb (I1.hok.fresh hb)
  .rcases ig.mp hb with hb | hb
   .exact rp.nn hb
   .exact rp'.nn hb
end
noncomputable def GI (y:Str):It:=⟨fun i H=>∃ c,y.cps[i]? = some c,fun i H v H'=>∃ T c,v = .ref T/\H T=none/\y.cps[i]? = some c/\H'=upd H T (.tup [.int i,.str ⟨#[c]⟩]),fun i H=>i=y.cps.size⟩
def Bv (ty:String)(y:Str)(t:Tok):Prop:=∀{prog:Program}{w:World}{A:Around},A.handled=none->∀(it:Addr),Draws prog w A it [it] y.cps.size (fun i v=>∃ c u,y.cps[i]? = some c/\v=Value.str { cps:=#[c] } u) fun i h=>h.IsStrIter it ty y t i
theorem qL (S:Bv ty y t)(e it:Addr)(hne:e≠it):Turn P w K (.Tuple elts x1 pos) (GI y) [e,it] e (fun i h=>(∃ old,IsEnum h e it (i:Nat) old)/\h.IsStrIter it ty y t i) where
 mem:=by simp
 obj:=fun i h st b hb=>by
  obtain⟨⟨old,he⟩,hit⟩:=st;have hb:b=e\/b=it:=by simpa using hb
  rcases hb with rfl | rfl
  .exact⟨_,he,fun v z=>by cases z⟩
  .obtain⟨o,e,c,d⟩:=hit;exact⟨o,e,fun v z=>by rw[d] at z;cases z⟩
 keep:=fun i h h' st k=>by
  obtain⟨⟨old,he⟩,⟨o,e1,r⟩⟩:=st;exact⟨⟨old,k e (by simp) _ he⟩,⟨o,k it (by simp) o e1,r⟩⟩
 item:=by
  intro X hP hw hK hc i pins s σ H E I hf st hg;subst hP hw hK;obtain⟨c,hc0⟩:=hg;obtain⟨⟨old,he⟩,hit⟩:=st;have lts:∀ b∈[e,it],b<s.heap.objs.size:=fun b hb=>by
   have hb:b=e\/b=it:=by simpa using hb
   rcases hb with rfl | rfl
   .exact Heap.lt_size he
   .obtain⟨o,e,_⟩:=hit;exact Heap.lt_size e
  have hi:i<y.cps.size:=(Array.getElem?_eq_some_iff.mp hc0).1;refine wpAny_pyNext_enum_itemD (S (A:=X.A.in1) (I.ok.hd hc) it) he hit hi hne (by simpa using hne) fun x h' tk hx ho hit' hT hsz hk=>?_
  obtain⟨c',u,hc',rfl⟩:=hx;rw[hc0] at hc';cases hc';have I2:Inv X pins σ (upd H s.heap.objs.size (.tup [.int i,.str ⟨#[c]⟩])) { s with heap:=h',toks:=tk+1 } :=
   paired (ch:=[e,it]) I ⟨tk,rfl⟩ ⟨u,rfl⟩ hT (fun b o hb q=>hk b o (fun z=>hb (by simp[z])) (fun z=>hb (by simp[z])) q) hf lts
  have f2:∀ b∈[e,it],fQ X pins (upd H s.heap.objs.size (.tup [.int i,.str ⟨#[c]⟩])) b:=fun b hb=>by
   obtain⟨f0,f⟩:=hf b hb;exact⟨by rw[aJ (ax (lts b hb))];exact f0,f⟩
  refine⟨_,rfl,wpAny_letOwnedTupleGo_enum (s:={ s with heap:=h',toks:=tk+1 }) ho fun h2 he2 hs2=>?_⟩;refine⟨.ref s.heap.objs.size,_,eJ (ch:=[e]) I2 (fun b o hb q=>hs2.extBut b o (fun z=>hb (by simp[z])) q) (fun b hb=>f2 b (by simp at hb;simp[hb])),rfl,⟨_,c,rfl,I.fresh,hc0,rfl⟩,⟨⟨_,by simpa using he2⟩,hit'.extBut hs2.extBut (Ne.symm hne)⟩,fun b hb=>(f2 b hb).1⟩
 done:=by
  intro X hP hw hK hc i pins s σ H E I hf st hg;subst hP hw hK;obtain⟨⟨old,he⟩,hit⟩:=st;have hg:i=y.cps.size:=hg;subst hg;exact wpAny_pyNext_enum_endD (S (A:=X.A.in1) (I.ok.hd hc) it) he hit fun h' eb=>⟨rfl,eJ (t':=s.toks) (ch:=[it]) I (fun b o hb q=>eb b o (fun z=>hb (by simp[z])) q) fun b hb=>hf b (by simp at hb;simp[hb])⟩
 self:=fun A i s Q E st h=>by
  obtain⟨⟨old,he⟩,_⟩:=st;exact wpAny_pyIter_enum he h
theorem qJ {P:Addr->Prop}:fZ K P H0 (GI y) ((y.cps.toList.map fun c=>D.str ⟨#[c]⟩).zipIdx.map fun q=>.tup [.int q.2,q.1]) []:=fun H e=>by
 refine⟨fun i d hd=>?_,show _=_ by rw[ab,List.length_zipIdx,ab,ay]⟩;obtain⟨c,hc,rfl⟩:∃ c,y.cps[i]? = some c/\d = .tup [.int i,.str ⟨#[c]⟩]:=by
  rw[List.getElem?_map,List.getElem?_zipIdx,List.getElem?_map,Array.getElem?_toList] at hd;cases q:y.cps[i]? with
  |none=>rw[q] at hd;cases hd
  |some c=>rw[q] at hd;simp at hd;exact⟨c,rfl,hd.symm⟩
 refine⟨⟨c,hc⟩,fun x H' ⟨T,c',e1,e2,e3,e4⟩=>?_⟩;subst e1 e4;rw[hc] at e3;cases e3;exact⟨aI.new e2,[]++([] ++ []),.tup (.inl aK) (.cons (.int _) (.cons (.str _) .nil)),fun z hz=>by simpa using hz⟩
section
variable {X:Cx}{T:Tb}
theorem A6 {p:Pos}(hg:Gl X "enumerate") (hm:X.mg "enumerate" = none) (ha:PA X [e] (uo X.K T (.cons c .nil))) (hs:starEach [e] X.env=(false,eval e X.env)::starEach [] X.env):PI X (.Tuple elts x1 tp) (.Call (.Name "enumerate" p) [e] [] pos) (tI X.K T (.enum c)):=by
 intro pins s σ H R I hq;obtain⟨P,env,F,re,q,hev,k⟩:=hq;unfold dM at hev;obtain⟨r,h1,hev⟩:=Rs.bind_ok hev;obtain⟨l,h2,hev⟩:=Rs.bind_ok hev;cases hev;have hl:bC T (.cons c .nil) env = .ok [r]:=by unfold bC;rw[h1];unfold bC;rfl
 refine Call_ (fC I hg hm boot_enumerate (cy (cH (ha pos pins s σ H (fun vs H'=>∃ G,Args X.K env F H H' [r] vs G) I ⟨P,env,F,re,[r],hl,fun vs H' G ar=>⟨G,ar⟩⟩) fun us s1 ⟨vs,H1,I1,r1,G,ar⟩=>?_) hs rfl));have rs:aG X.K H1 [r.1] vs G:=ar.reps;obtain⟨x,rfl,rp⟩:=rs.of1;obtain⟨u,rfl,ru⟩:=r1.one;have fp:∀ b∈[s1.heap.objs.size+1,s1.heap.objs.size],fQ X pins H1 b:=fun b hb=>by
  simp only[List.mem_cons,List.not_mem_nil,or_false] at hb;have hb:s1.heap.objs.size<=b:=Cq _ _ hb;exact I1.fpOk hb (I1.hok.fresh hb)
 rcases mV (cF h2) with e2 | ⟨y,e2,rfl⟩
 .rw[e2] at rp;obtain⟨a,vs,g,rfl,rfl,a1,a2⟩:=rp.lst_inv;cases ru;obtain⟨its,rv,pl,hz⟩:=I1.list (.inl a1);exact call_enumerate_list pl.isList fun h' he hit hsz hk=>wpAny_pyIter_enum he ⟨_,[s1.heap.objs.size+1,s1.heap.objs.size],_,_,H1,rfl,I1.kept (t':=s1.toks) hk,uM a _ _ (Nat.succ_ne_self _),⟨⟨_,he⟩,hit⟩,fp,k _ H1 (a::g) ar.same (iB ar fun q hq=>by simpa[aP] using hq) (fun b hb=>rp.nn hb) fun P' hP=>uF a1 a2 hP⟩
 .rw[e2] at rp;obtain⟨rfl,rfl⟩:=rp.str_inv;obtain⟨tk,rfl⟩:=ru;have dr:Bv (strIterType y) y tk:=by
   intro prog w A hA it;unfold strIterType;split
   .exact Draws.strAscii hA it y tk
   .exact Draws.strWide hA it y tk
  exact call_enumerate_str fun h' he hit hsz hk=>wpAny_pyIter_enum he ⟨_,[s1.heap.objs.size+1,s1.heap.objs.size],_,_,H1,rfl,I1.kept (t':=s1.toks) hk,qL dr _ _ (Nat.succ_ne_self _),⟨⟨_,he⟩,hit⟩,fp,k _ H1 [] ar.same (iB ar fun q hq=>by simpa[aP] using hq) (fun b hb=>(nomatch hb)) fun P' hP=>qJ⟩
end
end Pc
end
section
namespace Pc.Se
open PySem PySem.SetTable
def o7 (a:Array Nat):Prop:=a.toList.Pairwise (· < ·)
variable {k:Nat}{xs:Array Nat}
theorem oC (h:o7 xs){i:Nat}(hik:i<k)(hk:k<xs.size)(d:Nat):xs.getD i d<xs.getD k d:=by
 have hk':k<xs.toList.length:=by simpa using hk
 have hi':i<xs.toList.length:=by omega
 have:=List.pairwise_iff_getElem.mp h i k hi' hk' hik;have e1:xs.getD i d=xs.toList[i]:=by simp[Array.getD,show i<xs.size by omega]
 have e2:xs.getD k d=xs.toList[k]:=by simp[Array.getD,hk]
 rw[e1,e2];exact this
theorem oP (h:o7 xs)(j:Nat):∀(f lo hi:Nat),lo<=hi->hi<=xs.size->hi - lo<=f->(∀ i,i<lo->xs.getD i j<j)->(∀ i,hi<=i->i<xs.size->j<=xs.getD i j) ->
  below.go xs j f lo hi<=xs.size/\(∀ i,i<below.go xs j f lo hi->xs.getD i j<j)/\∀ i,below.go xs j f lo hi<=i->i<xs.size->j<=xs.getD i j
 | 0,lo,hi,h1,h2,h3,h4,h5=>by
  have:lo=hi:=by omega
  subst this;exact⟨h2,h4,h5⟩
 | f+1,lo,hi,h1,h2,h3,h4,h5=>by
  unfold below.go;by_cases hl:lo<hi
  .rw[if_pos hl];dsimp only;by_cases hm:xs.getD ((lo+hi) / 2) j<j
   .rw[if_pos hm];refine oP h j f _ _ (by omega) h2 (by omega) (fun i hi'=>?_) h5;by_cases e:i=(lo+hi) / 2
    .rw[e];exact hm
    .exact Nat.lt_trans (oC h (show i<(lo+hi) / 2 by omega) (by omega) j) hm
   .rw[if_neg hm];refine oP h j f _ _ (by omega) (by omega) (by omega) h4 fun i h6 h7=>?_
    by_cases e:i=(lo+hi) / 2
    .rw[e];omega
    .have:=oC h (show (lo+hi) / 2<i by omega) h7 j;omega
  .rw[if_neg hl];have:lo=hi:=by omega
   subst this;exact⟨h2,h4,h5⟩
theorem iZ (h:o7 xs)(j:Nat):below xs j<=xs.size/\(∀ i,i<below xs j->xs.getD i j<j)/\∀ i,below xs j<=i->i<xs.size->j<=xs.getD i j :=
 oP h j xs.size 0 xs.size (dg _) (au _) (by omega) (fun i hi=>absurd hi (ja _)) (fun i h1 h2=>by omega)
theorem su (h:o7 xs)(hk:k<xs.size):below xs (xs[k]+1)=k+1:=by
 obtain⟨a,b,c⟩:=iZ h (xs[k]+1);have e:xs.getD k (xs[k]+1)=xs[k]:=by simp[Array.getD,hk]
 have h1:k<below xs (xs[k]+1):=by
  by_cases hl:k<below xs (xs[k]+1)
  .exact hl
  .have:=c k (by omega) hk;omega
 by_cases h2:k+1<below xs (xs[k]+1)
 .have:=b (k+1) h2;have g:=oC h (show k<k+1 by omega) (show k+1<xs.size by omega) (xs[k]+1);omega
 .omega
theorem rV (h:o7 xs):below xs 0=0:=by
 obtain⟨a,b,c⟩:=iZ h 0;by_cases h1:0<below xs 0
 .exact absurd (b 0 h1) (ja _)
 .omega
variable {j:Nat}
theorem Ak (h:o7 xs)(hj:xs[below xs j]?≠some j):o7 (insertAt xs (below xs j) j):=by
 obtain⟨a,b,c⟩:=iZ h j;unfold o7;rw[SetTable.toList_insertAt];generalize hp:below xs j=p at *;have hg:∀ i (hi:i<xs.toList.length),xs.getD i j=xs.toList[i]:=fun i hi=>by
  have:i<xs.size:=by simpa using hi
  simp[Array.getD,this]
 have hlen:xs.toList.length=xs.size:=ay;have ht:∀ x∈xs.toList.take p,x<j:=fun x hx=>by
  obtain⟨i,hi,rfl⟩:=List.mem_take_iff_getElem.mp hx;have:=b i (by omega);rw[hg i (by omega)] at this;exact this
 have hd:∀ x∈xs.toList.drop p,j<x:=fun x hx=>by
  obtain⟨i,hi,rfl⟩:=List.mem_drop_iff_getElem.mp hx;have hi':p+i<xs.toList.length:=by omega
  have h1:=c (p+i) (by omega) (by omega);rw[hg (p+i) hi'] at h1;have e:xs.toList[p+i]=xs.toList[p+i]:=rfl;by_cases e:xs.toList[p+i]=j
  .exfalso;cases i with
   |zero =>
    apply hj;rw[<-Array.getElem?_toList,List.getElem?_eq_getElem (by omega)];simp only[Nat.add_zero] at e;rw[e]
   |succ i =>
    have h2:=c (p+i) (by omega) (by omega);have h3:=oC h (show p+i<p+(i+1) by omega) (by omega) j;rw[hg _ hi',e] at h3;omega
  .omega
 refine List.pairwise_append.mpr ⟨h.sublist (List.take_sublist _ _),List.pairwise_cons.mpr ⟨hd,h.sublist (List.drop_sublist _ _)⟩,fun x hx y hy=>?_⟩;rcases cg.mp hy with rfl | hy
 .exact ht x hx
 .exact Nat.lt_trans (ht x hx) (hd y hy)
def xh (t:SetTable)(j:Nat):Prop:=t.place[below t.place j]?≠some j
variable {t:SetTable}
theorem nE (h:∀ i,t.slot j≠.live i):xh t j:=fun e=>by
 refine h (below t.place j) ?_;unfold SetTable.slot;dsimp only;rw[e];simp
theorem mH (t:SetTable)(p:Probe):(t.advance p).dummy=p.dummy:=by
 unfold SetTable.advance;split
 .rfl
 .rfl
variable {h:Int}
theorem jj {g:Nat->Int}:∀(f:Nat) (p:Probe) (j:Nat) (d:Option Nat),(∀ e,p.dummy=some e->xh t e)->probe.go t g h f p=some (.empty j d)->xh t j/\∀ e,d=some e->xh t e
 |0,p,j,d,_,h=>by cases h
 | f+1,p,j,d,hp,h=>by
  unfold probe.go at h;split at h
  .rename_i hs;cases h;exact⟨nE fun i e=>(by rw[hs] at e;cases e),hp⟩
  .rename_i hs;refine jj f _ j d (fun e he=>?_) h;rw[mH] at he;cases he;exact nE fun i e=>by rw[hs] at e;cases e
  .split at h
   .cases h
   .refine jj f _ j d (fun e he=>?_) h;rw[mH] at he;exact hp e he
theorem mm {b:Bool}(e:t.freeSlot h=some (j,b)):xh t j:=by
 unfold SetTable.freeSlot at e;split at e
 .rename_i k d hm;cases e;have:=jj _ _ k d (fun x hx=>by unfold SetTable.probeStart at hx;cases hx) hm;cases d with
  |none=>exact this.1
  |some d=>exact this.2 d rfl
 .cases e
def Tab (t t':SetTable):Prop:=t'.led=t.led/\(t'.plain=true->t.plain=true/\(o7 t.place->o7 t'.place))
theorem gO (t:SetTable)(n:Nat):Tab t (t.standIn n):=⟨rfl,fun h=>by cases h⟩
theorem qK (t:SetTable)(es:Array (Int×Value))(h:Int)(x:Value):Tab t (layNew t es h x).2.1:=by
 unfold layNew;split
 .rename_i slot wd hs;dsimp only;unfold SetTable.orStandIn;split
  .exact⟨rfl,fun hp=>⟨hp,fun hr=>Ak hr (mm hs)⟩⟩
  .exact⟨rfl,fun h=>by cases h⟩
 .exact gO _ _
theorem uI {α:Type}(g:Nat->Option α):∀ n:Nat,(((List.range n).filterMap fun j=>(g j).map (j,·)).map (·.1)).Pairwise (· < ·):=fun n=>by
 have:((List.range n).filterMap fun j=>(g j).map (j,·)).map (·.1)=(List.range n).filter fun j=>(g j).isSome:=by
  induction List.range n with
  |nil=>rfl
  |cons a l ih =>
   cases e:g a with
   |none=>simp[e,ih]
   |some y=>simp[e,ih]
 rw[this];exact List.Pairwise.filter _ List.pairwise_lt_range
theorem vL {mask finger moves:Nat}{led plain:Bool}{hs:Array Int}{o:Array Nat}(h:laid mask finger moves led plain hs=some (t,o)):o7 t.place/\t.led=led/\t.plain=plain:=by
 unfold laid at h;simp only[bind,Option.bind_eq_some_iff] at h;obtain⟨ow,_,h⟩:=h;cases h;refine⟨?_,rfl,rfl⟩;unfold o7;exact uI (fun j=>ow.getD j none) (mask+1)
theorem oA (t:SetTable)(es:Array (Int×Value))(n:Nat):Tab t (relayAll t es n).2.1:=by
 unfold relayAll;split
 .rename_i t' o hr;unfold SetTable.relaid at hr;obtain⟨a,b,c⟩:=vL hr;dsimp only;split
  .exact⟨b,fun hp=>⟨by rw[<-c];exact hp,fun _=>a⟩⟩
  .exact gO _ _
 .exact gO _ _
end Pc.Se
end
section
namespace Pc.Se
open PySem PySem.SetTable PyProof.Rows
section
variable (P:Program)(w:World)
noncomputable def fD (h:Heap)(a:Addr)(ks:List Int):Prop :=
 ∃ o es ep t,h.get? a=some o/\o.ExactSet/\o.data = .set es ep t/\ElemsOf (intKind P w) es.toList/\es.size<scanBound/\t.fits es.size=true
   /\(∃ l,IntsAre (es.toList.map (·.2)) l/\l.Perm ks)/\t.led = !(w.params.followText "set-order")/\(t.plain=true->o7 t.place)
end
variable {P:Program}{w:World}{A:Around}{E:Value->Shared->Prop}{s:Shared}
theorem iC:∀{vs us:List Value},vs.Perm us->∀{l:List Int},IntsAre us l->∃ l',IntsAre vs l'/\l'.Perm l:=by
 intro vs us hp
 induction hp with
 |nil=>intro l h;exact⟨l,h,.refl _⟩
 |cons x _ ih =>
  intro l h;cases h with
  |cons n t r =>
   obtain⟨l',a,b⟩:=ih r;exact⟨_,.cons n t a,b.cons n⟩
 |swap x y v =>
  intro l h;cases h with
  |cons n t r =>
   cases r with
   |cons m u r=>exact⟨_,.cons m u (.cons n t r),.swap ..⟩
 |trans _ _ i1 i2 =>
  intro l h;obtain⟨l1,a,b⟩:=i2 h;obtain⟨l2,c,d⟩:=i1 a;exact⟨l2,c,d.trans b⟩
theorem pO:∀{vs:List Value}{l:List Int}{n:Int},IntsAre vs l->((∃ v∈vs,(intKind P w).is n v=true)↔n∈l)
 |_,_,n,.nil=>by simp
 | _,_,n,.cons m t r=>by
  have:=pO (n:=n) r;rw[cg,<-this];constructor
  .rintro⟨v,hv,h⟩;rcases cg.mp hv with rfl | hv
   .have h:Value.isInt n (Value.int m t)=true:=h;obtain⟨t',e⟩:=Value.isInt_shape h;cases e;exact .inl rfl
   .exact .inr ⟨v,hv,h⟩
  .rintro (rfl | ⟨v,hv,h⟩)
   .exact⟨_,ai,intKind_is _ _ _ _⟩
   .exact⟨v,ah _ hv,h⟩
variable {a:Addr}{ep:Nat}{h:Heap}
theorem tU {o:Obj}{es:Array (Int×Value)}{t:SetTable}(ho:h.get? a=some o)(hd:o.data = .set es ep t)(es':Array (Int×Value))(t':SetTable) :
  (h.update a (Obj.putSet es' t')).get? a=some { o with data:=.set es' (ep+1) t' }:=by
 have:=Heap.get?_update_self (Obj.putSet es' t') ho (by rw[putSet_of es' t' hd];rfl);rw[putSet_of es' t' hd] at this;exact this
variable {ks:List Int}
theorem Gb {n:Int}{tk:Tok}{Q:Bool->Shared->Prop}(hS:fD P w s.heap a ks)(hroom:ks.length+1<scanBound)
  (h:∀ b h',Heap.SameBut a s.heap h'->fD P w h' a (step_dedup ks n)->Q b { s with heap:=h' }):wpAny (model P w) A (setAddHashed a (.int n tk) ((intKind P w).hash n)) Q E s:=by
 obtain⟨o,es,ep,t,ho,hex,hd,hel,hb,hf,⟨l,hl,hp⟩,hled,hris⟩:=hS;have hlen:es.size=ks.length:=by
  have h1:=IntsAre.length hl;rw[ab,ay] at h1;rw[h1,hp.length_eq]
 unfold setAddHashed setAddHashedIn;refine wpAny_holding (wpAny_bind (wpAny_setState_of ho hd hf ?_));dsimp only;rw[byScan_of (x:=.int n tk) rfl hb hel];simp only[↓reduceIte];unfold setAddByScan;refine wpAny_bind ?_;refine wpAny_bind (wpAny_rule ?_);refine wpAny_bind (wpAny_setScan_of (intKind_is _ _ _ _) ho hd hf hel ?_);have hm:(∃ e∈es.toList,(intKind P w).is n e.2=true)↔n∈ks:=by
  rw[<-hp.mem_iff,<-pO (P:=P) (w:=w) hl];constructor
  .rintro⟨e,he,h⟩;exact⟨_,fe he,h⟩
  .rintro⟨v,hv,h⟩;obtain⟨e,he,rfl⟩:=List.mem_map.mp hv;exact⟨e,he,h⟩
 cases hr:List.findIdx? (fun e=>(intKind P w).is n e.2) es.toList with
 |some j =>
  dsimp only;obtain⟨hj,hpj,_⟩:=List.findIdx?_eq_some_iff_getElem.mp hr;have hn:n∈ks:=hm.mp ⟨_,ft hj,hpj⟩;have e:step_dedup ks n=ks:=by
   unfold step_dedup;rw[if_pos (List.any_eq_true.mpr ⟨n,hn,by simp⟩)]
  refine wpAny_pure (wpAny_pure ?_);have:=h false s.heap (Heap.SameBut.refl a s.heap) (by rw[e];exact⟨o,es,ep,t,ho,hex,hd,hel,hb,hf,⟨l,hl,hp⟩,hled,hris⟩);exact this
 |none =>
  dsimp only;have hn:n∉ks:=fun z=>by
   obtain⟨e,he,hpe⟩:=hm.mpr z;have:=List.findIdx?_eq_none_iff.mp hr e he;rw[hpe] at this;cases this
  have e:step_dedup ks n=ks ++ [n]:=by
   unfold step_dedup;rw[if_neg fun z=>by
    obtain⟨m,hm',q⟩:=List.any_eq_true.mp z;have:m=n:=by simpa using q
    exact hn (this ▸ hm')]
  rw[e] at h;have gw:∀(b:Bool) {s':Shared}{Q':Unit->Shared->Prop},Q' () s'->wpAny (model P w) A (match b with | true=>rule "set.scan.the-table-gave-way" | false=>pure ()) Q' E s':=fun b s' Q' q=>by
   cases b
   .exact wpAny_pure q
   .exact wpAny_rule q
  have q1:=layNew_perm t es ((intKind P w).hash n) (.int n tk);have q2:=layNew_fits t es ((intKind P w).hash n) (.int n tk);have q3:=qK t es ((intKind P w).hash n) (.int n tk);generalize layNew t es ((intKind P w).hash n) (.int n tk)=L at q1 q2 q3 ⊢;obtain⟨es1,t1,wd,gv⟩:=L;dsimp only at q1 q2 q3 ⊢;rw[Array.toList_push] at q1;have hel1:ElemsOf (intKind P w) es1.toList:=(hel.push (intKind_is _ _ _ _) rfl).perm q1;have hz1:es1.size=es.size+1:=by rw[<-ay,q1.length_eq,aq,ay];rfl
  have hb1:es1.size<scanBound:=by omega
  have hi1:∃ l,IntsAre (es1.toList.map (·.2)) l/\l.Perm (ks ++ [n]):=by
   have a1:=q1.map (·.2);rw[bz] at a1;have a2:IntsAre (es.toList.map (·.2) ++ [Value.int n tk]) (l ++ [n]):=hl.append (.cons n tk .nil);obtain⟨l',b1,b2⟩:=iC a1 a2;exact⟨l',b1,b2.trans (hp.append_right _)⟩
  have hled1:t1.led = !(w.params.followText "set-order"):=q3.1.trans hled;have hris1:t1.plain=true->o7 t1.place:=fun z=>(q3.2 z).2 (hris (q3.2 z).1)
  refine wpAny_bind (gw _ ?_);have tail:∀ R:Option Bool->Shared->Prop,(∀ h',Heap.SameBut a s.heap h'->fD P w h' a (ks ++ [n])->R (some true) { s with heap:=h' }) ->
    wpAny (model P w) A (do
     storeSet a es1 t1
     if (!wd&&t1.tooFull)=true then do
       (match (relayAll t1 es1 (SetTable.grown es1.size)).2.2 with | true=>rule "set.scan.the-table-gave-way" | false=>pure ())
       storeSet a (relayAll t1 es1 (SetTable.grown es1.size)).1 (relayAll t1 es1 (SetTable.grown es1.size)).2.1
       pure (some true)
      else pure (some true)) R E s:=fun R hR=>by
   have ho1:=tU ho hd es1 t1;have hs1:=Heap.SameBut.update s.heap a (Obj.putSet es1 t1);refine wpAny_bind (wpAny_storeSet_of ho hd ?_ (fits_of_scanBound hb1));split
   .have r1:=relayAll_perm t1 es1 (SetTable.grown es1.size);have r2:=relayAll_fits t1 es1 (SetTable.grown es1.size);have r3:=oA t1 es1 (SetTable.grown es1.size);generalize relayAll t1 es1 (SetTable.grown es1.size)=L at r1 r2 r3 ⊢;obtain⟨es2,t2,gv2⟩:=L;dsimp only at r1 r2 r3 ⊢;have hz2:es2.size=es1.size:=by rw[<-ay,r1.length_eq,ay]
    refine wpAny_bind (gw _ ?_);refine wpAny_bind (wpAny_storeSet_of ho1 rfl ?_ (fits_of_scanBound (by omega)));refine wpAny_pure (hR _ (hs1.trans (Heap.SameBut.update _ a _)) ⟨_,es2,_,t2,tU ho1 rfl es2 t2,hex,rfl,hel1.perm r1,by omega,r2,?_,r3.1.trans hled1,fun z=>(r3.2 z).2 (hris1 (r3.2 z).1)⟩);obtain⟨l',b1,b2⟩:=hi1;obtain⟨l2,c1,c2⟩:=iC (r1.map (·.2)) b1;exact⟨l2,c1,c2.trans b2⟩
   .exact wpAny_pure (hR _ hs1 ⟨_,es1,_,t1,ho1,hex,rfl,hel1,hb1,q2,hi1,hled1,hris1⟩)
  split
  .refine wpAny_bind ?_;rw[hashByValue_scannable 8 (x:=.int n tk) rfl];refine wpAny_pure ?_;refine tail _ fun h' a1 a2=>wpAny_pure (h true h' a1 a2)
  .refine wpAny_bind (wpAny_pure ?_);refine tail _ fun h' a1 a2=>wpAny_pure (h true h' a1 a2)
variable {P:Program}{w:World}{A:Around}{E:Value->Shared->Prop}
variable {h':Heap}
theorem fD.kept (x:fD P w h a ks)(k:∀ o,h.get? a=some o->h'.get? a=some o):fD P w h' a ks :=
 let ⟨o,es,ep,t,ho,r⟩:=x
 ⟨o,es,ep,t,k o ho,r⟩
theorem Bt (ho:h.get? a=some { cls:=.type "set",dict:=none,data:=.set #[] 0 (.fresh 0 0 (!(w.params.followText "set-order"))) }):fD P w h a [] :=
 ⟨_,_,_,_,ho,⟨rfl,rfl,rfl⟩,rfl,(fun e he=>by cases he),(by decide),rfl,⟨[],.nil,.refl _⟩,rfl,fun _=>List.Pairwise.nil⟩
noncomputable abbrev fm (ns:List Int)(i:Nat):List Int:=firstMet (fun i=>ns.getD i 0) i
theorem DU {I S l:Addr}{items:Array Value}{ns:List Int}{R:Result->Shared->Prop}(hi:IntsAre items.toList ns)(hSI:S≠I)(hSl:S≠l)(hIl:l≠I)(hb:items.size+1<scanBound)(hh:A.in1.handled=none) :
  ∀(k i:Nat) (s:Shared),items.size - i=k->i<=items.size->s.heap.IsListIter I l i->s.heap.IsList l items->fD P w s.heap S (fm ns i) ->
   (∀ h' tk,(∀ b o,b≠S->b≠I->s.heap.get? b=some o->h'.get? b=some o)->fD P w h' S (fm ns items.size)->R (.ok (.ret .none)) { s with heap:=h',toks:=tk }) ->
   codeAny (model P w) A (.builtin "set.update.loop" ⟨[.ref S,.ref I],[]⟩) R s:=by
 have W:=Walks.list (prog:=P) (w:=w) hh I l hIl items;intro k
 induction k with
 |zero =>
  intro i s hk hin st1 st2 hS hR;obtain rfl:i=items.size:=by omega
  refine codeAny_builtin PyProof.Rows.F.entry_set_update_loop ?_;rw[Around.under_plainId f9 _];show wpAny _ A.in1 (pyNext (.ref I) >>= _) _ _ s;refine wpAny_bind (W.done s _ _ ⟨st1,st2⟩ fun h' tk hk'=>?_);show wpAny _ A.in1 (ret Value.none) _ _ _;exact wpAny_pure (hR h' tk (fun b o _ h2 e=>hk' b o (fun z=>h2 (gh.mp z)) e) (hS.kept fun o e=>hk' S o (fun z=>hSI (gh.mp z)) e))
 |succ k ih =>
  intro i s hk hin st1 st2 hS hR;have hlt:i<items.size:=by omega
  refine codeAny_builtin PyProof.Rows.F.entry_set_update_loop ?_;rw[Around.under_plainId f9 _];show wpAny _ A.in1 (pyNext (.ref I) >>= _) _ _ s;refine wpAny_bind (W.item i s _ _ hlt ⟨st1,st2⟩ fun v h1 tk1 hv ⟨st1',st2'⟩ hk1=>?_);obtain⟨t,rfl⟩:=IntsAre.int_at hi i v (by rw[Array.getElem?_toList];exact hv);have hS1:fD P w h1 S (fm ns i):=hS.kept fun o e=>hk1 S o (fun z=>hSI (gh.mp z)) e
  show wpAny _ A.in1 (holding [Value.int (ns.getD i 0) t] (setAdd S (.int (ns.getD i 0) t)) >>= _) _ _ _;refine wpAny_bind (wpAny_holding ?_);unfold setAdd;refine wpAny_holding (wpAny_bind ((intKind P w).pyHash (k:=ns.getD i 0) (intKind_is _ _ _ _) ?_));have hroom:(fm ns i).length+1<scanBound:=by
   have:=firstMet_length_le (fun i=>ns.getD i 0) i;show (firstMet (fun i=>ns.getD i 0) i).length+1<scanBound;omega
  refine Gb hS1 hroom fun b h2 sb hS2=>?_
  have hS3:fD P w h2 S (fm ns (i+1)):=by
   show fD P w h2 S (firstMet _ (i+1));rw[firstMet_succ];exact hS2
  refine wpAny_pure ⟨plainId_quiet f9 _,ih (i+1) _ (by omega) hlt (st1'.at fun o e=>?_) (st2'.at fun o e=>?_) hS3 fun h3 tk3 hk3 hS4=>?_⟩
  .rw[sb.2 I (df hSI)];exact e
  .rw[sb.2 l (df hSl)];exact e
  .refine hR h3 tk3 (fun b o n1 n2 e=>hk3 b o n1 n2 ?_) hS4;show h2.get? b=some o;rw[sb.2 b n1];exact hk1 b o (fun z=>n2 (gh.mp z)) e
variable {P:Program}{w:World}{A:Around}{E:Value->Shared->Prop}{s:Shared}
noncomputable abbrev oz (w:World):Obj:={ cls:=.type "set",dict:=none,data:=.set #[] 0 (.fresh 0 0 (!(w.params.followText "set-order"))) }
theorem FT (v:Value){Q:Value->Shared->Prop}(h:Q (.ref s.heap.objs.size) { s with heap:=s.heap.push (oz w) }) :
  codeAny (model P w) A (.call (.builtin "set.__new__") ⟨[.type "set",v],[]⟩) (wants Q E) s:=by
 refine codeAny_of_tree ?_;show wpAny _ A.in1 (do checkBuiltinCall "set.__new__" ⟨[.type "set",v],[]⟩;again (.builtin "set.__new__" ⟨[.type "set",v],[]⟩)) _ _ s;refine wpAny_bind (wpAny_of_eq (F.newCall_set_1 v) (wpAny_pure ⟨plainId_quiet F.plain_set_new _,codeAny_builtin F.entry_set_new ?_⟩));rw[Around.under_plainId F.plain_set_new _];unfold Builtin.«set.__new__» Builtin.Frozenset.newClass;have hsub:=sub_set_self;obtain⟨hp,g,d,tk,os⟩:=s;dsimp only
 wp_walk
 refine wpAny_askSetting (wpAny_pure ?_);dsimp only;simp only[newObj];exact wpAny_bind (wpAny_alloc (wpAny_pure (wpAny_pure h)))
theorem FZ {l:Addr}{items:Array Value}{ns:List Int}{Q:Value->Shared->Prop}(hh:A.handled=none)(hl:s.heap.IsList l items)(hi:IntsAre items.toList ns)(hb:items.size+1<scanBound)
  (h:∀(h':Heap) (tk:Nat),fD P w h' s.heap.objs.size (fm ns items.size)->(∀ b o,b<s.heap.objs.size->s.heap.get? b=some o->h'.get? b=some o)->Q (.ref s.heap.objs.size) { s with heap:=h',toks:=tk }) :
  wpAny (model P w) A (call (.type "set") [.ref l]) Q E s:=by
 obtain⟨c,tl,hmro⟩:=F.called_set.mro;have hmade:=F.called_set.made;have hsub:=F.called_set.sub;refine wpAny_call (codeAny_of_tree ?_);show wpAny _ _ (callAny (.type "set") _) _ _ _;refine wpAny_pure ⟨Code.quiet_builtin _ (by decide +kernel),codeAny_builtin F.entry_type_call ?_⟩;rw[Around.under_plain (weight_type_call_type "set" [.ref l] []) rfl];have h1:=F.called_set.notType;have h2:=F.called_set.canCreate;have hct:=F.typeCall_set_1 (.ref l)
 repeat (any_goals (first | assumption | wp_step))
 refine codeAny_mono (FT (.ref l) (E:=E) (Q:=fun obj s₁=>obj = .ref s.heap.objs.size/\s₁={ s with heap:=s.heap.push (oz w) }) ⟨rfl,rfl⟩) fun r s₁ hr=>?_
 cases r with
 |error e=>exact hr
 |ok fl =>
  cases fl with
  |ret obj =>
   obtain⟨rfl,rfl⟩:=hr;have hS:(s.heap.push (oz w)).get? s.heap.objs.size=some (oz w):=Heap.get?_push_size _ rfl;have hT:Shared.TypeIs { s with heap:=s.heap.push (oz w) } (.ref s.heap.objs.size) "set":=⟨_,hS,rfl⟩;have hli:=F.called_set.init.lookup;have hbi:=F.called_set.init.bind (.ref s.heap.objs.size)
   repeat (any_goals (first | assumption | wp_step))
   refine codeAny_mono (codeAny_call_builtin (R:=wants (fun r s₂=>r = .none/\∃ h' tk,s₂={ s with heap:=h',toks:=tk }/\fD P w h' s.heap.objs.size (fm ns items.size)/\(∀ b o,b<s.heap.objs.size->s.heap.get? b=some o->h'.get? b=some o)) E)
    F.called_set.init.plain F.entry_set_init (check_set_init_1 hT ?_)) fun r₂ s₂ hr₂=>?_
   .obtain⟨ol,hol,hcl,nl,hdl⟩:=hl;obtain⟨ocls,odict,odata,oslots⟩:=ol;simp only at hcl hdl;subst hcl;subst hdl;have hol':(s.heap.push (oz w)).get? l=some { cls:=.type "list",dict:=odict,data:=.seq items nl,slots:=oslots }:=Heap.get?_push_of_some _ hol;have hsls:=F.sub_list_set;have hslf:=F.sub_list_frozenset;have hne:(Value.type "list" == Value.type "dict")=false:=by decide
    have hl1:(s.heap.push (oz w)).IsList l items:=⟨_,hol',rfl,nl,rfl⟩;unfold Builtin.«set.__init__» noKeywords Builtin.Frozenset.updateFrom;generalize hPI:pyIter=PI
    wp_walk
    subst hPI;refine wpAny_pyIter_list hl1 ?_;refine wpAny_bind (wpAny_runValue ?_);have hlS:l<s.heap.objs.size:=Heap.lt_size hol;have hsz:(s.heap.push (oz w)).objs.size=s.heap.objs.size+1:=Heap.size_push _ _;have hh3:A.in1.in1.in1.handled=none:=by simp[hh]
    refine DU hi (I:=(s.heap.push (oz w)).objs.size) (S:=s.heap.objs.size) (l:=l) (ax (by rw[hsz];exact gu _)) (gp hlS) (ax (by rw[hsz];exact dn hlS)) hb hh3 items.size 0 _ (Nat.sub_zero _) (dg _)
     ⟨_,Heap.get?_push_size _ rfl,rfl,rfl⟩ (hl1.push _) (Bt (Heap.get?_push_of_some _ hS)) fun h' tk hk hS'=>?_
    refine wpAny_pure ?_;show wpAny _ _ (ret Value.none) _ _ _;refine wpAny_pure ⟨rfl,h',tk,rfl,hS',fun b o hb' e=>hk b o (ax hb') (ax (by rw[hsz];exact dn hb')) (Heap.get?_push_of_some _ (Heap.get?_push_of_some _ e))⟩
   .cases r₂ with
    |error e=>exact hr₂
    |ok fl₂ =>
     cases fl₂ with
     |ret r =>
      obtain⟨rfl,h',tk,rfl,hS',hk'⟩:=hr₂
      repeat (any_goals (first | assumption | wp_step))
      exact h _ _ hS' hk'
     |_=>exact hr₂.elim
  |_=>exact hr.elim
theorem lh:PySem.Slot "set_iterator" "__next__" "set_iterator.__next__" :=
 .of (owner:="set_iterator") (n:="__next__") (by rw[typeLookup_type,builtinLookup_eq_fast];kernel_rfl) (by decide +kernel) (by decide +kernel) (by decide +kernel)
  (by first | exact .inl (by decide +kernel) | exact .inr (by decide +kernel)) (by rw[isSubtype_type];kernel_rfl)
theorem GN:entryFor table "set_iterator.__next__" = some Builtin.«set_iterator.__next__»:=entryFor_of_tree (by kernel_rfl)
theorem FW (a:Value):argsOk "set_iterator.__next__" ⟨[a],[]⟩:=by unfold argsOk;kernel_rfl
theorem entI:entryFor table "set.__iter__" = some Builtin.«frozenset.__iter__» :=
 entryFor_alias (id':="frozenset.__iter__") (by kernel_rfl) rfl (by decide +kernel) (by kernel_rfl)
theorem GU:typeLookup (.type "set") "__len__" = pure (some (.builtin "set.__len__")):=by rw[typeLookup_type,builtinLookup_eq_fast];kernel_rfl
theorem eraseP {α:Type}:∀{l:List α}{i:Nat}(h:i<l.length),(l[i]::l.eraseIdx i).Perm l
 |a::l,0,_=>.refl _
 |a::l,i+1,h=>(List.Perm.swap a _ _).trans ((eraseP (l:=l) (i:=i) (Nat.lt_of_succ_lt_succ h)).cons a)
theorem y2 {α:Type}(nx:Nat->Nat):∀(f k:Nat) (l:List α) (out:Array α),l.length<=f->(pickOrder.go nx f k l out).toList.Perm (out.toList++l)
 | 0,k,l,out,h=>by
  have:l=[]:=ie (by omega);subst this;unfold pickOrder.go;rw[aw]
 | f+1,k,l,out,h=>by
  unfold pickOrder.go;cases hx:l[nx k%l.length]? with
  |none =>
   have hl:l=[]:=by
    cases l with
    |nil=>rfl
    |cons a l =>
     have:=List.getElem?_eq_none_iff.mp hx;have h2:=Nat.mod_lt (nx k) (show 0<(a::l).length by simp);omega
   subst hl;rw[aw]
  |some x =>
   dsimp only;obtain⟨hi,rfl⟩:=List.getElem?_eq_some_iff.mp hx;refine (y2 nx f (k+1) _ _ (by rw[List.length_eraseIdx_of_lt hi];omega)).trans ?_;rw[Array.toList_push,dh];refine List.Perm.append_left _ ?_;exact (eraseP hi)
theorem mR {α:Type}(nx:Nat->Nat)(xs:Array α):(pickOrder nx xs).toList.Perm xs.toList:=by
 unfold pickOrder;exact y2 nx xs.size 0 xs.toList #[] (i7 ay)
variable {P:Program}{w:World}{A:Around}{E:Value->Shared->Prop}{s:Shared}
variable {n:Nat}
theorem wp_choose {src:Source}{Q:Nat->Shared->Prop}(hn:n≠0)(h:∀ i d,i<n->Q i { s with drawn:=d }):wpAny (model P w) A (choose src n) Q E s:=fun _ _ _ =>
 ⟨hn,h _ _ (Nat.mod_lt _ (Nat.pos_of_ne_zero hn))⟩
theorem sV {α:Type}:∀(n:Nat) (xs:List α) (s:Shared) (Q:List α->Shared->Prop),n=xs.length->(∀ ys d,ys.Perm xs->Q ys { s with drawn:=d })->wpAny (model P w) A (drawOrder n xs) Q E s
 | 0,xs,s,Q,hn,h=>by
  have:xs=[]:=ie hn.symm;subst this;unfold drawOrder;exact wpAny_pure (h [] s.drawn (.refl _))
 |n+1,[],s,Q,hn,h=>by cases hn
 | n+1,x::xs,s,Q,hn,h=>by
  unfold drawOrder;refine wpAny_bind (wp_choose (by simp) fun i d hi=>?_);rw[List.getElem?_eq_getElem hi];dsimp only;refine wpAny_bind (sV n _ _ _ (by rw[List.length_eraseIdx_of_lt hi];omega) fun ys d' hp=>wpAny_pure ?_);exact h _ d' ((hp.cons _).trans (eraseP hi))
noncomputable abbrev bt (w:World):Bool:=w.params.followText "set-order"
variable {P:Program}{w:World}{A:Around}{E:Value->Shared->Prop}{s:Shared}
theorem iA {Q:Bool->Shared->Prop}(h:Q (bt w) s):wpAny (model P w) A setsByText Q E s:=by
 unfold setsByText;exact wpAny_bind (wpAny_askSetting (wpAny_pure h))
variable {x:Value}
section
variable {S:Addr}{o:Obj}{es:Array (Int×Value)}{ep:Nat}{t:SetTable}
theorem xx {c i:Nat}{Q:Option (Value×Nat)->Shared->Prop}(ho:s.heap.get? S=some o)(hd:o.data = .set es ep t)(hf:t.fits es.size=true)(hb:bt w=true)
  (h:Q (((pickOrder (w.params.setOrder S ep) es)[i]?).map fun e=>(e.2,c)) s):wpAny (model P w) A (setNext S c i ep) Q E s:=by
 unfold setNext;refine wpAny_bind (wpAny_setState_of ho hd hf ?_);dsimp only;refine wpAny_bind (iA ?_);rw[hb];simp only[↓reduceIte,bne_self_eq_false,Bool.false_eq_true];unfold setWalk;refine wpAny_bind (wpAny_bind (wpAny_setState_of ho hd hf ?_));dsimp only;refine wpAny_bind (iA ?_);rw[hb];simp only[↓reduceIte];exact wpAny_bind (wpAny_askSetting (wpAny_pure (wpAny_pure h)))
theorem ya {c i:Nat}{Q:Option (Value×Nat)->Shared->Prop}(ho:s.heap.get? S=some o)(hd:o.data = .set es ep t)(hf:t.fits es.size=true)(hb:bt w=false)(hl:t.led=true)(hp:(!t.plain&&decide (es.size > 1))=false)
  (h:Q (match es[below t.place c]?,t.place[below t.place c]? with | some (_,x),some j=>some (x,j+1) | _,_=>none) s):wpAny (model P w) A (setNext S c i ep) Q E s:=by
 unfold setNext;refine wpAny_bind (wpAny_setState_of ho hd hf ?_);dsimp only;refine wpAny_bind (iA ?_);rw[hb];simp only[Bool.false_eq_true,↓reduceIte];show wpAny _ _ (if (!t.plain&&decide (es.size > 1))=true then _ else _) _ _ _;rw[hp];simp only[Bool.false_eq_true,↓reduceIte];refine wpAny_bind ?_;show wpAny _ _ (if (!t.led && !es.isEmpty)=true then _ else _) _ _ _;rw[hl];simp only[Bool.not_true,Bool.false_and,Bool.false_eq_true,↓reduceIte];exact wpAny_pure (wpAny_pure h)
theorem C2 {p:Nat}{q:Int}{Q:Value->Shared->Prop}(ho:s.heap.get? S=some o)(hd:o.data = .set es ep t)(hf:t.fits es.size=true)(hx:es[p]? = some (q,x))(h:Q x s):wpAny (model P w) A (setNextDrawn S p ep) Q E s:=by
 unfold setNextDrawn;refine wpAny_bind (wpAny_setState_of ho hd hf ?_);dsimp only;simp only[bne_self_eq_false,Bool.false_eq_true,↓reduceIte];rw[hx];exact wpAny_pure h
end
noncomputable def xZ (f:Value)(i:Nat)(S:Addr)(n ep:Nat):Obj:={ cls:=.type "set_iterator",data:=.fields #[f,.int i 0,.ref S,.int n 0,.int ep 0] }
inductive Way (w:World) (h:Heap) (S T:Addr) (es:Array (Int×Value)) (ep:Nat) (t:SetTable):Value->List Value->Nat->Prop
 | text {c i:Nat}:bt w=true->Way w h S T es ep t (.int c 0) ((pickOrder (w.params.setOrder S ep) es).toList.map (·.2)) i
 | slot {c i:Nat}:bt w=false->t.led=true->(!t.plain&&decide (es.size > 1))=false->o7 t.place->below t.place c=i->Way w h S T es ep t (.int c 0) (es.toList.map (·.2)) i
 | drawn {ys:List Value}{ot:Obj}{its:Array Value}{n i:Nat}:h.get? T=some ot->ot.data = .seq its n->its.size=es.size->(∀ k,k<es.size->∃ p:Nat,its[k]? = some (.int p 0)/\∃ q,es[p]? = some (q,ys.getD k .none))->Way w h S T es ep t (.ref T) ys i
noncomputable def It (w:World)(h:Heap)(I S T:Addr)(ys:List Value)(i:Nat):Prop :=
 ∃ o es ep t f,h.get? S=some o/\o.ExactSet/\o.data = .set es ep t/\t.fits es.size=true/\ys.length=es.size/\h.get? I=some (xZ f i S es.size ep)/\Way w h S T es ep t f ys i
variable {P:Program}{w:World}{A:Around}{E:Value->Shared->Prop}{s:Shared}
variable {I S T:Addr}{i:Nat}{ys:List Value}
theorem It.kept (x:It w h I S T ys i)(k:∀ b,b=I\/b=S\/b=T->∀ o,h.get? b=some o->h'.get? b=some o):It w h' I S T ys i:=by
 obtain⟨o,es,ep,t,f,ho,hx,hd,hf,hl,hI,hw⟩:=x;refine⟨o,es,ep,t,f,k S (.inr (.inl rfl)) _ ho,hx,hd,hf,hl,k I (.inl rfl) _ hI,?_⟩;cases hw with
 |text a=>exact .text a
 |slot a b c d e=>exact .slot a b c d e
 |drawn a b c d=>exact .drawn (k T (.inr (.inr rfl)) _ a) b c d
theorem It.ty (x:It w s.heap I S T ys i):s.TypeIs (.ref I) "set_iterator":=by
 obtain⟨o,es,ep,t,f,ho,hx,hd,hf,hl,hI,hw⟩:=x;exact⟨_,hI,rfl⟩
variable {f:Value}
theorem fld {v:Value}{k:Nat}(hI:h.get? I=some (xZ f i S n ep)):(h.update I (Obj.mapFields (·.setIfInBounds k v))).get? I=some { cls:=.type "set_iterator",data:=.fields (#[f,.int i 0,.ref S,.int n 0,.int ep 0].setIfInBounds k v) } :=
 Heap.get?_update_self _ hI rfl
theorem vS {c:Nat}{Q:Fin->Shared->Prop}(hI:s.heap.get? I=some (xZ f i S n ep))
  (h:∀ h',h'.get? I=some (xZ (.int c 0) (i+1) S n ep)->Heap.SameBut I s.heap h'->Q (.done (.ret x)) { s with heap:=h' }) :
  wpAny (model P w) A (do setField (.ref I) 0 (rawInt (c:Int));setField (.ref I) 1 (rawInt ((i:Int)+1));ret x) Q E s:=by
 refine wpAny_bind (wpAny_setField hI rfl (by simp) ?_);have e1:=fld (k:=0) (v:=rawInt (c:Int)) hI;have e2:(s.heap.update I (Obj.mapFields (·.setIfInBounds 0 (rawInt (c:Int))))).get? I=some (xZ (.int c 0) i S n ep):=e1;refine wpAny_bind (wpAny_setField e2 rfl (by simp) (wpAny_pure (h _ ?_ ((Heap.SameBut.update ..).trans (Heap.SameBut.update ..)))));exact fld (k:=1) (v:=rawInt ((i:Int)+1)) e2
theorem zM {Q:Fin->Shared->Prop}(hI:s.heap.get? I=some (xZ f i S n ep))
  (h:∀ h',h'.get? I=some (xZ f (i+1) S n ep)->Heap.SameBut I s.heap h'->Q (.done (.ret x)) { s with heap:=h' }) :
  wpAny (model P w) A (do setField (.ref I) 1 (rawInt ((i:Int)+1));ret x) Q E s:=by
 refine wpAny_bind (wpAny_setField hI rfl (by simp) (wpAny_pure (h _ ?_ (Heap.SameBut.update ..))));exact fld (k:=1) (v:=rawInt ((i:Int)+1)) hI
theorem DS {Q:Option Value->Shared->Prop}(hIS:S≠I)(hIT:T≠I)(x:It w s.heap I S T ys i)(hi:i<ys.length)
  (h:∀ h',It w h' I S T ys (i+1)->Heap.SameBut I s.heap h'->Q (some ys[i]) { s with heap:=h' }):wpAny (model P w) A (pyNext (.ref I)) Q E s:=by
 have hty:=x.ty;obtain⟨o,es,ep,t,f,ho,hx,hd,hf,hl,hI,hw⟩:=x;unfold pyNext;refine wpAny_bind (wpAny_attempt (wpAny_callSpecial?_slot (name:=Str.ofString "__next__") hty lh (wpAny_call_entry lh hty GN ?_ (FW _))));unfold Builtin.«set_iterator.__next__» slotArgs;simp only[List.isEmpty_nil,Bool.not_true,Bool.false_eq_true,↓reduceIte,bind_assoc,List.length_nil,bne_self_eq_false];refine wpAny_bind (wpAny_pure ?_);refine wpAny_bind (wpAny_fieldsOf hI rfl ?_);dsimp only;refine wpAny_bind ?_;unfold setEntries;refine wpAny_bind (wpAny_setState_of ho hd hf (wpAny_pure ?_));dsimp only;have hi':i<es.size:=by omega
 simp only[bne_self_eq_false,Bool.false_eq_true,↓reduceIte];cases hw with
 |text hb =>
  rename_i c;dsimp only;refine wpAny_bind (xx (i:=i) (c:=c) ho hd hf hb ?_);have hip:i<(pickOrder (w.params.setOrder S ep) es).size:=by rw[ab,ay] at hl;omega
  have ex:(pickOrder (w.params.setOrder S (ep:Int).toNat) es)[i]? = some ((pickOrder (w.params.setOrder S ep) es)[i]):=Array.getElem?_eq_getElem hip;rw[ex];dsimp only[Option.map_some];refine vS hI fun h' e sb=>⟨_,rfl,wpAny_pure ?_⟩
  have:=h h' ⟨o,es,ep,t,_,(sb.2 S hIS).trans ho,hx,hd,hf,hl,e,.text hb⟩ sb;simpa using this
 |slot hb hld hp hr hc =>
  rename_i c;dsimp only;refine wpAny_bind (ya (i:=i) (c:=c) ho hd hf hb hld hp ?_);rw[hc];have hps:t.place.size=es.size:=by
   have:=hf;unfold SetTable.fits at this;simp only[Bool.and_eq_true,beq_iff_eq] at this;exact this.1
  have hip:i<t.place.size:=by omega
  rw[Array.getElem?_eq_getElem hi',Array.getElem?_eq_getElem hip];dsimp only;refine vS (c:=t.place[i]+1) hI fun h' e sb=>⟨_,rfl,wpAny_pure ?_⟩
  have:=h h' ⟨o,es,ep,t,_,(sb.2 S hIS).trans ho,hx,hd,hf,hl,e,.slot hb hld hp hr (su hr hip)⟩ sb;simpa using this
 |drawn hT hD hz hk =>
  rename_i ot its n;dsimp only;obtain⟨p,hp,q,hq⟩:=hk i hi';refine wpAny_bind (wpAny_seqItems hT hD ?_);dsimp only;have hp':its[(i:Int).toNat]? = some (Value.int (p:Int) 0):=hp;rw[hp'];dsimp only;refine wpAny_bind (C2 (p:=p) ho hd hf hq ?_);refine zM hI fun h' e sb=>⟨_,rfl,wpAny_pure ?_⟩
  have:=h h' ⟨o,es,ep,t,_,(sb.2 S hIS).trans ho,hx,hd,hf,hl,e,.drawn ((sb.2 T hIT).trans hT) hD hz hk⟩ sb;rw[List.getD_eq_getElem?_getD,List.getElem?_eq_getElem hi];exact this
theorem xv {Q:Option Value->Shared->Prop}{R:Fin->Shared->Prop}(hh:A.handled=none)(h:∀ h',(∀ b o,s.heap.get? b=some o->h'.get? b=some o)->Q none { s with heap:=h' }) :
  wpAny (model P w) A.in1 (do let e <- newExc (.type "StopIteration") [];raiseNew e) R
   (fun e s'=>wpAny (model P w) A (do let b <- isInstance e (.type "StopIteration");if b=true then pure none else throw e) Q E s') s:=by
 refine wpAny_bind ?_;simp only[newExc,newTuple];refine wpAny_bind (wpAny_newObj_type ?_ (by size_fits));refine wpAny_bind (m:=firstArgMember _ _) (wpAny_of_eq (a:=Value.none) (by first | rfl | (simp only[firstArgMember];rfl)) ?_);refine wpAny_newObj_type ?_ (by size_fits);simp only[raiseNew];refine wpAny_bind (wpAny_handled ?_);rw[show A.in1.handled=none from hh];refine wpAny_bind (wpAny_pure (wpAny_throw ?_));refine wpAny_bind (wpAny_isInstance (T:="StopIteration") (b:=true) ⟨_,Heap.get?_push_size _ rfl,rfl⟩ isSubtype_stop ?_);exact wpAny_pure (h _ fun b o e=>Heap.get?_push_of_some _ (Heap.get?_push_of_some _ e))
theorem GJ {Q:Option Value->Shared->Prop}(hh:A.handled=none)(x:It w s.heap I S T ys ys.length)
  (h:∀ h',(∀ b o,b≠I->s.heap.get? b=some o->h'.get? b=some o)->Q none { s with heap:=h' }):wpAny (model P w) A (pyNext (.ref I)) Q E s:=by
 have hty:=x.ty;obtain⟨o,es,ep,t,f,ho,hx,hd,hf,hl,hI,hw⟩:=x;unfold pyNext;refine wpAny_bind (wpAny_attempt (wpAny_callSpecial?_slot (name:=Str.ofString "__next__") hty lh (wpAny_call_entry lh hty GN ?_ (FW _))));unfold Builtin.«set_iterator.__next__» slotArgs;simp only[List.isEmpty_nil,Bool.not_true,Bool.false_eq_true,↓reduceIte,bind_assoc,List.length_nil,bne_self_eq_false];refine wpAny_bind (wpAny_pure ?_);refine wpAny_bind (wpAny_fieldsOf hI rfl ?_);dsimp only;refine wpAny_bind ?_;unfold setEntries;refine wpAny_bind (wpAny_setState_of ho hd hf (wpAny_pure ?_));dsimp only;simp only[bne_self_eq_false,Bool.false_eq_true,↓reduceIte];have fin:∀{f:Value}{n:Nat}{R:Fin->Shared->Prop},s.heap.get? I=some (xZ f n S es.size ep)->wpAny (model P w) A.in1 (do setField (.ref I) 2 .none;let e <- newExc (.type "StopIteration") [];raiseNew e) R
   (fun e s'=>wpAny (model P w) A (do let b <- isInstance e (.type "StopIteration");if b=true then pure none else throw e) Q E s') s:=fun hI=>by
  refine wpAny_bind (wpAny_setField hI rfl (by simp) ?_);exact xv hh fun h' k=>h h' fun b o hb e=>k b o ((Heap.SameBut.update s.heap I _).2 b hb |>.trans e)
 cases hw with
 |text hb =>
  rename_i c;dsimp only;refine wpAny_bind (xx (c:=c) ho hd hf hb ?_);have ex:(pickOrder (w.params.setOrder S (ep:Int).toNat) es)[((List.map (·.2) (pickOrder (w.params.setOrder S ep) es).toList).length:Int).toNat]? = none:=by
   rw[cq,cq,ab,ay];exact Array.getElem?_eq_none (au _)
  rw[ex];exact fin hI
 |slot hb hld hp hr hc =>
  rename_i c;dsimp only;refine wpAny_bind (ya (c:=c) ho hd hf hb hld hp ?_);rw[hc,Array.getElem?_eq_none (xs:=es) (by omega)];exact fin hI
 |drawn hT hD hz hk =>
  rename_i ot its n;dsimp only;refine wpAny_bind (wpAny_seqItems hT hD ?_);dsimp only;have ex:its[(ys.length:Int).toNat]? = none:=by
   rw[cq];exact Array.getElem?_eq_none (by omega)
  rw[ex];dsimp only;refine wpAny_bind (wpAny_setField hI rfl (by simp) ?_);have e1:=fld (k:=0) (v:=rawInt 0) hI;have e2:(s.heap.update I (Obj.mapFields (·.setIfInBounds 0 (rawInt 0)))).get? I=some (xZ (.int 0 0) ys.length S es.size ep):=e1;refine wpAny_bind (wpAny_setField e2 rfl (by simp) ?_);exact xv hh fun h' k=>h h' fun b o hb e=>k b o ((((Heap.SameBut.update s.heap I _).trans (Heap.SameBut.update ..)).2 b hb).trans e)
theorem BK:PySem.Slot "set_iterator" "__iter__" "set_iterator.__iter__" :=
 .of (owner:="set_iterator") (n:="__iter__") (by rw[typeLookup_type,builtinLookup_eq_fast];kernel_rfl) (by decide +kernel) (by decide +kernel) (by decide +kernel)
  (by first | exact .inl (by decide +kernel) | exact .inr (by decide +kernel)) (by rw[isSubtype_type];kernel_rfl)
theorem entJ:entryFor table "set_iterator.__iter__" = some Builtin.«dict_keyiterator.__iter__» :=
 entryFor_alias (id':="dict_keyiterator.__iter__") (by kernel_rfl) rfl (by decide +kernel) (by kernel_rfl)
theorem argJ (a:Value):argsOk "set_iterator.__iter__" ⟨[a],[]⟩:=by unfold argsOk;kernel_rfl
variable {P:Program}{w:World}{A:Around}{E:Value->Shared->Prop}{s:Shared}
theorem Ed {Q:Value->Shared->Prop}(x:It w s.heap I S T ys i)(h:Q (.ref I) s):wpAny (model P w) A (pyIter (.ref I)) Q E s:=by
 refine wpAny_pyIter_slot x.ty BK (wpAny_call_entry BK x.ty entJ ?_ (argJ _));show wpAny _ _ (ret (.ref I)) _ _ s;exact wpAny_pure ⟨_,rfl,"set_iterator",_,x.ty,lh.lookup,h⟩
theorem zu (hh:A.handled=none){ys:List Value}(hIS:S≠I)(hIT:T≠I):Walks P w A I [I,S,T] [I] ys.length (fun i v=>ys[i]? = some v) (fun i h=>It w h I S T ys i) where
 sub:=fun b hb=>by rw[gh.mp hb];exact ai
 frame:=fun i h h' st k=>st.kept fun b hb o e=>k b (by rcases hb with rfl | rfl | rfl<;>simp) o e
 item:=fun i s Q E hi st hQ=>DS hIS hIT st hi fun h' st' sb=>hQ _ h' s.toks (List.getElem?_eq_getElem hi) st' fun b o hb e=>(sb.2 b fun z=>hb (gh.mpr z)).trans e
 done:=fun s Q E st hQ=>GJ hh st fun h' k=>hQ h' s.toks fun b o hb e=>k b o (fun z=>hb (gh.mpr z)) e
 self:=fun i s Q E st hQ=>Ed st hQ
theorem vq {xs:Array Nat}(h:xs.size<=1):o7 xs:=by
 unfold o7;obtain⟨l⟩:=xs;cases l with
 |nil=>exact .nil
 |cons a l =>
  cases l with
  |nil=>exact i4 _ _
  |cons b l=>simp at h
theorem D0 {Q:Value->Shared->Prop}(x:fD P w s.heap S ks)
  (h:∀ h' d I T ys l,It w h' I S T ys 0->IntsAre ys l->l.Perm ks->S≠I->T≠I->s.heap.objs.size<=I->(T=S\/s.heap.objs.size<=T)->(∀ b o,s.heap.get? b=some o->h'.get? b=some o)->Q (.ref I) { s with heap:=h',drawn:=d }) :
  wpAny (model P w) A (pyIter (.ref S)) Q E s:=by
 obtain⟨o,es,ep,t,ho,hx,hd,hel,hb,hf,⟨l,hl,hp⟩,hld,hris⟩:=x;have hty:s.TypeIs (.ref S) "set":=⟨o,ho,hx.1⟩;have hlt:S<s.heap.objs.size:=Heap.lt_size ho;have hps:t.place.size=es.size:=by
  have:=hf;unfold SetTable.fits at this;simp only[Bool.and_eq_true,beq_iff_eq] at this;exact this.1
 refine wpAny_pyIter_slot hty F.slot_set_iter (wpAny_call_entry F.slot_set_iter hty entI ?_ (F.args_set_iter_1 _));unfold Builtin.«frozenset.__iter__» Builtin.Frozenset.slot0 slotArgs;simp only[List.isEmpty_nil,Bool.not_true,Bool.false_eq_true,↓reduceIte,bind_assoc,List.length_nil,bne_self_eq_false];unfold Builtin.Frozenset.addrOf Builtin.Frozenset.sizeOf;refine wpAny_bind (wpAny_pure ?_);dsimp only;refine wpAny_bind (wpAny_pure ?_);refine wpAny_bind (wpAny_bind (wpAny_setEntries_of ho hd hf (wpAny_pure ?_)));unfold setDrawn;refine wpAny_bind (wpAny_bind (wpAny_setState_of ho hd hf ?_));dsimp only;refine wpAny_bind (iA (wpAny_pure ?_));show wpAny _ _ (if (!bt w&&(!t.plain&&decide (es.size > 1)))=true then _ else _) _ _ _;have old:∀(ob:Obj) b o,s.heap.get? b=some o->(s.heap.push ob).get? b=some o:=fun ob b o e=>Heap.get?_push_of_some _ e
 by_cases hc:(!bt w&&(!t.plain&&decide (es.size > 1)))=true
 .rw[if_pos hc];refine wpAny_bind (sV _ _ _ _ gq.symm fun ps d hps'=>?_);have hpl:ps.length=es.size:=by rw[hps'.length_eq,gq]
  have hes:es.size<=sizeLine:=fits_of_scanBound hb;simp only[newTuple];refine wpAny_bind (wpAny_newObj_type ?_ (by show (List.map (fun (i:Nat)=>rawInt (i:Int)) ps).toArray.size<=sizeLine;simp;omega));unfold setEpoch;refine wpAny_bind (wpAny_bind (wpAny_setState_of (old _ _ _ ho) hd hf (wpAny_pure ?_)));simp only[newFields];refine wpAny_bind (wpAny_newObj_type (wpAny_pure ⟨_,rfl,"set_iterator",_,⟨_,Heap.get?_push_size _ rfl,rfl⟩,lh.lookup,?_⟩));have hz:(s.heap.push (seqObj "tuple" (List.map (fun (i:Nat)=>rawInt (i:Int)) ps).toArray 0)).objs.size=s.heap.objs.size+1:=Heap.size_push _ _;have rng:(List.range es.size).map (fun p=>(es.getD p (0,.none)).2)=es.toList.map (·.2):=by
   refine List.ext_getElem (by simp) fun i h1 h2=>?_
   have:i<es.size:=by simpa using h1
   simp[Array.getD,this]
  have pm:(ps.map fun p=>(es.getD p (0,.none)).2).Perm (es.toList.map (·.2)):=by
   rw[<-rng];exact hps'.map _
  obtain⟨l',i1,i2⟩:=iC pm hl;refine h _ d _ s.heap.objs.size _ l' ⟨o,es,ep,t,_,Heap.get?_push_of_some _ (old _ _ _ ho),hx,hd,hf,by rw[List.length_map];exact hpl,Heap.get?_push_size _ rfl,.drawn (Heap.get?_push_of_some _ (Heap.get?_push_size _ rfl)) rfl (by simp;exact hpl) fun k hk=>?_⟩ i1 (i2.trans hp) (Nat.ne_of_lt (by rw[hz];exact Nat.lt_succ_of_lt hlt)) (Nat.ne_of_lt (by rw[hz];exact Nat.lt_succ_self _)) (by rw[hz];exact Nat.le_succ _) (.inr (Nat.le_refl _)) fun b o e=>Heap.get?_push_of_some _ (Heap.get?_push_of_some _ e)
  have hk':k<ps.length:=by omega
  have hpk:ps[k]<es.size:=List.mem_range.mp (hps'.mem_iff.mp (ft hk'));refine⟨ps[k],?_,(es[ps[k]]).1,?_⟩
  .simp[hk',rawInt]
  .rw[Array.getElem?_eq_getElem hpk,List.getD_eq_getElem?_getD,List.getElem?_map,List.getElem?_eq_getElem hk'];simp[Array.getD,hpk]
 .rw[if_neg hc];refine wpAny_bind (wpAny_pure ?_);unfold setEpoch;refine wpAny_bind (wpAny_bind (wpAny_setState_of ho hd hf (wpAny_pure ?_)));simp only[newFields];refine wpAny_bind (wpAny_newObj_type (wpAny_pure ⟨_,rfl,"set_iterator",_,⟨_,Heap.get?_push_size _ rfl,rfl⟩,lh.lookup,?_⟩));have fin:∀ ys l',Way w (s.heap.push (xZ (.int 0 0) 0 S es.size ep)) S S es ep t (.int ((0:Nat):Int) 0) ys 0->ys.length=es.size->IntsAre ys l'->l'.Perm ks->Q (.ref s.heap.objs.size) { s with heap:=s.heap.push (xZ (.int 0 0) 0 S es.size ep) }:=fun ys l' hw hy i1 i2 =>
   h _ s.drawn s.heap.objs.size S ys l' ⟨o,es,ep,t,_,old _ _ _ ho,hx,hd,hf,hy,Heap.get?_push_size _ rfl,hw⟩ i1 i2 (ax hlt) (ax hlt) (au _) (.inl rfl) fun b o e=>Heap.get?_push_of_some _ e
  cases hbt:bt w with
  |true =>
   obtain⟨l',i1,i2⟩:=iC ((mR (w.params.setOrder S ep) es).map (·.2)) hl;refine fin _ l' (.text hbt) ?_ i1 (i2.trans hp);rw[ab,(mR (w.params.setOrder S ep) es).length_eq,ay]
  |false =>
   rw[hbt] at hc;have hdr:(!t.plain&&decide (es.size > 1))=false:=by
    cases e:(!t.plain&&decide (es.size > 1)) with
    |false=>rfl
    |true=>rw[e] at hc;exact absurd rfl hc
   have hR:o7 t.place:=by
    cases e:t.plain with
    |true=>exact hris e
    |false =>
     refine vq ?_;rw[e] at hdr;have:¬ es.size > 1:=by simpa using hdr
     omega
   refine fin _ l (.slot hbt (by rw[hld];show (!bt w)=true;rw[hbt];rfl) hdr hR (rV hR)) (by simp) hl hp
variable {P:Program}{w:World}{A:Around}{E:Value->Shared->Prop}{s:Shared}
theorem mj {acc:List Value}{l:List Int}(hy:IntsAre ys l)(hl:acc.length=ys.length)(h:∀(j:Nat) (v:Value),acc[j]? = some v->ys[j]? = some v):acc=ys:=by
 refine dm hl fun i h1 h2=>?_
 have:=h i _ (List.getElem?_eq_getElem h1);rw[List.getElem?_eq_getElem h2] at this;exact (cj this).symm
theorem BV {α:Type}{c b:Bool}{m n:Sem α}{Q:α->Shared->Prop}(hc:c=b)(h:wpAny (model P w) A (if b then m else n) Q E s):wpAny (model P w) A (if c then m else n) Q E s:=by
 subst hc;exact h
theorem vw {Q:List Value->Shared->Prop}(hh:A.handled=none)(x:fD P w s.heap S ks)
  (h:∀ h' d tk vs l,IntsAre vs l->l.Perm ks->(∀ b o,s.heap.get? b=some o->h'.get? b=some o)->Q vs { s with heap:=h',drawn:=d,toks:=tk }):wpAny (model P w) A (collect (.ref S)) Q E s:=by
 have hlt:S<s.heap.objs.size:=let ⟨o,_,_,_,ho,_⟩:=x;Heap.lt_size ho;have hb:ks.length<scanBound:=by
  obtain⟨o,es,ep,t,ho,hx,hd,hel,hb,hf,⟨l,hl,hp⟩,_⟩:=x;have:=IntsAre.length hl;rw[ab,ay] at this;rw[<-hp.length_eq];omega
 unfold collect;refine wpAny_bind (wpAny_runValue (codeAny_builtin F.entry_proto_collect ?_));rw[Around.under_plainId F.plain_proto_collect _];show wpAny _ A.in1 (newList [] >>= fun l=>again (.builtin "list.__iadd__" ⟨[l,.ref S],[]⟩)) _ _ s;refine wpAny_bind (wpAny_newObj_type ?_);refine wpAny_pure ⟨plainId_quiet F.plain_list_iadd _,codeAny_builtin F.entry_list_iadd ?_⟩;rw[Around.under_plainId F.plain_list_iadd _];generalize hL:({ cls:=.type "list",data:=.seq ([]:List Value).toArray }:Obj)=lo;have x1:fD P w (s.heap.push lo) S ks:=x.kept fun o e=>Heap.get?_push_of_some _ e
 have hty:∀{h:Heap}{g:Array GenState}{d:Drawn}{tk:Nat}{os:OsState},fD P w h S ks->Shared.TypeIs ⟨h,g,d,tk,os⟩ (.ref S) "set":=fun ⟨o,_,_,_,ho,hx,_⟩=>⟨o,ho,hx.1⟩
 show wpAny _ A.in1 (Builtin.List.listExtendWith (.ref s.heap.objs.size) (.ref S) (.ref s.heap.objs.size)) _ _ _;unfold Builtin.List.listExtendWith;refine wpAny_bind (wpAny_typeOf (hty x1) ?_);have h1:Builtin.List.listSameRef (.ref s.heap.objs.size) (.ref S)=false:=by simp[Builtin.List.listSameRef];exact Nat.ne_of_gt hlt
 have h2:(Value.type "set" == Value.type "list")=false:=by decide
 have h3:(Value.type "set" == Value.type "tuple")=false:=by decide
 simp only[h1,h2,h3,Bool.or_false,Bool.false_eq_true,if_false];refine wpAny_bind (D0 x1 fun h' d I T ys l it i1 i2 n1 n2 b1 b2 old=>?_);dsimp only at old b1 b2;have x2:fD P w h' S ks:=x1.kept fun o e=>old _ _ e
 refine wpAny_bind (wpAny_holding ?_);unfold Builtin.List.listLengthHint;refine wpAny_bind (wpAny_specialOf (hty x2) GU ?_);have hsp:splitId "set.__len__" = some ("set","__len__"):=by decide +kernel
 dsimp only;rw[hsp];dsimp only;refine wpAny_bind (wpAny_isInstance (b:=true) (hty x2) (by rw[isSubtype_type];kernel_rfl) ?_);rw[if_neg (by decide)];refine BV (b:=true) (by decide +kernel) ?_;refine wpAny_bind (wpAny_typeOf (hty x2) ?_);dsimp only;refine wpAny_pure ?_;refine BV (b:=true) (by decide +kernel) ?_;refine wpAny_bind (wpAny_rule ?_);refine wpAny_bind ?_;have hz:(s.heap.push lo).objs.size=s.heap.objs.size+1:=Heap.size_push _ _;have o1:h'.get? s.heap.objs.size=some { cls:=.type "list",data:=.seq ([]:List Value).toArray }:=old _ _ (by rw[hL];exact Heap.get?_push_size _ (by rw[<-hL];rfl));show wpAny _ A.in1 (updateSeq s.heap.objs.size (·.push .none) >>= fun _=>updateSeq s.heap.objs.size (·.pop)) _ _ _;refine wpAny_bind (wpAny_updateSeq o1 rfl ?_);have o2:=Heap.get?_update_self (Obj.mapSeq (·.push Value.none)) o1 rfl;refine wpAny_updateSeq o2 rfl ?_;have o3:=Heap.get?_update_self (Obj.mapSeq (·.pop)) o2 rfl;have oth:∀ b o,b≠s.heap.objs.size->h'.get? b=some o->((h'.update s.heap.objs.size (Obj.mapSeq (·.push Value.none))).update s.heap.objs.size (Obj.mapSeq (·.pop))).get? b=some o :=
  fun b o hb e=>(Heap.get?_update_other _ _ (df hb)).trans ((Heap.get?_update_other _ _ (df hb)).trans e)
 have m1:s.heap.objs.size≠I:=ax (by rw[hz] at b1;exact b1);have m2:s.heap.objs.size≠S:=gp hlt;have m3:s.heap.objs.size≠T:=by
  rcases b2 with rfl | b2
  .exact m2
  .exact ax (by rw[hz] at b2;exact b2)
 have hSf:s.heap.objs.size∉[I,S,T]:=by
  simp only[List.mem_cons,List.not_mem_nil,or_false,not_or];exact⟨m1,m2,m3⟩
 have hyl:ys.length=ks.length:=by rw[IntsAre.length i1,i2.length_eq]
 have W:=(zu (P:=P) (w:=w) (A:=A.in1) (by simpa using hh) (ys:=ys) n1 n2).toS;refine wpAny_pure ⟨plainId_quiet F.plain_extend_loop _,codeAny_extend_loopS W (by rw[hyl];exact fits_of_scanBound hb) _ hSf _ ys.length 0 _ _ _ rfl (dg _)
  (it.kept fun b hb o e=>oth b o (by rcases hb with rfl | rfl | rfl<;>exact df ‹_›) e) o3 (ItemsOf.nil _) fun s' acc' c' hm hS' hacc=>?_⟩
 show wpAny _ A (load s.heap.objs.size >>= _) _ _ s';refine wpAny_bind (wpAny_load hS' (wpAny_pure ?_));obtain⟨h2',g',d',tk',os'⟩:=s';have eg:g'=s.gens:=hm.gens;have ed:d'=d:=hm.drawn;have eo:os'=s.os:=hm.os;subst eg;subst ed;subst eo;have ea:acc'.toList=ys:=mj i1 (by rw[ay];exact hacc.1) fun j v e=>hacc.2 j v (by rw[<-Array.getElem?_toList];exact e)
 rw[ea];refine h h2' d' tk' ys l i1 i2 fun b o e=>hm.heap b o ?_ (oth b o (ax (Heap.lt_size e)) (old _ _ (Heap.get?_push_of_some _ e)))
 simp only[List.mem_cons,List.not_mem_nil,or_false,not_or];have hbs:=Heap.lt_size e;exact⟨ax hbs,ax (be hbs (by rw[hz] at b1;exact iu b1))⟩
theorem yY {Q:Value->Shared->Prop}(hh:A.handled=none)(x:fD P w s.heap S ks)(h64:ks.length<64)
  (h:∀ h' d tk B out ns' c,(∀ b o,s.heap.get? b=some o->h'.get? b=some o)->h'.get? B=some (seqObj "list" out c)->(∀ b o,s.heap.get? b=some o->b<B)->IntsAre out.toList ns'->ns'.Perm ks->ns'.Pairwise (·<=·)->Q (.ref B) { s with heap:=h',drawn:=d,toks:=tk }) :
  wpAny (model P w) A (call (.builtin "sorted") [.ref S]) Q E s:=by
 refine Calls.call_function_entry kind_sorted plain_sorted entry_sorted (args_sorted1 _) ?_;unfold Builtin.«sorted»;refine wpAny_bind (m:=checkCount "sorted" 1 1 _) (wpAny_pure ?_);refine wpAny_bind (vw (by simpa using hh) x fun h1 d tk vs l i1 i2 old=>?_);have hv:vs.length<64:=by rw[IntsAre.length i1,i2.length_eq];exact h64
 refine wpAny_bind (wpAny_newList ?_ (hsz:=by rw[sizeLine_eq];omega));have o1:(h1.push (seqObj "list" vs.toArray 0)).get? h1.objs.size=some (seqObj "list" vs.toArray 0):=Heap.get?_push_size _ rfl;refine wpAny_bind (wpAny_holding (wpAny_call_entry slot_list_sort ⟨_,o1,rfl⟩ entry_list_sort (list_sort_tree o1 i1 hv fun out ns' a1 a2 a3=>⟨_,rfl,?_⟩) (args_list_sort _)));obtain⟨c,hc⟩:=sortedHeap_at (out:=out) o1;refine wpAny_pure ⟨_,rfl,h _ d tk h1.objs.size out ns' c (fun b o e=>?_) hc (fun b o e=>Heap.lt_size (old b o e)) a1 (a2.trans i2) a3⟩;have e1:=old b o e;have hlt:=Heap.lt_size e1;exact (sortedHeap_old (ax hlt) (by rw[Heap.size_push];exact dn hlt)).trans (Heap.get?_push_of_some _ e1)
end Pc.Se
end
section
namespace Pc
open PySem PySem.Spec PyProof.Rows L2
section
variable {prog:Program}{w:World}{A:Around}{E:Value->Shared->Prop}{s:Shared}
end
section
variable {X:Cx}{T:Tb}
end
noncomputable def dd (ns:List Int):List Int:=ns.foldl step_dedup []
noncomputable def gJ:List D->Option D
 |[.lst xs]=>(eB xs).bind fun ns=>if ns.length<64 then some (.lst ((bY (dd ns)).map .int)) else none
 |_=>none
theorem BD (ns:List Int):Se.fm ns ns.length=dd ns:=by
 have:(List.range ns.length).map (fun i=>ns.getD i 0)=ns:=by
  refine List.ext_getElem (by simp) fun i h1 h2=>?_
  simp[List.getElem?_eq_getElem h2]
 show ((List.range ns.length).map fun i=>ns.getD i 0).foldl step_dedup []=_;rw[this];rfl
theorem xa (ns:List Int):(dd ns).length<=ns.length:=by
 rw[<-BD];exact firstMet_length_le _ _
theorem boot_set:bootBuiltins "set" = some (.type "set"):=by decide +kernel
variable {H:Hp}{X:Cx}{h:Heap}{pins:List (Addr×Obj)}
theorem uJ {σ:L2.St}{g:Array GenState}{d d':Drawn}{t:Nat}{os:OsState}(I:Inv X pins σ H ⟨h,g,d,t,os⟩):Inv X pins σ H ⟨h,g,d',t,os⟩ :=
 ⟨I.ok,I.os,I.bare,I.base,I.loc,I.cell,I.free,I.freeC,I.pin,I.hok,I.len⟩
variable {c:Ex}{e:Expr}{p pos pos':Pos}
section
variable {X:Cx}{T:Tb}
theorem zR {q:Pos}(hc:X.calm=true)(hg:Gl X "sorted") (hm:X.mg "sorted" = none) (hg':Gl X "set") (hm':X.mg "set" = none) (ha:PA X [e] (uo X.K T (.cons c .nil))) (hs:starEach [e] X.env=(false,eval e X.env)::starEach [] X.env) :
  PE X (.Call (.Name "sorted" p) [.Call (.Name "set" q) [e] [] pos'] [] pos) (tE X.K T (.app gJ (.cons c .nil))):=by
 intro pins s σ H Q I h;obtain⟨P,env,F,re,r,hev,k⟩:=h;unfold ev at hev;obtain⟨l,h1,hev⟩:=Rs.bind_ok hev;obtain⟨d,h2,hev⟩:=Rs.bind_ok hev;have h2:=cF h2;cases hev;have hl:∃ r ys ns,l=[r]/\r.1 = .lst ys/\eB ys=some ns/\ns.length<64/\d = .lst ((bY (dd ns)).map .int):=by
  unfold bC at h1;obtain⟨r,e1,h1⟩:=Rs.bind_ok h1;obtain⟨l',e2,h1⟩:=Rs.bind_ok h1;unfold bC at e2;cases e2;cases h1;have h2:gJ [r.1]=some d:=h2;cases hr:r.1 with
  |lst ys =>
   rw[hr] at h2;have h2:((eB ys).bind fun ns=>if ns.length<64 then some (D.lst ((bY (dd ns)).map .int)) else none)=some d:=h2;rw[ae] at h2;obtain⟨ns,a,b⟩:=h2;by_cases h64:ns.length<64
   .rw[if_pos h64] at b;cases b;exact⟨r,ys,ns,rfl,hr,a,h64,rfl⟩
   .rw[if_neg h64] at b;cases b
  |_=>rw[hr] at h2;cases h2
 obtain⟨r,ys,ns,rfl,hr,hki,h64,rfl⟩:=hl;refine Call_ (fC I hg hm boot_sorted (PyProof.Rows.callWith_builtin1 ?_ rfl rfl));show wpAny _ _ (spliced ((false,eval (.Call (.Name "set" q) [e] [] pos') X.env) :: [])) _ _ s;refine Calls.spliced_cons ?_;refine Call_ (fC I hg' hm' boot_set (cy (cH (ha pos' pins s σ H (fun vs H'=>∃ G,Args X.K env F H H' [r] vs G) I ⟨P,env,F,re,[r],h1,fun vs H' G ar=>⟨G,ar⟩⟩) fun us s1 ⟨vs,H1,I1,r1,G,ar⟩=>?_) hs rfl));have rs:aG X.K H1 [r.1] vs G:=ar.reps;obtain⟨x,rfl,rp⟩:=rs.of1;rw[hr] at rp;obtain⟨a,vs,g,rfl,rfl,a1,a2⟩:=rp.lst_inv;obtain⟨u,rfl,ru⟩:=r1.one;cases ru;obtain⟨its,rv,pl,hz⟩:=I1.list (.inl a1);obtain rfl:=iK hki a2;have hi:=eN rv;have hil:=IntsAre.length hi;refine Se.FZ (items:=its.toArray) (ns:=ns) (I1.ok.hd hc) pl.isList hi (by rw[aj,hil];exact Nat.lt_trans (Nat.succ_lt_succ h64) (by decide)) fun h' tk hS old=>?_
 have hS:Se.fD X.prog X.w h' s1.heap.objs.size (dd ns):=by
  have e:its.toArray.size=ns.length:=by rw[aj,hil]
  rw[e,BD] at hS;exact hS
 refine Calls.spliced_nil ?_;refine Se.yY (s:={ s1 with heap:=h',toks:=tk }) (I1.ok.hd hc) hS (Nat.lt_of_le_of_lt (xa ns) h64) fun h2 d tk2 B out ns' c old2 hB lt i1 pm asc=>?_
 obtain rfl:ns'=bY (dd ns):=PySem.W.lks_uniq (pm.trans (dZ _).symm) asc (fX _);have hlt:s1.heap.objs.size<B:=let ⟨o,_,_,_,ho,_⟩:=hS;lt _ o ho;have hn:H1 B=none:=I1.hok.fresh (il hlt);have I3:=I1.laid (a:=B) (o:=.lst ((bY (dd ns)).map V.int)) (t':=tk2) (h':=h2) (fun b o e=>old2 b o (old b o (Heap.lt_size e) e)) (il hlt) ⟨by
  rw[ab,(dZ _).length_eq,sizeLine_eq];have:=xa ns;omega,out.toList,c,jT i1,by rw[hB,Array.toArray_toList]⟩
 obtain⟨n1,n2⟩:=eV (G0:=a::g) (iL (K:=X.K) (H:=H1) (bY (dd ns))) (fun a ha=>nomatch ha) hn;have ro:=bP.new ar n2 fun _ z=>z
 have er:dO (D.lst ((bY (dd ns)).map .int)) (aP ([r].map (·.2))) = .mv []:=by
  unfold dO;rw[if_pos];exact j3 _
 rw[er] at ro;exact⟨.ref B,_,uJ I3,rfl,k _ _ _ (ar.same.trans n2.same) n1 ro⟩
end
theorem tq:∀(xs:List V) (us:List Value),xs.length=us.length->(∀(i:Nat) (x:V),xs[i]? = some x->∃ u,us[i]? = some u/\RelV x u)->aL xs us
 |[],[],_,_=>.nil
 |[],_::_,h,_=>by simp at h
 |_::_,[],h,_=>by simp at h
 | x::xs,u::us,h,f=>by
  obtain⟨u',e,r⟩:=f 0 x rfl;cases e;exact .cons r (tq xs us (by simpa using h) fun i y hy=>by simpa using f (i+1) y (by simpa using hy))
variable {n:Nat}
theorem rG {a c:Int}{acc:Array Value}(h:ItemsOf (fun i v=>∃ t,v = .int (a+i*c) t) acc n):aL (dG a c n) acc.toList:=by
 obtain⟨h1,h2⟩:=h;refine tq _ _ (by simp[dG,h1]) fun i x hx=>?_
 unfold dG at hx;rw[List.getElem?_map,aa] at hx;obtain⟨k,hk,rfl⟩:=hx;obtain⟨hk1,hk2⟩:=List.getElem?_eq_some_iff.mp hk;have hk1':i<n:=by simpa using hk1
 have hik:k=i:=by rw[<-hk2];simp
 subst hik;have hlt:k<acc.toList.length:=by simp[h1];exact hk1'
 refine⟨acc.toList[k],List.getElem?_eq_getElem hlt,?_⟩;obtain⟨t,ht⟩:=h2 k acc[k] (by simp[h1,hk1']);have:acc.toList[k]=acc[k]'(by simpa using hlt):=by simp
 rw[this,ht];exact⟨t,rfl⟩
variable {Q:VK}{cs:kL}{es:List Expr}{s:Shared}
section
variable {X:Cx}{T:Tb}
theorem nI {σ:L2.St}{E:Value->Shared->Prop}{lo hi:Int}{t u v:Tok}{tk:Nat}(hc:X.calm=true)(I:Inv X pins σ H s)(h1 : -(2 ^ 62)<=lo)(h2:lo<2 ^ 62)(h3 : -(2 ^ 62)<=hi)(h4:hi<2 ^ 62)(h5:hi - lo<=1000000)
  (q:∀ l,H l=none->Q (.ref l) (upd H l (.lst (dG lo 1 (hi - lo).toNat)))):wpAny (model X.prog X.w) X.A (call (.type "list") [.ref s.heap.objs.size]) (EP X pins σ Q) E { s with heap:=s.heap.push { cls:=.type "range",data:=.fields #[.int lo t,.int hi u,.int 1 v] },toks:=tk }:=by
 have I1:Inv X pins σ H { s with heap:=s.heap.push { cls:=.type "range",data:=.fields #[.int lo t,.int hi u,.int 1 v] },toks:=tk }:=I.kept fun b o e=>Heap.get?_push_of_some _ e
 refine call_list_range (n:=(hi - lo).toNat) (I1.ok.hd hc) (IsRange.new ..) (small_one h1 h2 h3 h4) (by rw[rangeSize_one];split<;>omega) (by omega) fun h' tk' acc' c' hk hS hacc=>?_
 have hv:=rG hacc;have h0:H (s.heap.push { cls:=.type "range",data:=.fields #[.int lo t,.int hi u,.int 1 v] }).objs.size=none:=I1.fresh;have I2:=I1.laid (a:=(s.heap.push { cls:=.type "range",data:=.fields #[.int lo t,.int hi u,.int 1 v] }).objs.size) (o:=.lst (dG lo 1 (hi - lo).toNat)) (t':=tk') (h':=h') hk (au _) ⟨by rw[jf];have:=oO;have:lim=1000000:=rfl;omega,acc'.toList,c',hv,hS⟩;exact⟨.ref _,_,I2,rfl,q _ h0⟩
theorem tR {q:Pos}(hc:X.calm=true)(hg:Gl X "list") (hm:X.mg "list" = none) (hg':Gl X "range") (hm':X.mg "range" = none) (ha:PA X es (uo X.K T cs)) (hs:∃ e r,es=e::r/\starEach es X.env=(false,eval e X.env)::starEach r X.env/\((backTo pos' (starEach r X.env)).any fun x=>x.1)=false) :
  PE X (.Call (.Name "list" p) [.Call (.Name "range" q) es [] pos'] [] pos) (tE X.K T (.blt .lrng cs)):=by
 intro pins s σ H Q I h;obtain⟨P,env,F,re,r,hev,k⟩:=h;unfold ev at hev;obtain⟨l,h1,hev⟩:=Rs.bind_ok hev;obtain⟨d,h2,hev⟩:=Rs.bind_ok hev;have h2:=cF h2;cases hev;obtain⟨e,rs,rfl,hs1,hs2⟩:=hs;refine Call_ (fC I hg hm boot_list (cy ?_ rfl rfl));show wpAny _ _ (spliced ((false,eval (.Call (.Name "range" q) (e::rs) [] pos') X.env) :: [])) _ _ s;refine Calls.spliced_cons ?_;refine Call_ (fC I hg' hm' boot_range (cy (cH (ha pos' pins s σ H (fun vs H'=>∃ G,Args X.K env F H H' l vs G) I ⟨P,env,F,re,l,h1,fun vs H' G ar=>⟨G,ar⟩⟩) fun us s1 ⟨vs,H1,I1,r1,G,ar⟩=>?_) hs1 hs2));have rps:aG X.K H1 (l.map (·.1)) vs G:=ar.reps;generalize hl:l.map (·.1)=ds at h2 rps
 match ds,h2 with
 |[.int n],h2 =>
  simp only[l7,r8] at h2;by_cases hk:fJ n=true/\n<=1000000
  .rw[if_pos hk] at h2;cases h2;obtain⟨x,rfl,rp⟩:=rps.of1;obtain⟨rfl,rfl⟩:=rp.int_inv;obtain⟨u,rfl,t,rfl⟩:=r1.one;unfold fJ at hk;simp only[decide_eq_true_eq] at hk;refine call_range_1 (Calls.spliced_nil (nI hc I1 (by omega) (by omega) hk.1.1 hk.1.2 (by omega) fun a h0=>?_));obtain⟨n1,n2⟩:=eV (G0:=[]) (fT (K:=X.K) (H:=H1) 1 (n - 0).toNat 0) (fun z hz=>hz) h0;rw[Int.sub_zero] at n1 n2 ⊢;exact k _ _ _ (ar.same.trans n2.same) n1 (bP.new ar n2 fun _ z=>z)
  .rw[if_neg hk] at h2;cases h2
 |[.int a,.int b],h2 =>
  simp only[l7,r8] at h2;by_cases hk:fJ a=true/\fJ b=true/\b - a<=1000000
  .rw[if_pos hk] at h2;cases h2;cases rps with
   |cons ra rps =>
    obtain⟨rfl,rfl⟩:=ra.int_inv;obtain⟨x,rfl,rp⟩:=rps.of1;obtain⟨rfl,rfl⟩:=rp.int_inv;obtain⟨u,w,rfl,⟨t,rfl⟩,⟨t',rfl⟩⟩:=r1.two;unfold fJ at hk;simp only[decide_eq_true_eq] at hk;refine call_range_2 (Calls.spliced_nil (nI hc I1 hk.1.1 hk.1.2 hk.2.1.1 hk.2.1.2 hk.2.2 fun c h0=>?_));obtain⟨n1,n2⟩:=eV (G0:=[]) (fT (K:=X.K) (H:=H1) 1 (b - a).toNat a) (fun z hz=>hz) h0;exact k _ _ _ (ar.same.trans n2.same) n1 (bP.new ar n2 fun _ z=>z)
  .rw[if_neg hk] at h2;cases h2
end
section
variable {prog:Program}{w:World}{A:Around}{R:Result->Shared->Prop}{it:Addr}{fp wr:List Addr}{n:Nat}{P:Nat->Value->Prop}{Sta:Nat->Heap->Prop}{dv:Value}{bx:Addr}
end
section
variable {X:Cx}{T:Tb}
end
theorem tJ:∀{vs:List Value}{ns:List Int},IntsAre vs ns->vs.length=ns.length/\∀(i:Nat) v,vs[i]? = some v->∃ n t,ns[i]? = some n/\v = .int n t
 |_,_,.nil=>⟨rfl,fun i v h=>by simp at h⟩
 | _,_,.cons n t r=>by
  obtain⟨l,g⟩:=tJ r;refine⟨by simp[l],fun i v h=>?_⟩;cases i with
  |zero =>
   rw[List.getElem?_cons_zero] at h;cases h;exact⟨n,t,rfl,rfl⟩
  |succ i =>
   rw[List.getElem?_cons_succ] at h;obtain⟨m,u,h1,h2⟩:=g i v h;exact⟨m,u,by rw[List.getElem?_cons_succ];exact h1,h2⟩
theorem qt {lt:Nat->Nat->Bool}:∀(k j m:Nat),j+k=n->m<n->dN lt k j m<n
 |0,_,m,_,h=>h
 | k+1,j,m,e,h=>by
  unfold dN;refine qt k (j+1) _ (by omega) ?_;split
  .omega
  .exact h
theorem sU:(toString "min" ++ toString ".loop" : String) = "min.loop":=by decide
section
variable {prog:Program}{w:World}{A:Around}{R:Result->Shared->Prop}{it:Addr}{fp wr:List Addr}{n:Nat}{P:Nat->Value->Prop}{Sta:Nat->Heap->Prop}{bx:Addr}{val:Nat->Value}{lt:Nat->Nat->Bool}{h0:Heap}
def Kp (wr:List Addr)(bx:Addr)(h0 h:Heap):Prop:=∀ b o,b∉wr->b≠bx->h0.get? b=some o->h.get? b=some o
theorem Bm (W:Walks prog w A.in1 it fp wr n P Sta)(hval:∀ i v,P i v->v=val i)(hb:bx∉fp)
  (hcmp:∀(i j:Nat) (s':Shared) (Q E:Value->Shared->Prop),i<n->j<n->Kp wr bx h0 s'.heap->Q (.bool (lt i j)) s'->wpAny (model prog w) A.in1 (richCompare .Lt (val i) (val j)) Q E s') :
  ∀(k j:Nat) (s:Shared) (m:Nat) (c:Nat),n - j=k->j<=n->m<n->Sta j s.heap->Kp wr bx h0 s.heap->s.heap.get? bx=some { cls:=.type "list",dict:=none,data:=.seq #[val m,val m] c,slots:=#[] } ->
  (∀ hp tk,Kp wr bx h0 hp->R (.ok (.ret (val (dN lt k j m)))) { s with heap:=hp,toks:=tk }) ->
  codeAny (model prog w) A (.builtin "min.loop" ⟨[.ref it,.none,.ref bx],[]⟩) R s:=by
 have hw:bx∉wr:=fun h=>hb (W.sub _ h)
 intro k
 induction k with
 |zero =>
  intro j s m c hk hj hm st kp hB q;have e:j=n:=by omega
  subst e;refine codeAny_builtin F.entry_min_loop (by
   rw[Around.under_plainId F.plain_min_loop _];show wpAny _ A.in1 (seqItems? (.ref bx) >>= _) _ _ s;refine wpAny_bind (wpAny_seqItems hB rfl (wpAny_bind (wpAny_tryCatch (W.done s _ _ st fun hp tk hk'=>?_))));have hB':=hk' bx _ hw hB;show wpAny _ A.in1 (updateSeq bx (fun _=>#[]) >>= _) _ _ _;exact wpAny_bind (wpAny_updateSeq hB' rfl (wpAny_bind (wpAny_letGo (wpAny_pure (q _ tk fun b o h1 h2 e=>(Heap.get?_update_other _ _ (df h2)).trans (hk' b o h1 (kp b o h1 h2 e))))))))
 |succ k ih =>
  intro j s m c hk hj hm st kp hB q;have hlt:j<n:=by omega
  refine codeAny_builtin F.entry_min_loop (by
   rw[Around.under_plainId F.plain_min_loop _];show wpAny _ A.in1 (seqItems? (.ref bx) >>= _) _ _ s;refine wpAny_bind (wpAny_seqItems hB rfl (wpAny_bind (wpAny_tryCatch (W.item j s _ _ hlt st fun v hp tk hv st' hk'=>?_))));have hB':=hk' bx _ hw hB;have hve:=hval j v hv;subst hve;have kp':Kp wr bx h0 hp:=fun b o h1 h2 e=>hk' b o h1 (kp b o h1 h2 e)
   show wpAny _ A.in1 (tryCatch (holding [val j,val j] (richCompare .Lt (val j) (val m) >>= _)) _ >>= _) _ _ _;refine wpAny_bind (wpAny_tryCatch (wpAny_holding (wpAny_bind (hcmp j m _ _ _ hlt hm kp' (wpAny_bind (wpAny_holding (wpAny_truthy_bool (wpAny_bind (wpAny_letGo (wpAny_pure ?_))))))))));cases hg:lt j m with
   |true =>
    simp only[if_true];refine wpAny_bind (wpAny_updateSeq hB' rfl (wpAny_bind (wpAny_letGo ?_)));rw[sU];refine wpAny_pure ⟨plainId_quiet F.plain_min_loop _,ih (j+1) _ j _ (by omega) hlt hlt (W.frame _ _ _ st' fun b hbf o e=>(Heap.get?_update_other _ _ (fun h:bx=b=>hb (h ▸ hbf))).trans e) (fun b o h1 h2 e=>(Heap.get?_update_other _ _ (df h2)).trans (kp' b o h1 h2 e)) (Heap.get?_update_self _ hB' rfl) fun hp2 tk2 hk2=>?_⟩;have:=q hp2 tk2 hk2;unfold dN at this
    rwa [hg,if_pos rfl] at this
   |false =>
    simp only[Bool.false_eq_true,if_false];refine wpAny_bind (wpAny_letGo ?_);rw[sU];refine wpAny_pure ⟨plainId_quiet F.plain_min_loop _,ih (j+1) _ m c (by omega) hlt hm st' kp' hB' fun hp2 tk2 hk2=>?_⟩;have:=q hp2 tk2 hk2;unfold dN at this
    rwa [hg,if_neg (by decide)] at this)
theorem yF (W:Walks prog w A.in1 it fp wr n P Sta)(hval:∀ i v,P i v->v=val i)(hb:bx∉fp)(hn:0<n)
  (hcmp:∀(i j:Nat) (s':Shared) (Q E:Value->Shared->Prop),i<n->j<n->Kp wr bx h0 s'.heap->Q (.bool (lt i j)) s'->wpAny (model prog w) A.in1 (richCompare .Lt (val i) (val j)) Q E s')
  {c:Nat}(st:Sta 0 s.heap) (kp:Kp wr bx h0 s.heap) (hB:s.heap.get? bx=some { cls:=.type "list",dict:=none,data:=.seq #[] c,slots:=#[] })
  (q:∀ hp tk,Kp wr bx h0 hp->R (.ok (.ret (val (dN lt (n - 1) 1 0)))) { s with heap:=hp,toks:=tk }) :
  codeAny (model prog w) A (.builtin "min.loop" ⟨[.ref it,.none,.ref bx],[]⟩) R s:=by
 have hw:bx∉wr:=fun h=>hb (W.sub _ h)
 refine codeAny_builtin F.entry_min_loop (by
  rw[Around.under_plainId F.plain_min_loop _];show wpAny _ A.in1 (seqItems? (.ref bx) >>= _) _ _ s;refine wpAny_bind (wpAny_seqItems hB rfl (wpAny_bind (wpAny_tryCatch (W.item 0 s _ _ hn st fun v hp tk hv st' hk'=>?_))));have hB':=hk' bx _ hw hB;have hve:=hval 0 v hv;subst hve;have kp':Kp wr bx h0 hp:=fun b o h1 h2 e=>hk' b o h1 (kp b o h1 h2 e)
  show wpAny _ A.in1 (updateSeq bx (fun _=>#[val 0,val 0]) >>= _) _ _ _;refine wpAny_bind (wpAny_updateSeq hB' rfl ?_);rw[sU];refine wpAny_pure ⟨plainId_quiet F.plain_min_loop _,Bm W hval hb hcmp (n - 1) 1 _ 0 _ rfl hn hn (W.frame _ _ _ st' fun b hbf o e=>(Heap.get?_update_other _ _ (fun h:bx=b=>hb (h ▸ hbf))).trans e) (fun b o h1 h2 e=>(Heap.get?_update_other _ _ (df h2)).trans (kp' b o h1 h2 e)) (Heap.get?_update_self _ hB' rfl) fun hp2 tk2 hk2=>?_⟩;exact q _ tk2 hk2)
end
variable {w:World}
theorem u9 {prog:Program}{A:Around}{E:Value->Shared->Prop}{x:Value}{Q:Value->Shared->Prop}
  (h:wpAny (model prog w) A.in1 (pyIter x) (fun iv s₂=>∃ it fp wr n P Sta,∃(val:Nat->Value) (lt:Nat->Nat->Bool),iv = .ref it/\Walks prog w A.in1 it fp wr n P Sta/\Sta 0 s₂.heap/\(∀ b∈fp,b<s₂.heap.objs.size)/\0<n/\(∀ i v,P i v->v=val i) /\
   (∀(i j:Nat) (s':Shared) (Q E:Value->Shared->Prop),i<n->j<n->(∀ b o,b∉wr->s₂.heap.get? b=some o->s'.heap.get? b=some o)->Q (.bool (lt i j)) s'->wpAny (model prog w) A.in1 (richCompare .Lt (val i) (val j)) Q E s') /\
   ∀ hp tk,(∀ b o,b∉wr->s₂.heap.get? b=some o->hp.get? b=some o)->Q (val (dN lt (n - 1) 1 0)) { s₂ with heap:=hp,toks:=tk }) E s) :
  wpAny (model prog w) A (call (.builtin "min") [x]) Q E s:=by
 refine wpAny_call (codeAny_call_builtin F.plain_min F.entry_min ?_);have hc:wpAny (model prog w) A.in1 (Builtin.«min» ⟨[x],[]⟩) (fun fin s'=>match fin with
   |.done f=>(match (Except.ok f:Result) with | .ok (.ret v)=>Q v s' | .ok _=>False | .error e=>E e s')
   |.again c=>c.quiet=true/\codeAny (model prog w) A c (fun r s2=>match r with | .ok (.ret v)=>Q v s2 | .ok _=>False | .error e=>E e s2) s') E s:=by
  show wpAny _ A.in1 (Builtin.Builtins.bindParams "min" ["key","default"] 0 ⟨[],[]⟩ >>= _) _ _ s;refine wpAny_bind (wpAny_of_eq (show Builtin.Builtins.bindParams "min" ["key","default"] 0 ⟨[],[]⟩=pure [none,none] from rfl) (wpAny_bind (wpAny_pure (wpAny_bind (wpAny_mono h (fun iv s₂ h₂=>?_) fun _ _ e=>e)))));obtain⟨it,fp,wr,n,P,Sta,val,lt,rfl,W,st,hfp,hn,hval,hcmp,q⟩:=h₂;refine wpAny_bind (wpAny_newObj_type ?_);rw[sU];have fresh:∀ b o,s₂.heap.get? b=some o->b≠s₂.heap.objs.size:=fun b o e=>ax (Heap.lt_size e)
  refine wpAny_pure ⟨plainId_quiet F.plain_min_loop _,yF (h0:=s₂.heap) (lt:=lt) W hval (fun hm=>du _ (hfp _ hm)) hn (fun i j s' Q E hi hj kp hQ=>hcmp i j s' Q E hi hj (fun b o hbw e=>kp b o hbw (fresh b o e) e) hQ) (W.frame _ _ _ st fun b _ o e=>Heap.get?_push_of_some _ e) (fun b o _ _ e=>Heap.get?_push_of_some _ e) (Heap.get?_push_size _ rfl) fun hp tk hk=>?_⟩;exact q hp tk fun b o hbw e=>hk b o hbw (fresh b o e) e
 have ha:=PySem.F.args_min1 x;simp only[checkBuiltinCall,F.kind_min];cases hsig:Manifest.signature? "min" with
 |none=>exact wpAny_pure hc
 |some sig =>
  simp only[argsOk,hsig] at ha;have h2:Bind.checkArgs "min" sig ⟨[x],[]⟩=pure ():=ha;show wpAny _ A.in1 (Bind.checkArgs "min" sig ⟨[x],[]⟩) _ _ s;rw[h2];exact wpAny_pure hc
variable {a:Addr}{its:List Value}{ns:List Int}{vs:List V}
section
variable {X:Cx}{pins:List (Addr×Obj)}{σ:L2.St}{H:Hp}{s:Shared}
theorem wt (hc:X.calm=true)(I:Inv X pins σ H s){p:Addr}(rv:aL vs its)(pl:s.heap.IsList p its.toArray)(hn:0<its.length)(lt:Nat->Nat->Bool)
  (hcmp:∀(i j:Nat) (u v:Value),its[i]? = some u->its[j]? = some v->∀(s':Shared) (Q E:Value->Shared->Prop),(∀ b o,s.heap.get? b=some o->s'.heap.get? b=some o)->Q (.bool (lt i j)) s'->wpAny (model X.prog X.w) X.A.in1 (richCompare .Lt u v) Q E s')
  (k:∀ v,vs[dN lt (its.length - 1) 1 0]? = some v->Q v H):wpAny (model X.prog X.w) X.A (call (.builtin "min") [.ref p]) (EP X pins σ Q) X.xe s:=by
 have hlt:p<s.heap.objs.size:=by
  obtain⟨o,ho,_⟩:=pl;exact Heap.lt_size ho
 have atN:∀ i,i<its.length->its[i]? = some (its.getD i .none):=fun i hi=>by
  simp[List.getD,List.getElem?_eq_getElem hi]
 refine u9 (wpAny_pyIter_list pl ⟨s.heap.objs.size,[s.heap.objs.size,p],[s.heap.objs.size],its.toArray.size,_,_,fun i=>its.getD i .none,lt,rfl,Walks.list (A:=X.A.in1) (show X.A.in1.handled=none from I.ok.hd hc) s.heap.objs.size p (ax hlt) its.toArray,⟨⟨_,Heap.get?_push_size _ rfl,rfl,rfl⟩,pl.at fun o e=>Heap.get?_push_of_some _ e⟩,fun c hb=>?_,by rw[aj];exact hn,fun i v hP=>?_,fun i j s' Q' E' hi hj kp hQ=>?_,fun hp tk hk=>?_⟩)
 .simp only[List.mem_cons,List.not_mem_nil,or_false] at hb;rw[Heap.size_push];rcases hb with rfl | rfl
  .exact gu _
  .exact dn hlt
 .have hP:its.toArray[i]? = some v:=hP;rw[List.getElem?_toArray] at hP;simp[List.getD,hP]
 .rw[aj] at hi hj;exact hcmp i j _ _ (atN i hi) (atN j hj) s' Q' E' (fun b o e=>kp b o (by
   intro z;rw[gh] at z;subst z;exact du _ (Heap.lt_size e)) (Heap.get?_push_of_some _ e)) hQ
 .have J1:Inv X pins σ H { s with heap:=s.heap.push { cls:=.type "list_iterator",data:=.fields #[.ref p,.int 0 0] } }:=I.kept (t':=s.toks) fun b o e=>Heap.get?_push_of_some _ e
  obtain⟨f0,f1,f2,f3,f4,f5⟩:=I.fpOk (b:=s.heap.objs.size) (au _) (I.hok.fresh (au _));have J2:=J1.turned (t':=tk) (fun b o hb e=>hk b o (by simpa using hb) e) f0 f1 f3 f4 f5;rw[aj];have hb:dN lt (its.length - 1) 1 0<its.length:=qt _ _ _ (by omega) hn;have hvb:dN lt (its.length - 1) 1 0<vs.length:=by rw[rv.length];exact hb
  obtain⟨u,e1,e2⟩:=rv.get (List.getElem?_eq_getElem hvb);have:its.getD (dN lt (its.length - 1) 1 0) .none=u:=by
   have:=atN _ hb;rw[e1] at this;cases this;rfl
  show EP X pins σ Q (its.getD (dN lt (its.length - 1) 1 0) .none) _;rw[this];exact⟨_,H,J2,e2,k _ (List.getElem?_eq_getElem hvb)⟩
theorem rA (hi:IntsAre its ns)(i j:Nat)(u v:Value)(hu:its[i]? = some u)(hv:its[j]? = some v)(s':Shared)(Q E:Value->Shared->Prop)(h:Q (.bool (decide (ns.getD i 0<ns.getD j 0))) s'):wpAny (model X.prog X.w) X.A.in1 (richCompare .Lt u v) Q E s':=by
 obtain⟨_,hat⟩:=tJ hi;obtain⟨a,t,h1,rfl⟩:=hat i u hu;obtain⟨b,t',h2,rfl⟩:=hat j v hv;have e1:ns.getD i 0=a:=by simp[List.getD,h1]
 have e2:ns.getD j 0=b:=by simp[List.getD,h2]
 rw[e1,e2] at h;exact HT.k7 _ _ _ _ _ _ _ _ _ _ h
theorem rZ (hu:X.A.units+1<cLine){b:Addr}{xs ys:List Value}{ms:List Int}(h1:IsTup s.heap a xs.toArray)(h2:IsTup s.heap b ys.toArray)(i1:IntsAre xs ns)(i2:IntsAre ys ms)(s':Shared)(Q E:Value->Shared->Prop)(kp:∀ b o,s.heap.get? b=some o->s'.heap.get? b=some o)(h:Q (.bool (HT.lexLt ns ms)) s') :
  wpAny (model X.prog X.w) X.A.in1 (richCompare .Lt (.ref a) (.ref b)) Q E s':=by
 obtain⟨o,ho,r⟩:=h1;obtain⟨o',ho',r'⟩:=h2;exact (HT.rM (A:=X.A.in1) ⟨o,kp _ _ ho,r⟩ ⟨o',kp _ _ ho',r'⟩ (by simpa using i1) (by simpa using i2) hu h:wpAny (model X.prog X.w) X.A.in1 (compareOp .Lt (.ref a) (.ref b)) Q E s')
end
theorem tM:∀ a b:List Int,jV a b=HT.lexLt a b
 |[],[]=>rfl
 |[],_::_=>rfl
 |_::_,[]=>rfl
 | x::a,y::b=>by
  show (if x==y then jV a b else decide (x<y))=_;rw[HT.kY,tM a b];by_cases e:x=y
  .rw[if_pos e,if_pos (by rw[e];exact fq y)]
  .rw[if_neg e,if_neg (by rw[f6];exact e)]
section
variable {X:Cx}
theorem rj (hc:X.calm=true)(hu:X.A.units+40<cLine):eR X (.builtin "min") (nU X.K .min2):=by
 intro pins s σ H xs us Q I r h;obtain⟨ds,d,G,rs,hd,k⟩:=h
 match ds,hd with
 |[.int i,.int j],hd =>
  cases hd;obtain⟨x,y,G1,G2,rfl,rp,rp'⟩:=rs.of2;obtain⟨rfl,rfl⟩:=rp.int_inv;obtain⟨rfl,rfl⟩:=rp'.int_inv;exact vp hc pins s σ H _ us Q I r ⟨i,j,rfl,k _ H [] (.int _) gG.nil⟩
 |[.lst ys],hd =>
  have hd:minD ys=some d:=hd;obtain⟨x,rfl,rp⟩:=rs.of1;obtain⟨l,vs,g,rfl,rfl,a1,a2⟩:=rp.lst_inv;obtain⟨u,rfl,rx⟩:=r.one;obtain rfl:u = .ref l:=rx;obtain⟨its,rv,pl,_⟩:=I.list (.inl a1);have hlen:its.length=ys.length:=by rw[<-rv.length,<-a2.len]
  unfold minD at hd;by_cases he:ys.isEmpty=true
  .rw[if_pos he] at hd;cases hd
  rw[if_neg he] at hd;have hn:0<its.length:=by
   rw[hlen];cases ys with
   |nil=>exact absurd rfl he
   |cons _ _=>exact Nat.succ_pos _
  have fin:∀ lt:Nat->Nat->Bool,ys[dN lt (ys.length - 1) 1 0]? = some d->(d.flat=true\/g=[])->∀ v,vs[dN lt (its.length - 1) 1 0]? = some v->Q v H:=fun lt hy hf v hv=>by
   rw[hlen] at hv;obtain⟨v',G',e1,e2,e3⟩:=a2.get hy;rw[hv] at e1;cases e1;have:G'=[]:=by
    rcases hf with hf | rfl
    .exact e2.flat hf
    .exact List.sublist_nil.mp e3
   subst this;exact k _ H [] e2 gG.nil
  cases hk:eB ys with
  |some ns =>
   rw[hk] at hd;have hy:=fO hk;have ia:IntsAre its ns:=by
    rw[hy] at a2;exact jI a2 rv
   refine wt hc I rv pl.isList hn _ (fun i j u v hi hj s' Q' E' _ h=>rA ia i j u v hi hj s' Q' E' h) (fin _ hd (.inl ?_));rw[hy] at hd;obtain⟨n,_,rfl⟩:=List.mem_map.mp (List.mem_of_getElem? hd);rfl
  |none =>
   rw[hk] at hd;dsimp only at hd;rw[ae] at hd;obtain⟨ks,hks,hd⟩:=hd;obtain⟨kl,kt,kn,kg⟩:=jY I hks a2 rv;refine wt hc I rv pl.isList hn _ (fun i j u v hi hj s' Q' E' kp h=>?_) (fin _ hd (.inr kg));have at1:∀(i:Nat) (u:Value),its[i]? = some u->∃ a xs,u = .ref a/\IsTup s.heap a xs.toArray/\IntsAre xs (ks.getD i []):=fun i u hi=>by
    have hlt:i<ks.length:=by rw[kl];exact (List.getElem?_eq_some_iff.mp hi).1
    obtain⟨a,o,xs,n,e1,e2,e3,e4,e5⟩:=kt i _ (List.getElem?_eq_getElem hlt);have hgu:its.getD i .none=u:=by rw[List.getD_eq_getElem?_getD,hi];rfl
    rw[hgu] at e1;refine⟨a,xs.toList,e1,⟨o,e2,e3,n,by rw[e4]⟩,?_⟩;rw[List.getD_eq_getElem?_getD,List.getElem?_eq_getElem hlt];exact e5
   obtain⟨a,xs,rfl,t1,i1⟩:=at1 i u hi;obtain⟨b,zs,rfl,t2,i2⟩:=at1 j v hj;rw[tM] at h;exact rZ (by omega) t1 t2 i1 i2 s' Q' E' kp h
end
section
variable {X:Cx}
end
section
variable {X:Cx}
end
structure Sc where
 N:List Str
 sc:Scope
 fns:List Str
 uq:List Str
 dS:List Str
noncomputable def idxOf:List Str->Str->Option Nat
 |[],_=>none
 |y::r,x=>if y=x then some 0 else (idxOf r x).map (· + 1)
theorem bU:∀{l:List Str}{x:Str}{i:Nat},idxOf l x=some i->l[i]? = some x
 | y::r,x,i,h=>by
  simp only[idxOf] at h;by_cases e:y=x
  .rw[if_pos e] at h;cases h;rw[e];rfl
  .rw[if_neg e,aa] at h;obtain⟨j,hj,rfl⟩:=h;simpa using bU hj
noncomputable def cY (sc:Scope)(x:Str):Option NameKind:=sc.names.lookup x
noncomputable def mh (sc:Scope)(x:Str):Bool:=match cY sc x with
 |some .local=>true
 |some .cell=>true
 |some .free=>true
 |_=>false
noncomputable def jO (sc:Scope)(x:Str):Bool:=match cY sc x with
 |some .local=>true
 |some .cell=>true
 |_=>false
noncomputable def nY (sc:Scope)(x:Str):Bool:=match cY sc x with
 |some .globalImplicit=>true
 |_=>false
noncomputable def cK (x:Str):Bool:=!(x==("__debug__" : Str)) && !(x==("__classdict__" : Str)) && !(x==("__name__" : Str))
noncomputable def notStar:Expr->Bool
 |.Starred _ _=>false
 |_=>true
noncomputable def gB:Expr->Bool
 |.Set _ _ _=>false
 |_=>true
noncomputable def fE:Expr->Bool
 |.Slice _ _ _ _=>false
 |_=>true
noncomputable def fH:Expr->Bool
 |.ListComp _ _ _ _=>true
 |.SetComp _ _ _ _=>true
 |.DictComp _ _ _ _ _=>true
 |_=>false
noncomputable def cZ (f:Expr->Option Ex):List Expr->Option kL
 |[]=>some .nil
 |e::es=>if notStar e then (f e).bind fun c=>(cZ f es).map fun cs=>.cons c cs else none
noncomputable def E5 (f:Expr->Option Ex)(op:BoolOp):List Expr->Option Ex
 |[]=>none
 |[a]=>f a
 |a::r=>(f a).bind fun c=>(E5 f op r).map fun d=>match op with
  |.And=>.and c d
  |.Or=>.or c d
noncomputable def kX (S:Sc):List Expr->Option (List Nat)
 |[]=>some []
 |.Name x _::r=>if jO S.sc x then (idxOf S.N x).bind fun i=>(kX S r).map fun is=>i::is else none
 |_::_=>none
noncomputable def vx (S:Sc):Expr->Option kz
 |.Name x _=>if jO S.sc x then (idxOf S.N x).map .nm else none
 |.Tuple es _ _=>(kX S es).map .tp
 |_=>none
noncomputable def xk (f:Expr->Option Ex):Option Expr->Option lH
 |none=>some .none
 |some e=>(f e).map .some
noncomputable def jk (S:Sc)(x:Str):Bool:=nY S.sc x&&S.dS.contains x
noncomputable def isTup:Expr->Bool
 |.Tuple _ _ _=>true
 |_=>false
noncomputable def Er (S:Sc)(f:Expr->Option Ex)(tp:Bool):Expr->Option qM
 | .Call (.Name x p) es [] pos=>if x = "range" then (if jk S "range" then (match cZ f es with
   | some (.cons a .nil)=>some (.rng1 a)
   | some (.cons a (.cons b .nil))=>some (.rng2 a b)
   | some (.cons a (.cons b (.cons c .nil)))=>some (.rng3 a b c)
   |_=>none) else none) else if x = "enumerate" then (if jk S "enumerate" && tp then (match es with
   |[e]=>if notStar e then (f e).map .enum else none
   |_=>none) else none) else if x = "reversed" then none else if x = "zip" then (if jk S "zip" && tp then (match es with
   |[e,g]=>if notStar e&&notStar g then (f e).bind fun c=>(f g).map fun d=>.zip c d else none
   |_=>none) else none) else (f (.Call (.Name x p) es [] pos)).map .seq
 |e=>if gB e then (f e).map .seq else none
noncomputable def bD (sc:Scope):List Str:=(sc.names.filter fun p=>(p.2 == .local || p.2 == .cell)&&p.1 != (".0" : Str)).map (·.1)
noncomputable def bH (sc:Scope):List Str:=(sc.names.filter fun p=>p.2 == .free).map (·.1)
noncomputable def jM:List (Option Nat)->Option (List Nat)
 |[]=>some []
 |some i::r=>(jM r).map (i :: ·)
 |none::_=>none
noncomputable def j4 (S:Sc)(sc:Scope):Bool :=
 sc.kind == .function&&sc.names.all (fun p=>p.2 != .cell || cY sc p.1==some .cell)&&sc.names.all (fun p=>p.2 != .local || cY sc p.1==some .local)&&sc.names.all (fun p=>p.2 != .free || (cY sc p.1==some .free&&(cY S.sc p.1==some .cell || cY S.sc p.1==some .free))) &&
 decide (bD sc++bH sc).Nodup
noncomputable def uG (own:Nat):kz->Bool
 |.nm i=>decide (i<own)
 |.tp is=>is.all fun i=>decide (i<own)
noncomputable def Fi (x:Str):Option C8:=if x = "len" then some .len else if x = "all" then some .all else if x = "list" then some .list else if x = "min" then some .min2 else if x = "sum" then some .sum else if x = "sorted" then some .sorted else none
noncomputable def Cn (t:Str):Option String:=if t = "int" then some "int" else if t = "bool" then some "bool" else if t = "str" then some "str" else if t = "list" then some "list" else if t = "tuple" then some "tuple" else none
noncomputable def EG (S:Sc)(f:Expr->Option Ex):List Expr->Option Ex
 |[a,.Name t _]=>if nY S.sc t&&S.dS.contains t&&cK t&&notStar a then (Cn t).bind fun u=>(f a).map fun ca=>.blt (.isi u) (.cons ca .nil) else none
 |_=>none
noncomputable def m8:List Expr->Bool
 | [.Call (.Name r _) [_] [] _]=>r==("reversed" : Str)
 |_=>false
noncomputable def Gk (S:Sc)(f:Expr->Option Ex):List Expr->Option Ex
 |_=>none
noncomputable def mF:List Expr->Bool
 | [.Call (.Name r _) _ [] _]=>r==("range" : Str)
 |_=>false
noncomputable def BM (S:Sc)(f:Expr->Option Ex):List Expr->Option Ex
 | [.Call (.Name r _) es [] _]=>if r = "range" then (if jk S "range" then (match es with
  |[a]=>(cZ f [a]).map fun cs=>.blt .lrng cs
  |[a,b]=>(cZ f [a,b]).map fun cs=>.blt .lrng cs
  |_=>none) else none) else none
 |_=>none
noncomputable def mI:List Expr->Bool
 | [.Call (.Name r _) [_] [] _]=>r==("set" : Str)
 |_=>false
noncomputable def B5 (S:Sc)(f:Expr->Option Ex):List Expr->Option Ex
 | [.Call (.Name r _) [e] [] _]=>if r = "set" then (if jk S "set" && notStar e then (f e).map fun c=>.app gJ (.cons c .nil) else none) else none
 |_=>none
noncomputable def ub (S:Sc)(f:Expr->Option Ex)(x:Str)(es:List Expr):Option Ex :=
 if cK x&&nY S.sc x then (match idxOf S.fns x with
  |some i=>(cZ f es).map fun cs=>.call i cs
  |none=>if S.dS.contains x then (if x = "isinstance" then EG S f es else if x = "list"/\m8 es=true then Gk S f es else if x = "list"/\mF es=true then BM S f es else if x = "sorted"/\mI es=true then B5 S f es else match es with
    |[]=>none
    |e::r=>(Fi x).bind fun b=>(cZ f (e::r)).map fun cs=>.blt b cs) else none) else none
noncomputable def yI (S:Sc)(f:Expr->Option Ex)(x:Str)(a d:Expr)(k:Str):Option Ex :=
 none
noncomputable def Cv (f:Expr->Option Ex)(o:Expr)(name:Str)(es:List Expr)(apos cpos:Pos):Option Ex:=none
noncomputable def Gu (f:Expr->Option Ex):List Expr->Option lH
 |[]=>some .none
 |[c]=>(f c).map .some
 |_=>none
noncomputable def qm (S:Sc)(f:Sc->Expr->Option Ex)(elt tg iter:Expr)(ifs:List Expr)(sc:Scope):Option Ex :=
 if j4 S sc&&gB iter then
  (Er S (f S) (isTup tg) iter).bind fun it=>(jM ((bH sc).map (idxOf S.N))).bind fun pick =>
   (vx { S with N:=bD sc++bH sc,sc:=sc } tg).bind fun t=>if uG (bD sc).length t then
    (Gu (f { S with N:=bD sc++bH sc,sc:=sc }) ifs).bind fun c=>(f { S with N:=bD sc++bH sc,sc:=sc } elt).map fun ce=>.comp (bD sc).length pick t it c ce
   else none
 else none
noncomputable def wB (S:Sc)(x:Str):Option Ex:=if cK x then (if mh S.sc x then (idxOf S.N x).map .var else if nY S.sc x then (idxOf S.uq x).map .glb else none) else none
noncomputable def Fs:Const->Option Ex
 |.int i=>some (.cst (.int i))
 |.bool b=>some (.cst (.bl b))
 |.none=>some (.cst .non)
 |.str s=>some (.cst (.str s))
 |_=>none
noncomputable def cUn (op:UnaryOp)(o:Option Ex):Option Ex:=match op with
 |.USub=>o.map .neg
 |.Not=>o.map .not
 |_=>none
noncomputable def xB (f:Expr->Option Ex)(a:Expr)(op:CmpOp)(b:Expr):Option Ex:=if behindInMarks op b then none else (f a).bind fun ca=>(f b).map fun cb=>.cmp op ca cb
noncomputable def BL (f:Expr->Option Ex)(a:Expr)(op op':CmpOp)(b c:Expr):Option Ex:=none
noncomputable def GQ (f:Expr->Option Ex)(a:Expr):List CmpOp->List Expr->Option Ex
 |[],_=>none
 |[op],bs=>(match bs with
  |[]=>none
  |[b]=>xB f a op b
  |_::_::_=>none)
 |op::op'::ops,bs=>(match ops with
  |[]=>(match bs with
   |[]=>none
   |[_]=>none
   |b::c::r=>(match r with
    |[]=>BL f a op op' b c
    |_::_=>none))
  |_::_=>none)
noncomputable def BO (f:Expr->Option Ex)(a b:Expr):Option Ex:=match b with
 |.Slice lo hi st _=>(match st with
  |none=>(f a).bind fun ca=>(xk f lo).bind fun l=>(xk f hi).map fun h=>.sl ca l h
  |some _=>none)
 |b=>if fE b then (f a).bind fun ca=>(f b).map fun cb=>.ix ca cb else none
noncomputable def wX (S:Sc)(f:Expr->Option Ex)(x:Str)(es:List Expr):List Keyword->Option Ex
 |[]=>ub S f x es
 |[⟨k,d,_⟩]=>(match k with
  |none=>none
  |some k=>(match es with
   |[]=>none
   |[a]=>yI S f x a d k
   |_::_::_=>none))
 |_::_::_=>none
noncomputable def x4 (S:Sc)(f:Expr->Option Ex)(g:Expr)(es:List Expr)(ks:List Keyword)(cpos:Pos):Option Ex:=match g with
 |.Name x _=>wX S f x es ks
 |.Attribute o name apos=>(match ks with
  |[]=>Cv f o name es apos cpos
  |_::_=>none)
 |_=>none
noncomputable def cLC (S:Sc)(f:Sc->Expr->Option Ex)(elt:Expr)(sc:Scope):List Comprehension->Option Ex
 |[]=>none
 |[⟨tg,iter,ifs,as⟩]=>if as=0 then qm S f elt tg iter ifs sc else none
 |_::_::_=>none
noncomputable def DB:Expr->Bool
 |.List [] _=>true
 |_=>false
noncomputable def uf:Expr->Option Expr
 |.List [e] _=>(match e with
  |.Tuple es k p=>if es.any DB then some (.Tuple es k p) else none
  |_=>none)
 |_=>none
noncomputable def isAdd:Operator->Bool
 |.Add=>true
 |_=>false
noncomputable def Co (f:Expr->Option Ex)(a:Expr)(op:Operator)(b:Expr):Option Ex:=match uf b with
 |some e=>if isAdd op then (f a).bind fun ca=>(f e).map fun ce=>.snoc ca ce else none
 |none=>(f a).bind fun ca=>(f b).map fun cb=>.bin op ca cb
noncomputable def xn:Option Expr->Option Str
 | some (.Name x _)=>some x
 |_=>none
noncomputable def Ck:Expr->Option Int
 | .Constant (.int v) _ _=>some v
 |_=>none
noncomputable def vZ (S:Sc):List (Option Expr)->List Expr->Option (List (Nat×Int))
 |[],[]=>some []
 |k::ks,e::vs=>(xn k).bind fun x=>(Ck e).bind fun v=>if cK x&&nY S.sc x then (idxOf S.uq x).bind fun i=>(vZ S ks vs).map fun l=>(i,v)::l else none
 |_,_=>none
noncomputable def CC (S:Sc):List (Option Expr)->List Expr->Option Ex
 |[],[]=>some .dnew
 |k::ks,vs=>if (k::ks).length<=15 then (vZ S (k::ks) vs).map .ddsp else none
 |_,_=>none
noncomputable def cE:Nat->Sc->Expr->Option Ex
 |0,_,_=>none
 |n+1,S,e=>match e with
  |.Name x _=>wB S x
  |.Constant c _ _=>Fs c
  |.BinOp a op b _=>Co (cE n S) a op b
  |.UnaryOp op a _=>cUn op (cE n S a)
  |.BoolOp op es _=>E5 (cE n S) op es
  |.Compare a ops bs _=>GQ (cE n S) a ops bs
  |.IfExp c a b _=>(cE n S c).bind fun cc=>(cE n S a).bind fun ca=>(cE n S b).map fun cb=>.ite cc ca cb
  |.List es _=>(cZ (cE n S) es).map .lst
  |.Tuple es _ _=>(cZ (cE n S) es).map .tup
  |.Subscript a b _=>BO (cE n S) a b
  |.Call g es ks pos=>x4 S (cE n S) g es ks pos
  |.ListComp elt gens sc _=>cLC S (cE n) elt sc gens
  |.Dict ks vs _=>CC S ks vs
  |_=>none
structure Ctx (X:Cx)(S:Sc)(T:Tb):Prop where
 N:X.N=S.N
 nd:S.N.Nodup
 vis:∀ x,mh S.sc x=true->B2 X.env.scope x
 loc:∀ x,jO S.sc x=true->Loc X.env.scope x/\(X.fn x=true\/X.env.scope.names.lookup x=some .local)
 gl:∀ x,nY S.sc x=true->Gl X x
 cel:∀ x,(cY S.sc x=some .cell\/cY S.sc x=some .free)->(X.env.kindOf x=some .cell\/X.env.kindOf x=some .free)
 units:X.A.units+40<cLine/\za X.w X.K
 calm:X.calm=true
 fns:∀ i x,idxOf S.fns x=some i->∃ f fd ps k,oo X.prog X.w X.K X.mg X.base Cy k f fd ps (Cg X.K ps.length (T.cl i))/\hV k X.A/\X.mg x=some (.ref f)/\PySem.W.keepIn X.K (.ref f)=true/\Binds X.K fd ps []/\∀ ds r,T.cl i ds = .ok r->ds.length=ps.length
 uq:∀ i x,idxOf S.uq x=some i->∃ v u,X.mg x=some u/\RelV v u/\∀ H,Rep X.K H (T.gl i) v []
 dS:∀ x,S.dS.contains x=true->X.mg x=none
variable {env:Env}
theorem aU (h:notStar e=true):starEach (e::es) env=(false,eval e env)::starEach es env:=by
 cases e<;>first | rfl | (cases h)
theorem qR (h:gB e=true)(x:Value):foldedSetIterable e env x=pure x:=by
 cases e<;>first | rfl | (cases h)
theorem p6 (h:fE e=true):kJ e:=by
 intro o i;cases e<;>first | rfl | (cases h)
variable {f:Expr->Option Ex}
theorem bF (h:cZ f (e::es)=some cs):notStar e=true/\∃ c d,f e=some c/\cZ f es=some d/\cs = .cons c d:=by
 unfold cZ at h;by_cases hs:notStar e=true
 .rw[if_pos hs] at h;rw[ae] at h;obtain⟨c,h1,h2⟩:=h;rw[aa] at h2;obtain⟨d,h2,rfl⟩:=h2;exact⟨hs,c,d,h1,h2,rfl⟩
 .rw[if_neg hs] at h;cases h
theorem dQ:∀{es:List Expr}{cs:kL},cZ f es=some cs->(backTo pos (starEach es env)).any (·.1)=false
 |[],cs,_=>rfl
 | e::es,cs,h=>by
  obtain⟨hs,c,d,_,h2,_⟩:=bF h;rw[aU hs];show (false || (backTo pos (starEach es env)).any (·.1))=false;rw[dQ h2];rfl
variable {x:Str}
theorem cJ (h:cK x=true):(x==("__debug__" : Str))=false/\(x==("__classdict__" : Str))=false/\x≠"__name__":=by
 unfold cK at h;rw[ag,ag] at h;obtain⟨⟨h1,h2⟩,h3⟩:=h;refine⟨by simpa using h1,by simpa using h2,fun e=>?_⟩;subst e;simp at h3
variable {T:Tb}{b:Expr}{ca:Ex}
theorem Cs {c a:Expr}{cc cb:Ex}(hc:PT X c (nS X.K T cc))(ha:PT X a (nS X.K T ca))(hb:PT X b (nS X.K T cb)):PT X (.IfExp c a b pos) (nS X.K T (.ite cc ca cb)):=by
 intro pins s σ H Q I h;obtain⟨P,env,F,re,p,bb,hev,ht,k⟩:=h;unfold ev at hev;obtain⟨q,h1,hev⟩:=Rs.bind_ok hev;obtain⟨kb,h2,hev⟩:=Rs.bind_ok hev;refine isTrue_IfExp (cH (hc pins s σ H (fun d H'=>d=kb/\aI H H') I ⟨P,env,F,re,q,kb,h1,cF h2,fun H' s=>⟨rfl,s⟩⟩) fun d s1 ⟨H1,I1,e,s⟩=>?_);subst e;cases d with
 |true=>exact ha pins s1 σ H1 Q I1 ⟨P,env,F,re.same s,p,bb,hev,ht,fun H' s'=>k H' (s.trans s')⟩
 |false=>exact hb pins s1 σ H1 Q I1 ⟨P,env,F,re.same s,p,bb,hev,ht,fun H' s'=>k H' (s.trans s')⟩
theorem yk {a:Ex}{env:En}{p}(hev:dM T (.rng1 a) env = .ok p):p.2=[]/\∃ l,bC T (.cons a .nil) env = .ok l/\((∃ j,l.map (·.1)=[.int j]/\fJ j=true/\p.1=bK 0 1 j.toNat)\/(∃ i j,l.map (·.1)=[.int i,.int j]/\fJ i=true/\fJ j=true/\p.1=bK i 1 (j - i).toNat) \/
   ∃ i j k,l.map (·.1)=[.int i,.int j,.int k]/\fJ i=true/\fJ j=true/\k≠0/\k.natAbs<1073741824/\p.1=bK i k (Builtin.Range.rangeSize i j k).toNat):=by
 unfold dM at hev;obtain⟨q,h1,hev⟩:=Rs.bind_ok hev;split at hev
 .rename_i j hj;split at hev
  .rename_i ho;cases hev;exact⟨rfl,[q],by unfold bC;rw[h1];unfold bC;rfl,.inl ⟨j,by simp[hj],ho,rfl⟩⟩
  .cases hev
 .cases hev
theorem v8 {a b:Ex}{env:En}{p}(hev:dM T (.rng2 a b) env = .ok p):p.2=[]/\∃ l,bC T (.cons a (.cons b .nil)) env = .ok l/\((∃ j,l.map (·.1)=[.int j]/\fJ j=true/\p.1=bK 0 1 j.toNat)\/(∃ i j,l.map (·.1)=[.int i,.int j]/\fJ i=true/\fJ j=true/\p.1=bK i 1 (j - i).toNat) \/
   ∃ i j k,l.map (·.1)=[.int i,.int j,.int k]/\fJ i=true/\fJ j=true/\k≠0/\k.natAbs<1073741824/\p.1=bK i k (Builtin.Range.rangeSize i j k).toNat):=by
 unfold dM at hev;obtain⟨q,h1,hev⟩:=Rs.bind_ok hev;obtain⟨r,h2,hev⟩:=Rs.bind_ok hev;split at hev
 .rename_i i j hi hj;split at hev
  .rename_i ho;cases hev;rw[ag] at ho;exact⟨rfl,[q,r],by unfold bC;rw[h1];unfold bC;rw[h2];unfold bC;rfl,.inr (.inl ⟨i,j,by simp[hi,hj],ho.1,ho.2,rfl⟩)⟩
  .cases hev
 .cases hev
theorem y3 {a b:Ex}{env:En}{p}(hev:dM T (.rng3 a b c) env = .ok p):p.2=[]/\∃ l,bC T (.cons a (.cons b (.cons c .nil))) env = .ok l/\((∃ j,l.map (·.1)=[.int j]/\fJ j=true/\p.1=bK 0 1 j.toNat)\/(∃ i j,l.map (·.1)=[.int i,.int j]/\fJ i=true/\fJ j=true/\p.1=bK i 1 (j - i).toNat) \/
   ∃ i j k,l.map (·.1)=[.int i,.int j,.int k]/\fJ i=true/\fJ j=true/\k≠0/\k.natAbs<1073741824/\p.1=bK i k (Builtin.Range.rangeSize i j k).toNat):=by
 unfold dM at hev;obtain⟨q,h1,hev⟩:=Rs.bind_ok hev;obtain⟨r,h2,hev⟩:=Rs.bind_ok hev;obtain⟨t,h3,hev⟩:=Rs.bind_ok hev;split at hev
 .rename_i i j k hi hj hk;split at hev
  .rename_i ho;cases hev;simp only[Bool.and_eq_true,bne_iff_ne,decide_eq_true_eq] at ho;exact⟨rfl,[q,r,t],by unfold bC;rw[h1];unfold bC;rw[h2];unfold bC;rw[h3];unfold bC;rfl,.inr (.inr ⟨i,j,k,by simp[hi,hj,hk],ho.1.1.1,ho.1.1.2,ho.1.2,ho.2,rfl⟩)⟩
  .cases hev
 .cases hev
def SE (X:Cx)(T:Tb)(e:Expr)(c:Ex):Prop:=PE X e (tE X.K T c)/\PT X e (nS X.K T c)
variable {t:kz}{tg:Expr}
section
variable {X:Cx}{S:Sc}{T:Tb}
theorem dI (hf:∀ e c,f e=some c->SE X T e c):∀{es:List Expr}{cs:kL},cZ f es=some cs->PA X es (uo X.K T cs)
 |[],cs,h=>by cases h;exact n5
 | e::es,cs,h=>by
  obtain⟨hs,c,d,h1,h2,rfl⟩:=bF h;exact jv (hf e c h1).1 (dI hf h2) (aU hs)
theorem Bw {op:BoolOp}{pos:Pos}(hf:∀ e c,f e=some c->SE X T e c):∀{es:List Expr}{c:Ex},E5 f op es=some c->PE X (.BoolOp op es pos) (tE X.K T c)/\PW X (.BoolOp op es pos) (nS X.K T c)
 |[],c,h=>by cases h
 | [a],c,h=>by
  have h:f a=some c:=h;have ⟨h1,h2⟩:=hf a c h;refine⟨C9 h1,?_⟩;cases op with
  |And=>exact Br h2
  |Or=>exact DZ h2
 | a::b::r,c,h=>by
  unfold E5 at h;rw[ae] at h;obtain⟨ca,h1,h2⟩:=h;rw[aa] at h2;obtain⟨cb,h2,h3⟩:=h2;subst h3;have ⟨ia,ta⟩:=hf a ca h1;have ⟨ib,tb⟩:=Bw (pos:=pos) hf h2;cases op with
  |And=>exact⟨De ia ib,Dr ta tb⟩
  |Or=>exact⟨FL ia ib,EY ta tb⟩
theorem pJ (C:Ctx X S T):∀{es:List Expr}{is:List Nat},kX S es=some is->F6 X es (fW is)/\(assignEach es X.env).length=is.length/\(assignEach es X.env).findIdx? (·.1)=none:=by
 intro es
 induction es with
 |nil=>intro is h;cases h;exact⟨zh,rfl,rfl⟩
 |cons e es ih =>
  intro is h;cases e with
  |Name x p =>
   unfold kX at h;by_cases hl:jO S.sc x=true
   .rw[if_pos hl,ae] at h;obtain⟨i,h1,h2⟩:=h;rw[aa] at h2;obtain⟨js,h2,rfl⟩:=h2;obtain⟨a,b,c⟩:=ih h2;have hN:=C.nd;rw[<-C.N] at hN;have hi:=bU h1;rw[<-C.N] at hi;refine⟨xG (ur hN hi (C.loc x hl).1 (C.loc x hl).2) a,?_,?_⟩
    .show (assignEach es X.env).length+1=js.length+1;rw[b]
    .show List.findIdx? (·.1) ((false,_)::assignEach es X.env)=none;rw[List.findIdx?_cons];simp[c]
   .rw[if_neg hl] at h;cases h
  |_=>cases h
theorem vH (C:Ctx X S T)(h:vx S e=some t):PG X e (rf X.K t):=by
 cases e with
 |Name x p =>
  unfold vx at h;dsimp only at h;by_cases hl:jO S.sc x=true
  .rw[if_pos hl,aa] at h;obtain⟨i,h1,rfl⟩:=h;have hN:=C.nd;rw[<-C.N] at hN;have hi:=bU h1;rw[<-C.N] at hi;exact ur hN hi (C.loc x hl).1 (C.loc x hl).2
  .rw[if_neg hl] at h;cases h
 |Tuple es a b =>
  unfold vx at h;rw[aa] at h;obtain⟨is,h1,rfl⟩:=h;obtain⟨a,b,c⟩:=pJ C h1;exact xq C.calm a b c
 |_=>cases h
theorem BU (C:Ctx X S T)(hf:∀ e c,f e=some c->SE X T e c){it:qM}(h:Er S f (isTup tg) e=some it):PI X tg e (tI X.K T it):=by
 unfold Er at h;split at h
 .rename_i x p es pos;by_cases hx:x = "range"
  .subst hx;rw[if_pos rfl] at h;by_cases hg:jk S "range" = true
   .rw[if_pos hg] at h;have hg2:nY S.sc "range" = true/\S.dS.contains "range" = true:=by
     unfold jk at hg
     rwa [ag] at hg
    cases hc:cZ f es with
    |none=>rw[hc] at h;cases h
    |some cs =>
     rw[hc] at h;cases es with
     |nil=>cases hc;cases h
     |cons e0 rest =>
      obtain⟨hs,c0,d0,_,hd,rfl⟩:=bF hc;refine DF rfl (C.gl _ hg2.1) (C.dS _ hg2.2) (dI hf hc) (aU hs) (dQ hd) ?_;intro env p hev;cases d0 with
      |nil =>
       cases h;exact yk hev
      |cons c1 d1 =>
       cases d1 with
       |nil =>
        cases h;exact v8 hev
       |cons c2 d2 =>
        cases d2 with
        |nil =>
         cases h;exact y3 hev
        |cons c3 d3=>cases h
   .rw[if_neg hg] at h;cases h
  rw[if_neg hx] at h;by_cases hx:x = "enumerate"
  .subst hx;rw[if_pos rfl] at h;by_cases hg:(jk S "enumerate" && isTup tg)=true
   .rw[if_pos hg] at h;rw[ag] at hg;have hg2:nY S.sc "enumerate" = true/\S.dS.contains "enumerate" = true:=by
     have:=hg.1;unfold jk at this
     rwa [ag] at this
    cases tg with
    |Tuple elts x1 tp =>
     split at h
     .rename_i e0;by_cases hs:notStar e0=true
      .rw[if_pos hs,aa] at h;obtain⟨c,h1,rfl⟩:=h;exact A6 (C.gl _ hg2.1) (C.dS _ hg2.2) (jv (hf _ _ h1).1 n5 (aU hs)) (aU hs)
      .rw[if_neg hs] at h;cases h
     .cases h
    |_=>cases hg.2
   .rw[if_neg hg] at h;cases h
  rw[if_neg hx] at h;by_cases hx:x = "reversed"
  .subst hx;rw[if_pos rfl] at h;cases h
  rw[if_neg hx] at h;by_cases hx:x = "zip"
  .subst hx;rw[if_pos rfl] at h;by_cases hg:(jk S "zip" && isTup tg)=true
   .rw[if_pos hg] at h;rw[ag] at hg;have hg2:nY S.sc "zip" = true/\S.dS.contains "zip" = true:=by
     have:=hg.1;unfold jk at this
     rwa [ag] at this
    cases tg with
    |Tuple elts x1 tp =>
     split at h
     .rename_i e0 e1;by_cases hs:(notStar e0&&notStar e1)=true
      .rw[if_pos hs,ae] at h;obtain⟨c,h1,h⟩:=h;rw[aa] at h;obtain⟨d,h2,rfl⟩:=h;rw[ag] at hs;exact El (C.gl _ hg2.1) (C.dS _ hg2.2) (jv (hf _ _ h1).1 (jv (hf _ _ h2).1 n5 (aU hs.2)) (aU hs.1)) (aU hs.1) (by rw[aU hs.2];rfl)
      .rw[if_neg hs] at h;cases h
     .cases h
    |_=>cases hg.2
   .rw[if_neg hg] at h;cases h
  .rw[if_neg hx,aa] at h;obtain⟨c,h1,rfl⟩:=h;exact yf (hf _ _ h1).1
 .by_cases hn:gB e=true
  .rw[if_pos hn,aa] at h;obtain⟨c,h1,rfl⟩:=h;exact yf (hf _ _ h1).1
  .rw[if_neg hn] at h;cases h
end
theorem fV:∀{names:List (Str×NameKind)}{x:Str}{k:NameKind},names.lookup x=some k->k≠.free ->
  (names.map fun (n,k)=>if (k==NameKind.free&&env.scope.kind == .function&&env.kindOf n==some .cell) then (n,NameKind.cell) else (n,k)).lookup x=some k
 |[],_,_,h,_=>by simp at h
 | (n,k0)::r,x,k,h,hk=>by
  rw[ao];by_cases hc:(k0==NameKind.free&&env.scope.kind == .function&&env.kindOf n==some .cell)=true
  .simp only[hc,if_true,List.lookup_cons] at h ⊢;cases hx:x==n with
   |true =>
    rw[hx] at h;cases h;rw[ag,ag] at hc;exact absurd (by simpa using hc.1.1) hk
   |false=>rw[hx] at h;exact fV h hk
  .have hc:(k0==NameKind.free&&env.scope.kind == .function&&env.kindOf n==some .cell)=false:=by simpa using hc
   simp only[hc,Bool.false_eq_true,if_false,List.lookup_cons] at h ⊢;cases hx:x==n with
   |true=>rw[hx] at h;exact h
   |false=>rw[hx] at h;exact fV h hk
theorem ki:∀{l:List (Option Nat)}{p:List Nat},jM l=some p->l=p.map some
 |[],p,h=>by cases h;rfl
 | some i::r,p,h=>by
  simp only[jM,Option.map_eq_some_iff] at h;obtain⟨q,h1,rfl⟩:=h;rw[ki h1];rfl
 |none::r,p,h=>by cases h
theorem lN {S:Sc}{sc:Scope}(h:j4 S sc=true):sc.kind = .function/\(∀ y∈sc.names,y.2 = .cell->sc.names.lookup y.1=some .cell)/\(∀ y∈sc.names,y.2 = .local->sc.names.lookup y.1=some .local) /\
  (∀ y∈sc.names,y.2 = .free->sc.names.lookup y.1=some .free/\(cY S.sc y.1=some .cell\/cY S.sc y.1=some .free))/\(bD sc++bH sc).Nodup:=by
 unfold j4 at h;simp only[Bool.and_eq_true,List.all_eq_true,Bool.or_eq_true,beq_iff_eq,bne_iff_ne,decide_eq_true_eq,cY] at h;obtain⟨⟨⟨⟨h1,h2⟩,h3⟩,h4⟩,h5⟩:=h;refine⟨h1,fun y hy e=>?_,fun y hy e=>?_,fun y hy e=>?_,h5⟩
 .rcases h2 y hy with h | h
  .exact absurd e h
  .exact h
 .rcases h3 y hy with h | h
  .exact absurd e h
  .exact h
 .rcases h4 y hy with h | h
  .exact absurd e h
  .exact h
section
variable {X:Cx}{S:Sc}{T:Tb}{sc:Scope}{pick:List Nat}
theorem rS (C:Ctx X S T)(h:j4 S sc=true)(hp:jM ((bH sc).map (idxOf S.N))=some pick):dR X sc (bD sc++bH sc) (dW (bD sc).length pick):=by
 obtain⟨h1,h2,h3,h4,h5⟩:=lN h;have hp:=ki hp;have hlen:(bH sc).length=pick.length:=by simpa using congrArg List.length hp
 refine⟨h1,h2,h3,by simp[dW,hlen],fun x hx=>C.cel x (h4 _ (PySem.mem_of_lookup hx) rfl).2,fun x hx=>(h4 _ hx rfl).1,fun i j x hi hx=>?_⟩;unfold dW at hi;by_cases hlt:i<(bD sc).length
 .rw[List.getElem?_append_left (by simpa using hlt),List.getElem?_replicate] at hi;split at hi<;>cases hi
 .have hle:=iz hlt;rw[List.getElem?_append_right (by simpa using hle),List.length_replicate,<-hp,List.getElem?_map] at hi;rw[List.getElem?_append_right hle] at hx;rw[hx] at hi;simp only[Option.map_some,Option.some.injEq] at hi;have hm:=List.mem_of_getElem? hx;unfold bH at hm;rw[List.mem_map] at hm;obtain⟨p,hp1,rfl⟩:=hm;rw[jc] at hp1;have hf:p.2 = .free:=by simpa using hp1.2
  refine⟨(h4 p hp1.1 hf).1,?_⟩;rw[C.N];exact bU hi
theorem uR (C:Ctx X S T)(h:j4 S sc=true)(Ca:Addr)(s0:Shared)(H0:Hp)(ex:List Addr):Ctx (inner X sc (bD sc++bH sc) Ca s0 H0 ex) { S with N:=bD sc++bH sc,sc:=sc } T:=by
 obtain⟨h1,h2,h3,h4,h5⟩:=lN h;have keep:∀ x k,sc.names.lookup x=some k->k≠.free->(relabel sc X.env).names.lookup x=some k:=fun x k e hk=>fV e hk
 refine⟨rfl,h5,fun x hx=>?_,fun x hx=>?_,fun x hx=>?_,fun x hx=>?_,C.units,C.calm,C.fns,C.uq,C.dS⟩
 .unfold mh cY at hx;dsimp only at hx;split at hx
  .rename_i e;exact .inl (keep _ _ e (by simp))
  .rename_i e;exact .inr (.inl (keep _ _ e (by simp)))
  .rename_i e;exact .inr (eP e)
  .cases hx
 .unfold jO cY at hx;dsimp only at hx;split at hx
  .rename_i e;exact⟨.inl (keep _ _ e (by simp)),.inr (keep _ _ e (by simp))⟩
  .rename_i e;exact⟨.inr (keep _ _ e (by simp)),.inl (by show (sc.names.lookup x==some NameKind.cell)=true;rw[e];rfl)⟩
  .cases hx
 .unfold nY cY at hx;dsimp only at hx;split at hx
  .rename_i e;exact keep _ _ e (by simp)
  .cases hx
 .unfold cY at hx;rcases hx with hx | hx
  .exact .inl (keep _ _ hx (by simp))
  .exact eP hx
end
theorem wO (n d:Nat)(o:Option Int):bV n d o=HT.bV n d o:=by cases o<;>rfl
theorem AB (n d:Nat)(hd:d<=n)(o:Option Int):bV n d o<=n\/∃ i,o=some i/\i<0/\(n:Int)<i+n:=by
 cases o with
 |none=>exact .inl hd
 |some i =>
  left;simp only[bV];split<;>omega
theorem n4 {n d:Nat}(hd:d<=n)(o:Option Int):bV n d o<=n:=by
 rcases AB n d hd o with h | ⟨i,_,h1,h2⟩
 .exact h
 .omega
theorem C7 (lo hi:Option Int)(n:Nat):Builtin.Str.strSliceIndices lo hi 1 n=(List.range (bV n n hi - bV n 0 lo)).map (bV n 0 lo + ·):=by
 unfold Builtin.Str.strSliceIndices;have h1:∀(o:Option Int) (d:Nat),d<=n->(match o with | none=>(d:Int) | some i=>if (1:Int) > 0 then max 0 (min (if i<0 then i+(n:Int) else i) n) else max (-1) (min (if i<0 then i+(n:Int) else i) (n - 1)))=((bV n d o:Nat):Int):=by
  intro o d hd;cases o with
  |none=>rfl
  |some i =>
   simp only[bV];rw[if_pos (by decide)];by_cases hi:i<0
   .rw[if_pos hi,if_pos hi];omega
   .rw[if_neg hi,if_neg hi];omega
 have e1:=h1 lo 0 (dg _);have e2:=h1 hi n (au _);dsimp only;rw[if_pos (by decide),if_pos (by decide)];refine Eq.trans ?_ (sliceRange_one (bV n 0 lo) (bV n n hi));have gen:∀ a b a' b':Int,a=a'->b=b'->sliceRange a b 1=sliceRange a' b' 1:=fun a b a' b' h h'=>by rw[h,h']
 exact gen _ _ _ _ e1 e2
theorem Dh:B1 X (fun x lo hi H Q=>∃ z,x = .str z/\z.length<=lim/\Q (.str ⟨(cut z.cps.toList lo hi).toArray⟩) H):=by
 intro pins s σ H x v vl vu lo hi sl Q I rx hs pl pu h;obtain⟨z,rfl,hzl,q⟩:=h;obtain⟨t,rfl⟩:=rx;have part:∀{v:Value}{o:Option Int},IsPart v o->∃ l:Option (Int×Tok),partValue l=v/\l.map (·.1)=o:=fun h=>by
  cases h with
  |none=>exact⟨none,rfl,rfl⟩
  |int i t=>exact⟨some (i,t),rfl,rfl⟩
 obtain⟨l,rfl,rfl⟩:=part pl;obtain⟨u,rfl,rfl⟩:=part pu;refine⟨"str",_,PySem.F.slot_str_getitem.lookup,typeIs_str s z t,wpAny_getItem_str_slice (l:=l) (u:=u) (st:=none) hs rfl ?_⟩;have hp:slicePicked z l u none=(List.range (bV z.length z.length (u.map (·.1)) - bV z.length 0 (l.map (·.1)))).map (bV z.length 0 (l.map (·.1)) + ·):=C7 _ _ _;have hc:(slicePicked z l u none).filterMap (z.cps[·]?)=cut z.cps.toList (l.map (·.1)) (u.map (·.1)):=by
  rw[hp,pick_run];rfl
 unfold sliceMade;split
 .rename_i hw;have hl:(slicePicked z l u none).length=z.length:=by
   have:=(ag _ _ ▸ hw).2;simpa using this
  rw[hp,ab,gq] at hl;have hz:(⟨(cut z.cps.toList (l.map (·.1)) (u.map (·.1))).toArray⟩:Str)=z:=by
   have a1:=n4 (n:=z.length) (dg _) (l.map (·.1));have a2:=n4 (n:=z.length) (au _) (u.map (·.1));have:cut z.cps.toList (l.map (·.1)) (u.map (·.1))=z.cps.toList:=by
    have hlen:z.cps.toList.length=z.length:=rfl;unfold cut;rw[hlen];dsimp only;by_cases h0:z.length=0
    .have:z.cps.toList=[]:=ie (hlen.trans h0);rw[this];simp
    .rw[show bV z.length 0 (l.map (·.1))=0 by omega,show bV z.length z.length (u.map (·.1))=z.length by omega,List.drop_zero,Nat.sub_zero];exact List.take_of_length_le (i7 hlen)
   rw[this]
  rw[hz] at q;exact⟨.str z,H,I,⟨t,rfl⟩,q⟩
 .rw[hc];refine⟨?_,.str _,H,I.tok _,⟨_,rfl⟩,q⟩;show (cut z.cps.toList (l.map (·.1)) (u.map (·.1))).toArray.size<=sizeLine;rw[aj];refine br ?_ (fF hzl);unfold cut;rw[f7,i5];exact br (Nat.min_le_right _ _) (Nat.sub_le _ _)
section
variable {X:Cx}{T:Tb}{a:Expr}{ca:Ex}{lo hi:Option Expr}{cl ch:lH}{pos p2:Pos}
noncomputable def tO (K:Frag)(T:Tb)(c:lH):TO:=fun σ H Q=>∃ P env F,RE K P env σ H F/\∃ o,iS T c env = .ok o/\∀ H',aI H H'->Q o H'
theorem yT {X:Cx}{e:Option Expr}{t t':TO}(h:PO X e t)(k:∀ σ H Q,t' σ H Q->t σ H Q):PO X e t':=fun pins s σ H Q I q=>h pins s σ H Q I (k σ H Q q)
theorem zx:PO X none (tO X.K T .none):=yT A8 fun σ H Q ⟨P,env,F,re,o,h,k⟩=>by
 unfold iS at h;cases h;exact k H (aI.refl _)
theorem zm (h:PE X a (tE X.K T ca)):PO X (some a) (tO X.K T (.some ca)):=yT (zX h) fun σ H Q ⟨P,env,F,re,o,h,k⟩=>by
 unfold iS at h;obtain⟨p,h1,h2⟩:=Rs.bind_ok h;refine⟨P,env,F,re,p,h1,fun v H' G s rp rt=>?_⟩;split at h2
 .rename_i i hi;cases h2;rw[hi] at rp;obtain⟨rfl,rfl⟩:=rp.int_inv;exact⟨i,rfl,k H' s⟩
 .cases h2
theorem GR (ha:PE X a (tE X.K T ca))(hl:PO X lo (tO X.K T cl))(hh:PO X hi (tO X.K T ch)):PE X (.Subscript a (.Slice lo hi none p2) pos) (tE X.K T (.sl ca cl ch)):=by
 refine bG (xJ (Bn.or Dh) ha hl hh) fun σ H Q ⟨P,env,F,re,p,hev,k⟩=>?_
 unfold ev at hev;obtain⟨q,h1,hev⟩:=Rs.bind_ok hev;obtain⟨ol,h2,hev⟩:=Rs.bind_ok hev;obtain⟨oh,h3,hev⟩:=Rs.bind_ok hev;obtain⟨d,h4,hev⟩:=Rs.bind_ok hev;have h4:=cF h4;cases hev;refine⟨P,env,F,re,q,h1,fun v H1 G s rp rt=>⟨P,env,F,re.same s,ol,h2,fun H2 s2=>⟨P,env,F,re.same (s.trans s2),oh,h3,fun H3 s3=>?_⟩⟩⟩;have s23:=s2.trans s3;cases hq:q.1 with
 |lst xs =>
  rw[hq] at rp h4;cases h4;obtain⟨pa,vs,G',rfl,rfl,hr,rs⟩:=Rep.lst_inv (rp.same s23);refine .inl ⟨pa,vs,rfl,.inl hr,fun pn hn=>?_⟩;obtain⟨G1,r1,u1⟩:=rs.drop (bV xs.length 0 ol);obtain⟨G2,r2,u2⟩:=r1.take (bV xs.length xs.length oh - bV xs.length 0 ol);have hc:pb vs ol oh=(vs.drop (bV xs.length 0 ol)).take (bV xs.length xs.length oh - bV xs.length 0 ol):=by
   unfold pb;rw[rs.len,wO,wO]
  rw[hc];have sub:∀ a∈G2,a∈pa::G':=fun a ha=>ah _ (u1.mem (u2.mem ha))
  obtain⟨rp',nv⟩:=eV (G0:=pa::G') r2 sub hn;have ar:Args X.K env F H H3 [q] [.ref pa] ((pa::G') ++ []):=.cons s (by rw[hq];exact rp) rt (.nil s23);rw[aw] at ar;exact k _ _ _ ((s.trans s23).trans nv.same) rp' (bP.new ar nv (by simp[aP]))
 |str z =>
  rw[hq] at rp h4;obtain⟨rfl,rfl⟩:=rp.str_inv;have h4:(if z.length<=lim then some (D.str ⟨(cut z.cps.toList ol oh).toArray⟩) else none)=some d:=h4;by_cases hz:z.length<=lim
  .rw[if_pos hz] at h4;cases h4;exact .inr ⟨z,rfl,hz,k _ H3 [] (s.trans s23) (.str _) bP.nil⟩
  .rw[if_neg hz] at h4;cases h4
 |_=>rw[hq] at h4;cases h4
end
variable {K:Frag}{elt iter o:Expr}{id:String}{ifs r:List Expr}{l:List (Nat×Int)}{name:Str}
section
variable {X:Cx}{S:Sc}{T:Tb}
theorem vR (hf:∀ e c,f e=some c->SE X T e c){o:Option Expr}{c:lH}(h:xk f o=some c):PO X o (tO X.K T c):=by
 cases o with
 |none=>cases h;exact zx
 |some e =>
  have h:(f e).map lH.some=some c:=h;rw[aa] at h;obtain⟨d,h1,rfl⟩:=h;exact zm (hf e d h1).1
theorem yL {x:String}{b:C8}(hf:∀ e c,f e=some c->SE X T e c)(hr:eR X (.builtin id) (nU X.K b))(hv:bootBuiltins x=some (.builtin id))(hg:Gl X x)(hm:X.mg x=none)(hn:cK x=true)(ha:cZ f (e::r)=some cs) :
  PE X (.Call (.Name x p) (e::r) [] pos) (tE X.K T (.blt b cs)):=by
 obtain⟨hs,_,_,_,h2,_⟩:=bF ha;obtain⟨n1,n2,n3⟩:=cJ hn;exact bG (pM hr hg hm hv (dI hf ha) n3 n1 (aU hs) (dQ h2)) fun σ H Q h=>pE h
theorem bltT {x:String}{b:C8}(hf:∀ e c,f e=some c->SE X T e c)(hr:eR X (.type id) (nU X.K b))(hv:bootBuiltins x=some (.type id))(hg:Gl X x)(hm:X.mg x=none)(hn:cK x=true)(ha:cZ f (e::r)=some cs) :
  PE X (.Call (.Name x p) (e::r) [] pos) (tE X.K T (.blt b cs)):=by
 obtain⟨hs,_,_,_,h2,_⟩:=bF ha;obtain⟨n1,n2,n3⟩:=cJ hn;exact bG (uU hr hg hm hv (dI hf ha) n3 n1 (aU hs) (dQ h2)) fun σ H Q h=>pE h
theorem xK {t:Str}{u:String}(h:Cn t=some u):u∈iE/\bootBuiltins t=some (.type u):=by
 unfold Cn at h;split at h
 .rename_i e;cases h;subst e;exact⟨by decide,boot_int⟩
 split at h
 .rename_i e;cases h;subst e;exact⟨by decide,boot_bool⟩
 split at h
 .rename_i e;cases h;subst e;exact⟨by decide,boot_str⟩
 split at h
 .rename_i e;cases h;subst e;exact⟨by decide,boot_list⟩
 split at h
 .rename_i e;cases h;subst e;exact⟨by decide,boot_tuple⟩
 cases h
theorem AV (C:Ctx X S T)(hf:∀ e c,f e=some c->SE X T e c){p pos:Pos}(h:ub S f x es=some c):PE X (.Call (.Name x p) es [] pos) (tE X.K T c):=by
 unfold ub at h;by_cases hk:(cK x&&nY S.sc x)=true
 .rw[if_pos hk] at h;rw[ag] at hk;obtain⟨hn,hg⟩:=hk;have hg:=C.gl x hg;obtain⟨n1,n2,n3⟩:=cJ hn;cases hi:idxOf S.fns x with
  |some i =>
   rw[hi] at h;dsimp only at h;rw[aa] at h;obtain⟨cs,h1,rfl⟩:=h;obtain⟨fa,fd,ps,k,FO,hr,hm,hkp,hb,hl⟩:=C.fns i x hi;cases es with
   |nil =>
    cases h1;refine bG (xR FO hr hg hm hkp hb .nil BB n1) fun σ H Q h=>?_
    have:=nD hl h;obtain⟨P,env,F,re,l,hev,k⟩:=this;unfold bC at hev;cases hev;exact k [] H [] (.nil (aI.refl _))
   |cons e r =>
    obtain⟨hs,_,_,_,h2,_⟩:=bF h1;exact bG (Bj FO hr hg hm hkp hb .nil BB (dI hf h1) n1 (aU hs) (dQ h2)) fun σ H Q h=>nD hl h
  |none =>
   rw[hi] at h;dsimp only at h;by_cases hb:S.dS.contains x=true
   .rw[if_pos hb] at h;have hm:=C.dS x hb;by_cases hx:x = "isinstance"
    .rw[if_pos hx] at h;subst hx;unfold EG at h;split at h
     .rename_i a t pt;by_cases hc:(nY S.sc t&&S.dS.contains t&&cK t&&notStar a)=true
      .rw[if_pos hc] at h;simp only[Bool.and_eq_true] at hc;obtain⟨⟨⟨c1,c2⟩,c3⟩,c4⟩:=hc;rw[ae] at h;obtain⟨u,h1,h2⟩:=h;rw[aa] at h2;obtain⟨ca,h2,rfl⟩:=h2;obtain⟨hu,hbt⟩:=xK h1;obtain⟨m1,m2,m3⟩:=cJ c3;refine bG (pM uP hg hm boot_isinstance (kF (hf a ca h2).1 (kF (A2 (v:=.ty u) (C.gl t c1) (C.dS t c2) hbt rfl m3 m1) rY rfl) (aU c4)) n3 n1 (aU c4) rfl) fun σ H Q h=>yi hu h
      .rw[if_neg hc] at h;cases h
     .cases h
    .rw[if_neg hx] at h;by_cases hlr:x = "list"/\m8 es=true
     .rw[if_pos hlr] at h;obtain⟨rfl,_⟩:=hlr;cases h
     rw[if_neg hlr] at h;by_cases hlg:x = "list"/\mF es=true
     .rw[if_pos hlg] at h;obtain⟨rfl,_⟩:=hlg;unfold BM at h;split at h
      .rename_i r pr es' pp zz;by_cases hrr:r = "range"
       .rw[if_pos hrr] at h;subst hrr;by_cases hgr:jk S "range" = true
        .rw[if_pos hgr] at h;have hg2:nY S.sc "range" = true/\S.dS.contains "range" = true:=by
          have:=hgr;unfold jk at this
          rwa [ag] at this
         split at h
         .rename_i a;rw[aa] at h;obtain⟨cs,ha,rfl⟩:=h;obtain⟨n1,c1,d1,_,hd,_⟩:=bF ha;exact tR C.calm hg hm (C.gl _ hg2.1) (C.dS _ hg2.2) (dI hf ha) ⟨_,_,rfl,aU n1,rfl⟩
         .rename_i a b;rw[aa] at h;obtain⟨cs,ha,rfl⟩:=h;obtain⟨n1,c1,d1,_,hd,_⟩:=bF ha;obtain⟨n2,_,_,_,_,_⟩:=bF hd;exact tR C.calm hg hm (C.gl _ hg2.1) (C.dS _ hg2.2) (dI hf ha) ⟨_,_,rfl,aU n1,by rw[aU n2];rfl⟩
         .cases h
        .rw[if_neg hgr] at h;cases h
       .rw[if_neg hrr] at h;cases h
      .cases h
     rw[if_neg hlg] at h;by_cases hst:x = "sorted"/\mI es=true
     .rw[if_pos hst] at h;obtain⟨rfl,_⟩:=hst;unfold B5 at h;split at h
      .rename_i r pr e0 pp zz;by_cases hrr:r = "set"
       .rw[if_pos hrr] at h;subst hrr;by_cases hgr:(jk S "set" && notStar e0)=true
        .rw[if_pos hgr,aa] at h;obtain⟨c0,h1,rfl⟩:=h;rw[ag] at hgr;have hg2:nY S.sc "set" = true/\S.dS.contains "set" = true:=by
          have:=hgr.1;unfold jk at this
          rwa [ag] at this
         exact zR C.calm hg hm (C.gl _ hg2.1) (C.dS _ hg2.2) (jv (hf _ _ h1).1 n5 (aU hgr.2)) (aU hgr.2)
        .rw[if_neg hgr] at h;cases h
       .rw[if_neg hrr] at h;cases h
      .cases h
     rw[if_neg hst] at h;cases es with
     |nil=>cases h
     |cons e r =>
      dsimp only at h;rw[ae] at h;obtain⟨b,h1,h2⟩:=h;rw[aa] at h2;obtain⟨cs,h2,rfl⟩:=h2;unfold Fi at h1;split at h1
      .rename_i e;cases h1;subst e;exact yL hf ve boot_len hg hm hn h2
      split at h1
      .rename_i e;cases h1;subst e;exact yL hf (uS C.calm) boot_all hg hm hn h2
      split at h1
      .rename_i e;cases h1;subst e;exact bltT hf (qQ C.calm) boot_list hg hm hn h2
      split at h1
      .rename_i e;cases h1;subst e;exact yL hf (rj C.calm C.units.1) boot_min hg hm hn h2
      split at h1
      .rename_i e;cases h1;subst e;exact yL hf (vk C.calm) boot_sum hg hm hn h2
      split at h1
      .rename_i e;cases h1;subst e;exact yL hf oW boot_sorted hg hm hn h2
      cases h1
   .rw[if_neg hb] at h;cases h
 .rw[if_neg hk] at h;cases h
theorem Ci (hf:∀ e c,f e=some c->SE X T e c){apos cpos:Pos}(h:Cv f o name es apos cpos=some c):PE X (.Call (.Attribute o name apos) es [] cpos) (tE X.K T c):=by
 cases h
theorem tN {own:Nat}{pick:List Nat}(h:uG own t=true)(i:Nat)(hi:t = .nm i\/∃ is,t = .tp is/\i∈is):(dW own pick)[i]? = some none:=by
 have:i<own:=by
  rcases hi with rfl | ⟨is,rfl,hm⟩
  .simpa[uG] using h
  .simp only[uG,List.all_eq_true,decide_eq_true_eq] at h;exact h i hm
 unfold dW;rw[List.getElem?_append_left (by simpa using this),List.getElem?_replicate,if_pos this]
structure nh (X:Cx)(S:Sc)(T:Tb)(elt tg iter:Expr)(ifs:List Expr)(sc:Scope)(c:Ex):Prop where
 ex:∃ pick t it ci ce,c = .comp (bD sc).length pick t it ci ce/\dR X sc (bD sc++bH sc) (dW (bD sc).length pick)/\PI X tg iter (tI X.K T it) /\
  (∀ C s0 H0 ex,PG (inner X sc (bD sc++bH sc) C s0 H0 ex) tg (rf X.K t)/\Ep (inner X sc (bD sc++bH sc) C s0 H0 ex) ifs (D4 X.K T ci)/\PE (inner X sc (bD sc++bH sc) C s0 H0 ex) elt (tE X.K T ce)) /\
  uG (bD sc).length t=true/\gB iter=true
variable {sc:Scope}
theorem lI (C:Ctx X S T){f:Sc->Expr->Option Ex}(hf:∀{X:Cx}{S:Sc},Ctx X S T->∀ e c,f S e=some c->SE X T e c)(h:qm S f elt tg iter ifs sc=some c):nh X S T elt tg iter ifs sc c:=by
 unfold qm at h;by_cases hk:(j4 S sc&&gB iter)=true
 .rw[if_pos hk] at h;rw[ag] at hk;rw[ae] at h;obtain⟨it,h1,h⟩:=h;rw[ae] at h;obtain⟨pick,h2,h⟩:=h;rw[ae] at h;obtain⟨t,h3,h⟩:=h;by_cases ho:uG (bD sc).length t=true
  .rw[if_pos ho] at h;rw[ae] at h;obtain⟨ci,h4,h⟩:=h;rw[aa] at h;obtain⟨ce,h5,rfl⟩:=h;refine⟨pick,t,it,ci,ce,rfl,rS C hk.1 h2,BU C (hf C) h1,fun Ca s0 H0 ex=>?_,ho,hk.2⟩;have C':=uR C hk.1 Ca s0 H0 ex;refine⟨vH C' h3,?_,(hf C' elt ce h5).1⟩;unfold Gu at h4;split at h4
   .cases h4;exact AA
   .rw[aa] at h4;obtain⟨cc,h4,rfl⟩:=h4;exact AF (hf C' _ cc h4).2
   .cases h4
  .rw[if_neg ho] at h;cases h
 .rw[if_neg hk] at h;cases h
theorem Ao (C:Ctx X S T){pos:Pos}(h:nh X S T elt tg iter ifs sc c):PE X (.ListComp elt [⟨tg,iter,ifs,0⟩] sc pos) (tE X.K T c):=by
 obtain⟨pick,t,it,ci,ce,rfl,h1,h2,h3,h4,h5⟩:=h;exact bG (zN h1 C.calm h2 h3 (mE (tN h4)) (qR h5)) fun σ H Q h=>mN h
theorem Bg (C:Ctx X S T)(hf:∀ e c,f e=some c->SE X T e c){kn:Str}{a d:Expr}{p kp pos:Pos}(h:yI S f x a d kn=some c):PE X (.Call (.Name x p) [a] [⟨some kn,d,kp⟩] pos) (tE X.K T c):=by
 cases h
theorem uV {k:Option Expr}(h:xn k=some x):∃ p,k=some (.Name x p):=by
 cases k with
 |none=>cases h
 |some e=>cases e<;>first | (cases h;exact⟨_,rfl⟩) | (cases h)
theorem yX {v:Int}(h:Ck e=some v):∃ a b,e = .Constant (.int v) a b:=by
 cases e with
 |Constant c a b=>cases c<;>first | (cases h;exact⟨_,_,rfl⟩) | (cases h)
 |_=>cases h
theorem uc (C:Ctx X S T){pos:Pos}:∀{ks:List (Option Expr)}{vs:List Expr}{l:List (Nat×Int)},vZ S ks vs=some l->∃ us:List (V×Int),Et X pos ks vs (us.map fun q=>(tC q.1,tC (.int q.2)))/\Paired (fun (q:Nat×Int) (u:V×Int)=>q.2=u.2/\∀ H,Rep X.K H (T.gl q.1) u.1 []) l us/\ks.all (·.isSome)=true/\ks.length=vs.length/\ks.length=l.length
 |[],[],l,h=>by cases h;exact⟨[],A0,.nil,rfl,rfl,rfl⟩
 | k::ks,e::vs,l,h=>by
  have hA:((xn k).bind fun x=>(Ck e).bind fun v=>if cK x&&nY S.sc x then (idxOf S.uq x).bind fun i=>(vZ S ks vs).map fun l=>(i,v)::l else none)=some l:=h;clear h;obtain⟨x,hx,hB⟩:=ae.mp hA;clear hA;obtain⟨v,hv,hD⟩:=ae.mp hB;clear hB;obtain⟨p,e1⟩:=uV hx;obtain⟨a,b,e2⟩:=yX hv;rw[e1,e2];by_cases hc:(cK x&&nY S.sc x)=true
  .rw[if_pos hc] at hD;rw[ag] at hc;obtain⟨i,h1,hE⟩:=ae.mp hD;obtain⟨l',h2,rfl⟩:=aa.mp hE;obtain⟨us,g1,g2,g3,g4,g5⟩:=uc C (pos:=pos) h2;obtain⟨u,w,e1,e2,e3⟩:=C.uq i x h1;obtain⟨n1,n2,n3⟩:=cJ hc.1;exact⟨(u,v)::us,yz (sy (C.gl x hc.2) e1 e2 n1) rN g1,.cons ⟨rfl,e3⟩ g2,by rw[dz,g3];rfl,by rw[av,av,g4],by rw[av,av,g5]⟩
  .rw[if_neg hc] at hD;cases hD
 |[],_::_,l,h=>by cases h
 |_::_,[],l,h=>by cases h
theorem pY {Q:List (V×V)->Hp->Prop}{σ:L2.St}:∀{us:List (V×Int)},Q (us.map fun q=>(q.1,.int q.2)) H->k9 (us.map fun q=>(tC q.1,tC (.int q.2))) σ H Q
 |[],h=>h
 | (u,i)::us,h=>by
  show k9 (us.map fun q=>(tC q.1,tC (.int q.2))) σ H (fun ps H3=>Q ((u,.int i)::ps) H3);exact pY (us:=us) (Q:=fun ps H3=>Q ((u,.int i)::ps) H3) h
theorem Aa {gl:Nat->D}{us:List (V×Int)}(r:Paired (fun (q:Nat×Int) (u:V×Int)=>q.2=u.2/\∀ H,Rep K H (gl q.1) u.1 []) l us) :
  ∀{ks ks':List (Int×MV)}{xs:List (Key×V)},zC gl l ks=some ks'->(∀ H,iR K H ks xs)->∃ kvs:List (Key×V),(us.map fun q=>(q.1,(.int q.2:V)))=kvs.map (fun kv=>(kV kv.1,kv.2))/\kvs.length=l.length/\∀ H,iR K H ks' (fR xs kvs):=by
 induction r with
 |nil=>intro ks ks' xs h k;cases h;exact⟨[],rfl,rfl,k⟩
 |@cons q u l us h0 t ih =>
  intro ks ks' xs h k;unfold zC at h;split at h
  .rename_i i hi;have r1:=h0.2 fun _=>none
   rw[hi] at r1;obtain⟨e,_⟩:=r1.int_inv;obtain⟨kvs,e1,e2,e3⟩:=ih (xs:=putK xs (.inl i) (.int q.2)) h (fun H=>(k H).put i (m:=.int q.2) rfl);refine⟨(.inl i,.int q.2)::kvs,?_,by rw[av,av,e2],e3⟩;rw[ao,ao,e1,<-h0.1,e];rfl
  .cases h
theorem D1 (C:Ctx X S T){pos:Pos}{ks:List (Option Expr)}{vs:List Expr}(h:vZ S ks vs=some l)(h0:ks≠[])(h15:ks.length<=15):PE X (.Dict ks vs pos) (tE X.K T (.ddsp l)):=by
 obtain⟨us,g1,g2,g3,g4,g5⟩:=uc C (pos:=pos) h;refine bG (AM g1 g3 g4 h0 h15) fun σ H Q ⟨P,env,F,re,p,hev,k⟩=>?_
 unfold ev at hev;obtain⟨ks',h1,hev⟩:=Rs.bind_ok hev;cases hev;intro a ha;obtain⟨kvs,e1,e2,e3⟩:=Aa g2 (cF h1) (xs:=[]) fun _=>trivial
 refine pY ⟨aK,kvs,e1,by omega,?_⟩;have eu:upd (upd H a (.dK [])) a (.dK (fR [] kvs))=upd H a (.dK (fR [] kvs)):=by
  funext b;by_cases e:b=a
  .rw[e,aK,aK]
  .rw[aJ e,aJ e,aJ e]
 rw[eu];refine k _ _ [a] (aI.new ha) (.mpi (xs:=fR [] kvs) aK (e3 _)) ⟨fun b hb=>?_,fun R hR=>⟨by simp,fun b hb=>?_,fun b hb=>?_⟩⟩
 .obtain rfl:=gh.mp hb;exact .inl ha
 .obtain rfl:=gh.mp hb;exact⟨.k _,aK⟩
 .obtain rfl:=gh.mp hb;exact .inl ha
theorem uE (h:uf b=some e):∃ q,b = .List [e] q/\∀ env,starEach [e] env=(false,eval e env)::starEach [] env:=by
 unfold uf at h;split at h
 .split at h
  .split at h
   .cases h;exact⟨_,rfl,fun _=>rfl⟩
   .cases h
  .cases h
 .cases h
theorem zQ {a:Expr}{ce:Ex}{pos q:Pos}(ha:PE X a (tE X.K T ca))(he:PE X e (tE X.K T ce))(hs:∀ env,starEach [e] env=(false,eval e env)::starEach [] env):PE X (.BinOp a .Add (.List [e] q) pos) (tE X.K T (.snoc ca ce)):=by
 refine bG (BS sL ha (wY (kF he rY (hs _)))) fun σ H Q ⟨P,env,F,re,p,hev,k⟩=>?_
 unfold ev at hev;obtain⟨x,h1,hev⟩:=Rs.bind_ok hev;obtain⟨y,h2,hev⟩:=Rs.bind_ok hev;obtain⟨d,h3,hev⟩:=Rs.bind_ok hev;cases hev;have h3:=cF h3;obtain⟨x1,xr⟩:=x;obtain⟨y1,yr⟩:=y;unfold BC at h3;dsimp only at h3;split at h3
 .rename_i xs;split at h3
  .rename_i hc;cases h3;rw[ag,decide_eq_true_iff] at hc;refine⟨P,env,F,re,_,h1,fun v H1 G1 s1 r1 t1=>?_⟩;obtain⟨pa,vs,G1',rfl,rfl,a1,a2⟩:=r1.lst_inv;have eG:G1'=[]:=a2.flat hc.1;subst eG;refine⟨P,env,F,re.same s1,_,h2,fun u H2 G2 s2 r2 t2=>⟨(show (1:Nat)<=sizeLine by decide),fun p' hp'=>?_⟩⟩;obtain⟨nd,ml,nw⟩:=t2.mv [] rfl;have s3:=aI.new (o:=.lst [u]) hp';have a1':Rd (upd H2 p' (.lst [u])) pa (.lst vs):=by
    rcases a1 with q | ⟨o,q⟩
    .exact .inl ((s2.trans s3) _ _ q)
    .exact .inr ⟨o,(s2.trans s3) _ _ q⟩
   refine⟨pa,p',vs,[u],rfl,rfl,a1',.inl aK,?_,fun q0 hq0=>?_⟩
   .have hl:=a2.len;rw[<-hl];exact fF hc.2
   .have s4:=aI.new (o:=.lst (vs ++ [u])) hq0;have sAll:=s1.trans (s2.trans (s3.trans s4));have new1:∀ z∈G2,H z=none:=fun z hz=>by
     rcases nw z hz with w | ⟨i,_,_,hi,_⟩
     .exact aI.no s1 w
     .cases hi
    have nn2:∀ z∈G2,H2 z≠none:=fun z hz=>by
     obtain⟨m,e⟩:=ml z hz;rw[e];simp
    refine k (.ref q0) _ (q0::G2) sAll (.lst (.inl aK) ?_) ⟨fun z hz=>?_,fun R hR=>⟨?_,fun z hz=>?_,fun z hz=>?_⟩⟩
    .have ra:=a2.same (s2.trans (s3.trans s4));have rb:=r2.same (s3.trans s4);have:=ra.append (.cons rb .nil)
     rwa [gb,aw] at this
    .rcases cg.mp hz with rfl | hz
     .exact .inl (aI.no (s1.trans (s2.trans s3)) hq0)
     .exact .inl (new1 z hz)
    .refine List.nodup_cons.mpr ⟨fun hz=>?_,nd⟩;have:=aI.no s3 hq0;exact nn2 q0 hz this
    .rcases cg.mp hz with rfl | hz
     .exact⟨.l _,aK⟩
     .obtain⟨m,e⟩:=ml z hz;exact⟨m,(s3.trans s4) z _ e⟩
    .rcases cg.mp hz with rfl | hz
     .exact .inl (aI.no (s1.trans (s2.trans s3)) hq0)
     .exact .inl (new1 z hz)
  .cases h3
 .cases h3
theorem eU:∀(n:Nat) {X:Cx}{S:Sc}{T:Tb}(C:Ctx X S T) (e:Expr) (c:Ex),cE n S e=some c->SE X T e c:=by
 intro n
 induction n with
 |zero=>intro X S T C e c h;cases h
 |succ n ih =>
  intro X S T C e c h;have ihX:=ih C;cases e with
  |Name x p =>
   have h:wB S x=some c:=h;unfold wB at h;by_cases hn:cK x=true
   .rw[if_pos hn] at h;obtain⟨n1,n2,n3⟩:=cJ hn;by_cases hv:mh S.sc x=true
    .rw[if_pos hv,aa] at h;obtain⟨i,h1,rfl⟩:=h;have hi:=bU h1;rw[<-C.N] at hi;have:=DO (T:=T) (pos:=p) hi (C.vis x hv) n1 n2;exact⟨this,cA this fun _=>rfl⟩
    .rw[if_neg hv] at h;by_cases hg:nY S.sc x=true
     .rw[if_pos hg,aa] at h;obtain⟨i,h1,rfl⟩:=h;obtain⟨v,u,g1,g2,g3⟩:=C.uq i x h1;have:=Dz (sy (pos:=p) (C.gl x hg) g1 g2 n1) g3;exact⟨this,cA this fun _=>rfl⟩
     .rw[if_neg hg] at h;cases h
   .rw[if_neg hn] at h;cases h
  |Constant k x1 p =>
   have h:Fs k=some c:=h;cases k with
   |int i=>cases h;exact⟨gY (T:=T) rN fun H=>Rep.int _,cA (gY (T:=T) rN fun H=>Rep.int _) fun _=>rfl⟩
   |bool b=>cases h;exact⟨gY (T:=T) BF fun H=>Rep.bl _,cA (gY (T:=T) BF fun H=>Rep.bl _) fun _=>rfl⟩
   |none=>cases h;exact⟨gY (T:=T) vN fun H=>Rep.non,cA (gY (T:=T) vN fun H=>Rep.non) fun _=>rfl⟩
   |str s=>cases h;exact⟨gY (T:=T) wH fun H=>Rep.str _,cA (gY (T:=T) wH fun H=>Rep.str _) fun _=>rfl⟩
   |_=>cases h
  |BinOp a op b p =>
   have h:Co (cE n S) a op b=some c:=h;unfold Co at h;cases hlt:uf b with
   |none =>
    rw[hlt] at h;dsimp only at h;rw[ae] at h;obtain⟨ca,h1,h⟩:=h;rw[aa] at h;obtain⟨cb,h2,rfl⟩:=h;have:=CN (pos:=p) (Ad op) (ihX a ca h1).1 (ihX b cb h2).1;exact⟨this,cA this fun _=>rfl⟩
   |some e =>
    rw[hlt] at h;dsimp only at h;by_cases ho:isAdd op=true
    .rw[if_pos ho] at h;rw[ae] at h;obtain⟨ca,h1,h⟩:=h;rw[aa] at h;obtain⟨ce,h2,rfl⟩:=h;obtain⟨q,hq,hse⟩:=uE hlt;have ho:op = .Add:=by cases op<;>first | rfl | (cases ho)
     subst ho;rw[hq];have:=zQ (pos:=p) (q:=q) (ihX a ca h1).1 (ihX e ce h2).1 hse;exact⟨this,cA this fun _=>rfl⟩
    .rw[if_neg ho] at h;cases h
  |UnaryOp op a p =>
   have h:cUn op (cE n S a)=some c:=h;cases op with
   |USub =>
    have h:(cE n S a).map .neg=some c:=h;rw[aa] at h;obtain⟨ca,h1,rfl⟩:=h;have:=Dx (pos:=p) (ihX a ca h1).1;exact⟨this,cA this fun _=>rfl⟩
   |Not =>
    have h:(cE n S a).map .not=some c:=h;rw[aa] at h;obtain⟨ca,h1,rfl⟩:=h;exact⟨Ee (ihX a ca h1).1,Dd (ihX a ca h1).2⟩
   |_=>cases h
  |BoolOp op es p =>
   have h:E5 (cE n S) op es=some c:=h;have ⟨h1,h2⟩:=Bw (pos:=p) ihX h;exact⟨h1,h2.pt⟩
  |Compare a ops bs p =>
   have h:GQ (cE n S) a ops bs=some c:=h;cases ops with
   |nil=>cases h
   |cons op r=>cases r with
    |nil=>cases bs with
     |nil=>cases h
     |cons b r2=>cases r2 with
      |cons _ _=>cases h
      |nil =>
       have h:xB (cE n S) a op b=some c:=h;unfold xB at h;by_cases hb:behindInMarks op b=true
       .rw[if_pos hb] at h;cases h
       .rw[if_neg hb] at h;have hb:behindInMarks op b=false:=by simpa using hb
        rw[ae] at h;obtain⟨ca,h1,h⟩:=h;rw[aa] at h;obtain⟨cb,h2,rfl⟩:=h;exact⟨Cr (sD op C.units) (ihX a ca h1).1 (ihX b cb h2).1 hb,DD C.units (ihX a ca h1).1 (ihX b cb h2).1 hb⟩
    |cons op' r2=>cases r2 with
     |cons _ _=>cases bs<;>cases h
     |nil=>cases bs with
      |nil=>cases h
      |cons b r3=>cases r3 with
       |nil=>cases h
       |cons d r4=>cases r4 with
        |cons _ _=>cases h
        |nil =>
         have h:BL (cE n S) a op op' b d=some c:=h;cases h
  |IfExp t a b p =>
   have h:((cE n S t).bind fun cc=>(cE n S a).bind fun ca=>(cE n S b).map fun cb=>.ite cc ca cb)=some c:=h;rw[ae] at h;obtain⟨cc,h1,h⟩:=h;rw[ae] at h;obtain⟨ca,h2,h⟩:=h;rw[aa] at h;obtain⟨cb,h3,rfl⟩:=h;exact⟨Dq (ihX t cc h1).2 (ihX a ca h2).1 (ihX b cb h3).1,Cs (ihX t cc h1).2 (ihX a ca h2).2 (ihX b cb h3).2⟩
  |List es p =>
   have h:(cZ (cE n S) es).map .lst=some c:=h;rw[aa] at h;obtain⟨cs,h1,rfl⟩:=h;have:=Cu (pos:=p) (dI ihX h1);exact⟨this,cA this fun _=>rfl⟩
  |Dict ks vs p =>
   have h:CC S ks vs=some c:=h;unfold CC at h;split at h
   .cases h;have:PE X (.Dict [] [] p) (tE X.K T .dnew):=bG wj fun σ H Q h=>vb h
    exact⟨this,cA this fun _=>rfl⟩
   .split at h
    .rename_i hl;obtain⟨l,h1,rfl⟩:=aa.mp h;have:=D1 (pos:=p) C h1 (by simp) hl;exact⟨this,cA this fun _=>rfl⟩
    .cases h
   .cases h
  |Tuple es x1 p =>
   have h:(cZ (cE n S) es).map .tup=some c:=h;rw[aa] at h;obtain⟨cs,h1,rfl⟩:=h;have:=Ei (pos:=p) (x1:=x1) (dI ihX h1);exact⟨this,cA this fun _=>rfl⟩
  |Subscript a b p =>
   have h:BO (cE n S) a b=some c:=h;by_cases hb:fE b=true
   .have h:(if fE b then (cE n S a).bind fun ca=>(cE n S b).map fun cb=>.ix ca cb else none)=some c:=by
     cases b<;>first | exact h | cases hb
    rw[if_pos hb] at h;rw[ae] at h;obtain⟨ca,h1,h⟩:=h;rw[aa] at h;obtain⟨cb,h2,rfl⟩:=h;have:=FP (pos:=p) (Az C.units.2) (ihX a ca h1).1 (ihX b cb h2).1 (p6 hb);exact⟨this,cA this fun _=>rfl⟩
   .cases b with
    |Slice lo hi st p2 =>
     cases st with
     |none =>
      have h:((cE n S a).bind fun ca=>(xk (cE n S) lo).bind fun l=>(xk (cE n S) hi).map fun h=>.sl ca l h)=some c:=h;rw[ae] at h;obtain⟨ca,h1,h⟩:=h;rw[ae] at h;obtain⟨cl,h2,h⟩:=h;rw[aa] at h;obtain⟨ch,h3,rfl⟩:=h;have:=GR (pos:=p) (p2:=p2) (ihX a ca h1).1 (vR ihX h2) (vR ihX h3);exact⟨this,cA this fun _=>rfl⟩
     |some _=>cases h
    |_=>exact absurd rfl hb
  |Call g es ks pos =>
   have h:x4 S (cE n S) g es ks pos=some c:=h;cases g with
   |Name x p =>
    have h:wX S (cE n S) x es ks=some c:=h;cases ks with
    |nil =>
     have h:ub S (cE n S) x es=some c:=h;have:=AV (p:=p) (pos:=pos) C ihX h;exact⟨this,cA this fun _=>rfl⟩
    |cons k r=>cases r with
     |cons _ _=>obtain⟨_,_,_⟩:=k;cases h
     |nil =>
      obtain⟨k,d,kp⟩:=k;cases k with
      |none=>cases h
      |some kn=>cases es with
       |nil=>cases h
       |cons a r2=>cases r2 with
        |cons _ _=>cases h
        |nil =>
         have h:yI S (cE n S) x a d kn=some c:=h;have:=Bg (p:=p) (kp:=kp) (pos:=pos) C ihX h;exact⟨this,cA this fun _=>rfl⟩
   |Attribute o name apos =>
    cases ks with
    |nil =>
     have h:Cv (cE n S) o name es apos pos=some c:=h;have:=Ci (apos:=apos) (cpos:=pos) ihX h;exact⟨this,cA this fun _=>rfl⟩
    |cons _ _=>cases h
   |_=>cases h
  |ListComp elt gens sc pos =>
   have h:cLC S (cE n) elt sc gens=some c:=h;cases gens with
   |nil=>cases h
   |cons g r=>cases r with
    |cons _ _=>obtain⟨_,_,_,_⟩:=g;cases h
    |nil =>
     obtain⟨tg,iter,ifs,as⟩:=g;have h:(if as=0 then qm S (cE n) elt tg iter ifs sc else none)=some c:=h;by_cases ha:as=0
     .rw[if_pos ha] at h;subst ha;have:=Ao (pos:=pos) C (lI C (fun C'=>ih C') h);exact⟨this,cA this fun _=>rfl⟩
     .rw[if_neg ha] at h;cases h
  |_=>cases h
end
section
variable {X:Cx}{T:Tb}
end
structure uN (X:Cx)(S:Sc)(T:Tb):Prop where
 c:Ctx X S T
 sc:X.env.scope=S.sc
 fn:S.sc.kind = .function
 own:PassesOwn (model X.prog X.w) X.A X.env X.xe
noncomputable def B6 (m:Str):Option o9:=if m = "append" then some .append else if m = "extend" then some .extend else none
noncomputable def xC (m:Str):Option o9:=none
noncomputable def ko (n:Nat)(S:Sc):Expr->Option (Nat×lH)
 |.Name x _=>if cK x&&mh S.sc x then (idxOf S.N x).map fun i=>(i,.none) else none
 | .Subscript (.Name x _) e _=>if cK x&&mh S.sc x&&fE e then (idxOf S.N x).bind fun i=>(cE n S e).map fun c=>(i,.some c) else none
 |_=>none
noncomputable def wN:Expr->Bool
 | .Constant (.bool true) _ _=>true
 |.Tuple _ _ _=>true
 |.IfExp _ _ _ _=>true
 |_=>false
noncomputable def mvB (x:Str):Expr->Bool
 |.Name y _=>x==("_law_best" : Str)&&y==("_law_way" : Str)
 | .List (.Name y _::_) _=>x==("_law_rows" : Str)&&y==("_law_turned" : Str)
 |_=>false
noncomputable def Bu (n:Nat)(S:Sc)(tg e:Expr):Option St:=match tg with
 |.Name x px=>match e with
  |.ListComp elt [⟨tg',iter,ifs,0⟩] sc p=>if jO S.sc x then (idxOf S.N x).bind fun i=>(cE n S (.ListComp elt [⟨tg',iter,ifs,0⟩] sc p)).map fun c=>.asg (.nm i) c false else none
  |e=>if fH e then none else if jO S.sc x then (idxOf S.N x).bind fun i=>(cE n S e).map fun c=>.asg (.nm i) c (mvB x e) else none
 |.Tuple es k p=>if fH e || isTup e then none else (kX S es).bind fun is=>(cE n S e).map fun c=>.asg (.tp is) c false
 |.Subscript o ix p=>if wN e then (if fE ix then (match ko n S o with
   | some (i,.none)=>(cE n S ix).bind fun ci=>(cE n S e).map fun ce=>.putd i ci ce
   |_=>none) else none) else if fH e || !fE ix then none else (ko n S o).bind fun q=>(cE n S ix).bind fun ci=>(cE n S e).map fun c=>.setix q.1 q.2 ci c
 |_=>none
noncomputable def AL (n:Nat)(S:Sc)(o:Expr)(name:Str)(es:List Expr)(apos cpos:Pos):Option St :=
 if apos.endLine==cpos.line then (if es.isEmpty then (xC name).bind fun m=>(ko n S o).map fun q=>.mut q.1 q.2 m .nil else (B6 name).bind fun m=>(ko n S o).bind fun q=>match es with
  |[a]=>(cZ (cE n S) [a]).map fun cs=>.mut q.1 q.2 m cs
  |[a,b]=>(cZ (cE n S) [a,b]).map fun cs=>.mut q.1 q.2 m cs
  |_=>none)
 else none
noncomputable def sX (n:Nat)(S:Sc)(o:Expr)(name:Str)(es:List Expr)(apos cpos:Pos):Option St:=match es with
 |_=>none
noncomputable def cAug (n:Nat)(S:Sc)(tg:Expr)(op:Operator)(e:Expr):Option St:=none
noncomputable def AD (n:Nat)(S:Sc)(tg e:Expr):Option St:=none
noncomputable def Es (n:Nat)(S:Sc)(e:Expr):Option St:=if fH e then none else (cE n S e).map .expr
noncomputable def EM (n:Nat)(S:Sc):Expr->Option St
 |.Constant k x1 p=>(match k with
  |.str _=>some .pass
  |k=>Es n S (.Constant k x1 p))
 |.Call g es ks cpos=>(match g with
  |.Attribute o name apos=>(match ks with
   |[]=>(match sX n S o name es apos cpos with
    |some c=>some c
    |none=>AL n S o name es apos cpos)
   |k::ks=>Es n S (.Call (.Attribute o name apos) es (k::ks) cpos))
  |g=>Es n S (.Call g es ks cpos))
 |e=>Es n S e
noncomputable def cAs (n:Nat)(S:Sc)(e:Expr):List Expr->Option St
 |[]=>none
 |[tg]=>(match AD n S tg e with
  |some c=>some c
  |none=>Bu n S tg e)
 |_::_::_=>none
noncomputable def cRet (n:Nat)(S:Sc):Option Expr->Option St
 |none=>some .retN
 |some e=>(cE n S e).map .ret
noncomputable def sY:kz->bW->Option Nat
 |_,_=>none
theorem xF {cb:bW}{x:Nat}(h:sY t cb=some x):t = .nm x:=by
 cases h
noncomputable def Ew (n:Nat)(S:Sc)(tg iter:Expr)(ob:Option bW):List Stmt->Option St
 |[]=>if gB iter then (vx S tg).bind fun t=>ob.bind fun cb=>(match sY t cb with
  |some x=>(cE n S iter).map fun c=>.forw x c cb
  |none=>(Er S (cE n S) (isTup tg) iter).map fun it=>.forr t it cb) else none
 |_::_=>none
noncomputable def FI (S:Sc):Expr->Option St->Option St
 |_,o=>o
theorem wK {S:Sc}{e:Expr}{o:Option St}{c:St}(h:FI S e o=some c):o=some c:=h
noncomputable def cWhl (n:Nat)(S:Sc)(e:Expr)(ob:Option bW):List Stmt->Option St
 |[]=>none
 |_::_=>none
mutual
noncomputable def cS:Nat->Sc->Stmt->Option St
 |0,_,_=>none
 |n+1,S,st=>match st with
  |.Assign tgs e _=>cAs n S e tgs
  |.AugAssign tg op e _=>cAug n S tg op e
  |.Expr e _=>EM n S e
  |.Return o _=>cRet n S o
  |.If e a b _=>(cE n S e).bind fun c=>(vB n S a).bind fun ca=>(vB n S b).map fun cb=>.ite c ca cb
  |.For tg iter b oe _=>FI S iter (Ew n S tg iter (vB n S b) oe)
  |.While e b oe _=>cWhl n S e (vB n S b) oe
  |.Pass _=>some .pass
  |.Raise _ _ _=>some (.expr (.neg (.cst .non)))
  |_=>none
noncomputable def vB:Nat->Sc->List Stmt->Option bW
 |0,_,_=>none
 |_+1,_,[]=>some .nil
 |n+1,S,s::r=>(cS n S s).bind fun c=>(vB n S r).map fun d=>.cons c d
end
theorem oF {t:Option Expr}{l:Nat}(h:fH e=false):swapsWith e t l env=pure false:=by
 cases e<;>first | rfl | (cases h)
theorem nr {t:Expr}{l:Nat}(h:fH e=false):swapsWithSole [t] e l env=pure false:=oF h
variable {apos cpos:Pos}{q:Nat×lH}
section
variable {X:Cx}{S:Sc}{T:Tb}
theorem Af {st:Stmt}:PS X st (tS X.K T (.expr (.neg (.cst .non)))):=by
 intro pins s σ H D I h;obtain⟨P,Z,env,F,re,hz,zp,h⟩:=h;exact h.elim
theorem jK (C:Ctx X S T)(h:ko n S o=some q):PE X o (km X.K T q.1 q.2):=by
 unfold ko at h;split at h
 .rename_i x p;by_cases hk:(cK x&&mh S.sc x)=true
  .rw[if_pos hk,aa] at h;rw[ag] at hk;obtain⟨i,h1,rfl⟩:=h;obtain⟨n1,n2,n3⟩:=cJ hk.1;have hi:=bU h1;rw[<-C.N] at hi;exact CA hi (C.vis x hk.2) n1 n2
  .rw[if_neg hk] at h;cases h
 .rename_i x p e pos;by_cases hk:(cK x&&mh S.sc x&&fE e)=true
  .rw[if_pos hk,ae] at h;rw[ag,ag] at hk;obtain⟨i,h1,h⟩:=h;rw[aa] at h;obtain⟨c,h2,rfl⟩:=h;obtain⟨n1,n2,n3⟩:=cJ hk.1.1;have hi:=bU h1;rw[<-C.N] at hi;exact Ac hi (C.vis x hk.1.2) n1 n2 (eU n C e c h2).1 (p6 hk.2)
  .rw[if_neg hk] at h;cases h
 .cases h
theorem j5 (h:ko n S o=some q):attributeBase o name env (eval o env)=eval o env:=by
 unfold ko at h;split at h
 .rfl
 .rfl
 .cases h
theorem D2 (C:uN X S T){c:St}(h:Bu n S tg e=some c):PS X (.Assign [tg] e pos) (tS X.K T c):=by
 have hN:=C.c.nd;rw[<-C.c.N] at hN;unfold Bu at h;split at h
 .rename_i x px;split at h
  .rename_i elt tg' iter ifs sc p;by_cases hl:jO S.sc x=true
   .rw[if_pos hl,ae] at h;obtain⟨i,h1,h⟩:=h;rw[aa] at h;obtain⟨ce,h2,rfl⟩:=h;have hi:=bU h1;rw[<-C.c.N] at hi;have hsw:swapsWith (.ListComp elt [⟨tg',iter,ifs,0⟩] sc p) (some (.Name x px)) pos.line X.env=pure (X.env.blockKind == .function&&X.env.kindOf x==some .local&&px.line==p.line && !(sc.names.any fun (n,k)=>n==x&&(k == .local || k == .cell))):=rfl;cases hb:(X.env.blockKind == .function&&X.env.kindOf x==some .local&&px.line==p.line && !(sc.names.any fun (n,k)=>n==x&&(k == .local || k == .cell))) with
    |false =>
     rw[hb] at hsw;exact ym hN hi (C.c.loc x hl).1 (eU n C.c _ _ h2).1 hsw (C.c.loc x hl).2
    |true =>
     rw[hb] at hsw;cases n with
     |zero=>cases h2
     |succ n =>
      have h2:qm S (cE n) elt tg' iter ifs sc=some ce:=h2;obtain⟨pick,t,it,ci,ce',rfl,g1,g2,g3,g4,g5⟩:=lI C.c (fun C'=>eU n C') h2;refine cT (qX g1 C.c.calm g2 g3 (mE (tN g4)) (qR g5) hN hi (C.c.loc x hl).1 (C.c.loc x hl).2 hsw) fun D σ H h=>?_
      obtain⟨P,Z,env,F,re,hz,zp,h⟩:=h;unfold aQ at h;obtain⟨p,hp,h⟩:=cG h;exact mN ⟨P,env,F,re,p,hp,fun v H' G s rp rt=>vP re hz zp s rp rt h⟩
   .rw[if_neg hl] at h;cases h
  .by_cases hc:fH e=true
   .rw[if_pos hc] at h;cases h
   .rw[if_neg hc] at h;by_cases hl:jO S.sc x=true
    .rw[if_pos hl,ae] at h;obtain⟨i,h1,h⟩:=h;rw[aa] at h;obtain⟨ce,h2,rfl⟩:=h;have hi:=bU h1;rw[<-C.c.N] at hi;exact ym hN hi (C.c.loc x hl).1 (eU n C.c _ _ h2).1 (oF (by simpa using hc)) (C.c.loc x hl).2
    .rw[if_neg hl] at h;cases h
 .rename_i es k p;by_cases hc:(fH e || isTup e)=true
  .rw[if_pos hc] at h;cases h
  .rw[if_neg hc,ae] at h;simp only[Bool.or_eq_true,not_or,Bool.not_eq_true] at hc;obtain⟨is,h1,h⟩:=h;rw[aa] at h;obtain⟨ce,h2,rfl⟩:=h;obtain⟨a1,a2,a3⟩:=pJ C.c h1;refine Bf (xq C.c.calm a1 a2 a3) (eU n C.c _ _ h2).1 (nr hc.1) ?_ rfl;obtain⟨_,hc⟩:=hc;cases e<;>first | rfl | (cases hc)
 .rename_i o ix p;by_cases ht:wN e=true
  .rw[if_pos ht] at h;by_cases hp:fE ix=true
   .rw[if_pos hp] at h;split at h
    .rename_i i hq;rw[ae] at h;obtain⟨ci,h2,h⟩:=h;rw[aa] at h;obtain⟨ce,h3,rfl⟩:=h;have hpth:PE X o (km X.K T i .none):=jK C.c hq;refine cT (vM ?_ hpth (eU n C.c _ _ h2).1 (eU n C.c _ _ h3).1 ?_) fun D σ H h=>vh h
     .have:=C.c.units;omega
     .cases e<;>first | rfl | (cases ht)
    .cases h
   .rw[if_neg hp] at h;cases h
  rw[if_neg ht] at h;by_cases hc:(fH e || !fE ix)=true
  .rw[if_pos hc] at h;cases h
  .rw[if_neg hc,ae] at h;simp only[Bool.or_eq_true,not_or,Bool.not_eq_true,Bool.not_eq_false'] at hc;obtain⟨q,h1,h⟩:=h;rw[ae] at h;obtain⟨ci,h2,h⟩:=h;rw[aa] at h;obtain⟨ce,h3,rfl⟩:=h;refine cT (w6 (eU n C.c _ _ h3).1 (Cf (jK C.c h1) (eU n C.c _ _ h2).1 set_list ?_) (nr hc.1) ?_ rfl) fun D σ H h=>x6 h
   .intro v;obtain⟨_,hc⟩:=hc;cases ix<;>first | rfl | (cases hc)
   .cases e<;>rfl
 .cases h
theorem DM (C:uN X S T){c:St}(h:AL n S o name es apos cpos=some c):PS X (.Expr (.Call (.Attribute o name apos) es [] cpos) pos) (tS X.K T c):=by
 unfold AL at h;by_cases hl:(apos.endLine==cpos.line)=true
 .rw[if_pos hl] at h;by_cases he:es.isEmpty=true
  .rw[if_pos he,ae] at h;have he:es=[]:=by simpa using he
   subst he;obtain⟨m,hm,h⟩:=h;rw[aa] at h;obtain⟨q,hq,rfl⟩:=h;have slot:∃ id,PySem.Slot "list" name id/\typeOf (.builtin id)=pure (.type "method_descriptor")/\MtR X id (vm X.K m):=by
    unfold xC at hm;cases hm
   obtain⟨id,s1,s2,s3⟩:=slot;exact cT (kH (DG iy s1 s2 s3 (jK C.c hq) (j5 hq) hl) rfl) fun D σ H h=>uy h
  rw[if_neg he,ae] at h;obtain⟨m,hm,h⟩:=h;rw[ae] at h;obtain⟨q,hq,h⟩:=h;have slot:∃ id,PySem.Slot "list" name id/\typeOf (.builtin id)=pure (.type "method_descriptor")/\MtR X id (vm X.K m):=by
   unfold B6 at hm;split at hm
   .rename_i e;cases hm;subst e;exact⟨_,PySem.F.slot_list_append,by rfl,r9⟩
   split at hm
   .rename_i e;cases hm;subst e;exact⟨_,PySem.F.slot_list_extend,by rfl,sd⟩
   cases hm
  obtain⟨id,s1,s2,s3⟩:=slot;split at h
  .rename_i a;rw[aa] at h;obtain⟨cs,ha,rfl⟩:=h;obtain⟨n1,c1,d1,_,hd,_⟩:=bF ha;refine cT (kH (BI iy s1 s2 s3 (jK C.c hq) (dI (eU n C.c) ha) (j5 hq) ?_ hl (aU n1) (dQ hd)) rfl) fun D σ H h=>lY h
   rw[aU n1];rfl
  .rename_i a b;rw[aa] at h;obtain⟨cs,ha,rfl⟩:=h;obtain⟨n1,c1,d1,_,hd,_⟩:=bF ha;obtain⟨n2,_,_,_,_,_⟩:=bF hd;refine cT (kH (BI iy s1 s2 s3 (jK C.c hq) (dI (eU n C.c) ha) (j5 hq) ?_ hl (aU n1) (dQ hd)) rfl) fun D σ H h=>lY h
   rw[aU n1,aU n2];rfl
  .cases h
 .rw[if_neg hl] at h;cases h
theorem AK (C:uN X S T){c:St}(h:sX n S o name es apos cpos=some c):PS X (.Expr (.Call (.Attribute o name apos) es [] cpos) pos) (tS X.K T c):=by
 cases h
theorem Dp (C:uN X S T){c:St}(h:AD n S tg e=some c):PS X (.Assign [tg] e pos) (tS X.K T c):=by
 cases h
theorem Gq (C:uN X S T):∀(n:Nat),(∀(st:Stmt) (c:St),cS n S st=some c->PS X st (tS X.K T c))/\∀(l:List Stmt) (c:bW),vB n S l=some c->mY X l (DQ X.K T c):=by
 intro n
 induction n with
 |zero=>exact⟨fun st c h=>(by cases h),fun l c h=>(by cases h)⟩
 |succ n ih =>
  obtain⟨i1,i2⟩:=ih;refine⟨fun st c h=>?_,fun l c h=>?_⟩
  .cases st with
   |Assign tgs e p =>
    have h:cAs n S e tgs=some c:=h;cases tgs with
    |nil=>cases h
    |cons tg r=>cases r with
     |cons _ _=>cases h
     |nil =>
      have h:(match AD n S tg e with
       |some c=>some c
       |none=>Bu n S tg e)=some c:=h
      cases hp:AD n S tg e with
      |some c'=>rw[hp] at h;cases h;exact Dp C hp
      |none=>rw[hp] at h;exact D2 C h
   |AugAssign tg op e p=>cases h
   |Expr e p =>
    have h:EM n S e=some c:=h;have plain:Es n S e=some c->PS X (.Expr e p) (tS X.K T c):=fun h=>by
     unfold Es at h;by_cases hc:fH e=true
     .rw[if_pos hc] at h;cases h
     .rw[if_neg hc,aa] at h;obtain⟨ce,h1,rfl⟩:=h;exact Al (eU n C.c _ _ h1).1 (oF (by simpa using hc))
    cases e with
    |Constant k x1 q=>cases k with
     |str s=>cases h;exact Du
     |_=>exact plain h
    |Call g es ks q=>cases g with
     |Attribute o name apos=>cases ks with
      |nil =>
       have h:(match sX n S o name es apos q with
        |some c=>some c
        |none=>AL n S o name es apos q)=some c:=h
       cases ha:sX n S o name es apos q with
       |some c'=>rw[ha] at h;cases h;exact AK C ha
       |none=>rw[ha] at h;exact DM C h
      |cons k ks=>exact plain h
     |_=>exact plain h
    |_=>exact plain h
   |Return o p=>cases o with
    |none=>cases h;exact Ar
    |some e =>
     have h:(cE n S e).map .ret=some c:=h;rw[aa] at h;obtain⟨ce,h1,rfl⟩:=h;exact Cw (eU n C.c _ _ h1).1
   |If e a b p =>
    have h:((cE n S e).bind fun c=>(vB n S a).bind fun ca=>(vB n S b).map fun cb=>St.ite c ca cb)=some c:=h;rw[ae] at h;obtain⟨cc,h1,h⟩:=h;rw[ae] at h;obtain⟨ca,h2,h⟩:=h;rw[aa] at h;obtain⟨cb,h3,rfl⟩:=h;exact CG (eU n C.c _ _ h1).2 (i2 _ _ h2) (i2 _ _ h3)
   |For tg iter b oe p =>
    have key:∀ c,Ew n S tg iter (vB n S b) oe=some c->PS X (.For tg iter b oe p) (tS X.K T c):=by
     intro c h;cases oe with
      |cons _ _=>cases h
      |nil =>
       have h:(if gB iter then (vx S tg).bind fun t=>(vB n S b).bind fun cb=>(match sY t cb with
        |some x=>(cE n S iter).map fun c=>St.forw x c cb
        |none=>(Er S (cE n S) (isTup tg) iter).map fun it=>St.forr t it cb) else none)=some c:=h
       by_cases hs:gB iter=true
       .rw[if_pos hs,ae] at h;obtain⟨t,h1,h⟩:=h;rw[ae] at h;obtain⟨cb,h3,h⟩:=h;cases hx:sY t cb with
        |some x =>
         rw[hx] at h;have h:(cE n S iter).map (fun c=>St.forw x c cb)=some c:=h;rw[aa] at h;obtain⟨ci,h2,rfl⟩:=h;have ht:=xF hx;subst ht;cases hx
        |none =>
         rw[hx] at h;have h:(Er S (cE n S) (isTup tg) iter).map (fun it=>St.forr t it cb)=some c:=h;rw[aa] at h;obtain⟨it,h2,rfl⟩:=h;exact CL C.own C.c.calm (BU C.c (eU n C.c) h2) (vH C.c h1) (i2 _ _ h3) (qR hs)
       .rw[if_neg hs] at h;cases h
    exact key c (wK (S:=S) (e:=iter) h)
   |While e b oe p=>cases oe with
    |cons _ _=>cases h
    |nil =>
     cases h
   |Pass p=>cases h;exact zT
   |Raise a b p=>cases h;exact Af
   |_=>cases h
  .cases l with
   |nil=>cases h;exact zj
   |cons st r =>
    unfold vB at h;rw[ae] at h;obtain⟨cc,h1,h⟩:=h;rw[aa] at h;obtain⟨cb,h3,rfl⟩:=h;exact xO (i1 _ _ h1) (i2 _ _ h3)
end
structure Df where
 nm:Str
 st:Stmt
 ps:List Str
 N:List Str
 body:bW
structure Pg where
 dfs:List Df
 uq:List Str
 dS:List Str
 gl:Nat->D
 fuel:Nat
noncomputable def Pg.fns (p:Pg):List Fn:=p.dfs.map fun d=>⟨d.ps.length,d.N.length,d.body⟩
noncomputable def Pg.run (p:Pg):Nat->Nat->List D->Rs (D×Bool):=Pc.run p.fns p.gl p.fuel
noncomputable def Pg.sc (p:Pg)(d:Df):Sc:=⟨d.N,aT d.st,p.dfs.map (·.nm),p.uq,p.dS⟩
noncomputable def Df.okB (p:Pg)(n:Nat)(d:Df):Bool :=
 decide ((aT d.st).kind = .function) && !(aT d.st).isCoroutine && !(aT d.st).isGenerator&&decide d.N.Nodup&&decide (d.N.take d.ps.length=d.ps)&&d.ps.all (fun x=>jO (aT d.st) x)&&(aT d.st).names.all (fun y=>decide (y.2≠.free))
structure Df.Ok (p:Pg)(d:Df):Prop where
 b:∃ n,vB n (p.sc d) (cR d.st)=some d.body
 S:kM d.N d.ps (aT d.st)
 bd:∀(kV doc pm:Value) (an:Option Addr) (cdv ct:Value) (us:List Value),us.length=d.ps.length->bindArgs (PySem.W.fnOf d.nm d.nm (eM d.st) (cR d.st) (aT d.st) .none kV doc pm an cdv ct) ⟨us,[]⟩=pure (d.ps.zip us)
theorem qo {sc:Scope}(h:jO sc x=true):Loc sc x:=by
 unfold jO cY at h;split at h
 .rename_i e;exact .inl e
 .rename_i e;exact .inr e
 .cases h
theorem vQ {sc:Scope}(h:mh sc x=true):B2 sc x:=by
 unfold mh cY at h;split at h
 .rename_i e;exact .inl e
 .rename_i e;exact .inr (.inl e)
 .rename_i e;exact .inr (.inr e)
 .cases h
theorem zL {sc:Scope}(h:nY sc x=true):sc.names.lookup x=some .globalImplicit:=by
 unfold nY cY at h;split at h
 .rename_i e;exact e
 .cases h
theorem len0 {P:List Value->Prop}{us:List Value}(h:us.length=0)(f:P []):P us:=by
 cases us with
 |nil=>exact f
 |cons a r=>cases h
theorem lD {P:List Value->Prop}{us:List Value}(h:us.length=1)(f:∀ a,P [a]):P us:=by
 cases us with
 |nil=>cases h
 |cons a r=>exact len0 (P:=fun r=>P (a::r)) (ik h) (f a)
theorem rO {P:List Value->Prop}{us:List Value}(h:us.length=2)(f:∀ a b,P [a,b]):P us:=by
 cases us with
 |nil=>cases h
 |cons a r=>exact lD (P:=fun r=>P (a::r)) (ik h) (f a)
theorem qu {P:List Value->Prop}{us:List Value}(h:us.length=3)(f:∀ a b c,P [a,b,c]):P us:=by
 cases us with
 |nil=>cases h
 |cons a r=>exact rO (P:=fun r=>P (a::r)) (ik h) (f a)
theorem len4 {P:List Value->Prop}{us:List Value}(h:us.length=4)(f:∀ a b c d,P [a,b,c,d]):P us:=by
 cases us with
 |nil=>cases h
 |cons a r=>exact qu (P:=fun r=>P (a::r)) (ik h) (f a)
theorem Df.ok_of {p:Pg}{d:Df}{n:Nat}(h:d.okB p n=true)(hb:vB n (p.sc d) (cR d.st)=some d.body)
  (bd:∀(kV doc pm:Value) (an:Option Addr) (cdv ct:Value) (us:List Value),us.length=d.ps.length->bindArgs (PySem.W.fnOf d.nm d.nm (eM d.st) (cR d.st) (aT d.st) .none kV doc pm an cdv ct) ⟨us,[]⟩=pure (d.ps.zip us)):d.Ok p:=by
 unfold Df.okB at h;simp only[Bool.and_eq_true,decide_eq_true_eq,Bool.not_eq_true',List.all_eq_true] at h;obtain⟨⟨⟨⟨⟨⟨h1,h2⟩,h3⟩,h4⟩,h5⟩,h6⟩,h7⟩:=h;exact⟨⟨n,hb⟩,⟨h1,h2,h3,h4,h5,fun x hx=>qo (h6 x hx),h7⟩,bd⟩
structure Pg.In (p:Pg)(K:Frag)(mg:Str->Option Value):Prop where
 fn:∀(i:Nat) (d:Df),p.dfs[i]? = some d->∃ f fd,L2.Eb K d.nm d.nm d.st f fd/\mg d.nm=some (.ref f)
 gl:∀ i x,idxOf p.uq x=some i->∃ v u,mg x=some u/\RelV v u/\∀ H,Rep K H (p.gl i) v []
 blt:∀ x,p.dS.contains x=true->mg x=none
variable {ds:List D}
theorem kh {i:Nat}{d:D}{t:Tg}(h:(aM ds n)[i]? = some (some (d,t))):ds[i]? = some d/\t=bJ d []:=by
 unfold aM at h;by_cases hi:i<ds.length
 .rw[List.getElem?_append_left (by simpa using hi),List.getElem?_map] at h;rw[List.getElem?_eq_getElem hi] at h ⊢;simp only[Option.map_some,Option.some.injEq,Prod.mk.injEq] at h;obtain⟨h1,h2⟩:=h;subst h1;exact⟨rfl,h2.symm⟩
 .rw[List.getElem?_append_right (by simpa using Nat.le_of_not_lt hi),List.getElem?_replicate] at h;split at h<;>cases h
theorem aG.parts:∀{ds:List D}{vs:List V}{G:List Addr},aG K H ds vs G->∃ F:Nat->List Addr,(∀ i d,ds[i]? = some d->∃ v,vs[i]? = some v/\Rep K H d v (F i))/\(∀ i,ds[i]? = none->F i=[])/\∀ i,∀ a∈F i,a∈G
 |_,_,_,.nil=>⟨fun _=>[],fun i d h=>(by simp at h),fun _ _=>rfl,fun _ _ h=>(nomatch h)⟩
 | _,_,_,.cons (d:=d) (v:=v) (ds:=ds) (vs:=vs) (G:=G1) (G':=G2) r s=>by
  obtain⟨F,h1,h2,h3⟩:=aG.parts s;refine⟨fun i=>match i with | 0=>G1 | j+1=>F j,fun i e h=>?_,fun i h=>?_,fun i a h=>?_⟩
  .cases i with
   |zero=>cases h;exact⟨v,rfl,r⟩
   |succ j=>exact h1 j e (by simpa using h)
  .cases i with
   |zero=>cases h
   |succ j=>exact h2 j (by simpa using h)
  .cases i with
   |zero=>exact bf _ h
   |succ j=>exact ak _ (h3 j a h)
theorem entry {G:List Addr}{N:List Str}(hr:aG K H ds vs G)(hl:ds.length<=N.length):∃ F,RE K (fun a=>H a≠none) (aM ds N.length) (L2.start N vs) H F/\∀ i,∀ a∈F i,a∈G:=by
 obtain⟨F,h1,h2,h3⟩:=hr.parts;have flat:∀ i d t,(aM ds N.length)[i]? = some (some (d,t))->aZ t=true->F i=[]:=fun i d t h o=>by
  obtain⟨e1,e2⟩:=kh h;obtain⟨v,_,rp⟩:=h1 i d e1;unfold bJ at e2;by_cases hf:d.flat=true
  .exact rp.flat hf
  .rw[if_neg hf] at e2;subst e2;cases o
 refine⟨F,⟨?_,fun i d t h=>?_,fun i h=>?_,fun i d t h o=>?_,fun i d h a ha=>?_,fun a h=>h⟩,h3⟩
 .simp only[aM,L2.start,List.length_append,List.length_map,List.length_replicate,hr.len]
 .obtain⟨e1,e2⟩:=kh h;obtain⟨v,e3,rp⟩:=h1 i d e1;refine⟨v,?_,rp⟩;unfold L2.start;have hi:i<vs.length:=(List.getElem?_eq_some_iff.mp e3).1;rw[List.getElem?_append_left (by simpa using hi),List.getElem?_map,e3];rfl
 .cases e:ds[i]? with
  |none=>exact h2 i e
  |some d =>
   refine absurd ?_ (h d (bJ d []));unfold aM;have hi:i<ds.length:=(List.getElem?_eq_some_iff.mp e).1;rw[List.getElem?_append_left (by simpa using hi),List.getElem?_map,e];rfl
 .rw[flat i d t h o];exact⟨bu,fun _ h=>(nomatch h),fun _ h=>(nomatch h)⟩
 .rw[flat i d _ h rfl] at ha;cases ha
theorem va {α:Type}{g:α->Str}:∀{l:List α}{x:Str}{i:Nat},idxOf (l.map g) x=some i->∃ a,l[i]? = some a/\g a=x:=by
 intro l x i h;have:=bU h;rw[List.getElem?_map,aa] at this;exact this
theorem p7 {H':Hp}(e:jN (fun a=>H a≠none) H H'):aI H H':=fun b u h=>(e.keep b (by rw[h];exact fun z=>(by cases z))).trans h
section
variable {p:Pg}{P:Program}{w:World}{K:Frag}{mg:Str->Option Value}{base:Heap}
theorem CS (hp:∀ d∈p.dfs,d.Ok p)(hi:p.In K mg)(hh:za w K):∀(n i:Nat) (d:Df),p.dfs[i]? = some d->∀ f fd,L2.Eb K d.nm d.nm d.st f fd->oo P w K mg base Cy n f fd d.ps (Cg K d.ps.length (p.run n i)):=by
 intro n
 induction n with
 |zero =>
  intro i d hd f fd F;refine⟨fun vs H Q E h=>tW h,fun A outer s H args us vs Q E hr he hb hv hs=>?_⟩;obtain⟨ds,G,_,_,r,h,_⟩:=hs;cases h
 |succ n ih =>
  intro i d hd f fd F;obtain⟨⟨m,hb⟩,S,_⟩:=hp d (List.mem_of_getElem? hd);refine F.ok S (fun vs H Q E h=>tW h) fun cdv A outer s H vs Q E hr hs=>?_
  have C:uN (rK Cy P w K mg base d.N d.nm (aT d.st) f cdv A outer s H E).nox (p.sc d) ⟨p.run n,p.gl,p.fuel⟩:=by
   refine⟨⟨rfl,S.nd,fun x h=>vQ h,fun x h=>⟨qo h,.inl rfl⟩,fun x h=>zL h,fun x h=>h,?_,rfl,fun j x hj=>?_,fun j x hj=>hi.gl j x hj,fun x h=>hi.blt x h⟩,rfl,S.kind,PassesOwn.never⟩
   .exact⟨Nat.lt_of_le_of_lt (Nat.add_le_add_left (by decide:40<=64) _) hr.units,hh⟩
   .obtain⟨e,he,hx⟩:=va hj;obtain⟨f',fd',F',M'⟩:=hi.fn j e he;have B':=F'.binds (hp e (List.mem_of_getElem? he)).bd;subst hx;refine⟨f',fd',e.ps,n,ih j e he f' fd' F',hr,M',F'.kp,B',fun ds r h=>?_⟩;have h:p.run n j ds = .ok r:=h;cases n with
    |zero=>cases h
    |succ n =>
     unfold Pg.run Pc.run at h;have:p.fns[j]? = some ⟨e.ps.length,e.N.length,e.body⟩:=by unfold Pg.fns;rw[List.getElem?_map,he];rfl
     rw[this] at h;dsimp only at h;by_cases hl:ds.length=e.ps.length
     .exact hl
     .rw[if_neg hl] at h;cases h
  refine⟨_,(Gq C m).2 _ _ hb,?_⟩;obtain⟨ds,G,hl,rs,r,hrun,k⟩:=hs;unfold Pg.run Pc.run at hrun;have:p.fns[i]? = some ⟨d.ps.length,d.N.length,d.body⟩:=by unfold Pg.fns;rw[List.getElem?_map,hd];rfl
  rw[this] at hrun;dsimp only at hrun;rw[if_pos hl] at hrun;have hN:ds.length<=d.N.length:=by
   rw[hl,<-S.pre,f7];exact Nat.min_le_right _ _
  obtain⟨F0,re,hF⟩:=entry rs hN;refine⟨fun a=>H a≠none,fun a=>H a=none\/a∈G,aM ds d.N.length,F0,re,fun j a ha=>.inr (hF j a ha),fun a h=>.inl (Classical.not_not.mp h),?_⟩;show post K _ _ _ _ H _ (aE ⟨p.run n,p.gl,p.fuel⟩ d.body (aM ds d.N.length));have hrun:(match aE ⟨p.run n,p.gl,p.fuel⟩ d.body (aM ds d.N.length) with
   |.rt d fr=>Rs.ok (d,fr)
   |.nx _=>.ok (.non,true)
   |.xc e _=>.exc e
   |_=>.bad) = .ok r:=hrun
  cases hq:aE ⟨p.run n,p.gl,p.fuel⟩ d.body (aM ds d.N.length) with
  |rt dd fr =>
   rw[hq] at hrun;cases hrun;intro v H' G' rp ev z fz;exact k v H' G' (p7 ev) rp z fun hf=>let ⟨a,b⟩:=fz hf;⟨a,fun x hx=>⟨Classical.not_not.mp (b x hx).1,(b x hx).2⟩⟩
  |nx e =>
   rw[hq] at hrun;cases hrun;intro σ' H' F' af;exact k .non H' [] (p7 af.ev) .non (fun _ h=>(nomatch h)) fun _=>⟨bu,fun _ h=>(nomatch h)⟩
  |bk e=>rw[hq] at hrun;cases hrun
  |ct e=>rw[hq] at hrun;cases hrun
  |xc e e'=>rw[hq] at hrun;cases hrun
  |bad=>rw[hq] at hrun;cases hrun
end
noncomputable def noL (K:Frag):Bool:=K.all fun p=>match p.2.cls with
 |.type n=>!(n == "list")
 |_=>true
theorem lookup_mem:∀{K:Frag}{a:Addr}{o:Obj},K.lookup a=some o->(a,o)∈K
 |[],_,_,h=>by cases h
 | (b,x)::r,a,o,h=>by
  rw[cw] at h;cases e:a==b with
  |true =>
   rw[e] at h;cases h;rw[f6] at e;rw[e];exact ai
  |false=>rw[e] at h;exact ah _ (lookup_mem h)
theorem Ea {o:Obj}(h:noL K=true)(l:K.lookup a=some o)(c:o.cls = .type "list"):False:=by
 unfold noL at h;rw[cu] at h;have:=h _ (lookup_mem l);rw[c] at this;simp at this
theorem m6:∀ ns:List Int,aG K H (ns.map D.int) (ns.map V.int) []
 |[]=>.nil
 |n::r=>.cons (.int n) (m6 r)
theorem CJ {f:List D->Rs (D×Bool)}{E:XK}{fr:Bool}(hL:noL K=true)(hS:iX K H a (ns.map V.int))(hf:f [.lst (ns.map D.int)] = .ok (.bl true,fr)):Cg K 1 f [.ref a] H (fun v _=>v = .bl true) E:=by
 rcases hS with h | ⟨o,its,n,h1,h2,_⟩
 .refine⟨[.lst (ns.map D.int)],[a] ++ [],rfl,.cons (.lst h (m6 ns)) .nil,(.bl true,fr),hf,fun v H' G' _ rp _ _=>?_⟩;exact rp.bl_inv.1
 .exact (Ea hL h1 h2).elim
noncomputable def tV (es:List DictEntry):Bool:=es.all (fun e=>match e.val with
  |.int _ _=>true
  |.none=>true
  |_=>false)&&es.any (fun e=>match e.key with
  |.str _ _=>true
  |_=>false)
noncomputable def noS (as:List Addr)(K:Frag):Bool:=K.all fun p=>as.contains p.1 || match p.2.data with
 |.dict es _=>!tV es.toList
 |_=>true
theorem fN.vals {es:List DictEntry}{kvs:List (Key×Option Int)}(h:fN es kvs):es.all (fun e=>match e.val with
  |.int _ _=>true
  |.none=>true
  |_=>false)=true:=by
 induction h with
 |nil=>rfl
 |cons hh hk hv r ih=>rw[dz,hv,ih];rfl
 |si hk hv r ih=>rw[dz,hv,ih];rfl
 |sn hk hv r ih=>rw[dz,hv,ih];rfl
theorem FU (as:List Addr)(h:noS as K=true)(h0:∀ a∈as,∀ o es ep,K.lookup a=some o->o.data = .dict es ep->∀ e∈es.toList,∀ s t,e.key = .str s t->(a==sysModules)=false/\e.hash=hashStr w s):za w K:=by
 intro a o es ep hl hd kvs he e hm s t hk;by_cases ha:a∈as
 .exact h0 a ha o es ep hl hd e hm s t hk
 .unfold noS at h;rw[cu] at h;have:=h _ (lookup_mem hl);dsimp only at this;rw[hd,show as.contains a=false by rw[Bool.eq_false_iff];intro z;exact ha (List.contains_iff_mem.mp z),Bool.false_or] at this;dsimp only at this;unfold tV at this;rw[he.vals,gy,fw] at this;have h2:es.toList.any (fun e=>match e.key with
   |.str _ _=>true
   |_=>false)=true:=by
   rw[List.any_eq_true];exact⟨e,hm,by rw[hk]⟩
  rw[h2] at this;cases this
noncomputable def hashes (w:World):List DictEntry->Prop
 |[]=>True
 |e::r=>(match e.key with
  |.str s _=>e.hash=hashStr w s
  |_=>True)/\hashes w r
theorem Fq (h:noS [] K=true):za w K:=FU [] h fun a ha=>(nomatch ha)
def Has (K:Frag)(d:Df):Prop:=∃(f:Addr) (oc:Value) (od:Option Addr) (kV dc pm:Value) (an:Option Addr) (cd ct:Value) (sl:Array (Option Value)),
 PySem.W.nsIn K mainGlobals d.nm=some (some (.ref f))/\K.lookup f=some ⟨oc,od,.func (PySem.W.fnOf d.nm d.nm (eM d.st) (cR d.st) (aT d.st) .none kV dc pm an cd ct),sl⟩/\PySem.W.codeIn K cd d.nm=true/\PySem.W.keepIn K (.ref f)=true
def lP (K:Frag)(x:Str)(d:D):Prop:=∃ v u,PySem.W.nsIn K mainGlobals x=some (some u)/\RelV v u/\∀ H,Rep K H d v []
noncomputable def uL {α:Type}(P:α->Prop):List α->Prop
 |[]=>True
 |a::r=>P a/\uL P r
theorem hX {α:Type}{P:α->Prop}:∀{l:List α},uL P l->∀ a∈l,P a
 |[],_,a,h=>by cases h
 | b::r,⟨h1,h2⟩,a,h=>by
  rcases cg.mp h with rfl | h
  .exact h1
  .exact hX h2 a h
structure rD (p:Pg)(K:Frag):Prop where
 fn:uL (Has K) p.dfs
 gl:∀ i x,idxOf p.uq x=some i->lP K x (p.gl i)
 blt:uL (fun x=>PySem.W.nsIn K mainGlobals x=some none) p.dS
theorem rD.isin {p:Pg}{mg:Str->Option Value}(s:rD p K)(X:K.In h)(G:h.Ns mainGlobals mg):p.In K mg where
 fn:=fun i d hd=>by
  obtain⟨f,oc,od,kV,dc,pm,an,cd,ct,sl,a,l,c,k⟩:=hX s.fn d (List.mem_of_getElem? hd);exact⟨f,_,Eg (st:=d.st) l c k,PySem.W.mg_of X G a⟩
 gl:=fun i x hx=>by
  obtain⟨v,u,a,b,c⟩:=s.gl i x hx;exact⟨v,u,PySem.W.mg_of X G a,b,c⟩
 blt:=fun x hx=>PySem.W.mg_none_of X G (hX s.blt x (by simpa using hx))
theorem walk {l:PySem.W.OpenLaw}{q:Program}{loose:List Str}{XP:(Str->Option Value)->Heap->Prop}{YP:World->Heap->Prop}{d:DefRec}{K:Params->PySem.W.Frag}(p:Pg)(n i:Nat)(x:Str)(e:Df)(hn:l.most=some 63)(hdf:d.params.defaults=[])
  (hY:∀(w:World) (h:Heap),YP w h->(K w.params).In h) (hd:p.dfs[i]? = some e) (hps:e.ps=[x]) (hnm:d.name=e.nm) (hr:hV n callerA) (ok:uL (Df.Ok p) p.dfs) (st:∀ w:World,rD p (K w.params)) (hL:∀ w:World,noL (K w.params)=true) (hH:∀ w:World,za w (K w.params))
  (law:∀ ns:List Int,ns.length<=63->∃ fr,p.run n i [.lst (ns.map D.int)] = .ok (.bl true,fr)) :
  PySem.W.WalkO q loose XP YP l.row.toRowW d [] (fun f vs=>PySem.call f vs):=by
 refine L2.Ab (n:=63) (k:=n) (x:=x) (CX:=fun _=>Cy) (sp:=fun w=>Cg (K w.params) 1 (p.run n i)) hn (by decide) hdf hr hY (fun w mg fa h KX G hm=>?_) (fun w H a ns hl _ hS=>?_) fun _ _ _ _ _ z=>z
 .have I:=(st w).isin KX G;obtain⟨f,fd,F,m⟩:=I.fn i e hd;rw[hnm,m] at hm;obtain rfl:f=fa:=by cases hm;rfl
  refine⟨fd,fun s u=>?_,fun base kb nb=>?_⟩
  .obtain⟨oc,od,kV,doc,pm,an,cdv,ct,osl,rfl,lk,hcd⟩:=F.ex;have:=(hX ok e (List.mem_of_getElem? hd)).bd kV doc pm an cdv ct [u] (by rw[hps];rfl);rw[hps] at this;exact .of_eq this
  .have:=CS (P:=l.prog) (w:=w) (base:=base) (hX ok) I (hH w) n i e hd f fd F;rw[hps] at this;exact this
 .obtain⟨fr,h⟩:=law ns hl;exact CJ (hL w) hS h
end Pc
end
section
namespace Pc
open PySem
theorem aA {α β:Type}(a:α)(f:α->Rs β):(Rs.ok a).bind f=f a:=rfl
theorem bO {α:Type}(env:En)(a:α)(k:α->Fl):fI env (.ok a) k=k a:=rfl
theorem aD (e:En)(k:En->Fl):(Fl.nx e).andThen k=k e:=rfl
theorem then_rt (d:D)(b:Bool)(k:En->Fl):(Fl.rt d b).andThen k = .rt d b:=rfl
theorem bR {α:Type}(a:α):kj (some a) = .ok a:=rfl
theorem gZ (op:Operator)(i j:Int):lj op (.int i) (.int j)=(Pc.binI op i j).map .int:=by cases op<;>rfl
theorem jR (i:Int)(R:List Nat):dO (.int i) R = .mv []:=rfl
theorem jo:∀ l:List Int,D.flats (l.map D.int)=true
 |[]=>rfl
 |_::r=>jo r
theorem iY (l:List Int)(R:List Nat):dO (.lst (l.map D.int)) R = .mv []:=by
 unfold dO;rw[if_pos];exact jo l
theorem mT:∀ l:List Int,allB (l.map fun _=>D.bl true)=some true
 |[]=>rfl
 |_::r=>mT r
theorem vd:∀ l:List Int,(l.map fun _=>D.bl true).all D.isBl=true
 |[]=>rfl
 |_::r=>by simp[D.isBl]
noncomputable def cX:Int->Int->Nat->List Int
 |_,_,0=>[]
 |a,s,n+1=>a::cX (a+s) s n
theorem iJ:∀(a s:Int) (n:Nat),bK a s n=(cX a s n).map D.int
 |_,_,0=>rfl
 |a,s,n+1=>by rw[bK,cX,ao,iJ]
end Pc
end
section
namespace Pc
open PySem PySem.Spec PyProof.Rows L2
variable {K:Frag}{oc:Value}{od:Option Addr}{sl:Array (Option Value)}
theorem bI {d:Df}{f:Addr}{kV dc pm:Value}{an:Option Addr}{cd ct:Value}
 (a:PySem.W.nsIn K mainGlobals d.nm=some (some (.ref f))) (l:K.lookup f=some ⟨oc,od,.func (PySem.W.fnOf d.nm d.nm (eM d.st) (cR d.st) (aT d.st) .none kV dc pm an cd ct),sl⟩) (c:PySem.W.codeIn K cd d.nm=true) (k:PySem.W.keepIn K (.ref f)=true):Has K d :=
 ⟨f,oc,od,kV,dc,pm,an,cd,ct,sl,a,l,c,k⟩
variable {x:Str}
theorem gl_int {i:Int}{t:Tok}(h:PySem.W.nsIn K mainGlobals x=some (some (.int i t))):lP K x (.int i):=⟨.int i,_,h,⟨t,rfl⟩,fun _=>.int i⟩
variable {a:Addr}
theorem qY {its:Array Value}{n:Nat}{ds:List D}{vs:List V}(h:PySem.W.nsIn K mainGlobals x=some (some (.ref a)))
  (l:K.lookup a=some ⟨oc,od,.seq its n,sl⟩) (c:oc = .type "tuple") (hz:its.size<=sizeLine) (hv:aL vs its.toList) (hr:∀ H,aG K H ds vs []) (hp:yN vs=false:=by rfl):lP K x (.tup ds) :=
 ⟨.ref a,_,h,rfl,fun H=>.tup (.inr ⟨hp,_,its,n,l,c,rfl,hz,hv⟩) (hr H)⟩
theorem CQ {es:Array DictEntry}{ep:Nat}{kvs:List (Key×Option Int)}(h:PySem.W.nsIn K mainGlobals x=some (some (.ref a)))
  (l:K.lookup a=some ⟨oc,od,.dict es ep,sl⟩) (c:oc = .type "dict"/\od=none/\sl = #[]) (he:fN es.toList kvs) (hn:(kvs.map (·.1)).Nodup):lP K x (.dct kvs) :=
 ⟨.ref a,_,h,rfl,fun H=>.dct ⟨_,es,ep,l,c,rfl,he,hn⟩⟩
noncomputable def oE (K:Frag)(g:Nat->D):Nat->List Str->Prop
 |_,[]=>True
 |i,x::r=>lP K x (g i)/\oE K g (i+1) r
variable {g:Nat->D}
theorem qF:∀{l:List Str}{k i:Nat}{x:Str},oE K g k l->idxOf l x=some i->lP K x (g (k+i))
 | y::r,k,i,x,⟨h1,h2⟩,e=>by
  unfold idxOf at e;by_cases hx:y=x
  .rw[if_pos hx] at e;cases e;subst hx;exact h1
  .rw[if_neg hx,aa] at e;obtain⟨j,hj,rfl⟩:=e;have:=qF h2 hj;rw[show k+1+j=k+(j+1) by omega] at this;exact this
theorem A7 {l:List Str}(h:oE K g 0 l):∀ i x,idxOf l x=some i->lP K x (g i):=fun i x e=>by
 have:=qF h e
 rwa [i6] at this
end Pc
end
section
namespace Pc.Hd
open PySem PySem.W L2
noncomputable def sv (x:String)(t:Tok):Value:=.str (Str.ofString x) t
noncomputable def kv (P:Params)(x:String)(t:Tok)(v:Value):DictEntry:=⟨PyData.keyHash P (Str.ofString x),sv x t,v⟩
noncomputable def xP:Stmt->Str
 |.FunctionDef n ..=>n
 |_=>Str.ofString ""
noncomputable def fo (a:Addr)(s:Stmt)(m c:Value):Addr×Obj:=(a,⟨.type "function",none,.func { name:=xP s,qualname:=xP s,params:=eM s,body:=.stmts (cR s),scope:=aT s,globals:=mainGlobals,closure:=[],defaults:=.none,kwdefaults:=.none,pyModule:=m,code:=c },#[]⟩)
noncomputable def co (a:Addr)(vs:Array Value):Addr×Obj:=(a,⟨.type "code",none,.fields vs,#[]⟩)
noncomputable def tu (a:Addr)(vs:Array Value):Addr×Obj:=(a,⟨.type "tuple",none,.seq vs 0,#[]⟩)
noncomputable def di (a:Addr)(es:Array DictEntry)(n:Nat):Addr×Obj:=(a,⟨.type "dict",none,.dict es n,#[]⟩)
end Pc.Hd
end
section
namespace K33
open PySem Pc
noncomputable def b0:bW:=(.cons (.ret (.comp 1 [0] (.nm 0) (.rng3 (.bin .Sub Hi GV) (.neg GV) (.neg GV)) .none (.bin .BitAnd (.bin .RShift Hi Hj) GV)))
  .nil)
noncomputable def b1:bW:=(.cons (.asg (.nm 1) (.bin .Add (.blt .lrng (Hz Hx)) (.blt .lrng (HA (.bin .Sub Hj Hx) Hj))) false)
  (.cons (.asg (.nm 2) (.lst .nil) false)
  (.cons (.forr (.nm 3) (.seq Hi) (.cons (.forr (.nm 4) (.seq Hi) (.cons (.mut 2 .none .append (Hz (.tup (HB Hk Hl (.call 2 (HB Hj Hk Hl))))))
  .nil))
  .nil))
  (.cons (.ret Hm)
  .nil))))
noncomputable def b2:bW:=(.cons (.asg (.nm 3) (.blt .min2 (HA (.call 3 (HA Hj Hi)) (.call 3 (HA Hj Hm)))) false)
  (.cons (.ite (.cmp .GtE Hi Hx) (.cons (.ret (.ix (.glb 5) Hk))
  .nil) .nil)
  (.cons (.ite (.cmp .GtE Hm Hx) (.cons (.ret (.ix (.glb 4) Hk))
  .nil) .nil)
  (.cons (.ret (.ix (.glb 3) Hk))
  .nil))))
noncomputable def b3:bW:=(.cons (.asg (.nm 2) (.ite (.cmp .Lt Hi Hx) Hi (.bin .Sub Hi (.bin .Sub Hj Hx))) false)
  (.cons (.ret (.blt .min2 (HA Hm (.bin .Sub (.bin .Sub Hx GV) Hm))))
  .nil))
noncomputable def b4:bW:=(.cons (.asg (.nm 1) (.lst (Hz (.tup (HB (.bin .Sub Hj GW) (.bin .Sub Hj GW) (.glb 0))))) false)
  (.cons (.forr (.nm 2) (.rng2 Hx (.bin .Sub Hj Hx)) (.cons (.asg (.nm 3) (.ite (.cmp .Eq (.bin .Mod Hm GX) GY) (.glb 0) (.glb 1)) false)
  (.cons (.mut 1 .none .append (Hz (.tup (HB GY Hm Hk))))
  (.cons (.mut 1 .none .append (Hz (.tup (HB Hm GY Hk))))
  .nil))))
  (.cons (.ret (.blt .sorted (Hz Hi)))
  .nil)))
noncomputable def b5:bW:=(.cons (.asg (.nm 1) (.comp 1 [] (.nm 0) (.rng1 (.glb 7)) .none (.tup (HA (.glb 6) (.bin .Add GV Hj)))) false)
  (.cons (.asg (.nm 2) (.comp 1 [0] (.nm 0) (.rng1 (.glb 7)) .none (.tup (HA (.bin .Sub (.bin .Sub Hi GV) Hj) (.glb 6)))) false)
  (.cons (.ret (.bin .Add Hi Hm))
  .nil)))
noncomputable def b6:bW:=(.cons (.asg (.nm 1) (.call 7 (Hz Hj)) false)
  (.cons (.ret (.comp 1 [1] (.nm 0) (.seq (.call 8 (Hz Hj))) (.some (.cmp .NotIn Hj Hi)) Hj))
  .nil))
noncomputable def b7:bW:=(.cons (.asg (.nm 1) .dnew false)
  (.cons (.forr (.tp [2,3,4]) (.seq (.bin .Add (.call 1 (Hz Hj)) (.call 4 (Hz Hj)))) (.cons (.putd 1 (.tup (HA Hm Hk)) (.cst (.bl true)))
  .nil))
  (.cons (.forr (.nm 5) (.seq (.call 5 (Hz Hj))) (.cons (.putd 1 Hn (.cst (.bl true)))
  .nil))
  (.cons (.ret Hi)
  .nil))))
noncomputable def b8:bW:=(.cons (.asg (.nm 1) (.lst .nil) false)
  (.cons (.asg (.nm 2) (.cst (.bl false)) false)
  (.cons (.forr (.nm 3) (.rng3 GY Hj (.glb 8)) (.cons (.forr (.nm 4) (.rng1 Hj) (.cons (.asg (.nm 5) (.ite Hm (.bin .Sub (.bin .Sub Hj GV) Hl) Hl) false)
  (.cons (.forr (.nm 6) (.rng2 Hk (.blt .min2 (HA (.bin .Add Hk (.glb 8)) Hj))) (.cons (.mut 1 .none .append (Hz (.tup (HA Ho Hn))))
  .nil))
  .nil)))
  (.cons (.asg (.nm 2) (.not Hm) false)
  .nil)))
  (.cons (.ret Hi)
  .nil))))
noncomputable def b9:bW:=(.cons (.asg (.nm 1) (.lst .nil) false)
  (.cons (.forr (.nm 2) (.seq Hj) (.cons (.mut 1 .none .extend (Hz (.call 0 (HA Hm Hy))))
  .nil))
  (.cons (.ret Hi)
  .nil)))
noncomputable def BJ:bW:=(.cons (.asg (.nm 2) (.bin .Add (.bin .Mult (.glb 10) Hj) Hi) false)
  (.cons (.ret (.comp 1 [2] (.nm 0) (.rng1 (.glb 11)) .none (.bin .Mod (.bin .Add Hi (.call 11 (HA Hj (.bin .FloorDiv Hi GX)))) GX)))
  .nil))
noncomputable def Bx:bW:=(.cons (.ret (.blt .sum (Hz (.call 0 (HA (.bin .BitAnd Hj Hi) (.glb 12))))))
  .nil)
noncomputable def b12:bW:=(.cons (.ite (.cmp .Eq Hj GY) (.cons (.ret (.cmp .Eq (.bin .Mod Hi GX) GY))
  .nil) .nil)
  (.cons (.ite (.cmp .Eq Hj GV) (.cons (.ret (.cmp .Eq (.bin .Mod Hm GX) GY))
  .nil) .nil)
  (.cons (.ite (.cmp .Eq Hj GX) (.cons (.ret (.cmp .Eq (.bin .Mod (.bin .Add Hi Hm) GX) GY))
  .nil) .nil)
  (.cons (.ite (.cmp .Eq Hj GZ) (.cons (.ret (.cmp .Eq (.bin .Mod (.bin .Add Hi (.bin .Mult GX Hm)) GZ) GY))
  .nil) .nil)
  (.cons (.ite (.cmp .Eq Hj G4) (.cons (.ret (.cmp .Eq (.bin .Mod (.bin .Add (.bin .FloorDiv Hi GZ) (.bin .FloorDiv Hm GX)) GX) GY))
  .nil) .nil)
  (.cons (.ite (.cmp .Eq Hj G5) (.cons (.ret (.cmp .Eq (.bin .Mod (.bin .Mod (.bin .Mult Hi Hm) G5) GX) GY))
  .nil) .nil)
  (.cons (.ite (.cmp .Eq Hj GW) (.cons (.ret (.cmp .Lt (.bin .Mod (.bin .Add (.bin .Mult Hi Hi) Hm) G4) GX))
  .nil) .nil)
  (.cons (.ret (.cmp .Lt (.bin .Mod (.bin .Add Hi (.bin .Mult Hm Hm)) G6) GZ))
  .nil))))))))
noncomputable def b13:bW:=(.cons (.asg (.nm 5) (.comp 1 [1] (.nm 0) (.rng1 Hi) .none (.bin .Mult (.lst (Hz GY)) Hi)) false)
  (.cons (.forr (.tp [4,6,7]) (.seq (.bin .Add (.call 14 (HB Hi Hm Hk)) (.call 15 (HB Hj Hi Hk)))) (.cons (.setix 5 (.some Hl) Ho Hq)
  .nil))
  (.cons (.ret Hn)
  .nil)))
noncomputable def b14:bW:=(.cons (.asg (.nm 3) (.bin .Add (.call 1 (Hz Hj)) (.call 4 (Hz Hj))) false)
  (.cons (.forr (.tp [4,5]) (.zip (.call 5 (Hz Hj)) (.call 10 (HA Hi Hm))) (.cons (.mut 3 .none .append (Hz (.tup (HB (.ix Hl GY) (.ix Hl GV) Hn))))
  .nil))
  (.cons (.ret Hk)
  .nil)))
noncomputable def b15:bW:=(.cons (.asg (.nm 3) (.call 6 (Hz Hi)) false)
  (.cons (.asg (.nm 4) (.call 9 (Hz Hj)) false)
  (.cons (.mut 4 .none .extend (Hz (.bin .Mult (.lst (Hz GY)) (.bin .Sub (HD Hk) (HD Hl)))))
  (.cons (.ret (.comp 2 [2] (.tp [0,1]) (.zip Hk Hl) .none (.tup (HB (.ix Hj GY) (.ix Hj GV) (.call 16 (HB Hi Hm Hj))))))
  .nil))))
noncomputable def b16:bW:=(.cons (.ite (.and (.cmp .IsNot Hj (.cst .non)) (.call 12 (HB Hi (.ix Hm GY) (.ix Hm GV)))) (.cons (.ret (.bin .Sub GV Hj))
  .nil) .nil)
  (.cons (.ret Hj)
  .nil))
noncomputable def b17:bW:=(.cons (.asg (.nm 3) Hi false)
  (.cons (.ite (.cmp .Gt (HD Hj) GY) (.cons (.asg (.nm 3) (.ix Hj (.bin .Mod Hi (HD Hj))) false)
  .nil) .nil)
  (.cons (.ret (.bin .Mod (.bin .Add (.bin .Add (.bin .Add (.bin .Mult (.bin .Mod Hk (Hh 1000000007)) (Hh 69621)) (.bin .Mult (.bin .Mult Hi Hi) (Hh 7919))) (.bin .Mult G5 Hi)) (Hh 1234567)) Hm))
  .nil)))
noncomputable def b18:bW:=(.cons (.asg (.nm 2) (.bin .Mod (.bin .FloorDiv (.call 17 (HB Hj GZ (Hh 2147483629))) G6) G7) false)
  (.cons (.asg (.nm 3) (.lst .nil) false)
  (.cons (.forr (.nm 4) (.rng1 Hi) (.cons (.asg (.nm 5) (.bin .Mod (.bin .FloorDiv (.call 17 (HB Hj (.bin .Add G4 Hl) (Hh 2147483587))) (Hh 11)) G8) false)
  (.cons (.ite (.cmp .Eq Hm GV) (.cons (.asg (.nm 5) GY false)
  .nil) .nil)
  (.cons (.ite (.cmp .Eq Hm GX) (.cons (.asg (.nm 5) (Hh 63) false)
  .nil) .nil)
  (.cons (.ite (.cmp .Eq Hm GZ) (.cons (.asg (.nm 5) (.ix (.lst (HA G9 Ha)) (.bin .Mod Hl GX)) false)
  .nil) .nil)
  (.cons (.mut 3 .none .append (Hz Hn))
  .nil))))))
  (.cons (.ret Hk)
  .nil))))
noncomputable def b19:bW:=(.cons (.asg (.nm 1) GY false)
  (.cons (.forr (.nm 2) (.seq Hj) (.cons (.asg (.nm 1) (.bin .Add (.bin .Mult GX Hi) Hm) false)
  .nil))
  (.cons (.ret Hi)
  .nil)))
noncomputable def b20:bW:=(.cons (.asg (.nm 2) (HD Hj) false)
  (.cons (.asg (.nm 3) (.comp 1 [1,0] (.nm 0) (.seq (.call 6 (Hz Hm))) .none (.call 16 (HB (.ix (.ix Hm (.ix Hj GY)) (.ix Hj GV)) Hi Hj))) false)
  (.cons (.asg (.nm 4) (.lst .nil) false)
  (.cons (.asg (.nm 5) (.lst .nil) false)
  (.cons (.forr (.nm 6) (.rng1 (.ix (.glb 13) Hm)) (.cons (.asg (.nm 7) (.sl Hk (.some (.bin .Mult Hy Ho)) (.some (.bin .Mult Hy (.bin .Add Ho GV)))) false)
  (.cons (.ite (.cmp .In (.cst .non) Hq) (.cons (.mut 5 .none .append (Hz Ho))
  (.cons (.mut 4 .none .append (Hz GY))
  .nil)) (.cons (.mut 4 .none .append (Hz (.call 19 (Hz Hq))))
  .nil))
  .nil)))
  (.cons (.ret (.tup (HA Hl Hn)))
  .nil))))))
noncomputable def b21:bW:=(.cons (.asg (.nm 4) (.comp 1 [] (.nm 0) (.seq Hj) .none (.blt .list (Hz Hj))) false)
  (.cons (.asg (.nm 6) (.bin .Add (.comp 3 [] (.tp [0,1,2]) (.seq (.bin .Add (.call 1 (Hz Hi)) (.call 4 (Hz Hi)))) .none (.tup (HA Hj Hi))) (.call 5 (Hz Hi))) false)
  (.cons (.forr (.tp [7,8]) (.enum Ho) (.cons (.ite (.cmp .Eq (.bin .Mod (.bin .FloorDiv Hm GX) GX) GV) (.cons (.setix 4 (.some (.ix Hr GY)) (.ix Hr GV) (.ix (.lst (HB (.cst .non) GY GV)) (.bin .Mod (.bin .Add Hm (.bin .Mult Hq Hq)) GZ)))
  .nil) .nil)
  .nil))
  (.cons (.asg (.nm 9) (.call 6 (Hz Hi)) false)
  (.cons (.forr (.tp [3,5]) (.seq (.sl Hs (.some (.bin .Mult (.bin .FloorDiv (HD Hs) GW) GW)) .none)) (.cons (.setix 4 (.some Hk) Hn (.ix (.lst (HA (.bin .Sub GV (.ix (.ix Hj Hk) Hn)) (.cst .non))) (.bin .Mod (.bin .FloorDiv Hm G4) GX)))
  .nil))
  (.cons (.ret Hl)
  .nil))))))
noncomputable def b22:bW:=(.cons (.ret (.and (.blt (.isi "list") (Hz Hj)) (.blt .all (Hz (.comp 1 [] (.nm 0) (.seq Hj) .none (.and (.blt (.isi "int") (Hz Hj)) (.not (.blt (.isi "bool") (Hz Hj)))))))))
  .nil)
noncomputable def b23:bW:=(.cons (.asg (.nm 1) (.call 17 (HB Hj GV (Hh 2147483647))) false)
  (.cons (.asg (.nm 2) (.bin .Mod (.bin .FloorDiv Hi GZ) G5) false)
  (.cons (.asg (.nm 3) (.ix (.lst (.cons Hb (HC Hc He Hf Hg))) Hm) false)
  (.cons (.asg (.nm 4) (.bin .Mod (.bin .FloorDiv Hi (Hh 60)) G7) false)
  (.cons (.asg (.nm 5) (.call 18 (HA Hj (.ix (.lst (.cons (Hh 16) (HC (Hh 37) G8 (Hh 96) (Hh 133)))) Hm))) false)
  (.cons (.asg (.nm 6) (.call 13 (HC (.blt .list (Hz Hn)) Hk (.bin .Mod (.bin .FloorDiv Hi Hb) G4) Hl)) false)
  (.cons (.ite (.cmp .NotEq (.call 20 (HA Ho Hl)) (.tup (HA Hn (.lst .nil)))) (.cons (.ret (.cst (.bl false)))
  .nil) .nil)
  (.cons (.asg (.nm 7) (.call 21 (HB Ho Hk (.call 17 (HB Hj GX (Hh 2147483563))))) false)
  (.cons (.asg (.nm 8) (.call 6 (Hz Hk)) false)
  (.cons (.asg (.nm 9) (.lst .nil) false)
  (.cons (.forr (.nm 10) (.rng1 (.bin .Mod (.bin .FloorDiv (.call 17 (HB Hj GY (Hh 2147483549))) G5) (Hh 13))) (.cons (.asg (.nm 11) (.bin .Mod (.bin .FloorDiv (.call 17 (HB Hj (.bin .Add (Hh 200) (.var 10)) (Hh 2147483543))) G6) (.bin .Mult GW (HD Hn))) false)
  (.cons (.setix 7 (.some (.ix (.ix Hr Ht) GY)) (.ix (.ix Hr Ht) GV) (.cst .non))
  (.cons (.mut 9 .none .append (Hz (.bin .FloorDiv Ht GW)))
  .nil))))
  (.cons (.asg (.nm 12) (.comp 1 [] (.nm 0) (.seq Hq) .none (.blt .list (Hz Hj))) false)
  (.cons (.asg (.nm 13) (.call 20 (HA Hu Hl)) false)
  (.cons (.ite (.or (.cmp .NotEq Hu Hq) (.or (.not (.blt (.isi "tuple") (Hz Hv))) (.cmp .NotEq (HD Hv) GX))) (.cons (.ret (.cst (.bl false)))
  .nil) .nil)
  (.cons (.ite (.or (.not (.call 22 (Hz (.ix Hv GY)))) (.or (.not (.call 22 (Hz (.ix Hv GV)))) (.cmp .NotEq (.ix Hv GV) (.app Pc.gJ (Hz Hs))))) (.cons (.ret (.cst (.bl false)))
  .nil) .nil)
  (.cons (.asg (.nm 14) (.comp 1 [9,5] (.nm 0) (.rng1 (HD Hn)) .none (.ite (.cmp .In Hj Hi) GY (.ix Hm Hj))) false)
  (.cons (.ite (.cmp .NotEq (.ix Hv GY) Hw) (.cons (.ret (.cst (.bl false)))
  .nil) .nil)
  (.cons (.setix 13 (.some GY) GY G8)
  (.cons (.mut 13 (.some GV) .append (Hz GY))
  (.cons (.setix 12 (.some GY) GY (.cst .non))
  (.cons (.ret (.cmp .Eq (.call 20 (HA Hu Hl)) (.tup (HA Hw (.app Pc.gJ (Hz Hs))))))
  .nil)))))))))))))))))))))
noncomputable def fns:List Fn:=[⟨2,2,b0⟩,⟨1,5,b1⟩,⟨3,4,b2⟩,⟨2,3,b3⟩,⟨1,4,b4⟩,⟨1,3,b5⟩,⟨1,2,b6⟩,⟨1,6,b7⟩,⟨1,7,b8⟩,⟨1,3,b9⟩,⟨2,3,BJ⟩,⟨2,2,Bx⟩,⟨3,3,b12⟩,⟨4,8,b13⟩,⟨3,6,b14⟩,⟨3,5,b15⟩,⟨3,3,b16⟩,⟨3,4,b17⟩,⟨2,6,b18⟩,⟨1,3,b19⟩,⟨2,8,b20⟩,⟨3,10,b21⟩,⟨1,1,b22⟩,⟨1,15,b23⟩]
noncomputable def gl:Nat->D
 |0=>.int 1
 |1=>.int 0
 |2=>.int 5
 |3=>.tup [.int 1,.int 0,.int 1]
 |4=>.tup [.int 1,.int 1,.int 0]
 |5=>.tup [.int 0,.int 1,.int 0]
 |6=>.int 5
 |7=>.int 8
 |8=>.int 3
 |9=>.int 6
 |10=>.int 8
 |11=>.int 16
 |12=>.int 4
 |13=>.dct [(.inl 15,some 16),(.inl 19,some 37),(.inl 23,some 64),(.inl 27,some 96),(.inl 31,some 133)]
 |_=>.non
noncomputable abbrev T (n:Nat):Tb:=⟨Pc.run fns gl 1000 n,gl,1000⟩
theorem ui (n:Nat):(T n).cl=Pc.run fns gl 1000 n:=rfl
end K33
end
section
namespace Fl64
noncomputable def dbl (a:Nat):Nat:=if 64<=2*a then (2*a)^^^67 else 2*a
noncomputable def Gg:Nat->Nat->Nat->Nat->Nat
 |0,p,_,_=>p
 |n+1,p,d,l=>if l=0 then p else Gg n (if l%2=1 then p^^^d else p) (dbl d) (l / 2)
noncomputable def tm (a b:Nat):Nat:=Gg 6 0 a b
noncomputable def allB (n:Nat)(f:Nat->Bool):Bool:=match n with
 |0=>true
 |k+1=>f k&&allB k f
theorem jS:∀{n:Nat}{f:Nat->Bool},allB n f=true->∀ i,i<n->f i=true
 |0,_,_,i,h=>absurd h (ja i)
 | k+1,f,h,i,hi=>by
  unfold allB at h;rw[ag] at h;rcases Nat.lt_succ_iff_lt_or_eq.mp hi with q | q
  .exact jS h.2 i q
  .subst q;exact h.1
end Fl64
end
section
namespace Pc
open PySem
noncomputable abbrev sI (i:Int):Slot:=some (.int i,.own)
noncomputable abbrev sN (i:Nat):Slot:=some (.int (i:Int),.own)
noncomputable def ret (f:Fl):Rs (D×Bool):=match f with
 |.rt d fr=>.ok (d,fr)
 |.nx _=>.ok (.non,true)
 |.xc e _=>.exc e
 |_=>.bad
variable {i n:Nat}
theorem cU {fns:List Fn}{gl:Nat->D}{fuel:Nat}{F:Fn}{ds:List D}(h:fns[i]? = some F)(hl:ds.length=F.ps):Pc.run fns gl fuel (n+1) i ds=ret (aE ⟨Pc.run fns gl fuel n,gl,fuel⟩ F.body (aM ds F.slots)):=by
 unfold Pc.run;rw[h];dsimp only;rw[if_pos hl];rfl
noncomputable abbrev sS (S:List D):Slot:=some (.lst S,.sh [])
theorem hW {x:Int}(h0:0<=x)(h1:x<2147483648):small x=true:=c9 ⟨by omega,by omega⟩
theorem wL {k:Nat}(h:k<n):fU n (k:Int)=some k:=by
 unfold fU;rw[if_pos (by omega),if_pos (by omega),cq]
theorem xp (env:En):lock [] env=env:=by
 unfold lock;have:∀(l:En) (k:Nat),(l.mapIdx fun i (s:Slot)=>match s with
  | some (d,.own)=>if ([]:List Nat).contains i then some (d,.lk) else some (d,.own)
  |s=>s)=l:=fun l k=>by
  rw[List.mapIdx_eq_iff];intro i;cases h:l[i]? with
  |none=>rfl
  |some s =>
   cases s with
   |none=>rfl
   |some p=>obtain⟨d,t⟩:=p;cases t<;>rfl
 exact this env 0
theorem rT (e0 env:En):unlock [] e0 env=env:=by
 unfold unlock;rw[List.mapIdx_eq_iff];intro i;cases h:env[i]? with
 |none=>rfl
 |some s =>
  cases s with
  |none=>rfl
  |some p =>
   obtain⟨d,t⟩:=p;cases t with
   |lk =>
    simp only[Option.map_some];split<;>rfl
   |own=>rfl
   |sh R=>rfl
variable {T:Tb}{b:bW}{env:En}{it:qM}{l:List D}{t:kz}
theorem dD {e:En}(hit:dM T it env = .ok (l,[]))(h:bQ t [] (aE T b) l env = .nx e):aQ T (.forr t it b) env = .nx e:=by
 rw[aQ,hit,bO];dsimp only;rw[xp,h];dsimp only;rw[rT]
noncomputable abbrev sq (M:List (List D)):D:=.lst (M.map D.lst)
noncomputable def md:D->Bool
 |.int _=>true
 |.non=>true
 |_=>false
structure iV (n:Nat)(M:List (List D)):Prop where
 len:M.length=n
 row:∀ r∈M,r.length=n
 cell:∀ r∈M,∀ d∈r,md d=true
noncomputable def ent (M:List (List D))(r c:Nat):D:=(M.getD r []).getD c .non
theorem jZ:∀{l:List D},D.flats l=true↔∀ d∈l,d.flat=true
 |[]=>by simp[D.flats]
 |d::r=>by simp[D.flats,jZ (l:=r)]
variable {d:D}
theorem kQ (h:md d=true):d.flat=true:=by
 cases d<;>simp_all [md,D.flat]
variable {M:List (List D)}
theorem iV.flat (h:iV n M):∀ r∈M,D.flats r=true:=fun r hr=>jZ.mpr fun d hd=>kQ (h.cell r hr d hd)
theorem C0 (h:md d=true)(k:Nat):D.eqf (k+1) d d=some true:=by
 cases d<;>simp_all [md,D.eqf]
theorem gM {f:D->D->Option Bool}:∀{l:List D},(∀ d∈l,f d d=some true)->rC f l l=some true
 |[],_=>rfl
 | d::r,h=>by
  rw[rC,h d ai,gM fun x hx=>h x (ah _ hx)];rfl
theorem FK (h:iV n M):D.eqf 40 (sq M) (sq M)=some true:=by
 unfold sq;rw[D.eqf,if_pos rfl];refine gM fun d hd=>?_
 obtain⟨r,hr,rfl⟩:=List.mem_map.mp hd;rw[D.eqf,if_pos rfl];exact gM fun x hx=>C0 (h.cell r hr x hx) _
theorem jD (h:iV n M){r c:Nat}(hr:r<n)(hc:c<n):∃ row,M[r]? = some row/\row.length=n/\row[c]? = some (ent M r c)/\M.getD r []=row:=by
 have h1:r<M.length:=by rw[h.len];exact hr
 have h2:(M[r]).length=n:=h.row _ (ft h1);have h3:M.getD r []=M[r]:=by rw[List.getD_eq_getElem?_getD,List.getElem?_eq_getElem h1];rfl
 refine⟨M[r],List.getElem?_eq_getElem h1,h2,?_,h3⟩;unfold ent;rw[h3,List.getD_eq_getElem?_getD,List.getElem?_eq_getElem (by omega)];rfl
theorem lG {f:D->Rs (Option (D×Rt))}{g:D->D×Rt}:∀{l:List D},(∀ d∈l,f d = .ok (some (g d)))->dP f l = .ok (l.map g)
 |[],_=>rfl
 | d::l,h=>by
  simp only[List.map_cons,dP];rw[h d ai,lG fun j hj=>h j (ah _ hj)];rfl
theorem oU {T:Tb}{own:Nat}{pick:List Nat}{t:kz}{e:Ex}{R:List Nat}{g:D->D×Rt}(hit:dM T it env = .ok (l,R))(hl:l.length<=lim)(hg:∀ d∈l,bB (aW [] t d (bM env own pick)) (lr T .none) (ev T e) = .ok (some (g d)))(hf:∀ d∈l,((g d).1.flat || eK (g d).2)=true) :
  ev T (.comp own pick t it .none e) env = .ok (.lst (l.map fun d=>(g d).1),.mv []):=by
 rw[ev,hit,aA,lG hg,aA];dsimp only;rw[if_pos hl,if_pos]
 .rw[cz];rfl
 .rw[List.all_map,cu];exact hf
theorem hZ (h:D.flats l=true)(R:List Nat):dO (.lst l) R = .mv []:=by
 unfold dO;rw[if_pos];exact h
variable {e:Ex}
theorem hJ (h:ev T e env = .ok (d,.mv [])):ret (aE T (.cons (.ret e) .nil) env) = .ok (d,true):=by
 rw[aE,aQ,h,bO];rfl
theorem kd (h:n<=1000):n<=lim:=br h (by decide)
theorem zi (T:Tb)(env:En)(e:Ex)(j:Int)(r:Rt)(he:ev T e env = .ok (.int j,r))(h1:fJ j=true):dM T (.rng1 e) env = .ok (bK 0 1 j.toNat,[]):=by
 rw[dM,he,aA];show (if fJ j=true then Rs.ok (bK 0 1 j.toNat,[]) else .bad)=_;rw[if_pos h1]
theorem Fd (h:n<=1000):fJ (n:Int)=true:=by
 unfold fJ;exact c9 ⟨Int.le_trans (by decide) (Int.natCast_nonneg n),Int.lt_of_le_of_lt (Int.ofNat_le.mpr h) (by decide)⟩
def aH (s:Slot):Prop:=s=none\/(∃ d,s=some (d,.own))\/(∃ d,s=some (d,.sh []))\/∃ d,s=some (d,.lk)
def Tame (env:En):Prop:=∀ s∈env,aH s
theorem aS:aH none:=.inl rfl
theorem aC (d:D):aH (some (d,.own)):=.inr (.inl ⟨d,rfl⟩)
theorem bE (d:D):aH (some (d,.sh [])):=.inr (.inr (.inl ⟨d,rfl⟩))
theorem Bd (d:D):aH (some (d,.lk)):=.inr (.inr (.inr ⟨d,rfl⟩))
theorem Tame.nil:Tame []:=fun _ h=>(nomatch h)
theorem Tame.cons {s:Slot}{e:En}(h:aH s)(t:Tame e):Tame (s::e):=fun x hx=>by
 rcases cg.mp hx with rfl | hx
 .exact h
 .exact t x hx
theorem Tame.set {e:En}{s:Slot}(t:Tame e)(h:aH s)(i:Nat):Tame (e.set i s):=fun x hx=>by
 rcases fi hx with q | q
 .exact t x q
 .rw[q];exact h
theorem eQ (h:Tame env)(i:Nat)(d:D)(t:Tg):put env i d t=env.set i (some (d,t)):=by
 unfold put;have:env.map (fun (s:Slot)=>s.map fun (p:D×Tg)=>(p.1,p.2.drop i))=env:=by
  conv=>rhs;rw[<-List.map_id env]
  refine ij fun s hs=>?_
  rcases h s hs with rfl | ⟨d,rfl⟩ | ⟨d,rfl⟩ | ⟨d,rfl⟩<;>rfl
 rw[this]
theorem uO (h:Tame env)(R:List Nat):kill R env=env.mapIdx fun i s=>if R.contains i then none else s:=by
 unfold kill;apply List.ext_getElem?;intro i;rw[List.getElem?_mapIdx,List.getElem?_mapIdx];cases q:env[i]? with
 |none=>rfl
 |some s =>
  rcases h s (List.mem_of_getElem? q) with rfl | ⟨d,rfl⟩ | ⟨d,rfl⟩ | ⟨d,rfl⟩
  .simp
  .simp[iN]
  .simp[iN]
  .simp[iN]
theorem gN (h:Tame env)(x:Nat)(s:Slot):(kill [x] env).set x s=env.set x s:=by
 rw[uO h];apply List.ext_getElem?;intro i;by_cases hi:i=x
 .subst hi;by_cases hl:i<env.length
  .rw[List.getElem?_set_self (by simpa using hl),List.getElem?_set_self hl]
  .rw[List.getElem?_eq_none (by simp;omega),List.getElem?_eq_none (by simp;omega)]
 .rw[List.getElem?_set_ne (df hi),List.getElem?_set_ne (df hi),List.getElem?_mapIdx];cases q:env[i]? with
  |none=>rfl
  |some s=>simp[hi]
variable {R R':Rt}{a:Ex}{d':D}{x:Nat}
section
variable {T:Tb}{env:En}
theorem aO {d:D}(ht:Tame env)(hi:i<env.length)(h:ev T e env = .ok (d,.mv [])):aQ T (.asg (.nm i) e false) env = .nx (env.set i (some (d,.own))):=by
 rw[aQ,h,bO];show (if i<env.length then Fl.nx (put env i d .own) else .bad)=_;rw[if_pos hi,eQ ht]
theorem dX (ht:Tame env)(hi:i<env.length):aW [] (.nm i) d env=some (env.set i (some (d,bJ d []))):=by
 show (if i<env.length then some (put env i d (bJ d [])) else none)=_;rw[if_pos hi,eQ ht]
theorem aV {i:Nat}{d:D}(h:env[i]? = some (some (d,.own)))(hf:d.flat=false):ev T (.var i) env = .ok (d,.mv [i]):=by
 rw[ev,h];dsimp only;rw[hf];rfl
theorem aB {i:Nat}{d:D}{t:Tg}(h:env[i]? = some (some (d,t)))(hf:d.flat=true):ev T (.var i) env = .ok (d,.mv []):=by
 rw[ev,h];dsimp only;rw[if_pos hf]
theorem cQ {t:Tg}(h:env[i]? = some (some (d,t))):∃ R,ev T (.var i) env = .ok (d,R):=by
 rw[ev,h];exact⟨_,rfl⟩
theorem qj (xs:List D)(d:D):xj .append xs [d]=some (xs ++ [d]):=rfl
theorem xM (xs ys:List D):xj .extend xs [.lst ys]=if D.flats ys then some (xs++ys) else none:=rfl
theorem gE {x:Nat}{xs:List D}{d:D}(ht:Tame env)(hx:env[x]? = some (some (.lst xs,.own)))(h:ev T e env = .ok (d,.mv []))(hl:xs.length+1<=lim):aQ T (.mut x .none .append (.cons e .nil)) env = .nx (env.set x (some (.lst (xs ++ [d]),.own))):=by
 have ho:ownAt env x=some (.lst xs):=by unfold ownAt;rw[hx]
 have hs:bC T (.cons e .nil) env = .ok [(d,.mv [])]:=by
  rw[bC,h,aA];rfl
 rw[aQ,ho];simp only[iS,bO,D.at1,hs,List.map_cons,List.map_nil,qj,aP,Rt.roots,List.flatten_cons,List.flatten_nil,List.append_nil,List.contains_nil,Bool.false_eq_true,if_false,o9.copies,eZ,dC,Option.map_some];have:(xs ++ [d]).length<=lim:=by rw[aq];exact hl
 simp only[List.nodup_nil,decide_true,eO,List.all_nil,Bool.not_false,Bool.and_self,this,if_true,D.set1,Bool.true_and];rw[gN ht]
theorem wI {p k:Ex}{xs ys:List D}{d:D}{i l:Int}{j m:Nat}(ht:Tame env)(hx:env[x]? = some (some (.lst xs,.own)))(hp:ev T p env = .ok (.int i,R))(hi:Pc.fU xs.length i=some j)(hj:xs[j]? = some (.lst ys))(hk:ev T k env = .ok (.int l,R'))(hm:Pc.fU ys.length l=some m)(h:ev T e env = .ok (d,.mv []))(hl:ys.length<=lim) :
  aQ T (.setix x (.some p) k e) env = .nx (env.set x (some (.lst (xs.set j (.lst (ys.set m d))),.own))):=by
 have ho:ownAt env x=some (.lst xs):=by unfold ownAt;rw[hx]
 have hat:D.at1 (.lst xs) (some i)=some ys:=by simp[D.at1,hi,hj]
 have hll:(ys.set m d).length<=lim:=by rw[cv];exact hl
 rw[aQ,ho];simp only[h,bO,iS,hp,aA,hat,hk,hm,eZ,dC,Option.map_some,List.append_nil,List.nodup_nil,decide_true,eO,List.all_nil,List.contains_nil,Bool.not_false,Bool.and_self,hll,if_true,D.set1,hi,Bool.true_and];rw[gN ht]
theorem ite_ff {c:Ex}{a:bW}(h:ev T c env = .ok (.bl false,R)):aQ T (.ite c a .nil) env = .nx env:=by
 rw[aQ,h,bO];rfl
theorem sF {b:Ex}(h:ev T a env = .ok (.bl false,R))(h':ev T b env = .ok (.bl false,R')):ev T (.or a b) env = .ok (.bl false,R'):=by
 rw[ev,h,aA,h']
theorem yR (h:ev T a env = .ok (.bl true,R)):ev T (.not a) env = .ok (.bl false,.mv []):=by
 rw[ev,h,aA];rfl
theorem x3 (hx:env[x]? = some (some (d,.own))):lock [x] env=env.set x (some (d,.lk)):=by
 unfold lock;apply List.ext_getElem?;intro i;rw[List.getElem?_mapIdx];by_cases hi:i=x
 .subst hi;have hl:i<env.length:=(List.getElem?_eq_some_iff.mp hx).1;rw[List.getElem?_set_self hl,hx];simp
 .rw[List.getElem?_set_ne (df hi)];cases q:env[i]? with
  |none=>rfl
  |some s =>
   cases s with
   |none=>rfl
   |some p =>
    obtain⟨d,t⟩:=p;cases t with
    |own=>simp[hi]
    |lk=>rfl
    |sh R=>rfl
theorem rR {e:En}(hx:env[x]? = some (some (d,.own)))(he:e[x]? = some (some (d',.lk))):unlock [x] env e=e.set x (some (d',.own)):=by
 unfold unlock;apply List.ext_getElem?;intro i;rw[List.getElem?_mapIdx];by_cases hi:i=x
 .subst hi;have hl:i<e.length:=(List.getElem?_eq_some_iff.mp he).1;rw[List.getElem?_set_self hl,he];simp[hx]
 .rw[List.getElem?_set_ne (df hi)];cases q:e[i]? with
  |none=>rfl
  |some s =>
   cases s with
   |none=>rfl
   |some p =>
    obtain⟨d,t⟩:=p;cases t with
    |own=>rfl
    |lk =>
     simp only[Option.map_some];split
     .simp[hi]
     .rfl
    |sh R=>rfl
theorem zV {e:En}{x:Nat}(hx:env[x]? = some (some (d,.own)))(hit:dM T it env = .ok (l,[x]))(h:bQ t [x] (aE T b) l (env.set x (some (d,.lk))) = .nx e)(he:e[x]? = some (some (d',.lk))):aQ T (.forr t it b) env = .nx (e.set x (some (d',.own))):=by
 rw[aQ,hit,bO];dsimp only;rw[x3 hx,h];dsimp only;rw[rR hx he]
theorem j0 {j:Nat}{x y:D}{R:List Nat}(ht:Tame env)(hi:i<env.length)(hj:j<env.length)(fx:x.flat=true)(fy:y.flat=true):aW R (.tp [i,j]) (.tup [x,y]) env=some ((env.set i (some (x,.own))).set j (some (y,.own))):=by
 show bindM (fun d=>bJ d R) [i,j] [x,y] env=_;have tx:bJ x R = .own:=by unfold bJ;rw[if_pos fx]
 have ty:bJ y R = .own:=by unfold bJ;rw[if_pos fy]
 simp only[bindM,hi,if_true,tx,ty];rw[eQ ht,if_pos (by rw[cv];exact hj),eQ (ht.set (aC x) i)]
end
end Pc
end
section
namespace Pc
end Pc
namespace Pc.Sm
open PySem Pc
noncomputable def b6:bW:=(.cons (.ret (.bin .Mod (.bin .Mult (.bin .Add (.bin .Add Hj (.bin .Mult Hi Hi)) GV) Hm) (Hh 2305843009213693951)))
  .nil)
noncomputable def e7:Ex:=.comp 1 [] (.nm 0) (.seq (.sl Hj .none (.some (Hh 63)))) .none (.bin .Mod Hj (Hh 1000003))
noncomputable def b7:bW:=(.cons (.ret (.call 6 (HB (.blt .sum (.cons e7 .nil)) (.bin .Mod (HD Hj) G8) Hi)))
  .nil)
noncomputable def b8:bW:=(.cons (.ret (.ix (.lst (.cons Hb (.cons Hb (.cons Hb (.cons Hc (.cons Hb (.cons Hb (.cons He (.cons Hb (.cons Hc (.cons Hb (.cons Hf (.cons Hb (HC Hb Hc Hb Hg)))))))))))))) (.bin .Mod Hj (Hh 16))))
  .nil)
noncomputable def b9c:bW:=(.cons (.asg (.nm 1) (.bin .Mod (.bin .Mult (.bin .Add Hi Hn) (Hh 40692)) (Hh 2147483399)) false)
  (.cons (.mut 4 .none .append (Hz (.ix (.lst (.cons GY (HC GV GY GV (.cst .non)))) (.bin .Mod (.bin .FloorDiv Hi G6) G5))))
  .nil))
noncomputable def s9:St:=.mut 2 .none .append (Hz Hl)
noncomputable def b9r:bW:=(.cons (.asg (.nm 4) (.lst .nil) false)
  (.cons (.forr (.nm 5) (.rng1 Hj) b9c)
  (.cons s9
  .nil)))
noncomputable def b9:bW:=(.cons (.asg (.nm 2) (.lst .nil) false)
  (.cons (.forr (.nm 3) (.rng1 Hj) b9r)
  (.cons (.ret Hm)
  .nil)))
theorem u3 (p:D×Rt):List.map (fun x:D×Rt=>x.1) [p]=[p.1]:=rfl
theorem Fb (p q:D×Rt):List.map (fun x:D×Rt=>x.1) [p,q]=[p.1,q.1]:=rfl
variable {R1:Rt}{T:Tb}{e1:Ex}{env:En}{f:Nat}{r:D}
theorem eI {d1:D}(h1:ev T e1 env = .ok (d1,R1))(h:T.cl f [d1] = .ok (r,true)):ev T (.call f (.cons e1 .nil)) env = .ok (r,.mv []):=by
 have:bC T (.cons e1 .nil) env = .ok [(d1,R1)]:=by
  rw[bC,h1,aA];rfl
 rw[ev,this,aA,u3,h,aA];rfl
theorem mQ {e2:Ex}{d1 d2:D}{R2:Rt}(h1:ev T e1 env = .ok (d1,R1))(h2:ev T e2 env = .ok (d2,R2))(h:T.cl f [d1,d2] = .ok (r,true)):ev T (.call f (.cons e1 (.cons e2 .nil))) env = .ok (r,.mv []):=by
 have:bC T (.cons e1 (.cons e2 .nil)) env = .ok [(d1,R1),(d2,R2)]:=by
  rw[bC,h1,aA,bC,h2,aA];rfl
 rw[ev,this,aA,Fb,h,aA];rfl
noncomputable def sizes:List Nat:=[15,15,15,19,15,15,23,15,19,15,27,15,15,19,15,31]
noncomputable def e8:Ex:=(.lst (.cons Hb (.cons Hb (.cons Hb (.cons Hc (.cons Hb (.cons Hb (.cons He (.cons Hb (.cons Hc (.cons Hb (.cons Hf (.cons Hb (HC Hb Hc Hb Hg))))))))))))))
theorem Ag {n:Nat}{M:List (List D)}(h:iV n M){i j:Nat}{row:List D}{v:D}(hr:M[i]? = some row)(hv:md v=true):iV n (M.set i (row.set j v)) where
 len:=by rw[cv];exact h.len
 row:=fun r hr'=>by
  rcases fi hr' with q | q
  .exact h.row r q
  .rw[q,cv];exact h.row row (List.mem_of_getElem? hr)
 cell:=fun r hr' d hd=>by
  rcases fi hr' with q | q
  .exact h.cell r q d hd
  .rw[q] at hd;rcases fi hd with q' | q'
   .exact h.cell row (List.mem_of_getElem? hr) d q'
   .rw[q'];exact hv
end Pc.Sm
end
section
namespace Fl64
def Gr (l:List Nat):Prop:=∀ g∈l,g<64
noncomputable def hor (x w:Nat)(l:List Nat):Nat:=l.foldl (fun w g=>tm w x^^^g) w
noncomputable abbrev wth (x:Nat)(l:List Nat):Nat:=hor x 0 l
noncomputable def pw (x:Nat):Nat->Nat
 |0=>1
 |n+1=>tm (pw x n) x
noncomputable def mulR (f:Nat)(l:List Nat):List Nat:=l.map fun g=>tm f g
noncomputable def uv (c:Nat):List Nat:=(List.range' 1 c).map (pw 2)
noncomputable def wM (l:List Nat)(p:Nat):List Nat->List Nat
 |[]=>l
 |g::r=>wM (l.set p (l.getD p 0^^^g)) (p+1) r
noncomputable def x9 (l:List Nat)(k:Nat):List Nat->List Nat->List Nat
 |[],_=>l
 |g::a,b=>x9 (wM l k (mulR g b)) (k+1) a b
noncomputable def GS (a b:List Nat):List Nat:=x9 (List.replicate (a.length+b.length - 1) 0) 0 a b
noncomputable def ER (r:List Nat):List Nat->List Nat
 |[]=>r
 |n::ns=>ER (GS r [1,n]) ns
noncomputable def BQ (D:List Nat):Nat->Nat->List Nat->List Nat
 |0,_,l=>l
 |m+1,k,l=>BQ D m (k+1) (wM l k (mulR (l.getD k 0) D))
noncomputable def Ah (d:List Nat)(c:Nat):List Nat:=(BQ (ER [1] (uv c)) d.length 0 (d++List.replicate c 0)).drop d.length
def isC (l:List Nat)(c:Nat):Prop:=∀ x∈uv c,wth x l=0
noncomputable instance (l:List Nat) (c:Nat):Decidable (isC l c):=by unfold isC;infer_instance
end Fl64
end
section
namespace Pc.Gr
open PySem Pc Pc.Sm
noncomputable abbrev gD (gs:List Nat):List D:=gs.map fun (g:Nat)=>D.int (g:Int)
noncomputable abbrev sG (gs:List Nat):Slot:=some (.lst (gD gs),.sh [])
noncomputable abbrev oG (gs:List Nat):Slot:=some (.lst (gD gs),.own)
structure CE (d:List Nat)(c:Nat)(D l:List Nat)(e:En):Prop where
 te:Tame e
 len:e.length=8
 h0:e[0]? = some (sG d)
 h2:e[2]? = some (oG D)
 h3:e[3]? = some (oG l)
end Pc.Gr
end
section
namespace Fl64
end Fl64
namespace Pc.Lw
open PySem Pc Pc.Sm Pc.Gr
def isF (gs:List Nat)(k m:Nat):Prop:=∀ x∈(List.range' (k+1) m).map (Fl64.pw 2),Fl64.wth x gs=0
noncomputable instance (gs:List Nat) (k m:Nat):Decidable (isF gs k m):=by unfold isF;infer_instance
end Pc.Lw
end
section
namespace Fl64
noncomputable def sm:List (Nat×Nat)->Nat->Nat
 |[],_=>0
 |p::r,j=>tm p.1 (pw p.2 j)^^^sm r j
end Fl64
end
section
namespace Pc.Lw
open PySem Pc Pc.Sm Pc.Gr
noncomputable abbrev cp (i:Nat):Ex:=.blt .list (Hz (.var i))
theorem aF {T:Tb}{env:En}(d:D):ev T (.cst d) env = .ok (d,.mv []):=by rw[ev]
variable {R R':Rt}{T:Tb}{a b:Ex}{env:En}{x y:Int}
theorem cP (h:ev T a env = .ok (.int x,R))(h':ev T b env = .ok (.int y,R')):ev T (.bin .Add a b) env = .ok (.int (x+y),.mv []):=by
 rw[ev,h,aA,h',aA];rfl
theorem bN (hy:0<y)(h:ev T a env = .ok (.int x,R))(h':ev T b env = .ok (.int y,R')):ev T (.bin .Mod a b) env = .ok (.int (x%y),.mv []):=by
 rw[ev,h,aA,h',aA,gZ];have:Pc.binI .Mod x y=some (x%y):=by
  show (if 0<y then some (x%y) else none)=_;rw[if_pos hy]
 rw[this];rfl
theorem cM (hy:0<y)(hy':y<1073741824)(h:ev T a env = .ok (.int x,R))(h':ev T b env = .ok (.int y,R')):ev T (.bin .FloorDiv a b) env = .ok (.int (x / y),.mv []):=by
 rw[ev,h,aA,h',aA,gZ];have:Pc.binI .FloorDiv x y=some (x / y):=by
  show (if 0<y/\y<1073741824 then some (x / y) else none)=_;rw[if_pos ⟨hy,hy'⟩]
 rw[this];rfl
end Pc.Lw
end
section
namespace Pc.Nw
open PySem Pc Pc.Sm Pc.Lw Pc.Gr
theorem cC {t:kz}{R:List Nat}{b:En->Fl}{x:D}{l:List D}{e e1 e2:En}(h1:aW R t x e=some e1)(h2:b e1 = .nx e2):bQ t R b (x::l) e=bQ t R b l e2:=by
 conv=>lhs;unfold bQ
 rw[h1];dsimp only;rw[h2]
variable {R:Rt}{T:Tb}{e:Ex}{env:En}
theorem B9 {m:Nat}(h:ev T e env = .ok (.int (m:Int),R))(hm:m<=1000):dM T (.rng1 e) env = .ok (bK ((0:Nat):Int) 1 m,[]):=by
 rw[zi _ _ _ _ _ h (Fd hm),cq];rfl
theorem jg (k m:Nat):bK (k:Int) 1 (m+1) = .int (k:Int)::bK ((k+1:Nat):Int) 1 m:=by
 rw[bK,show (k:Int)+1=((k+1:Nat):Int) by omega]
theorem oJ (n:Nat):∀ a:Nat,bK (a:Int) 1 n=(List.range n).map fun (k:Nat)=>D.int ((a+k:Nat):Int):=by
 induction n with
 |zero=>intro a;rfl
 |succ n ih =>
  intro a;rw[jg,ih,i8,ao,cz];congr 1;refine ij fun k _=>?_
  show D.int ((a+1+k:Nat):Int)=D.int ((a+(k+1):Nat):Int);rw[show a+1+k=a+(k+1) by omega]
theorem gF {T:Tb}{xs:List D}(h:ev T e env = .ok (.lst xs,R)):ev T (.blt .len (.cons e .nil)) env = .ok (.int (xs.length:Int),.mv []):=by
 rw[ev,bC,bC,h,aA,aA,aA,u3];show (kj (some (D.int (xs.length:Int)))).bind _=_;rw[bR,aA,jR]
theorem gL {f:Nat}{e1 e2 e3:Ex}{d1 d2 d3 r:D}{R1 R2 R3:Rt}(h1:ev T e1 env = .ok (d1,R1))(h2:ev T e2 env = .ok (d2,R2))(h3:ev T e3 env = .ok (d3,R3))(h:T.cl f [d1,d2,d3] = .ok (r,true)):ev T (.call f (.cons e1 (.cons e2 (.cons e3 .nil)))) env = .ok (r,.mv []):=by
 rw[ev,bC,bC,bC,bC,h1,aA,h2,aA,h3,aA,aA,aA,aA,aA];show (T.cl f [d1,d2,d3]).bind _=_;rw[h];rfl
theorem gP {α:Type}{f:D->Rs (Option (D×Rt))}{g r:α->D}{c:α->Bool}:∀{l:List α},(∀ a∈l,f (g a) = .ok (if c a then some (r a,.mv []) else none))->dP f (l.map g) = .ok ((l.filter c).map fun a=>(r a,Rt.mv []))
 |[],_=>rfl
 | a::l,h=>by
  simp only[List.map_cons,dP];rw[h a ai,gP fun b hb=>h b (ah _ hb)];cases q:c a<;>simp[aA,List.filter_cons,q]
theorem zD (xs:List D)(s x:Nat)(h:s+x<=xs.length):slD (.lst xs) (some (s:Int)) (some ((s:Int)+(x:Int)))=some (.lst ((xs.drop s).take x)):=by
 show some (D.lst (cut xs _ _))=_;congr 2;unfold cut;have h1:bV xs.length 0 (some (s:Int))=s:=by
  unfold bV;dsimp only;rw[if_neg (by omega),cq];omega
 have h2:bV xs.length xs.length (some ((s:Int)+(x:Int)))=s+x:=by
  unfold bV;dsimp only;rw[if_neg (by omega),show ((s:Int)+(x:Int)).toNat=s+x by omega];omega
 dsimp only;rw[h1,h2,show s+x - s=x by omega]
variable {R':Rt}{a b:Ex}
section
variable {T:Tb}{env:En}
theorem pA {x y:Nat}(h:ev T a env = .ok (.int (x:Int),R))(h':ev T b env = .ok (.int (y:Int),R')):ev T (.bin .Add a b) env = .ok (.int ((x+y:Nat):Int),.mv []):=by
 rw[cP h h'];rfl
theorem gR {x y:Int}(h:ev T a env = .ok (.int x,R))(h':ev T b env = .ok (.int y,R')):ev T (.bin .Sub a b) env = .ok (.int (x - y),.mv []):=by
 rw[ev,h,aA,h',aA,gZ];rfl
theorem Fg {c:Ex}{a b:bW}{p:Prop}[Decidable p](h:ev T c env = .ok (.bl (decide p),R)):aQ T (.ite c a b) env=if p then aE T a env else aE T b env:=by
 rw[aQ,h,bO];by_cases hp:p
 .rw[c9 hp,if_pos hp];rfl
 .rw[bj hp,if_neg hp];rfl
theorem gU:aE T .nil env = .nx env:=by rw[aE]
theorem aX {s:St}{e:En}(h:aQ T s env = .nx e):aE T (.cons s .nil) env = .nx e:=by
 rw[aE,h,aD,aE]
end
section
variable {T:Tb}{env:En}
end
end Pc.Nw
end
section
namespace Pc.Fr
open PySem Pc Pc.Sm Pc.Lw Pc.Gr Pc.Nw
noncomputable abbrev pD (p:Int×Int):D:=.tup [.int p.1,.int p.2]
noncomputable def bIn:bW:=(.cons (.mut 1 .none .append (Hz (.tup (HA Ho Hn)))) .nil)
noncomputable def zk (g:Nat):bW:=(.cons (.asg (.nm 5) (.ite Hm (.bin .Sub (.bin .Sub Hj GV) Hl) Hl) false)
  (.cons (.forr (.nm 6) (.rng2 Hk (.blt .min2 (HA (.bin .Add Hk (.glb g)) Hj))) bIn)
  .nil))
noncomputable def Bc (g:Nat):bW:=(.cons (.forr (.nm 4) (.rng1 Hj) (zk g))
  (.cons (.asg (.nm 2) (.not Hm) false)
  .nil))
noncomputable def xW (g:Nat):bW:=(.cons (.asg (.nm 1) (.lst .nil) false)
  (.cons (.asg (.nm 2) (.cst (.bl false)) false)
  (.cons (.forr (.nm 3) (.rng3 GY Hj (.glb g)) (Bc g))
  (.cons (.ret Hi)
  .nil))))
noncomputable def bData (tk st:Nat):bW:=(.cons (.asg (.nm 1) (.call tk (Hz Hj)) false)
  (.cons (.ret (.comp 1 [1] (.nm 0) (.seq (.call st (Hz Hj))) (.some (.cmp .NotIn Hj Hi)) Hj))
  .nil))
noncomputable def kW (t c:Int)(n:Nat):List (Int×Int):=(cX t 1 n).map fun r=>(r,c)
noncomputable def gH (s:Int)(l:Bool)(k:Int):Int:=if l then s - 1 - k else k
noncomputable def cnt (s t:Int):Nat:=((if s<t+3 then s else t+3) - t).toNat
noncomputable def rh (s:Int)(l:Bool)(t:Int):List (Int×Int):=(cX 0 1 s.toNat).flatMap fun k=>kW t (gH s l k) (cnt s t)
noncomputable def qU (s:Int):List Int->Bool->List (Int×Int)
 |[],_=>[]
 |t::ts,l=>rh s l t++qU s ts (!l)
noncomputable def iP (s:Int):List (Int×Int):=qU s (cX 0 3 (Builtin.Range.rangeSize 0 s 3).toNat) false
theorem dA (a s:Int):∀ n:Nat,(cX a s n).length=n:=by
 intro n
 induction n generalizing a with
 |zero=>rfl
 |succ n ih=>simp[cX,ih]
theorem ni (t c:Int)(n:Nat):(kW t c n).length=n:=by simp[kW,dA]
noncomputable abbrev E7 (s:Int)(xs:List (Int×Int))(l:Bool)(a3 a4 a5 a6:Slot):En:=[sI s,some (.lst (xs.map pD),.own),some (.bl l,.own),a3,a4,a5,a6]
variable {s:Int}
theorem iM {xs:List (Int×Int)}{l:Bool}{a3 a4 a5 a6:Slot}(h3:aH a3)(h4:aH a4)(h5:aH a5)(h6:aH a6):Tame (E7 s xs l a3 a4 a5 a6) :=
 .cons (aC _) (.cons (aC _) (.cons (aC _) (.cons h3 (.cons h4 (.cons h5 (.cons h6 .nil))))))
theorem eF {n:Nat}(h:n<=10000):n<=lim:=br h (by decide)
variable {T:Tb}{a b:Ex}{env:En}{i j:Int}
theorem tZ (ha:ev T a env = .ok (.int i,.mv []))(hb:ev T b env = .ok (.int j,.mv [])):ev T (.tup (.cons a (.cons b .nil))) env = .ok (.tup [.int i,.int j],.mv []):=by
 rw[ev,bC,bC,bC,ha,aA,hb,aA,aA,aA,aA];rfl
theorem inn (T:Tb)(s t k c:Int)(l:Bool)(a3 a4:Slot)(h3:aH a3)(h4:aH a4):∀(rs:List Int) (xs:List (Int×Int)) (a6:Slot),aH a6->xs.length+rs.length<=10000 ->
  ∃ b6,aH b6/\bQ (.nm 6) [] (aE T bIn) (rs.map D.int) (E7 s xs l a3 a4 (sI c) a6) = .nx (E7 s (xs++rs.map fun r=>(r,c)) l a3 a4 (sI c) b6)
 |[],xs,a6,h6,_=>⟨a6,h6,by simp only[List.map_nil,List.append_nil];rfl⟩
 | r::rs,xs,a6,h6,hl=>by
  simp only[List.length_cons] at hl;have to:=aC;have hb:aW [] (.nm 6) (.int r) (E7 s xs l a3 a4 (sI c) a6)=some (E7 s xs l a3 a4 (sI c) (sI r)):=dX (iM h3 h4 (to _) h6) (show (6:Nat)<7 by decide);have g:aE T bIn (E7 s xs l a3 a4 (sI c) (sI r)) = .nx (E7 s (xs ++ [(r,c)]) l a3 a4 (sI c) (sI r)):=by
   refine aX ((gE (xs:=xs.map pD) (d:=pD (r,c)) (iM h3 h4 (to _) (to _)) rfl (tZ (aB rfl rfl) (aB rfl rfl)) (by rw[ab];exact eF (by omega))).trans ?_);show Fl.nx (E7 _ _ _ _ _ _ _ |>.set 1 _)=_;simp only[E7,List.set_cons_succ,List.set_cons_zero,List.map_append,List.map_cons,List.map_nil]
  rw[ao,cC hb g];obtain⟨b6,t6,q⟩:=inn T s t k c l a3 a4 h3 h4 rs (xs ++ [(r,c)]) (sI r) (to _) (by simp;omega);refine⟨b6,t6,q.trans ?_⟩;simp only[List.map_cons,List.append_assoc,List.cons_append,List.nil_append]
theorem qz {x:Int}(h0:0<=x)(h1:x<=1000):fJ x=true:=c9 ⟨by omega,by omega⟩
variable {R R':Rt}
theorem AW (ha:ev T a env = .ok (.int i,R))(hb:ev T b env = .ok (.int j,R')):ev T (.blt .min2 (.cons a (.cons b .nil))) env = .ok (.int (if j<i then j else i),.mv []):=by
 rw[ev,bC,bC,bC,ha,aA,hb,aA,aA,aA,aA,Fb];rfl
theorem DA (ha:ev T a env = .ok (.int i,R))(hb:ev T b env = .ok (.int j,R'))(hi:0<=i)(hi':i<=1000)(hj:0<=j)(hj':j<=1000):dM T (.rng2 a b) env = .ok ((cX i 1 (j - i).toNat).map D.int,[]):=by
 rw[dM,ha,aA,hb,aA];dsimp only;rw[qz hi hi',qz hj hj',if_pos (by rfl),iJ]
theorem qP {T:Tb}(ha:ev T a env = .ok (.int i,R))(hi:0<=i)(hi':i<=1000):dM T (.rng1 a) env = .ok ((cX 0 1 i.toNat).map D.int,[]):=by
 rw[dM,ha,aA];dsimp only;rw[qz hi hi',if_pos rfl,iJ]
theorem CY (s k:Int)(xs:List (Int×Int))(l:Bool)(a3 a5 a6:Slot):ev T (.ite Hm (.bin .Sub (.bin .Sub Hj GV) Hl) Hl) (E7 s xs l a3 (sI k) a5 a6) = .ok (.int (gH s l k),.mv []):=by
 have v0:ev T Hj (E7 s xs l a3 (sI k) a5 a6) = .ok (.int s,.mv []):=aB rfl rfl;have v2:ev T Hm (E7 s xs l a3 (sI k) a5 a6) = .ok (.bl l,.mv []):=aB rfl rfl;have v4:ev T Hl (E7 s xs l a3 (sI k) a5 a6) = .ok (.int k,.mv []):=aB rfl rfl;rw[ev,v2,aA];show (kj (truth (.bl l))).bind _=_;cases l with
 |true=>exact gR (gR v0 (aF _)) v4
 |false=>exact v4
variable {g:Nat}
theorem mid (hg:T.gl g = .int 3)(s t:Int)(hs:s<=900)(ht:0<=t)(ht':t<s)(l:Bool):∀(ks:List Int) (xs:List (Int×Int)) (a4 a5 a6:Slot),aH a4->aH a5->aH a6->xs.length+ks.length*3<=10000 ->
  ∃ b4 b5 b6,aH b4/\aH b5/\aH b6/\bQ (.nm 4) [] (aE T (zk g)) (ks.map D.int) (E7 s xs l (sI t) a4 a5 a6) = .nx (E7 s (xs++ks.flatMap fun k=>kW t (gH s l k) (cnt s t)) l (sI t) b4 b5 b6)
 |[],xs,a4,a5,a6,h4,h5,h6,_=>⟨a4,a5,a6,h4,h5,h6,by simp only[List.flatMap_nil,List.map_nil,List.append_nil];rfl⟩
 | k::ks,xs,a4,a5,a6,h4,h5,h6,hl=>by
  simp only[List.length_cons] at hl;have to:=aC;have hb:aW [] (.nm 4) (.int k) (E7 s xs l (sI t) a4 a5 a6)=some (E7 s xs l (sI t) (sI k) a5 a6):=dX (iM (to _) h4 h5 h6) (show (4:Nat)<7 by decide);have g1:aQ T (.asg (.nm 5) (.ite Hm (.bin .Sub (.bin .Sub Hj GV) Hl) Hl) false) (E7 s xs l (sI t) (sI k) a5 a6) = .nx (E7 s xs l (sI t) (sI k) (sI (gH s l k)) a6) :=
   aO (iM (to _) (to _) h5 h6) (show (5:Nat)<7 by decide) (CY s k xs l (sI t) a5 a6)
  have eg:ev T (.glb g) (E7 s xs l (sI t) (sI k) (sI (gH s l k)) a6) = .ok (.int 3,.mv []):=by rw[ev,hg]
  have hm:=AW (cP (aB (i:=3) (d:=.int t) (t:=.own) rfl rfl) eg) (aB (i:=0) (d:=.int s) (t:=.own) (env:=E7 s xs l (sI t) (sI k) (sI (gH s l k)) a6) rfl rfl);have hit:=DA (aB (i:=3) (d:=.int t) (t:=.own) rfl rfl) hm (by omega) (by omega) (by split<;>omega) (by split<;>omega);have hc:cnt s t<=3:=by unfold cnt;split<;>omega
  have hcn:((if s<t+3 then s else t+3) - t).toNat=cnt s t:=rfl;rw[hcn] at hit;obtain⟨b6,t6,q⟩:=inn T s t k (gH s l k) l (sI t) (sI k) (to _) (to _) (cX t 1 (cnt s t)) xs a6 h6 (by rw[dA];omega);have g2:=dD hit q;have gg:aE T (zk g) (E7 s xs l (sI t) (sI k) a5 a6) = .nx (E7 s (xs++kW t (gH s l k) (cnt s t)) l (sI t) (sI k) (sI (gH s l k)) b6):=by
   unfold zk;rw[aE,g1,aD];exact aX g2
  rw[ao,cC hb gg];obtain⟨c4,c5,c6,u4,u5,u6,q2⟩:=mid hg s t hs ht ht' l ks (xs++kW t (gH s l k) (cnt s t)) (sI k) (sI (gH s l k)) b6 (to _) (to _) t6 (by rw[aq,ni];omega);refine⟨c4,c5,c6,u4,u5,u6,q2.trans ?_⟩;simp only[List.flatMap_cons,List.append_assoc]
theorem qe (s:Int)(l:Bool)(t:Int):(rh s l t).length<=s.toNat*3:=by
 unfold rh;have:∀ ks:List Int,(ks.flatMap fun k=>kW t (gH s l k) (cnt s t)).length<=ks.length*3:=by
  intro ks;have hc:cnt s t<=3:=by unfold cnt;split<;>omega
  induction ks with
  |nil=>exact au _
  |cons k ks ih=>rw[fv,aq,ni,av];omega
 have:=this (cX 0 1 s.toNat)
 rwa [dA] at this
theorem EK (hg:T.gl g = .int 3)(s:Int)(hs0:0<=s)(hs:s<=900):∀(ts:List Int) (l:Bool) (xs:List (Int×Int)) (a3 a4 a5 a6:Slot),aH a3->aH a4->aH a5->aH a6->(∀ t∈ts,0<=t/\t<s)->xs.length+ts.length*(s.toNat*3)<=10000 ->
  ∃ b3 b4 b5 b6 l',bQ (.nm 3) [] (aE T (Bc g)) (ts.map D.int) (E7 s xs l a3 a4 a5 a6) = .nx (E7 s (xs++qU s ts l) l' b3 b4 b5 b6)
 |[],l,xs,a3,a4,a5,a6,h3,h4,h5,h6,_,_=>⟨a3,a4,a5,a6,l,by simp only[qU,List.map_nil,List.append_nil];rfl⟩
 | t::ts,l,xs,a3,a4,a5,a6,h3,h4,h5,h6,hr,hl=>by
  have to:=aC;obtain⟨ht,ht'⟩:=hr t ai;have hb:aW [] (.nm 3) (.int t) (E7 s xs l a3 a4 a5 a6)=some (E7 s xs l (sI t) a4 a5 a6):=dX (iM h3 h4 h5 h6) (show (3:Nat)<7 by decide);have hmul:(t::ts).length*(s.toNat*3)=ts.length*(s.toNat*3)+s.toNat*3:=by rw[av,Nat.succ_mul]
  rw[hmul] at hl;obtain⟨b4,b5,b6,t4,t5,t6,q⟩:=mid hg s t hs ht ht' l (cX 0 1 s.toNat) xs a4 a5 a6 h4 h5 h6 (by rw[dA];omega);have g1:=dD (qP (aB (i:=0) (d:=.int s) (t:=.own) (env:=E7 s xs l (sI t) a4 a5 a6) (T:=T) rfl rfl) hs0 (by omega)) q;have g2:aQ T (.asg (.nm 2) (.not Hm) false) (E7 s (xs++rh s l t) l (sI t) b4 b5 b6) = .nx (E7 s (xs++rh s l t) (!l) (sI t) b4 b5 b6):=by
   refine aO (d:=.bl (!l)) (iM (to _) t4 t5 t6) (show (2:Nat)<7 by decide) ?_;rw[ev,aB (i:=2) (d:=.bl l) (t:=.own) rfl rfl];rfl
  have gg:aE T (Bc g) (E7 s xs l (sI t) a4 a5 a6) = .nx (E7 s (xs++rh s l t) (!l) (sI t) b4 b5 b6):=by
   unfold Bc;rw[aE,g1,aD];exact aX g2
  rw[ao,cC hb gg];obtain⟨c3,c4,c5,c6,l',q2⟩:=EK hg s hs0 hs ts (!l) (xs++rh s l t) (sI t) b4 b5 b6 (to _) t4 t5 t6 (fun u hu=>hr u (ah _ hu)) (by have:=qe s l t;rw[aq];omega);refine⟨c3,c4,c5,c6,l',q2.trans ?_⟩;simp only[qU,List.append_assoc]
def sf (s:Int):Prop:=s=15\/s=19\/s=23\/s=27\/s=31
theorem tT (h:sf s):(∀ t∈cX 0 3 (Builtin.Range.rangeSize 0 s 3).toNat,0<=t/\t<s)/\(cX 0 3 (Builtin.Range.rangeSize 0 s 3).toNat).length*(s.toNat*3)<=9000:=by
 rcases h with rfl | rfl | rfl | rfl | rfl<;>decide
theorem wG {T:Tb}{g:Nat}(hg:T.gl g = .int 3)(h:sf s):ret (aE T (xW g) (aM [.int s] 7)) = .ok (.lst ((iP s).map pD),true):=by
 have hs0:0<=s/\s<=900:=by rcases h with rfl | rfl | rfl | rfl | rfl<;>decide
 have hst:aM [.int s] 7=[sI s,none,none,none,none,none,none]:=rfl;rw[hst];have tn:=aS;have to:=aC;have g1:aQ T (.asg (.nm 1) (.lst .nil) false) [sI s,none,none,none,none,none,none] = .nx [sI s,some (.lst [],.own),none,none,none,none,none]:=rfl;have g2:aQ T (.asg (.nm 2) (.cst (.bl false)) false) [sI s,some (.lst [],.own),none,none,none,none,none] = .nx (E7 s [] false none none none none):=rfl;obtain⟨ht,htl⟩:=tT h;obtain⟨b3,b4,b5,b6,l',q⟩:=EK hg s hs0.1 hs0.2 (cX 0 3 (Builtin.Range.rangeSize 0 s 3).toNat) false [] none none none none tn tn tn tn ht (by rw[cf];omega);have eg:ev T (.glb g) (E7 s [] false none none none none) = .ok (.int 3,.mv []):=by rw[ev,hg]
 have hit:dM T (.rng3 GY Hj (.glb g)) (E7 s [] false none none none none) = .ok ((cX 0 3 (Builtin.Range.rangeSize 0 s 3).toNat).map D.int,[]):=by
  rw[dM,aF,aA,aB (i:=0) (d:=.int s) (t:=.own) rfl rfl,aA,eg,aA];dsimp only;rw[qz (x:=0) (by decide) (by decide),qz hs0.1 (by omega),if_pos (by rfl),iJ]
 have g3:=dD hit q;unfold xW;rw[aE,g1,aD,aE,g2,aD,aE,g3,aD];rw[gb,aE,aQ,aV (i:=1) (d:=.lst ((iP s).map pD)) rfl rfl];rfl
variable {e:Ex}
theorem xV {α:Type}{own:Nat}{pick:List Nat}{t:kz}{it:qM}{ce:Ex}{l:List α}{R:List Nat}{g r:α->D}{c:α->Bool}(hit:dM T it env = .ok (l.map g,R))(hl:l.length<=10000)
  (hg:∀ a∈l,bB (aW [] t (g a) (bM env own pick)) (lr T (.some ce)) (ev T e) = .ok (if c a then some (r a,.mv []) else none)) :
  ev T (.comp own pick t it (.some ce) e) env = .ok (.lst ((l.filter c).map r),.mv []):=by
 rw[ev,hit,aA,gP (f:=fun d=>bB (aW [] t d (bM env own pick)) (lr T (.some ce)) (ev T e)) hg,aA];dsimp only;rw[if_pos (by rw[ab];exact eF hl),if_pos,cz]
 .rfl
 .rw[List.all_map,cu];intro x _;show (_ || eK (.mv []))=true;simp[eK]
noncomputable def fM (s:Int)(ks:List (List Int)):List (Int×Int):=(iP s).filter fun p=>!ks.contains [p.1,p.2]
theorem kO (s:Int):∀(ts:List Int) (l:Bool),(qU s ts l).length<=ts.length*(s.toNat*3)
 |[],_=>dg _
 | t::ts,l=>by
  have h1:=qe s l t;have h2:=kO s ts (!l);have hmul:(t::ts).length*(s.toNat*3)=ts.length*(s.toNat*3)+s.toNat*3:=by rw[av,Nat.succ_mul]
  rw[hmul,qU,aq];omega
theorem wC (h:sf s):(iP s).length<=9000:=br (kO s _ _) (tT h).2
theorem xo (h:sf s):(iP s).length<=4000:=by
 refine br (kO s _ _) ?_;rcases h with rfl | rfl | rfl | rfl | rfl<;>decide
variable {ks:List (List Int)}
theorem A3 {T:Tb}{tk st:Nat}(h:sf s)(h1:T.cl tk [.int s] = .ok (.mpt ks,true))(h2:T.cl st [.int s] = .ok (.lst ((iP s).map pD),true)):ret (aE T (bData tk st) (aM [.int s] 2)) = .ok (.lst ((fM s ks).map pD),true):=by
 have hst:aM [.int s] 2=[sI s,none]:=rfl;rw[hst];have g1:aQ T (.asg (.nm 1) (.call tk (Hz Hj)) false) [sI s,none] = .nx [sI s,some (.mpt ks,.own)]:=aO (.cons (aC _) (.cons aS .nil)) (show (1:Nat)<2 by decide) (eI (aB rfl rfl) h1);have hit:dM T (.seq (.call st (Hz Hj))) [sI s,some (.mpt ks,.own)] = .ok ((iP s).map pD,[]):=by
  rw[dM,eI (d1:=.int s) (aB rfl rfl) h2,aA];rfl
 unfold bData;rw[aE,g1,aD];refine hJ (xV (c:=fun p=>!ks.contains [p.1,p.2]) (r:=pD) hit (br (wC h) (by decide)) fun p _=>?_);have hb:aW [] (.nm 0) (pD p) (bM [sI s,some (.mpt ks,.own)] 1 [1])=some [some (pD p,.own),some (.mpt ks,.sh [])]:=rfl;rw[hb];have v0:ev T Hj [some (pD p,.own),some (.mpt ks,.sh [])] = .ok (pD p,.mv []):=aB rfl rfl;obtain⟨R,v1⟩:∃ R,ev T Hi [some (pD p,.own),some (.mpt ks,.sh [])] = .ok (.mpt ks,R):=cQ rfl;have hc:lr T (.some (.cmp .NotIn Hj Hi)) [some (pD p,.own),some (.mpt ks,.sh [])] = .ok (!ks.contains [p.1,p.2]):=by
  rw[lr,ev,v0,aA,v1,aA];rfl
 unfold bB;dsimp only;rw[hc,aA,v0];cases ks.contains [p.1,p.2]<;>rfl
theorem pX {T:Tb}{env:En}{x:Nat}{p:Int×Int}{t:Tg}(h:env[x]? = some (some (pD p,t))):ev T (.ix (.var x) GY) env = .ok (.int p.1,.mv []):=by
 rw[ev,aB h rfl,aA,aF,aA];rfl
theorem qc {T:Tb}{env:En}{x:Nat}{p:Int×Int}{t:Tg}(h:env[x]? = some (some (pD p,t))):ev T (.ix (.var x) GV) env = .ok (.int p.2,.mv []):=by
 rw[ev,aB h rfl,aA,aF,aA];rfl
theorem qT {d:D}{R:Rt}{n:String}{b:Bool}(h:ev T e env = .ok (d,R))(hb:l7 (.isi n) [d]=some (.bl b)):ev T (.blt (.isi n) (.cons e .nil)) env = .ok (.bl b,.mv []):=by
 rw[ev,bC,bC,h,aA,aA,aA,u3,hb];rfl
theorem Ax {xs:List D}(h:ev T e env = .ok (.tup xs,R)):ev T (.blt .len (.cons e .nil)) env = .ok (.int (xs.length:Int),.mv []):=by
 rw[ev,bC,bC,h,aA,aA,aA,u3];rfl
noncomputable def vE:List Int->Nat
 |[a,b]=>a.toNat*32+b.toNat
 |_=>2000
noncomputable def zd:List Int->Bool
 |[a,b]=>decide (0<=a)&&decide (a<32)&&decide (0<=b)&&decide (b<32)
 |_=>false
noncomputable def Cc:List (List Int)->Nat
 |[]=>0
 |k::r=>Cc r ||| 2 ^ vE k
variable {k:List Int}
theorem tG (h:zd k=true):∃ a b,k=[a,b]/\0<=a/\a<32/\0<=b/\b<32:=by
 unfold zd at h;split at h
 .simp only[Bool.and_eq_true,decide_eq_true_eq] at h;exact⟨_,_,rfl,h.1.1.1,h.1.1.2,h.1.2,h.2⟩
 .cases h
theorem zZ {l:List Int}(hk:zd k=true)(hl:zd l=true)(h:vE k=vE l):k=l:=by
 obtain⟨a,b,rfl,a0,a1,b0,b1⟩:=tG hk;obtain⟨c,d,rfl,c0,c1,d0,d1⟩:=tG hl;simp only[vE] at h;have h1:a=c:=by omega
 have h2:b=d:=by omega
 rw[h1,h2]
theorem yM:∀{ks:List (List Int)}{k:List Int},ks.all zd=true->zd k=true->(Cc ks).testBit (vE k)=ks.contains k
 |[],k,_,_=>by simp[Cc]
 | l::ks,k,h,hk=>by
  rw[dz,ag] at h;rw[Cc,Nat.testBit_or,yM h.2 hk,Nat.testBit_two_pow,List.contains_cons,Bool.or_comm];congr 1;by_cases e:k=l
  .subst e;simp
  .rw[beq_eq_false_iff_ne.mpr e];exact bj fun z=>e (zZ hk h.1 z.symm)
noncomputable abbrev kP (p:Int×Int):List Int:=[p.1,p.2]
noncomputable def plM (s:Int)(M:Nat):List (Int×Int):=(iP s).filter fun p=>!M.testBit (vE (kP p))
theorem FY (hk:ks.all zd=true)(hs:∀ p∈iP s,zd (kP p)=true):fM s ks=plM s (Cc ks):=by
 unfold fM plM;refine List.filter_congr fun p hp=>?_
 rw[yM hk (hs p hp)]
end Pc.Fr
end
section
namespace Pc
open PySem
def ma {α:Type}(x y:Rs α):Prop:=∀ a,x = .ok a->y = .ok a
def pV (a b:Fl):Prop:=a = .bad\/(∃ e env,a = .xc e env)\/a=b
theorem ma.refl {α:Type}(x:Rs α):ma x x:=fun _ h=>h
theorem pV.refl (x:Fl):pV x x:=.inr (.inr rfl)
theorem ma.bind {α β:Type}{x y:Rs α}{f g:α->Rs β}(h:ma x y)(k:∀ a,ma (f a) (g a)):ma (x.bind f) (y.bind g):=fun b e=>by
 cases x with
 |ok a=>rw[h a rfl];exact k a b e
 |exc _=>cases e
 |bad=>cases e
theorem pV.on {α:Type}{env:En}{x y:Rs α}{f g:α->Fl}(h:ma x y)(k:∀ a,pV (f a) (g a)):pV (fI env x f) (fI env y g):=by
 cases x with
 |ok a=>rw[h a rfl];exact k a
 |exc e=>exact .inr (.inl ⟨e,env,rfl⟩)
 |bad=>exact .inl rfl
theorem pV.then {a b:Fl}{f g:En->Fl}(h:pV a b)(k:∀ e,pV (f e) (g e)):pV (a.andThen f) (b.andThen g):=by
 rcases h with rfl | ⟨e,env,rfl⟩ | rfl
 .exact .inl rfl
 .exact .inr (.inl ⟨e,env,rfl⟩)
 .cases a with
  |nx e=>exact k e
  |_=>exact .refl _
theorem mD {f g:D->Rs (Option (D×Rt))}(h:∀ d,ma (f d) (g d)):∀ l,ma (dP f l) (dP g l)
 |[]=>.refl _
 | d::r=>by
  unfold dP;exact (h d).bind fun o=>(mD h r).bind fun l=>.refl _
variable {c c':En->Rs Bool}
theorem qp {o:Option En}{e e':En->Rs (D×Rt)}(h:∀ n,ma (c n) (c' n))(k:∀ n,ma (e n) (e' n)):ma (bB o c e) (bB o c' e'):=by
 cases o with
 |none=>exact .refl _
 |some env =>
  unfold bB;refine (h env).bind fun b=>?_
  cases b
  .exact .refl _
  .exact (k env).bind fun q=>.refl _
variable {b b':En->Fl}
theorem lK {t:kz}{R:List Nat}(h:∀ e,pV (b e) (b' e)):∀(l:List D) (e:En),pV (bQ t R b l e) (bQ t R b' l e)
 |[],e=>.refl _
 | d::r,e=>by
  unfold bQ;cases aW R t d e with
  |none=>exact .refl _
  |some e1 =>
   dsimp only;rcases h e1 with q | ⟨x,n,q⟩ | q
   .rw[q];exact .inl rfl
   .rw[q];exact .inr (.inl ⟨x,n,rfl⟩)
   .rw[<-q];cases b e1 with
    |nx e2=>exact lK h r e2
    |ct e2=>exact lK h r e2
    |_=>exact .refl _
theorem qg {x:Nat}(h:∀ e,pV (b e) (b' e)):∀(l:List D) (e:En),pV (pj x b l e) (pj x b' l e)
 |[],e=>.refl _
 | d::r,e=>by
  unfold pj;by_cases hx:x<e.length
  .rw[if_pos hx,if_pos hx];rcases h (put e x d .own) with q | ⟨y,n,q⟩ | q
   .rw[q];exact .inl rfl
   .rw[q];exact .inl rfl
   .rw[<-q];cases b (put e x d .own) with
    |nx e2=>exact qg h r e2
    |_=>exact .refl _
  .rw[if_neg hx,if_neg hx];exact .refl _
theorem lx (h:∀ e,ma (c e) (c' e))(k:∀ e,pV (b e) (b' e)):∀(n:Nat) (e:En),pV (nj c b n e) (nj c' b' n e)
 |0,e=>.refl _
 | n+1,e=>by
  unfold nj;refine .on (h e) fun x=>?_
  cases x
  .exact .refl _
  .simp only[if_true];rcases k e with q | ⟨x,n,q⟩ | q
   .rw[q];exact .inl rfl
   .rw[q];exact .inr (.inl ⟨x,n,rfl⟩)
   .rw[<-q];cases b e with
    |nx e2=>exact lx h k n e2
    |ct e2=>exact lx h k n e2
    |_=>exact .refl _
section
variable {c c':Nat->List D->Rs (D×Bool)}{gl:Nat->D}{fuel:Nat}(h:∀ f ds,ma (c f ds) (c' f ds))
include h
mutual
theorem aR:∀(e:Ex) (env:En),ma (ev ⟨c,gl,fuel⟩ e env) (ev ⟨c',gl,fuel⟩ e env)
 |.var i,env=>by rw[ev,ev];exact .refl _
 |.cst d,env=>by rw[ev,ev];exact .refl _
 |.glb k,env=>by rw[ev,ev];exact .refl _
 |.bin op a b,env=>by rw[ev,ev];exact (aR a env).bind fun p=>(aR b env).bind fun q=>.refl _
 |.neg a,env=>by rw[ev,ev];exact (aR a env).bind fun p=>.refl _
 |.cmp op a b,env=>by rw[ev,ev];exact (aR a env).bind fun p=>(aR b env).bind fun q=>.refl _
 | .chn op op' a b d,env=>by
  rw[ev,ev];refine (aR a env).bind fun p=>(aR b env).bind fun q=>(ma.refl _).bind fun k=>?_
  cases k
  .exact .refl _
  .exact (aR d env).bind fun r=>.refl _
 | .and a b,env=>by
  rw[ev,ev];refine (aR a env).bind fun p=>?_
  split
  .exact aR b env
  .exact .refl _
  .exact .refl _
 | .or a b,env=>by
  rw[ev,ev];refine (aR a env).bind fun p=>?_
  split
  .exact .refl _
  .exact aR b env
  .exact .refl _
 |.not a,env=>by rw[ev,ev];exact (aR a env).bind fun p=>.refl _
 | .ite d a b,env=>by
  rw[ev,ev];refine (aR d env).bind fun p=>(ma.refl _).bind fun k=>?_
  cases k
  .exact aR b env
  .exact aR a env
 |.lst es,env=>by rw[ev,ev];exact (fK es env).bind fun l=>.refl _
 |.tup es,env=>by rw[ev,ev];exact (fK es env).bind fun l=>.refl _
 |.ix a i,env=>by rw[ev,ev];exact (aR a env).bind fun p=>(aR i env).bind fun q=>.refl _
 |.sl a lo hi,env=>by rw[ev,ev];exact (aR a env).bind fun p=>(oZ lo env).bind fun q=>(oZ hi env).bind fun r=>.refl _
 |.call f es,env=>by rw[ev,ev];exact (fK es env).bind fun l=>(h f _).bind fun r=>.refl _
 |.blt b es,env=>by rw[ev,ev];exact (fK es env).bind fun l=>.refl _
 |.mth m o es,env=>by rw[ev,ev];exact (aR o env).bind fun p=>(fK es env).bind fun l=>.refl _
 | .comp own pick t it d e,env=>by
  rw[ev,ev];exact (yb it env).bind fun p=>(mD (fun d'=>qp (fun n=>CF d n) (fun n=>aR e n)) _).bind fun l=>.refl _
 |.dnew,env=>by rw[ev,ev];exact .refl _
 |.ddsp l,env=>by rw[ev,ev];exact .refl _
 |.snoc a b,env=>by rw[ev,ev];exact (aR a env).bind fun p=>(aR b env).bind fun q=>.refl _
 |.app g es,env=>by rw[ev,ev];exact (fK es env).bind fun l=>.refl _
theorem fK:∀(es:kL) (env:En),ma (bC ⟨c,gl,fuel⟩ es env) (bC ⟨c',gl,fuel⟩ es env)
 |.nil,env=>by rw[bC,bC];exact .refl _
 |.cons e es,env=>by rw[bC,bC];exact (aR e env).bind fun p=>(fK es env).bind fun l=>.refl _
theorem oZ:∀(o:lH) (env:En),ma (iS ⟨c,gl,fuel⟩ o env) (iS ⟨c',gl,fuel⟩ o env)
 |.none,env=>by rw[iS,iS];exact .refl _
 |.some e,env=>by rw[iS,iS];exact (aR e env).bind fun p=>.refl _
theorem CF:∀(o:lH) (env:En),ma (lr ⟨c,gl,fuel⟩ o env) (lr ⟨c',gl,fuel⟩ o env)
 |.none,env=>by rw[lr,lr];exact .refl _
 |.some e,env=>by rw[lr,lr];exact (aR e env).bind fun p=>.refl _
theorem yb:∀(it:qM) (env:En),ma (dM ⟨c,gl,fuel⟩ it env) (dM ⟨c',gl,fuel⟩ it env)
 |.seq e,env=>by rw[dM,dM];exact (aR e env).bind fun p=>.refl _
 |.rng1 a,env=>by rw[dM,dM];exact (aR a env).bind fun p=>.refl _
 |.rng2 a b,env=>by rw[dM,dM];exact (aR a env).bind fun p=>(aR b env).bind fun q=>.refl _
 |.rng3 a b d,env=>by rw[dM,dM];exact (aR a env).bind fun p=>(aR b env).bind fun q=>(aR d env).bind fun r=>.refl _
 |.enum e,env=>by rw[dM,dM];exact (aR e env).bind fun p=>.refl _
 |.zip a b,env=>by rw[dM,dM];exact (aR a env).bind fun p=>(aR b env).bind fun q=>.refl _
 |.rev e,env=>by rw[dM,dM];exact (aR e env).bind fun p=>.refl _
end
mutual
theorem vI:∀(s:St) (env:En),pV (aQ ⟨c,gl,fuel⟩ s env) (aQ ⟨c',gl,fuel⟩ s env)
 |.asg t e mv,env=>by rw[aQ,aQ];exact .on (aR h e env) fun p=>.refl _
 | .mut x path m es,env=>by
  rw[aQ,aQ];cases ownAt env x with
  |none=>exact .refl _
  |some d =>
   refine .on (oZ h path env) fun p=>?_
   cases d.at1 p with
   |none=>exact .refl _
   |some xs=>exact .on (fK h es env) fun l=>.refl _
 | .putd x i v,env=>by
  rw[aQ,aQ];cases ownAt env x with
  |none=>exact .refl _
  |some d=>exact .on (aR h v env) fun u=>.on (aR h i env) fun p=>.refl _
 | .frzd x s,env=>by
  rw[aQ,aQ];exact vI s _
 | .apop y x es,env=>by
  rw[aQ,aQ];split
  .exact .refl _
  cases ownAt env x with
  |none=>exact .refl _
  |some d =>
   dsimp only;cases d.at1 none with
   |none=>exact .refl _
   |some xs=>exact .on (fK h es env) fun l=>.refl _
 | .setix x path i e,env=>by
  rw[aQ,aQ];cases ownAt env x with
  |none=>exact .refl _
  |some d =>
   refine .on (aR h e env) fun v=>.on (oZ h path env) fun p=>?_
   cases d.at1 p with
   |none=>exact .refl _
   |some xs=>exact .on (aR h i env) fun l=>.refl _
 | .aug x op e,env=>by
  rw[aQ,aQ];cases intAt env x with
  |none=>exact .refl _
  |some a=>exact .on (aR h e env) fun p=>.refl _
 | .popa y x es,env=>by
  rw[aQ,aQ];cases ownAt env x with
  |none=>exact .refl _
  |some d =>
   dsimp only;cases d.at1 none with
   |none=>exact .refl _
   |some xs=>exact .on (fK h es env) fun l=>.refl _
 |.expr e,env=>by rw[aQ,aQ];exact .on (aR h e env) fun p=>.refl _
 | .ite d a b,env=>by
  rw[aQ,aQ];refine .on (aR h d env) fun p=>?_
  split
  .exact gA a env
  .exact gA b env
  .exact .refl _
 | .forr t it b,env=>by
  rw[aQ,aQ];refine .on (yb h it env) fun p=>?_
  rcases lK (t:=t) (R:=p.2) (fun e=>gA b e) p.1 (lock p.2 env) with q | ⟨x,n,q⟩ | q
  .rw[q];exact .inl rfl
  .rw[q];exact .inr (.inl ⟨x,n,rfl⟩)
  .rw[<-q];exact .refl _
 | .forw x e b,env=>by
  rw[aQ,aQ];refine .on (aR h e env) fun p=>?_
  split
  .exact qg (fun e=>gA b e) _ _
  .exact .refl _
 | .whl d b,env=>by
  rw[aQ,aQ];exact lx (fun e=>(aR h d e).bind fun p=>.refl _) (fun e=>gA b e) fuel env
 |.ret e,env=>by rw[aQ,aQ];exact .on (aR h e env) fun p=>.refl _
 |.retN,env=>by rw[aQ,aQ];exact .refl _
 |.brk,env=>by rw[aQ,aQ];exact .refl _
 |.cnt,env=>by rw[aQ,aQ];exact .refl _
 |.pass,env=>by rw[aQ,aQ];exact .refl _
theorem gA:∀(s:bW) (env:En),pV (aE ⟨c,gl,fuel⟩ s env) (aE ⟨c',gl,fuel⟩ s env)
 |.nil,env=>by rw[aE,aE];exact .refl _
 |.cons s r,env=>by rw[aE,aE];exact (vI s env).then fun e=>gA r e
end
end
theorem xE (fns:List Fn)(gl:Nat->D)(fuel:Nat):∀(n f:Nat) (ds:List D),ma (run fns gl fuel n f ds) (run fns gl fuel (n+1) f ds)
 |0,f,ds=>fun a e=>by cases e
 | n+1,f,ds=>fun a e=>by
  unfold run at e ⊢;cases hF:fns[f]? with
  |none=>rw[hF] at e;cases e
  |some F =>
   rw[hF] at e;dsimp only at e ⊢;by_cases hl:ds.length=F.ps
   .rw[if_pos hl] at e ⊢;rcases gA (gl:=gl) (fuel:=fuel) (xE fns gl fuel n) F.body (aM ds F.slots) with q | ⟨x,m,q⟩ | q
    .rw[q] at e;cases e
    .rw[q] at e;cases e
    .rw[<-q];exact e
   .rw[if_neg hl] at e;cases e
theorem yV {fns:List Fn}{gl:Nat->D}{fuel n f:Nat}{ds:List D}{r:D×Bool}(h:run fns gl fuel n f ds = .ok r):∀ k,run fns gl fuel (n+k) f ds = .ok r
 |0=>h
 |k+1=>xE fns gl fuel (n+k) f ds r (yV h k)
end Pc
end
section
namespace Pc.Fr
open PySem Pc Pc.Sm Pc.Lw Pc.Gr Pc.Nw
noncomputable abbrev Tr:=Int×Int×Int
noncomputable abbrev tD (t:Tr):D:=.tup [.int t.1,.int t.2.1,.int t.2.2]
noncomputable abbrev pT (t:Tr):Int×Int:=(t.1,t.2.1)
noncomputable abbrev iD (l:List Int):List D:=l.map D.int
noncomputable abbrev vC (r:List Int):D:=.lst (iD r)
noncomputable abbrev vG (M:List (List Int)):List D:=M.map vC
noncomputable def wr (M:List (List Int))(t:Tr):List (List Int):=M.set t.1.toNat ((M.getD t.1.toNat []).set t.2.1.toNat t.2.2)
noncomputable def gt (M:List (List Int))(p:Int×Int):Int:=(M.getD p.1.toNat []).getD p.2.toNat 0
structure iQ (n:Nat)(M:List (List Int)):Prop where
 len:M.length=n
 row:∀ r∈M,r.length=n
def eX (n:Nat)(p:Int×Int):Prop:=0<=p.1/\p.1<n/\0<=p.2/\p.2<n
variable {M:List (List Int)}{n:Nat}
theorem iQ.get (h:iQ n M){i:Nat}(hi:i<n):∃ r,M[i]? = some r/\M.getD i []=r/\r.length=n:=by
 have:i<M.length:=by rw[h.len];exact hi
 exact⟨M[i],List.getElem?_eq_getElem this,by simp[List.getD,List.getElem?_eq_getElem this],h.row _ (List.getElem_mem this)⟩
variable {t:Tr}
theorem kD (h:iQ n M)(ht:eX n (pT t)):iQ n (wr M t):=by
 obtain⟨h1,h2,h3,h4⟩:=ht;have h1:0<=t.1:=h1;have h2:t.1<n:=h2;obtain⟨r,_,e,hl⟩:=h.get (i:=t.1.toNat) (by omega);refine⟨by unfold wr;rw[cv];exact h.len,fun x hx=>?_⟩;unfold wr at hx;rcases fi hx with hx | hx
 .exact h.row x hx
 .rw[hx,cv,e,hl]
variable {i:Nat}
theorem iG {α:Type}{l:List α}{x d:α}(h:i<l.length):(l.set i x).getD i d=x:=by
 unfold List.getD;rw[List.getElem?_set_self h];rfl
variable {j:Nat}
theorem kK {α:Type}{l:List α}{x d:α}(h:i≠j):(l.set i x).getD j d=l.getD j d:=by
 unfold List.getD;rw[List.getElem?_set_ne h]
variable {p:Int×Int}
theorem By (h:iQ n M)(ht:eX n (pT t))(hp:eX n p):gt (wr M t) p=if p=pT t then t.2.2 else gt M p:=by
 obtain⟨a,b,v⟩:=t;obtain⟨r,c⟩:=p;obtain⟨h1,h2,h3,h4⟩:=ht;obtain⟨p1,p2,p3,p4⟩:=hp;simp only[pT] at h1 h2 h3 h4 p1 p2 p3 p4;obtain⟨ra,ea,ga,la⟩:=h.get (i:=a.toNat) (by omega);have lm:a.toNat<M.length:=by rw[h.len];omega
 unfold gt wr;dsimp only;rw[ga];by_cases hr:r=a
 .subst hr;rw[iG lm];by_cases hc:c=b
  .subst hc;rw[if_pos rfl,iG (by rw[la];omega)]
  .rw[if_neg (fun z=>hc (ic Prod.snd z)),kK (by omega),ga]
 .rw[if_neg (fun z=>hr (ic Prod.fst z)),kK (by omega)]
noncomputable def lay (M:List (List Int))(cs:List Tr):List (List Int):=cs.foldl wr M
theorem p8:∀{cs:List Tr}{M:List (List Int)},iQ n M->(∀ t∈cs,eX n (pT t))->iQ n (lay M cs)
 |[],M,h,_=>h
 |t::cs,M,h,hc=>p8 (cs:=cs) (kD h (hc t ai)) fun x hx=>hc x (ah _ hx)
theorem pK (hp:eX n p):∀{cs:List Tr}{M:List (List Int)},iQ n M->(∀ t∈cs,eX n (pT t))->(∀ t∈cs,pT t≠p)->gt (lay M cs) p=gt M p
 |[],M,_,_,_=>rfl
 | t::cs,M,h,hc,hn=>by
  have:=pK hp (cs:=cs) (kD h (hc t ai)) (fun x hx=>hc x (ah _ hx)) fun x hx=>hn x (ah _ hx)
  show gt (lay (wr M t) cs) p=_;rw[this,By h (hc t ai) hp,if_neg (fun z=>hn t ai z.symm)]
theorem tX:∀{cs:List Tr}{M:List (List Int)},iQ n M->(∀ t∈cs,eX n (pT t))->(cs.map pT).Nodup->∀ t∈cs,gt (lay M cs) (pT t)=t.2.2
 | u::cs,M,h,hc,hn,t,ht=>by
  rw[ao,List.nodup_cons] at hn;have hr:=kD h (hc u ai);have hc':∀ t∈cs,eX n (pT t):=fun x hx=>hc x (ah _ hx)
  show gt (lay (wr M u) cs) (pT t)=_;rcases cg.mp ht with rfl | ht
  .rw[pK (hc t ai) hr hc' (fun x hx z=>hn.1 (z ▸ fe hx)),By h (hc t ai) (hc t ai),if_pos rfl]
  .exact tX hr hc' hn.2 t ht
noncomputable def zero (n:Nat):List (List Int):=List.replicate n (List.replicate n 0)
theorem j6 (n:Nat):iQ n (zero n):=⟨by simp[zero],fun r hr=>by
 rw[(List.mem_replicate.mp hr).2,dk]⟩
variable {env:En}{x y z:D}
theorem x8 {k:Nat}{R:List Nat}(ht:Tame env)(hi:i<env.length)(hj:j<env.length)(hk:k<env.length)(fx:x.flat=true)(fy:y.flat=true)(fz:z.flat=true):aW R (.tp [i,j,k]) (.tup [x,y,z]) env=some (((env.set i (some (x,.own))).set j (some (y,.own))).set k (some (z,.own))):=by
 show bindM (fun d=>bJ d R) [i,j,k] [x,y,z] env=_;have tx:bJ x R = .own:=by unfold bJ;rw[if_pos fx]
 have ty:bJ y R = .own:=by unfold bJ;rw[if_pos fy]
 have tz:bJ z R = .own:=by unfold bJ;rw[if_pos fz]
 simp only[bindM,hi,if_true,tx,ty,tz];rw[eQ ht,if_pos (by rw[cv];exact hj),eQ (ht.set (aC x) i),if_pos (by rw[cv,cv];exact hk),eQ ((ht.set (aC x) i).set (aC y) j)]
theorem oj {i:Int}(h0:0<=i)(h1:i<n):Pc.fU n i=some i.toNat:=by
 unfold Pc.fU;rw[if_pos h0,if_pos h1]
theorem Bs (h:iQ n M)(hi:i<n):(vG M)[i]? = some (vC (M.getD i [])):=by
 obtain⟨r,e,g,_⟩:=h.get hi;rw[List.getElem?_map,e,g];rfl
theorem CO (l:List Int)(i:Nat)(v:Int):(iD l).set i (.int v)=iD (l.set i v):=(List.map_set ..).symm
theorem Ay (M:List (List Int))(i:Nat)(r:List Int):(vG M).set i (vC r)=vG (M.set i r):=(List.map_set ..).symm
variable {R R':Rt}{T:Tb}{a b e:Ex}{v:Int}
theorem EZ {x:Nat}{r c:Int}(hr:iQ n M)(hn:n<=1000)(ht:Tame env)(hx:env[x]? = some (some (.lst (vG M),.own)))(hin:eX n (r,c))(ha:ev T a env = .ok (.int r,R))(hb:ev T b env = .ok (.int c,R'))(he:ev T e env = .ok (.int v,.mv [])) :
  aQ T (.setix x (.some a) b e) env = .nx (env.set x (some (.lst (vG (wr M (r,c,v))),.own))):=by
 obtain⟨h1,h2,h3,h4⟩:=hin;have h1:0<=r:=h1;have h2:r<n:=h2;have h3:0<=c:=h3;have h4:c<n:=h4;obtain⟨row,e1,e2,el⟩:=hr.get (i:=r.toNat) (by omega);have g:=wI (k:=b) (l:=c) (m:=c.toNat) (d:=.int v) ht hx ha (j:=r.toNat) (i:=r) (ys:=iD row) (oj h1 (by rw[ab,hr.len];exact h2)) (by rw[Bs hr (by omega),e2]) hb (oj h3 (by rw[ab,el];exact h4)) he (by rw[ab,el];exact eF (by omega));rw[g,CO,Ay];unfold wr;dsimp only;rw[e2]
noncomputable def CH:bW:=(.cons (.setix 5 (.some Hl) Ho Hq) .nil)
noncomputable def bLq (fl lc:Nat):bW:=(.cons (.asg (.nm 5) (.comp 1 [1] (.nm 0) (.rng1 Hi) .none (.bin .Mult (.lst (Hz GY)) Hi)) false)
  (.cons (.forr (.tp [4,6,7]) (.seq (.bin .Add (.call fl (HB Hi Hm Hk)) (.call lc (HB Hj Hi Hk)))) CH)
  (.cons (.ret Hn)
  .nil)))
noncomputable abbrev vD (G:List D)(s l m:Int)(a4:Slot)(M:List (List Int))(a6 a7:Slot):En:=[sS G,sI s,sI l,sI m,a4,some (.lst (vG M),.own),a6,a7]
variable {G:List D}{a4:Slot}{l m s:Int}
theorem qd {a6 a7:Slot}(h4:aH a4)(h6:aH a6)(h7:aH a7):Tame (vD G s l m a4 M a6 a7) :=
 .cons (bE _) (.cons (aC _) (.cons (aC _) (.cons (aC _) (.cons h4 (.cons (aC _) (.cons h6 (.cons h7 .nil)))))))
theorem lqL (T:Tb)(G:List D)(s l m:Int)(hn:n<=1000):∀(cs:List Tr) (M:List (List Int)) (a4 a6 a7:Slot),aH a4->aH a6->aH a7->iQ n M->(∀ t∈cs,eX n (pT t)) ->
  ∃ b4 b6 b7,bQ (.tp [4,6,7]) [] (aE T CH) (cs.map tD) (vD G s l m a4 M a6 a7) = .nx (vD G s l m b4 (lay M cs) b6 b7)
 |[],M,a4,a6,a7,_,_,_,_,_=>⟨a4,a6,a7,rfl⟩
 | t::cs,M,a4,a6,a7,h4,h6,h7,hr,hc=>by
  have to:=aC;have hb:aW [] (.tp [4,6,7]) (tD t) (vD G s l m a4 M a6 a7)=some (vD G s l m (sI t.1) M (sI t.2.1) (sI t.2.2)):=x8 (qd h4 h6 h7) (show (4:Nat)<8 by decide) (show (6:Nat)<8 by decide) (show (7:Nat)<8 by decide) rfl rfl rfl;have g:aE T CH (vD G s l m (sI t.1) M (sI t.2.1) (sI t.2.2)) = .nx (vD G s l m (sI t.1) (wr M t) (sI t.2.1) (sI t.2.2)) :=
   aX (EZ (x:=5) hr hn (qd (to _) (to _) (to _)) rfl (hc t ai) (aB (i:=4) (d:=.int t.1) (t:=.own) rfl rfl) (aB (i:=6) (d:=.int t.2.1) (t:=.own) rfl rfl) (aB (i:=7) (d:=.int t.2.2) (t:=.own) rfl rfl))
  rw[ao,cC hb g];exact lqL T G s l m hn cs (wr M t) _ _ _ (to _) (to _) (to _) (kD hr (hc t ai)) fun x hx=>hc x (ah _ hx)
theorem ph:∀ cs:List Tr,D.flats (cs.map tD)=true
 |[]=>rfl
 |_::cs=>ph cs
theorem nZ {x y:List Tr}(h:ev T a env = .ok (.lst (x.map tD),R))(h':ev T b env = .ok (.lst (y.map tD),R'))(hl:x.length+y.length<=10000):ev T (.bin .Add a b) env = .ok (.lst ((x++y).map tD),.mv []):=by
 rw[ev,h,aA,h',aA];have:lj .Add (.lst (x.map tD)) (.lst (y.map tD))=some (.lst ((x++y).map tD)):=by
  show ck _ _=_;unfold ck;rw[if_pos (by rw[ab,ab];exact eF hl),bz]
 rw[this,bR,aA];have hi:dO (.lst ((x++y).map tD)) (R.roots++R'.roots) = .mv []:=by
  unfold dO;rw[if_pos];exact ph _
 rw[hi]
theorem iO {xs:List D}(h:ev T e env = .ok (.lst xs,.mv [])):dM T (.seq e) env = .ok (xs,[]):=by
 rw[dM,h,aA];rfl
theorem FF {k:Nat}(hk:k<=10000):lj .Mult (.lst [.int 0]) (.int (k:Int))=some (vC (List.replicate k 0)):=by
 have hf:(List.replicate k [D.int 0]).flatten=iD (List.replicate k 0):=by
  clear hk
  induction k with
  |zero=>rfl
  |succ k ih=>rw[de,c8,ih];rfl
 have h1 : -(2 ^ 63)<=(k:Int)/\(k:Int)<2 ^ 63:=⟨by omega,by omega⟩;generalize hi:(k:Int)=i at *;have ht:i.toNat=k:=by omega
 simp only[lj];rw[if_pos h1,if_pos (show D.flats [.int 0]=true from rfl),ht,hf];unfold ck;rw[if_pos (by rw[dq,Nat.one_mul];exact eF hk)]
theorem zY {x:Nat}(hn:n<=1000){t:Tg}(hx:env[x]? = some (some (.int (n:Int),t))):ev T (.comp 1 [x] (.nm 0) (.rng1 (.var x)) .none (.bin .Mult (.lst (Hz GY)) Hi)) env = .ok (.lst (vG (zero n)),.mv []):=by
 have hit:=qP (T:=T) (aB (T:=T) hx rfl) (by omega) (by omega);have hp:bM env 1 [x]=[none,some (.int (n:Int),.sh [])]:=by
  unfold bM;simp only[List.replicate,List.map_cons,List.map_nil,hx];rfl
 have e1:∀ c:D,ev T (.bin .Mult (.lst (Hz GY)) Hi) [some (c,bJ c []),some (.int (n:Int),.sh [])] = .ok (vC (List.replicate n 0),.mv []):=fun c=>by
  have v1:ev T Hi [some (c,bJ c []),some (.int (n:Int),.sh [])] = .ok (.int (n:Int),.mv []):=aB rfl rfl;have l0:ev T (.lst (Hz GY)) [some (c,bJ c []),some (.int (n:Int),.sh [])] = .ok (.lst [.int 0],.mv []):=rfl;have bm:=FF (k:=n) (by omega);rw[ev,l0,aA,v1,aA,bm,bR,aA];have:dO (vC (List.replicate n 0)) (Rt.roots (.mv [])++Rt.roots (.mv [])) = .mv []:=iY _ _;rw[this]
 have:=oU (T:=T) (own:=1) (pick:=[x]) (t:=.nm 0) (e:=.bin .Mult (.lst (Hz GY)) Hi) (g:=fun _=>(vC (List.replicate n 0),.mv [])) hit (by rw[ab,dA];exact eF (by omega)) (fun d hd=>by
  rw[hp];have hb:aW [] (.nm 0) d [none,some (.int (n:Int),.sh [])]=some [some (d,bJ d []),some (.int (n:Int),.sh [])]:=rfl;rw[hb];unfold bB;dsimp only;rw[lr,aA,if_pos rfl,e1,aA]) (fun d hd=>by simp[eK])
 rw[this];congr 3;unfold zero;rw[show vG (List.replicate n (List.replicate n 0))=List.replicate n (vC (List.replicate n 0)) from List.map_replicate ..];have:∀(l:List D),l.map (fun _=>vC (List.replicate n 0))=List.replicate l.length (vC (List.replicate n 0)):=fun l=>by
  induction l with
  |nil=>rfl
  |cons a l ih=>rw[ao,ih];rfl
 rw[this,ab,dA,cq]
variable {A B:List Tr}
theorem E9 {T:Tb}{fl lc:Nat}{n:Nat}(hn:n<=1000)(hab:A.length+B.length<=10000)
  (h1:T.cl fl [.int (n:Int),.int l,.int m] = .ok (.lst (A.map tD),true)) (h2:T.cl lc [.lst G,.int (n:Int),.int m] = .ok (.lst (B.map tD),true)) (hc:∀ t∈A++B,eX n (pT t)) :
  ret (aE T (bLq fl lc) (aM [.lst G,.int (n:Int),.int l,.int m] 8)) = .ok (.lst (vG (lay (zero n) (A++B))),true):=by
 have hst:aM [.lst G,.int (n:Int),.int l,.int m] 8=[sS G,sI n,sI l,sI m,none,none,none,none]:=rfl;rw[hst];have tn:=aS;have to:=aC;have g1:aQ T (.asg (.nm 5) (.comp 1 [1] (.nm 0) (.rng1 Hi) .none (.bin .Mult (.lst (Hz GY)) Hi)) false) [sS G,sI n,sI l,sI m,none,none,none,none] = .nx (vD G n l m none (zero n) none none) :=
  aO (.cons (bE _) (.cons (to _) (.cons (to _) (.cons (to _) (.cons tn (.cons tn (.cons tn (.cons tn .nil)))))))) (show (5:Nat)<8 by decide) (zY hn rfl)
 obtain⟨b4,b6,b7,q⟩:=lqL T G n l m hn (A++B) (zero n) none none none tn tn tn (j6 n) hc;obtain⟨R0,v0⟩:∃ R,ev T Hj (vD G n l m none (zero n) none none) = .ok (.lst G,R):=cQ rfl;have v1:ev T Hi (vD G n l m none (zero n) none none) = .ok (.int (n:Int),.mv []):=aB rfl rfl;have v2:ev T Hm (vD G n l m none (zero n) none none) = .ok (.int l,.mv []):=aB rfl rfl;have v3:ev T Hk (vD G n l m none (zero n) none none) = .ok (.int m,.mv []):=aB rfl rfl;have hit:=iO (nZ (gL v1 v2 v3 h1) (gL v0 v1 v3 h2) hab);unfold bLq;rw[aE,g1,aD,aE,dD hit q,aD,aE,aQ,aV (i:=5) (d:=.lst (vG (lay (zero n) (A++B)))) rfl rfl];rfl
theorem qx {α β:Type}(f:α->D)(g:β->D):∀(l:List α) (m:List β),((l.map f).zip (m.map g)).map (fun z=>D.tup [z.1,z.2])=(l.zip m).map fun z=>D.tup [f z.1,g z.2]
 |[],_=>rfl
 |_::_,[]=>rfl
 | a::l,b::m=>by
  simp only[List.map_cons,List.zip_cons_cons];rw[qx f g l m]
theorem yU {T:Tb}{env:En}{α β:Type}{f:α->D}{g:β->D}{l:List α}{m:List β}(h:ev T a env = .ok (.lst (l.map f),R))(h':ev T b env = .ok (.lst (m.map g),R')):dM T (.zip a b) env = .ok ((l.zip m).map fun z=>D.tup [f z.1,g z.2],R.roots++R'.roots):=by
 rw[dM,h,aA,h',aA];show Rs.ok (_,_)=_;rw[qx]
noncomputable def mq (z:(Int×Int)×Int):Tr:=(z.1.1,z.1.2,z.2)
noncomputable def CW:bW:=(.cons (.mut 3 .none .append (Hz (.tup (HB (.ix Hl GY) (.ix Hl GV) Hn))))
  .nil)
noncomputable def bFl (mk rl lp lb:Nat):bW:=(.cons (.asg (.nm 3) (.bin .Add (.call mk (Hz Hj)) (.call rl (Hz Hj))) false)
  (.cons (.forr (.tp [4,5]) (.zip (.call lp (Hz Hj)) (.call lb (HA Hi Hm))) CW)
  (.cons (.ret Hk)
  .nil)))
noncomputable abbrev xA (s l m:Int)(cs:List Tr)(a4 a5:Slot):En:=[sI s,sI l,sI m,some (.lst (cs.map tD),.own),a4,a5]
theorem pI {cs:List Tr}{a5:Slot}(h4:aH a4)(h5:aH a5):Tame (xA s l m cs a4 a5) :=
 .cons (aC _) (.cons (aC _) (.cons (aC _) (.cons (aC _) (.cons h4 (.cons h5 .nil)))))
theorem sA {c:Ex}(ha:ev T a env = .ok (x,.mv []))(hb:ev T b env = .ok (y,.mv []))(hc:ev T c env = .ok (z,.mv [])):ev T (.tup (.cons a (.cons b (.cons c .nil)))) env = .ok (.tup [x,y,z],.mv []):=by
 rw[ev,bC,bC,bC,bC,ha,aA,hb,aA,hc,aA,aA,aA,aA,aA];rfl
theorem flL (T:Tb)(s l m:Int):∀(zs:List ((Int×Int)×Int)) (cs:List Tr) (a4 a5:Slot),aH a4->aH a5->cs.length+zs.length<=10000 ->
  ∃ b4 b5,bQ (.tp [4,5]) [] (aE T CW) (zs.map fun z=>D.tup [pD z.1,.int z.2]) (xA s l m cs a4 a5) = .nx (xA s l m (cs++zs.map mq) b4 b5)
 |[],cs,a4,a5,_,_,_=>⟨a4,a5,by rw[da,da,aw];rfl⟩
 | z::zs,cs,a4,a5,h4,h5,hl=>by
  have to:=aC;simp only[List.length_cons] at hl;have hb:aW [] (.tp [4,5]) (.tup [pD z.1,.int z.2]) (xA s l m cs a4 a5)=some (xA s l m cs (some (pD z.1,.own)) (sI z.2)):=j0 (pI h4 h5) (show (4:Nat)<6 by decide) (show (5:Nat)<6 by decide) rfl rfl;have g:aE T CW (xA s l m cs (some (pD z.1,.own)) (sI z.2)) = .nx (xA s l m (cs ++ [mq z]) (some (pD z.1,.own)) (sI z.2)):=by
   refine aX ((gE (xs:=cs.map tD) (d:=tD (mq z)) (pI (to _) (to _)) rfl (sA (pX (p:=z.1) (t:=.own) rfl) (qc (p:=z.1) (t:=.own) rfl) (aB (d:=.int z.2) (t:=.own) rfl rfl)) (by rw[ab];exact eF (by omega))).trans ?_);show Fl.nx ((xA _ _ _ _ _ _).set 3 _)=_;simp only[xA,List.set_cons_succ,List.set_cons_zero,List.map_append,List.map_cons,List.map_nil]
  rw[ao,cC hb g];obtain⟨b4,b5,q⟩:=flL T s l m zs (cs ++ [mq z]) _ _ (to _) (to _) (by rw[aq,dq];omega);refine⟨b4,b5,q.trans ?_⟩;rw[ao,dh];rfl
variable {P:List (Int×Int)}
theorem Ff {T:Tb}{mk rl lp lb:Nat}{Q:List Int}(h1:T.cl mk [.int s] = .ok (.lst (A.map tD),true))(h2:T.cl rl [.int s] = .ok (.lst (B.map tD),true))(h3:T.cl lp [.int s] = .ok (.lst (P.map pD),true))(h4:T.cl lb [.int l,.int m] = .ok (.lst (iD Q),true))(hl:A.length+B.length+P.length<=10000) :
  ret (aE T (bFl mk rl lp lb) (aM [.int s,.int l,.int m] 6)) = .ok (.lst ((A++B++(P.zip Q).map mq).map tD),true):=by
 have hst:aM [.int s,.int l,.int m] 6=[sI s,sI l,sI m,none,none,none]:=rfl;rw[hst];have tn:=aS;have to:=aC;have g1:aQ T (.asg (.nm 3) (.bin .Add (.call mk (Hz Hj)) (.call rl (Hz Hj))) false) [sI s,sI l,sI m,none,none,none] = .nx (xA s l m (A++B) none none) :=
  aO (.cons (to _) (.cons (to _) (.cons (to _) (.cons tn (.cons tn (.cons tn .nil)))))) (show (3:Nat)<6 by decide) (nZ (eI (aB (d:=.int s) (t:=.own) rfl rfl) h1) (eI (aB (d:=.int s) (t:=.own) rfl rfl) h2) (by omega))
 have zl:(P.zip Q).length<=P.length:=by rw[fu];omega
 obtain⟨b4,b5,q⟩:=flL T s l m (P.zip Q) (A++B) none none tn tn (by rw[aq];omega);have hit:=yU (T:=T) (env:=xA s l m (A++B) none none) (f:=pD) (g:=D.int) (eI (aB (i:=0) (d:=.int s) (t:=.own) rfl rfl) h3) (mQ (aB (i:=1) (d:=.int l) (t:=.own) rfl rfl) (aB (i:=2) (d:=.int m) (t:=.own) rfl rfl) h4);unfold bFl;rw[aE,g1,aD,aE,dD hit q,aD,aE,aQ,aV (i:=3) (d:=.lst ((A++B++(P.zip Q).map mq).map tD)) rfl rfl];rfl
noncomputable def bMc (to:Nat):bW:=(.cons (.ite (.and (.cmp .IsNot Hj (.cst .non)) (.call to (HB Hi (.ix Hm GY) (.ix Hm GV)))) (.cons (.ret (.bin .Sub GV Hj))
  .nil) .nil)
  (.cons (.ret Hj)
  .nil))
theorem Eu {T:Tb}{to:Nat}{b:Bool}(h:T.cl to [.int m,.int p.1,.int p.2] = .ok (.bl b,true)):ret (aE T (bMc to) (aM [.int v,.int m,pD p] 3)) = .ok (.int (if b then 1 - v else v),true):=by
 have hst:aM [.int v,.int m,pD p] 3=[sI v,sI m,some (pD p,.own)]:=rfl;rw[hst];have v0:ev T Hj [sI v,sI m,some (pD p,.own)] = .ok (.int v,.mv []):=aB rfl rfl;have c1:ev T (.cmp .IsNot Hj (.cst .non)) [sI v,sI m,some (pD p,.own)] = .ok (.bl true,.mv []):=by
  rw[ev,v0,aA,aF,aA];rfl
 have c2:ev T (.call to (HB Hi (.ix Hm GY) (.ix Hm GV))) [sI v,sI m,some (pD p,.own)] = .ok (.bl b,.mv []) :=
  gL (aB rfl rfl) (pX (p:=p) (t:=.own) rfl) (qc (p:=p) (t:=.own) rfl) h
 have c:ev T (.and (.cmp .IsNot Hj (.cst .non)) (.call to (HB Hi (.ix Hm GY) (.ix Hm GV)))) [sI v,sI m,some (pD p,.own)] = .ok (.bl b,.mv []):=by
  rw[ev,c1,aA];exact c2
 have r1:=gR (aF (T:=T) (env:=[sI v,sI m,some (pD p,.own)]) (.int 1)) v0;unfold bMc;cases b with
 |false =>
  rw[aE,ite_ff c,aD];exact hJ v0
 |true =>
  rw[aE,aQ,c,bO];show ret ((aE T _ _).andThen _)=_;rw[aE,aQ,r1,bO];rfl
noncomputable def Cj (bo g:Nat):bW:=(.cons (.mut 1 .none .extend (Hz (.call bo (HA Hm (.glb g)))))
  .nil)
noncomputable def bBg (bo g:Nat):bW:=(.cons (.asg (.nm 1) (.lst .nil) false)
  (.cons (.forr (.nm 2) (.seq Hj) (Cj bo g))
  (.cons (.ret Hi)
  .nil)))
theorem qv {x:Nat}{xs ys:List Int}(ht:Tame env)(hx:env[x]? = some (some (.lst (iD xs),.own)))(h:ev T e env = .ok (.lst (iD ys),.mv []))(hl:xs.length+ys.length<=10000):aQ T (.mut x .none .extend (.cons e .nil)) env = .nx (env.set x (some (.lst (iD (xs++ys)),.own))):=by
 have ho:ownAt env x=some (.lst (iD xs)):=by unfold ownAt;rw[hx]
 have hs:bC T (.cons e .nil) env = .ok [(.lst (iD ys),.mv [])]:=by
  rw[bC,h,aA];rfl
 have hf:D.flats (iD ys)=true:=jo ys;rw[aQ,ho];simp only[iS,bO,D.at1,hs,List.map_cons,List.map_nil,xM,hf,aP,Rt.roots,List.flatten_cons,List.flatten_nil,List.append_nil,List.contains_nil,Bool.false_eq_true,if_false,if_true,o9.copies,eZ,dC,Option.map_some];have:(iD xs++iD ys).length<=lim:=by rw[aq,ab,ab];exact eF hl
 simp only[List.nodup_nil,decide_true,eO,List.all_nil,Bool.not_false,Bool.and_self,this,if_true,D.set1,Bool.true_and];rw[gN ht,iD,iD,<-bz]
theorem bgL {bo g:Nat}{k:Int}(hg:T.gl g = .int k)(f:Int->List Int)(N:Nat)(G:List D):∀(gs:List Int) (xs:List Int) (a2:Slot),aH a2->(∀ x∈gs,T.cl bo [.int x,.int k] = .ok (.lst (iD (f x)),true)/\(f x).length<=N)->xs.length+gs.length*N<=10000 ->
  ∃ b2,bQ (.nm 2) [] (aE T (Cj bo g)) (iD gs) [sS G,some (.lst (iD xs),.own),a2] = .nx [sS G,some (.lst (iD (xs++gs.flatMap f)),.own),b2]
 |[],xs,a2,_,_,_=>⟨a2,by rw[List.flatMap_nil,aw];rfl⟩
 | x::gs,xs,a2,h2,hf,hl=>by
  have to:=aC;obtain⟨h,hN⟩:=hf x ai;have hb:aW [] (.nm 2) (.int x) [sS G,some (.lst (iD xs),.own),a2]=some [sS G,some (.lst (iD xs),.own),sI x]:=dX (.cons (bE _) (.cons (to _) (.cons h2 .nil))) (show (2:Nat)<3 by decide);have eg:ev T (.glb g) [sS G,some (.lst (iD xs),.own),sI x] = .ok (.int k,.mv []):=by rw[ev,hg]
  have hmul:(x::gs).length*N=gs.length*N+N:=by rw[av,Nat.succ_mul]
  rw[hmul] at hl;have gg:aE T (Cj bo g) [sS G,some (.lst (iD xs),.own),sI x] = .nx [sS G,some (.lst (iD (xs++f x)),.own),sI x] :=
   aX (qv (.cons (bE _) (.cons (to _) (.cons (to _) .nil))) rfl (mQ (aB (d:=.int x) (t:=.own) rfl rfl) eg h) (by omega))
  rw[iD,ao,cC hb gg];obtain⟨b2,q⟩:=bgL hg f N G gs (xs++f x) (sI x) (to _) (fun y hy=>hf y (ah _ hy)) (by rw[aq];omega);refine⟨b2,q.trans ?_⟩;rw[fv,dh]
theorem Fe {T:Tb}{bo g:Nat}{k:Int}(hg:T.gl g = .int k)(f:Int->List Int)(N:Nat){gs:List Int}(hf:∀ x∈gs,T.cl bo [.int x,.int k] = .ok (.lst (iD (f x)),true)/\(f x).length<=N)(hl:gs.length*N<=10000):ret (aE T (bBg bo g) (aM [.lst (iD gs)] 3)) = .ok (.lst (iD (gs.flatMap f)),true):=by
 have hst:aM [.lst (iD gs)] 3=[sS (iD gs),none,none]:=rfl;rw[hst];have g1:aQ T (.asg (.nm 1) (.lst .nil) false) [sS (iD gs),none,none] = .nx [sS (iD gs),some (.lst (iD []),.own),none]:=rfl;have hit:dM T (.seq Hj) [sS (iD gs),some (.lst (iD []),.own),none] = .ok (iD gs,[]):=rfl;obtain⟨b2,q⟩:=bgL hg f N (iD gs) gs [] none aS hf (by rw[cf];omega);unfold bBg;rw[aE,g1,aD,aE,dD hit q,aD,gb,aE,aQ,aV (i:=1) (d:=.lst (iD (gs.flatMap f))) rfl rfl];rfl
noncomputable def bLc (dp bg mc:Nat):bW:=(.cons (.asg (.nm 3) (.call dp (Hz Hi)) false)
  (.cons (.asg (.nm 4) (.call bg (Hz Hj)) false)
  (.cons (.mut 4 .none .extend (Hz (.bin .Mult (.lst (Hz GY)) (.bin .Sub (HD Hk) (HD Hl)))))
  (.cons (.ret (.comp 2 [2] (.tp [0,1]) (.zip Hk Hl) .none (.tup (HB (.ix Hj GY) (.ix Hj GV) (.call mc (HB Hi Hm Hj))))))
  .nil))))
theorem GO {i:Int}(h1 : -10000<=i)(h2:i<=10000):lj .Mult (.lst [.int 0]) (.int i)=some (vC (List.replicate i.toNat 0)):=by
 by_cases h:0<=i
 .obtain⟨k,rfl⟩:=Int.eq_ofNat_of_zero_le h;rw[cq];exact FF (by omega)
 .have hh : -(2 ^ 63)<=i/\i<2 ^ 63:=⟨by omega,by omega⟩;have ht:i.toNat=0:=by omega
  simp only[lj];rw[if_pos hh,if_pos (show D.flats [.int 0]=true from rfl),ht];unfold ck;rw[if_pos (by exact dg _)];rfl
theorem FJ {T:Tb}{dp bg mc:Nat}{B:List Int}{f:Int->Int×Int->Int}(h1:T.cl dp [.int s] = .ok (.lst (P.map pD),true))(h2:T.cl bg [.lst G] = .ok (.lst (iD B),true))(h3:∀ v,∀ p∈P,T.cl mc [.int v,.int m,pD p] = .ok (.int (f v p),true))(hP:P.length<=4000)(hB:B.length<=4000) :
  ret (aE T (bLc dp bg mc) (aM [.lst G,.int s,.int m] 5)) = .ok (.lst (((P.zip (B++List.replicate (P.length - B.length) 0)).map fun z=>(z.1.1,z.1.2,f z.2 z.1)).map tD),true):=by
 have hst:aM [.lst G,.int s,.int m] 5=[sS G,sI s,sI m,none,none]:=rfl;rw[hst];have tn:=aS;have to:=aC;have g1:aQ T (.asg (.nm 3) (.call dp (Hz Hi)) false) [sS G,sI s,sI m,none,none] = .nx [sS G,sI s,sI m,some (.lst (P.map pD),.own),none] :=
  aO (.cons (bE _) (.cons (to _) (.cons (to _) (.cons tn (.cons tn .nil))))) (show (3:Nat)<5 by decide) (eI (aB (d:=.int s) (t:=.own) rfl rfl) h1)
 obtain⟨R0,v0⟩:∃ R,ev T Hj [sS G,sI s,sI m,some (.lst (P.map pD),.own),none] = .ok (.lst G,R):=cQ rfl;have g2:aQ T (.asg (.nm 4) (.call bg (Hz Hj)) false) [sS G,sI s,sI m,some (.lst (P.map pD),.own),none] = .nx [sS G,sI s,sI m,some (.lst (P.map pD),.own),some (.lst (iD B),.own)] :=
  aO (.cons (bE _) (.cons (to _) (.cons (to _) (.cons (to _) (.cons tn .nil))))) (show (4:Nat)<5 by decide) (eI v0 h2)
 obtain⟨R3,v3⟩:∃ R,ev T Hk [sS G,sI s,sI m,some (.lst (P.map pD),.own),some (.lst (iD B),.own)] = .ok (.lst (P.map pD),R):=cQ rfl;obtain⟨R4,v4⟩:∃ R,ev T Hl [sS G,sI s,sI m,some (.lst (P.map pD),.own),some (.lst (iD B),.own)] = .ok (.lst (iD B),R):=cQ rfl;have el:=gR (gF v3) (gF v4);rw[ab,ab] at el;have l0:ev T (.lst (Hz GY)) [sS G,sI s,sI m,some (.lst (P.map pD),.own),some (.lst (iD B),.own)] = .ok (.lst [.int 0],.mv []):=rfl;have em:ev T (.bin .Mult (.lst (Hz GY)) (.bin .Sub (HD Hk) (HD Hl))) [sS G,sI s,sI m,some (.lst (P.map pD),.own),some (.lst (iD B),.own)] = .ok (vC (List.replicate (P.length - B.length) 0),.mv []):=by
  rw[ev,l0,aA,el,aA,GO (by omega) (by omega),bR,aA];have ht:((P.length:Int) - (B.length:Int)).toNat=P.length - B.length:=by omega
  rw[ht];have:dO (vC (List.replicate (P.length - B.length) 0)) (Rt.roots (.mv [])++Rt.roots (.mv [])) = .mv []:=iY _ _;rw[this]
 have g3:=qv (x:=4) (xs:=B) (ys:=List.replicate (P.length - B.length) 0) (.cons (bE (.lst G)) (.cons (to (.int s)) (.cons (to (.int m)) (.cons (to (.lst (P.map pD))) (.cons (to (.lst (iD B))) .nil))))) rfl em (by rw[dk];omega);generalize hC:B++List.replicate (P.length - B.length) 0=C at g3;have g3:aQ T (.mut 4 .none .extend (Hz (.bin .Mult (.lst (Hz GY)) (.bin .Sub (HD Hk) (HD Hl))))) [sS G,sI s,sI m,some (.lst (P.map pD),.own),some (.lst (iD B),.own)] = .nx [sS G,sI s,sI m,some (.lst (P.map pD),.own),some (.lst (iD C),.own)]:=g3;have w3:∃ R,ev T Hk [sS G,sI s,sI m,some (.lst (P.map pD),.own),some (.lst (iD C),.own)] = .ok (.lst (P.map pD),R):=cQ rfl;have w4:∃ R,ev T Hl [sS G,sI s,sI m,some (.lst (P.map pD),.own),some (.lst (iD C),.own)] = .ok (.lst (iD C),R):=cQ rfl;obtain⟨R5,w3⟩:=w3;obtain⟨R6,w4⟩:=w4;have hit:=yU (f:=pD) (g:=D.int) w3 w4;unfold bLc;rw[aE,g1,aD,aE,g2,aD,aE,g3,aD];refine hJ ?_;have hp:bM [sS G,sI s,sI m,some (.lst (P.map pD),.own),some (.lst (iD C),.own)] 2 [2]=[none,none,some (.int m,.sh [])]:=rfl;have hz:(P.zip C).length<=P.length:=by rw[fu];omega
 have:=oU (T:=T) (own:=2) (pick:=[2]) (t:=.tp [0,1]) (e:=.tup (HB (.ix Hj GY) (.ix Hj GV) (.call mc (HB Hi Hm Hj)))) (g:=fun d=>match d with
  |.tup [.tup [.int a,.int b],.int v]=>(tD (a,b,f v (a,b)),.mv [])
  | _=>(.non,.mv [])) hit (by rw[ab];exact eF (by omega)) (fun d hd=>by
   obtain⟨z,hz,rfl⟩:=List.mem_map.mp hd;have zp:z.1∈P:=(jb hz).1;rw[hp];have hb:aW [] (.tp [0,1]) (.tup [pD z.1,.int z.2]) [none,none,some (.int m,.sh [])]=some [some (pD z.1,.own),sI z.2,some (.int m,.sh [])]:=rfl;rw[hb];unfold bB;dsimp only;rw[lr,aA,if_pos rfl,sA (pX (p:=z.1) (t:=.own) rfl) (qc (p:=z.1) (t:=.own) rfl) (gL (aB (d:=.int z.2) (t:=.own) rfl rfl) (aB (d:=.int m) (t:=.sh []) rfl rfl) (aB (d:=pD z.1) (t:=.own) rfl rfl) (h3 z.2 z.1 zp)),aA]) (fun d hd=>by
   obtain⟨z,hz,rfl⟩:=List.mem_map.mp hd;rfl)
 rw[this];congr 3;rw[cz,cz];rfl
end Pc.Fr
end
section
namespace K33
open PySem Pc Pc.Sm Pc.Lw Pc.Gr Pc.Nw Pc.Fr
noncomputable def qZ:List D->Option (List Tr)
 |[]=>some []
 |.tup [.int a,.int b,.int c]::r=>(qZ r).map ((a,b,c) :: ·)
 |_::_=>none
noncomputable def prs:List D->Option (List (Int×Int))
 |[]=>some []
 |.tup [.int a,.int b]::r=>(prs r).map ((a,b) :: ·)
 |_::_=>none
theorem se:∀{l:List D}{x:List Tr},qZ l=some x->l=x.map tD
 |[],x,h=>by cases h;rfl
 | d::r,x,h=>by
  unfold qZ at h;split at h
  .exact absurd ‹_::_=[]› (by simp)
  .rename_i a b c r' e;cases e;rw[aa] at h;obtain⟨y,h1,rfl⟩:=h;rw[se h1];rfl
  .cases h
theorem wA:∀{l:List D}{x:List (Int×Int)},prs l=some x->l=x.map pD
 |[],x,h=>by cases h;rfl
 | d::r,x,h=>by
  unfold prs at h;split at h
  .exact absurd ‹_::_=[]› (by simp)
  .rename_i a b r' e;cases e;rw[aa] at h;obtain⟨y,h1,rfl⟩:=h;rw[wA h1];rfl
  .cases h
noncomputable def okN (s:Int)(p:Int×Int):Bool:=decide (0<=p.1)&&decide (p.1<s)&&decide (0<=p.2)&&decide (p.2<s)
noncomputable def cr (s:Int)(p:Int×Int):Int:=p.1 / 3*10000+(if p.1 / 3%2=1 then s - 1 - p.2 else p.2)*100+p.1
noncomputable def inc (s:Int):Int->List (Int×Int)->Bool
 |_,[]=>true
 |b,p::r=>okN s p&&decide (b<cr s p)&&inc s (cr s p) r
noncomputable def ndM:Nat->List (Int×Int)->Bool
 |_,[]=>true
 |M,p::r=>!M.testBit (vE (kP p))&&ndM (M ||| 2 ^ vE (kP p)) r
noncomputable def eqK:List (List Int)->List (Int×Int)->Bool
 |[],[]=>true
 |[a,b]::r,p::q=>a==p.1&&b==p.2&&eqK r q
 |_,_=>false
theorem xw:∀{ks:List (List Int)}{ps:List (Int×Int)},eqK ks ps=true->ks=ps.map kP
 |[],[],_=>rfl
 |[],_::_,h=>by cases h
 | k::r,ps,h=>by
  unfold eqK at h;split at h
  .exact absurd ‹_::_=[]› (by simp)
  .rename_i a b r' p q e1;cases e1;simp only[Bool.and_eq_true,beq_iff_eq] at h;rw[ao,<-xw h.2,h.1.1,h.1.2]
  .cases h
theorem wZ:∀{ps:List (Int×Int)}{M:Nat},ndM M ps=true->ps.Nodup/\∀ p∈ps,M.testBit (vE (kP p))=false
 |[],M,_=>⟨bu,fun p hp=>(nomatch hp)⟩
 | p::r,M,h=>by
  rw[ndM,ag,fw] at h;obtain⟨h1,h2⟩:=wZ h.2;have h3:∀ q∈r,M.testBit (vE (kP q))=false/\vE (kP p)≠vE (kP q):=fun q hq=>by
   have:=h2 q hq;rw[Nat.testBit_or,Bool.or_eq_false_iff,Nat.testBit_two_pow] at this;exact⟨this.1,by simpa using this.2⟩
  refine⟨List.nodup_cons.mpr ⟨fun z=>(h3 p z).2 rfl,h1⟩,fun q hq=>?_⟩;rcases cg.mp hq with rfl | hq
  .exact h.1
  .exact (h3 q hq).1
variable {s:Int}
theorem y9:∀{ps:List (Int×Int)}{b:Int},inc s b ps=true->(∀ p∈ps,okN s p=true)/\ps.Nodup/\∀ p∈ps,b<cr s p
 |[],b,_=>⟨fun p hp=>(nomatch hp),bu,fun p hp=>(nomatch hp)⟩
 | p::r,b,h=>by
  rw[inc,ag,ag,bw] at h;obtain⟨⟨h1,h2⟩,h3⟩:=h;obtain⟨i1,i2,i3⟩:=y9 h3;refine⟨fun q hq=>?_,List.nodup_cons.mpr ⟨fun z=>Int.lt_irrefl _ (i3 p z),i2⟩,fun q hq=>?_⟩
  .rcases cg.mp hq with rfl | hq
   .exact h1
   .exact i1 q hq
  .rcases cg.mp hq with rfl | hq
   .exact h2
   .exact Int.lt_trans h2 (i3 q hq)
noncomputable def rm (s:Int):Nat:=if s=15 then 16 else if s=19 then 37 else if s=23 then 64 else if s=27 then 96 else 133
noncomputable def Ah (s:Int):Bool:=match (T 3).cl 1 [.int s],(T 1).cl 4 [.int s],(T 1).cl 5 [.int s],(T 4).cl 7 [.int s] with
 | .ok (.lst a,true),.ok (.lst b,true),.ok (.lst c,true),.ok (.mpt ks,true)=>(match qZ a,qZ b,prs c with
  |some x,some y,some z=>eqK ks (x.map pT++y.map pT++z)&&(x.map pT++y.map pT++z).all (okN s)&&ndM 0 (x.map pT++y.map pT++z)&&decide (x.length+y.length<=200)&&z.length==16&&inc s (-1) (iP s)&&(x.map pT++y.map pT++z).contains (0,0)&&ks.all zd&&decide (6*rm s<=(plM s (Cc ks)).length)
  |_,_,_=>false)
 |_,_,_,_=>false
structure gK (s:Int)(x y:List Tr)(z:List (Int×Int))(ks:List (List Int)):Prop where
 hm:(T 3).cl 1 [.int s] = .ok (.lst (x.map tD),true)
 hr:(T 1).cl 4 [.int s] = .ok (.lst (y.map tD),true)
 hl:(T 1).cl 5 [.int s] = .ok (.lst (z.map pD),true)
 ht:(T 4).cl 7 [.int s] = .ok (.mpt ks,true)
 ek:ks=(x.map pT++y.map pT++z).map kP
 ok:∀ p∈x.map pT++y.map pT++z,okN s p=true
 nd:(x.map pT++y.map pT++z).Nodup
 len:x.length+y.length<=200
 zl:z.length=16
 so:∀ p∈iP s,okN s p=true
 sn:(iP s).Nodup
 z0:((0:Int),(0:Int))∈x.map pT++y.map pT++z
 kk:ks.all zd=true
 pm:6*rm s<=(plM s (Cc ks)).length
theorem vK (h:Ah s=true):∃ x y z ks,gK s x y z ks:=by
 unfold Ah at h;split at h
 .rename_i a b c ks e1 e2 e3 e4;split at h
  .rename_i x y z f1 f2 f3;simp only[Bool.and_eq_true,decide_eq_true_eq,beq_iff_eq,List.all_eq_true] at h;obtain⟨⟨⟨⟨⟨⟨⟨⟨h1,h2⟩,h3⟩,h4⟩,h5⟩,h6⟩,h9⟩,h7⟩,h8⟩:=h;obtain⟨i1,i2,i3⟩:=y9 h6;exact⟨x,y,z,ks,by rw[e1,se f1],by rw[e2,se f2],by rw[e3,wA f3],e4,xw h1,h2,(wZ h3).1,h4,h5,i1,i2,List.contains_iff_mem.mp h9,cu.mpr h7,h8⟩
  .cases h
 .cases h
theorem GG:Ah 15=true:=by decide +kernel
theorem Fo:Ah 19=true:=by decide +kernel
theorem GA:Ah 23=true:=by decide +kernel
theorem Fy:Ah 27=true:=by decide +kernel
theorem EB:Ah 31=true:=by decide +kernel
noncomputable def mZ (g:Int):List Int:=[g / 32%2,g / 16%2,g / 8%2,g / 4%2,g / 2%2,g%2]
noncomputable def eqI:List D->List Int->Bool
 |[],[]=>true
 |.int a::r,b::q=>a==b&&eqI r q
 |_,_=>false
theorem w9:∀{l:List D}{m:List Int},eqI l m=true->l=iD m
 |[],[],_=>rfl
 |[],_::_,h=>by cases h
 | d::r,m,h=>by
  unfold eqI at h;split at h
  .exact absurd ‹_::_=[]› (by simp)
  .rename_i a r' b q e1;cases e1;simp only[Bool.and_eq_true,beq_iff_eq] at h;rw[h.1,w9 h.2];rfl
  .cases h
noncomputable def EC (g:Nat):Bool:=match (T 1).cl 0 [.int (g:Int),.int 6] with
 | .ok (.lst l,true)=>eqI l (mZ (g:Int))
 |_=>false
theorem cB:Fl64.allB 64 EC=true:=by decide +kernel
noncomputable def insI:List D->Option (List Int)
 |[]=>some []
 |.int a::r=>(insI r).map (a :: ·)
 |_::_=>none
theorem sO:∀{l:List D}{x:List Int},insI l=some x->l=iD x
 |[],x,h=>by cases h;rfl
 | d::r,x,h=>by
  unfold insI at h;split at h
  .exact absurd ‹_::_=[]› (by simp)
  .rename_i a r' e;cases e;rw[aa] at h;obtain⟨y,h1,rfl⟩:=h;rw[sO h1];rfl
  .cases h
noncomputable def FH (v:Nat):Bool:=match (T 3).cl 10 [.int (v / 8:Nat),.int (v%8:Nat)] with
 | .ok (.lst l,true)=>(match insI l with
  |some q=>q.length==16
  |none=>false)
 |_=>false
theorem cL:Fl64.allB 32 FH=true:=by decide +kernel
variable {n:Nat}
theorem up {f:Nat}{ds:List D}{r:D×Bool}(h:(T n).cl f ds = .ok r)(m:Nat)(hm:n<=m):(T m).cl f ds = .ok r:=by
 obtain⟨k,rfl⟩:=Nat.exists_eq_add_of_le hm;exact yV h k
theorem zU (h:sf s):Ah s=true:=by
 rcases h with rfl | rfl | rfl | rfl | rfl
 .exact GG
 .exact Fo
 .exact GA
 .exact Fy
 .exact EB
theorem o5 {p:Int×Int}(h:okN (n:Int) p=true):eX n p:=by
 unfold okN at h;simp only[Bool.and_eq_true,decide_eq_true_eq] at h;exact⟨h.1.1.1,h.1.1.2,h.1.2,h.2⟩
variable {ks:List (List Int)}{x y:List Tr}{z:List (Int×Int)}
theorem data (s:Int)(h:sf s)(F:gK s x y z ks):(T 5).cl 6 [.int s] = .ok (.lst ((fM s ks).map pD),true):=by
 rw[ui,cU (F:=⟨1,2,b6⟩) rfl rfl];refine A3 h (T:=T 4) (tk:=7) (st:=8) F.ht ?_;rw[ui,cU (F:=⟨1,7,b8⟩) rfl rfl];exact wG (T:=T 3) (g:=8) rfl h
theorem bits (g:Int)(h0:0<=g)(h1:g<64):(T 1).cl 0 [.int g,.int 6] = .ok (.lst (iD (mZ g)),true):=by
 obtain⟨n,rfl⟩:=Int.eq_ofNat_of_zero_le h0;have:=Fl64.jS cB n (by omega);unfold EC at this;split at this
 .rename_i l e;rw[e,w9 this]
 .cases this
theorem labs (l m:Nat)(hl:l<4)(hm:m<8):∃ q:List Int,q.length=16/\(T 3).cl 10 [.int (l:Int),.int (m:Int)] = .ok (.lst (iD q),true):=by
 have:=Fl64.jS cL (8*l+m) (by omega);unfold FH at this;rw[show (8*l+m) / 8=l by omega,show (8*l+m)%8=m by omega] at this;split at this
 .rename_i L e;split at this
  .rename_i q f;rw[f6] at this;exact⟨q,this,by rw[e,sO f]⟩
  .cases this
 .cases this
variable {gs:List Int}
theorem grb (hg:∀ g∈gs,0<=g/\g<64)(hl:gs.length<=200):(T 4).cl 9 [.lst (iD gs)] = .ok (.lst (iD (gs.flatMap mZ)),true):=by
 rw[ui,cU (F:=⟨1,3,b9⟩) rfl rfl];exact Fe (T:=T 3) (bo:=0) (g:=9) (k:=6) rfl mZ 6 (fun g h=>⟨up (bits g (hg g h).1 (hg g h).2) 3 (by decide),au 6⟩) (by omega)
variable {R':Rt}{j:Int}
theorem dJ {T:Tb}{env:En}{a b:Ex}{i:Int}{R:Rt}(hs:small i=true)(ha:ev T a env = .ok (.int i,R))(hb:ev T b env = .ok (.int j,R')):ev T (.bin .Mult a b) env = .ok (.int (i*j),.mv []):=by
 rw[ev,ha,aA,hb,aA,gZ];simp only[Pc.binI,hs,Bool.true_or,if_true,Option.map_some,bR,aA,jR]
variable {R:Rt}{a b:Ex}{env:En}{i:Int}
theorem BG {T:Tb}(ha:ev T a env = .ok (.int i,R))(hb:ev T b env = .ok (.int j,R')):ev T (.cmp .Lt a b) env = .ok (.bl (decide (i<j)),.mv []):=by
 rw[ev,ha,aA,hb,aA];rfl
theorem cN {T:Tb}(ha:ev T a env = .ok (.int i,R))(hb:ev T b env = .ok (.int j,R')):ev T (.cmp .Eq a b) env = .ok (.bl (i==j),.mv []):=by
 rw[ev,ha,aA,hb,aA];rfl
theorem kU {T:Tb}{c e:Ex}{b x:Bool}{rest:bW}(hc:ev T c env = .ok (.bl b,.mv []))(he:ev T e env = .ok (.bl x,.mv []))(h:∃ y,ret (aE T rest env) = .ok (.bl y,true)):∃ y,ret (aE T (.cons (.ite c (.cons (.ret e) .nil) .nil) rest) env) = .ok (.bl y,true):=by
 cases b with
 |false=>rw[aE,ite_ff hc,aD];exact h
 |true =>
  refine⟨x,?_⟩;rw[aE,aQ,hc,bO];show ret ((aE T _ _).andThen _)=_;rw[aE,aQ,he,bO];rfl
theorem C4 (m r c:Int)(hr:small r=true)(hc:small c=true):∃ b,(T 1).cl 12 [.int m,.int r,.int c] = .ok (.bl b,true):=by
 rw[ui,cU (F:=⟨3,3,b12⟩) rfl rfl];have hst:aM [.int m,.int r,.int c] 3=[sI m,sI r,sI c]:=rfl;dsimp only;rw[hst];have v0:ev (T 0) Hj [sI m,sI r,sI c] = .ok (.int m,.mv []):=aB rfl rfl;have v1:ev (T 0) Hi [sI m,sI r,sI c] = .ok (.int r,.mv []):=aB rfl rfl;have v2:ev (T 0) Hm [sI m,sI r,sI c] = .ok (.int c,.mv []):=aB rfl rfl;have k:∀ i:Int,ev (T 0) (.cst (.int i)) [sI m,sI r,sI c] = .ok (.int i,.mv []):=fun i=>aF _
 unfold b12;refine kU (cN v0 (k _)) (cN (bN (by omega) v1 (k 2)) (k _)) ?_;refine kU (cN v0 (k _)) (cN (bN (by omega) v2 (k 2)) (k _)) ?_;refine kU (cN v0 (k _)) (cN (bN (by omega) (cP v1 v2) (k 2)) (k _)) ?_;refine kU (cN v0 (k _)) (cN (bN (by omega) (cP v1 (dJ (by decide) (k 2) v2)) (k 3)) (k _)) ?_;refine kU (cN v0 (k _)) (cN (bN (by omega) (cP (cM (by omega) (by omega) v1 (k 3)) (cM (by omega) (by omega) v2 (k 2))) (k 2)) (k _)) ?_;refine kU (cN v0 (k _)) (cN (bN (by omega) (bN (by omega) (dJ hr v1 v2) (k 5)) (k 2)) (k _)) ?_;refine kU (cN v0 (k _)) (BG (bN (by omega) (cP (dJ hr v1 v1) v2) (k 4)) (k _)) ?_;exact⟨_,hJ (BG (bN (by omega) (cP v1 (dJ hc v2 v2)) (k 7)) (k _))⟩
noncomputable def tov (m r c:Int):Bool:=match (T 1).cl 12 [.int m,.int r,.int c] with
 | .ok (.bl b,true)=>b
 |_=>false
theorem Dj (m:Int)(hn:n<=1000){p:Int×Int}(hp:eX n p):(T 1).cl 12 [.int m,.int p.1,.int p.2] = .ok (.bl (tov m p.1 p.2),true):=by
 obtain⟨h1,h2,h3,h4⟩:=hp;obtain⟨b,e⟩:=C4 m p.1 p.2 (hW h1 (by omega)) (hW h3 (by omega));rw[e];unfold tov;rw[e]
noncomputable def p9 (m v:Int)(p:Int×Int):Int:=if tov m p.1 p.2 then 1 - v else v
theorem mcl (m v:Int){n:Nat}(hn:n<=1000){p:Int×Int}(hp:eX n p):(T 2).cl 16 [.int v,.int m,pD p] = .ok (.int (p9 m v p),true):=by
 rw[ui,cU (F:=⟨3,3,b16⟩) rfl rfl];exact Eu (T:=T 1) (to:=12) (Dj m hn hp)
structure Laid (s:Int)(n:Nat)(x y:List Tr)(z:List (Int×Int))(ps:List (Int×Int))(C q:List Int)(m:Int)(M:List (List Int)):Prop where
 rect:iQ n M
 mr:∀ t∈x++y,eX n (pT t)/\gt M (pT t)=t.2.2
 lb:(∀ p∈z,eX n p)/\z.map (gt M)=q
 dt:∀(i:Nat) p,ps[i]? = some p->eX n p/\∃ v,C[i]? = some v/\gt M p=p9 m v p
theorem zip_get {α β:Type}{l:List α}{m:List β}{i:Nat}{a:α}{b:β}(ha:l[i]? = some a)(hb:m[i]? = some b):(a,b)∈l.zip m:=by
 have:(l.zip m)[i]? = some (a,b):=List.getElem?_zip_eq_some.mpr ⟨ha,hb⟩;exact List.mem_of_getElem? this
theorem og {α β:Type}:∀(l:List α) (m:List β),l.length<=m.length->(l.zip m).map Prod.fst=l
 |[],_,_=>rfl
 |a::l,[],h=>by simp at h
 | a::l,b::m,h=>by
  rw[List.zip_cons_cons,List.map_cons,og l m (by simpa using h)]
theorem y6 {α:Type}{l:List α}{i:Nat}(h:i<l.length):∃ v,l[i]? = some v:=⟨l[i],List.getElem?_eq_getElem h⟩
theorem laid (h:sf s)(F:gK s x y z ks)(hs:s=(n:Int))(hn:n<=31)(hg:∀ g∈gs,0<=g/\g<64)(hl:gs.length<=200)(l m:Nat)(hl4:l<4)(hm8:m<8) :
  ∃ q M,q.length=16/\(T 3).cl 10 [.int (l:Int),.int (m:Int)] = .ok (.lst (iD q),true)/\(T 7).cl 13 [.lst (iD gs),.int s,.int (l:Int),.int (m:Int)] = .ok (.lst (vG M),true) /\
   Laid s n x y z (fM s ks) (gs.flatMap mZ++List.replicate ((fM s ks).length - (gs.flatMap mZ).length) 0) q (m:Int) M:=by
 obtain⟨q,ql,hq⟩:=labs l m hl4 hm8;subst hs;have hin:∀ p∈x.map pT++y.map pT++z,eX n p:=fun p hp=>o5 (F.ok p hp)
 have hpn:∀ p∈fM (n:Int) ks,eX n p:=fun p hp=>o5 (F.so p (jc.mp hp).1)
 have hps:(fM (n:Int) ks).length<=4000:=by
  have h1:(fM (n:Int) ks).length<=(iP (n:Int)).length:=je _ _;have h2:(iP (n:Int)).length<=4000:=by
   have:=xo h;exact this
  omega
 have hB:(gs.flatMap mZ).length<=4000:=by
  have:∀ l:List Int,(l.flatMap mZ).length=l.length*6:=by
   intro l
   induction l with
   |nil=>rfl
   |cons a l ih=>rw[fv,aq,ih,av];show 6+_=_;omega
  rw[this];omega
 generalize hC:gs.flatMap mZ++List.replicate ((fM (n:Int) ks).length - (gs.flatMap mZ).length) 0=C;have hCl:(fM (n:Int) ks).length<=C.length:=by rw[<-hC,aq,dk];omega
 generalize hA:x++y++(z.zip q).map mq=A;generalize hD:((fM (n:Int) ks).zip C).map (fun w=>(w.1.1,w.1.2,p9 (m:Int) w.2 w.1))=E;have f14:(T 6).cl 14 [.int (n:Int),.int (l:Int),.int (m:Int)] = .ok (.lst (A.map tD),true):=by
  rw[ui,cU (F:=⟨3,6,b14⟩) rfl rfl,<-hA];exact Ff (T:=T 5) (mk:=1) (rl:=4) (lp:=5) (lb:=10) (up F.hm 5 (by decide)) (up F.hr 5 (by decide)) (up F.hl 5 (by decide)) (up hq 5 (by decide)) (by have:=F.len;have:=F.zl;omega)
 have f15:(T 6).cl 15 [.lst (iD gs),.int (n:Int),.int (m:Int)] = .ok (.lst (E.map tD),true):=by
  rw[ui,cU (F:=⟨3,5,b15⟩) rfl rfl,<-hD,<-hC];exact FJ (T:=T 5) (dp:=6) (bg:=9) (mc:=16) (f:=fun v p=>p9 (m:Int) v p) (data _ h F) (up (grb hg hl) 5 (by decide)) (fun v p hp=>up (mcl (m:Int) v (n:=n) (by omega) (hpn p hp)) 5 (by decide)) hps hB
 have hzl:(z.zip q).length=16:=by rw[fu,F.zl,ql];rfl
 have hAp:A.map pT=x.map pT++y.map pT++z:=by
  rw[<-hA,bz,bz];congr 1;rw[cz];have:(pT∘mq)=Prod.fst:=by funext w;rfl
  rw[this,og _ _ (by rw[F.zl,ql];exact au _)]
 have hEp:E.map pT=fM (n:Int) ks:=by
  rw[<-hD,cz];have:(pT∘fun w:(Int×Int)×Int=>(w.1.1,w.1.2,p9 (m:Int) w.2 w.1))=Prod.fst:=by funext w;rfl
  rw[this,og _ _ hCl]
 have hc:∀ t∈A++E,eX n (pT t):=fun t ht=>by
  rcases ig.mp ht with ht | ht
  .exact hin _ (by rw[<-hAp];exact fe ht)
  .exact hpn _ (by rw[<-hEp];exact fe ht)
 have hnd:((A++E).map pT).Nodup:=by
  rw[bz,hAp,hEp,ef];refine⟨F.nd,F.sn.filter _,fun a ha b hb e=>?_⟩;subst e;have:=(jc.mp hb).2;rw[fw,F.ek] at this;have hk:((x.map pT++y.map pT++z).map kP).contains [a.1,a.2]=true:=by
   rw[List.contains_iff_mem];exact List.mem_map.mpr ⟨a,ha,rfl⟩
  rw[hk] at this;cases this
 have hr:=p8 (j6 n) hc;have hget:=tX (j6 n) hc hnd;refine⟨q,lay (zero n) (A++E),ql,hq,?_,hr,fun t ht=>?_,⟨fun p hp=>hin p (ak _ hp),?_⟩,fun i p hi=>?_⟩
 .rw[ui,cU (F:=⟨4,8,b13⟩) rfl rfl];refine E9 (T:=T 6) (fl:=14) (lc:=15) (n:=n) (by omega) ?_ f14 f15 hc;have e1:A.length=x.length+y.length+16:=by rw[<-hA,aq,aq,ab,hzl]
  have e2:E.length<=4000:=by rw[<-ab (f:=pT),hEp];exact hps
  have:=F.len;omega
 .have:t∈A++E:=by rw[<-hA];simp only[List.mem_append] at ht ⊢;exact .inl (.inl ht)
  exact⟨hc t this,hget t this⟩
 .refine List.ext_getElem? fun i=>?_
  rw[List.getElem?_map];cases hz:z[i]? with
  |none =>
   rw[List.getElem?_eq_none_iff,F.zl] at hz;rw[Option.map_none,List.getElem?_eq_none (by rw[ql];exact hz)]
  |some p =>
   have hi:=(List.getElem?_eq_some_iff.mp hz).1;obtain⟨w,hq'⟩:=y6 (l:=q) (i:=i) (by rw[ql,<-F.zl];exact hi);rw[bp,hq'];have hm:mq (p,w)∈A++E:=by
    rw[<-hA];exact bf _ (ak _ (fe (zip_get hz hq')))
   have hh:gt (lay (zero n) (A++E)) p=w:=hget (mq (p,w)) hm;rw[hh]
 .have hp:p∈fM (n:Int) ks:=List.mem_of_getElem? hi;have hli:=(List.getElem?_eq_some_iff.mp hi).1;obtain⟨w,hv⟩:=y6 (l:=C) (i:=i) (be hli hCl);refine⟨hpn p hp,w,hv,?_⟩;have hm:(p.1,p.2,p9 (m:Int) w p)∈A++E:=by
   rw[<-hD];refine ak _ (List.mem_map.mpr ⟨(p,w),zip_get hi hv,rfl⟩)
  have hh:gt (lay (zero n) (A++E)) p=p9 (m:Int) w p:=hget (p.1,p.2,p9 (m:Int) w p) hm;exact hh
end K33
end
section
namespace Pc.Fr
open PySem Pc Pc.Sm Pc.Lw Pc.Gr Pc.Nw
variable {R R':Rt}{a b:Ex}{i j:Int}
section
variable {T:Tb}{env:En}
theorem dJ {a b:Ex}{i:Int}{R:Rt}(hs:(small i || small j)=true)(ha:ev T a env = .ok (.int i,R))(hb:ev T b env = .ok (.int j,R')):ev T (.bin .Mult a b) env = .ok (.int (i*j),.mv []):=by
 rw[ev,ha,aA,hb,aA,gZ];simp only[Pc.binI,hs,if_true,Option.map_some,bR,aA,jR]
theorem Fu (ha:ev T a env = .ok (.int i,R))(hb:ev T b env = .ok (.int j,R')):ev T (.cmp .Gt a b) env = .ok (.bl (decide (j<i)),.mv []):=by
 rw[ev,ha,aA,hb,aA];rfl
theorem cN (ha:ev T a env = .ok (.int i,R))(hb:ev T b env = .ok (.int j,R')):ev T (.cmp .Eq a b) env = .ok (.bl (i==j),.mv []):=by
 rw[ev,ha,aA,hb,aA];rfl
theorem j7 {l:List Int}{i:Int}{v:Int}(h0:0<=i)(hv:l[i.toNat]? = some v)(ha:ev T a env = .ok (.lst (iD l),R))(hb:ev T b env = .ok (.int i,R')):ev T (.ix a b) env = .ok (.int v,.mv []):=by
 have hi:=(List.getElem?_eq_some_iff.mp hv).1;have:BN (.lst (iD l)) (.int i)=some (.int v):=by
  show ((Pc.fU (iD l).length i).bind fun j=>(iD l)[j]?)=_;rw[oj h0 (by rw[ab];omega),Option.bind_some,List.getElem?_map,hv];rfl
 rw[ev,ha,aA,hb,aA,this];rfl
theorem Fk {f:Nat}{e1 e2 e3 e4:Ex}{d1 d2 d3 d4 r:D}{R1 R2 R3 R4:Rt}(h1:ev T e1 env = .ok (d1,R1))(h2:ev T e2 env = .ok (d2,R2))(h3:ev T e3 env = .ok (d3,R3))(h4:ev T e4 env = .ok (d4,R4))(h:T.cl f [d1,d2,d3,d4] = .ok (r,true)):ev T (.call f (.cons e1 (.cons e2 (.cons e3 (.cons e4 .nil))))) env = .ok (r,.mv []):=by
 rw[ev,bC,bC,bC,bC,bC,h1,aA,h2,aA,h3,aA,h4,aA,aA,aA,aA,aA,aA];show (T.cl f [d1,d2,d3,d4]).bind _=_;rw[h,aA];rfl
end
noncomputable def FA:bW:=(.cons (.asg (.nm 3) Hi false)
  (.cons (.ite (.cmp .Gt (HD Hj) GY) (.cons (.asg (.nm 3) (.ix Hj (.bin .Mod Hi (HD Hj))) false)
  .nil) .nil)
  (.cons (.ret (.bin .Mod (.bin .Add (.bin .Add (.bin .Add (.bin .Mult (.bin .Mod Hk (Hh 1000000007)) (Hh 69621)) (.bin .Mult (.bin .Mult Hi Hi) (Hh 7919))) (.bin .Mult G5 Hi)) (Hh 1234567)) Hm))
  .nil)))
theorem Cm {T:Tb}(ns:List Int)(k p:Int)(hk:0<=k)(hk':k<=100000)(hp:0<p):∃ d,0<=d/\ret (aE T FA (aM [.lst (iD ns),.int k,.int p] 4)) = .ok (.int d,true):=by
 have hst:aM [.lst (iD ns),.int k,.int p] 4=[sS (iD ns),sI k,sI p,none]:=rfl;rw[hst];have to:=aC;have g1:aQ T (.asg (.nm 3) Hi false) [sS (iD ns),sI k,sI p,none] = .nx [sS (iD ns),sI k,sI p,sI k]:=aO (.cons (bE _) (.cons (to _) (.cons (to _) (.cons aS .nil)))) (show (3:Nat)<4 by decide) (aB rfl rfl);have core:∀ c:Int,∃ d,0<=d/\ret (aE T (.cons (.ret (.bin .Mod (.bin .Add (.bin .Add (.bin .Add (.bin .Mult (.bin .Mod Hk (Hh 1000000007)) (Hh 69621)) (.bin .Mult (.bin .Mult Hi Hi) (Hh 7919))) (.bin .Mult G5 Hi)) (Hh 1234567)) Hm)) .nil) [sS (iD ns),sI k,sI p,sI c]) = .ok (.int d,true):=fun c=>by
  have v1:ev T Hi [sS (iD ns),sI k,sI p,sI c] = .ok (.int k,.mv []):=aB rfl rfl;have v2:ev T Hm [sS (iD ns),sI k,sI p,sI c] = .ok (.int p,.mv []):=aB rfl rfl;have v3:ev T Hk [sS (iD ns),sI k,sI p,sI c] = .ok (.int c,.mv []):=aB rfl rfl;have sk:small k=true:=hW hk (by omega);have e1:=dJ (by rw[show small 69621=true by decide,Bool.or_true]) (bN (by omega) v3 (aF (.int 1000000007))) (aF (.int 69621));have e2:=dJ (by rw[show small 7919=true by decide,Bool.or_true]) (dJ (by rw[sk,Bool.true_or]) v1 v1) (aF (.int 7919));have e3:=dJ (by rw[sk,Bool.or_true]) (aF (.int 5)) v1;exact⟨_,gc _ (by omega),hJ (bN hp (cP (cP (cP e1 e2) e3) (aF (.int 1234567))) v2)⟩
 obtain⟨R0,v0⟩:∃ R,ev T Hj [sS (iD ns),sI k,sI p,sI k] = .ok (.lst (iD ns),R):=cQ rfl;have hl:=gF v0;rw[ab] at hl;have hc:=Fu hl (aF (.int 0));unfold FA;rw[aE,g1,aD,aE,Fg hc];by_cases h:(0:Int)<ns.length
 .rw[if_pos h];have hm:=bN h (aB (i:=1) (d:=.int k) (t:=.own) rfl rfl) hl;have h0:0<=k%(ns.length:Int):=gc _ (by omega);have h1:k%(ns.length:Int)<ns.length:=gm _ h;generalize k%(ns.length:Int)=j at hm h0 h1;have hj:j.toNat<ns.length:=by omega
  have g2:aQ T (.asg (.nm 3) (.ix Hj (.bin .Mod Hi (HD Hj))) false) [sS (iD ns),sI k,sI p,sI k] = .nx [sS (iD ns),sI k,sI p,sI (ns[j.toNat]'hj)] :=
   aO (.cons (bE _) (.cons (to _) (.cons (to _) (.cons (to _) .nil)))) (show (3:Nat)<4 by decide) (j7 h0 (List.getElem?_eq_getElem hj) v0 hm)
  rw[aX g2,aD];exact core _
 .rw[if_neg h,aE,aD];exact core _
noncomputable def AR (mx:Nat):bW:=(.cons (.asg (.nm 5) (.bin .Mod (.bin .FloorDiv (.call mx (HB Hj (.bin .Add G4 Hl) (Hh 2147483587))) (Hh 11)) G8) false)
  (.cons (.ite (.cmp .Eq Hm GV) (.cons (.asg (.nm 5) GY false)
  .nil) .nil)
  (.cons (.ite (.cmp .Eq Hm GX) (.cons (.asg (.nm 5) (Hh 63) false)
  .nil) .nil)
  (.cons (.ite (.cmp .Eq Hm GZ) (.cons (.asg (.nm 5) (.ix (.lst (HA G9 Ha)) (.bin .Mod Hl GX)) false)
  .nil) .nil)
  (.cons (.mut 3 .none .append (Hz Hn))
  .nil)))))
noncomputable def bGr (mx:Nat):bW:=(.cons (.asg (.nm 2) (.bin .Mod (.bin .FloorDiv (.call mx (HB Hj GZ (Hh 2147483629))) G6) G7) false)
  (.cons (.asg (.nm 3) (.lst .nil) false)
  (.cons (.forr (.nm 4) (.rng1 Hi) (AR mx))
  (.cons (.ret Hk)
  .nil))))
noncomputable abbrev kC (S:List D)(n w:Int)(xs:List Int)(a4 a5:Slot):En:=[sS S,sI n,sI w,some (.lst (iD xs),.own),a4,a5]
variable {S:List D}
theorem jA {n w:Int}{xs:List Int}{a4 a5:Slot}(h4:aH a4)(h5:aH a5):Tame (kC S n w xs a4 a5) :=
 .cons (bE _) (.cons (aC _) (.cons (aC _) (.cons (aC _) (.cons h4 (.cons h5 .nil)))))
theorem xy {T:Tb}{S:List D}{n w k g v c:Int}{xs:List Int}{e:Ex}(hg:0<=g/\g<64)(hv:0<=v/\v<64)(he:ev T e (kC S n w xs (sI k) (sI g)) = .ok (.int v,.mv [])):∃ g',(0<=g'/\g'<64)/\aQ T (.ite (.cmp .Eq Hm (.cst (.int c))) (.cons (.asg (.nm 5) e false) .nil) .nil) (kC S n w xs (sI k) (sI g)) = .nx (kC S n w xs (sI k) (sI g')):=by
 have to:=aC;have hc:ev T (.cmp .Eq Hm (.cst (.int c))) (kC S n w xs (sI k) (sI g)) = .ok (.bl (w==c),.mv []):=cN (aB (d:=.int w) (t:=.own) rfl rfl) (aF _);have g1:aQ T (.asg (.nm 5) e false) (kC S n w xs (sI k) (sI g)) = .nx (kC S n w xs (sI k) (sI v)):=aO (jA (to _) (to _)) (show (5:Nat)<6 by decide) he;cases h:(w==c) with
 |false =>
  rw[h] at hc;exact⟨g,hg,ite_ff hc⟩
 |true =>
  rw[h] at hc;refine⟨v,hv,?_⟩;rw[aQ,hc,bO];show aE T _ _=_;exact aX g1
variable {T:Tb}
theorem grL {mx:Nat}(hmx:∀ k p:Int,0<=k->k<=100000->0<p->∃ d,0<=d/\T.cl mx [.lst S,.int k,.int p] = .ok (.int d,true))(n w:Int):∀(ks:List Int) (xs:List Int) (a4 a5:Slot),aH a4->aH a5->(∀ k∈ks,0<=k/\k<=5000)->(∀ g∈xs,0<=g/\g<64)->xs.length+ks.length<=10000 ->
  ∃ ys b4 b5,(∀ g∈ys,0<=g/\g<64)/\ys.length=xs.length+ks.length/\bQ (.nm 4) [] (aE T (AR mx)) (iD ks) (kC S n w xs a4 a5) = .nx (kC S n w ys b4 b5)
 |[],xs,a4,a5,_,_,_,hx,_=>⟨xs,a4,a5,hx,rfl,rfl⟩
 | k::ks,xs,a4,a5,h4,h5,hk,hx,hl=>by
  have to:=aC;simp only[List.length_cons] at hl;obtain⟨k0,k1⟩:=hk k ai;have hb:aW [] (.nm 4) (.int k) (kC S n w xs a4 a5)=some (kC S n w xs (sI k) a5):=dX (jA h4 h5) (show (4:Nat)<6 by decide);obtain⟨d,d0,hd⟩:=hmx (4+k) 2147483587 (by omega) (by omega) (by omega);obtain⟨R0,v0⟩:∃ R,ev T Hj (kC S n w xs (sI k) a5) = .ok (.lst S,R):=cQ rfl;have e1:=bN (show (0:Int)<64 by omega) (cM (show (0:Int)<11 by omega) (by omega) (gL v0 (cP (aF (.int 4)) (aB (i:=4) (d:=.int k) (t:=.own) rfl rfl)) (aF (.int 2147483587)) hd) (aF (.int 11))) (aF (.int 64));have g0:0<=d / 11%64/\d / 11%64<64:=⟨gc _ (by omega),gm _ (by omega)⟩;generalize d / 11%64=g at e1 g0;have s1:aQ T (.asg (.nm 5) (.bin .Mod (.bin .FloorDiv (.call mx (HB Hj (.bin .Add G4 Hl) (Hh 2147483587))) (Hh 11)) G8) false) (kC S n w xs (sI k) a5) = .nx (kC S n w xs (sI k) (sI g)) :=
   aO (jA (to _) h5) (show (5:Nat)<6 by decide) e1
  obtain⟨g1,h1,s2⟩:=xy (T:=T) (S:=S) (n:=n) (w:=w) (k:=k) (xs:=xs) (c:=1) (v:=0) (e:=.cst (.int 0)) g0 (by omega) (aF _);obtain⟨g2,h2,s3⟩:=xy (T:=T) (S:=S) (n:=n) (w:=w) (k:=k) (xs:=xs) (c:=2) (v:=63) (e:=.cst (.int 63)) h1 (by omega) (aF _);have hm:ev T (.bin .Mod Hl GX) (kC S n w xs (sI k) (sI g2)) = .ok (.int (k%2),.mv []):=bN (by omega) (aB rfl rfl) (aF _);have xl:ev T (.lst (HA G9 Ha)) (kC S n w xs (sI k) (sI g2)) = .ok (.lst (iD [42,21]),.mv []):=rfl;have hx2:∃ v,(0<=v/\v<64)/\ev T (.ix (.lst (HA G9 Ha)) (.bin .Mod Hl GX)) (kC S n w xs (sI k) (sI g2)) = .ok (.int v,.mv []):=by
   have:k%2=0\/k%2=1:=by omega
   rcases this with q | q
   .rw[q] at hm;exact⟨42,by omega,j7 (l:=[42,21]) (i:=0) (v:=42) (by omega) rfl xl hm⟩
   .rw[q] at hm;exact⟨21,by omega,j7 (l:=[42,21]) (i:=1) (v:=21) (by omega) rfl xl hm⟩
  obtain⟨v,hv,ev3⟩:=hx2;obtain⟨g3,h3,s4⟩:=xy (c:=3) h2 hv ev3;have s5:aQ T (.mut 3 .none .append (Hz Hn)) (kC S n w xs (sI k) (sI g3)) = .nx (kC S n w (xs ++ [g3]) (sI k) (sI g3)):=by
   refine (gE (xs:=iD xs) (d:=.int g3) (jA (to _) (to _)) rfl (aB rfl rfl) (by rw[ab];exact eF (by omega))).trans ?_;show Fl.nx ((kC _ _ _ _ _ _).set 3 _)=_;simp only[kC,List.set_cons_succ,List.set_cons_zero,iD,List.map_append,List.map_cons,List.map_nil]
  have gg:aE T (AR mx) (kC S n w xs (sI k) a5) = .nx (kC S n w (xs ++ [g3]) (sI k) (sI g3)):=by
   unfold AR;rw[aE,s1,aD,aE,s2,aD,aE,s3,aD,aE,s4,aD];exact aX s5
  rw[iD,ao,cC hb gg];obtain⟨ys,b4,b5,hy,yl,q⟩:=grL hmx n w ks (xs ++ [g3]) (sI k) (sI g3) (to _) (to _) (fun j hj=>hk j (ah _ hj)) (fun x hxx=>by
   rcases ig.mp hxx with hxx | hxx
   .exact hx x hxx
   .rw[gh.mp hxx];exact h3) (by rw[aq,dq];omega)
  exact⟨ys,b4,b5,hy,by rw[yl,aq,dq,av];omega,q⟩
theorem nN:∀{n:Nat}{a i:Int},i∈cX a 1 n->a<=i/\i<a+n
 |0,a,i,h=>by cases h
 | n+1,a,i,h=>by
  rw[cX] at h;rcases cg.mp h with rfl | h
  .omega
  .have:=nN h;omega
theorem FR {T:Tb}{mx:Nat}{ns:List Int}(hmx:∀ k p:Int,0<=k->k<=100000->0<p->∃ d,0<=d/\T.cl mx [.lst (iD ns),.int k,.int p] = .ok (.int d,true))(n:Nat)(hn:n<=1000):∃ gs,(∀ g∈gs,0<=g/\g<64)/\gs.length=n/\ret (aE T (bGr mx) (aM [.lst (iD ns),.int (n:Int)] 6)) = .ok (.lst (iD gs),true):=by
 have hst:aM [.lst (iD ns),.int (n:Int)] 6=[sS (iD ns),sI n,none,none,none,none]:=rfl;rw[hst];have to:=aC;have tn:=aS;obtain⟨d,d0,hd⟩:=hmx 3 2147483629 (by omega) (by omega) (by omega);obtain⟨R0,v0⟩:∃ R,ev T Hj [sS (iD ns),sI n,none,none,none,none] = .ok (.lst (iD ns),R):=cQ rfl;have e1:=bN (show (0:Int)<8 by omega) (cM (show (0:Int)<7 by omega) (by omega) (gL v0 (aF (.int 3)) (aF (.int 2147483629)) hd) (aF (.int 7))) (aF (.int 8));generalize d / 7%8=w at e1;have s1:aQ T (.asg (.nm 2) (.bin .Mod (.bin .FloorDiv (.call mx (HB Hj GZ (Hh 2147483629))) G6) G7) false) [sS (iD ns),sI n,none,none,none,none] = .nx [sS (iD ns),sI n,sI w,none,none,none] :=
  aO (.cons (bE _) (.cons (to _) (.cons tn (.cons tn (.cons tn (.cons tn .nil)))))) (show (2:Nat)<6 by decide) e1
 have s2:aQ T (.asg (.nm 3) (.lst .nil) false) [sS (iD ns),sI n,sI w,none,none,none] = .nx (kC (iD ns) n w [] none none):=rfl;obtain⟨ys,b4,b5,hy,yl,q⟩:=grL hmx n w (cX 0 1 n) [] none none tn tn (fun k hk=>by have:=nN hk;omega) (fun g hg=>nomatch hg) (by rw[dA,cf];omega);rw[dA,cf,i6] at yl;have hit:=qP (T:=T) (aB (i:=1) (d:=.int (n:Int)) (t:=.own) (env:=kC (iD ns) n w [] none none) rfl rfl) (by omega) (by omega);rw[cq] at hit;refine⟨ys,hy,yl,?_⟩;unfold bGr;rw[aE,s1,aD,aE,s2,aD,aE,dD hit q,aD,aE,aQ,aV (i:=3) (d:=.lst (iD ys)) rfl rfl];rfl
variable {l:List Int}
theorem zP {T:Tb}{env:En}{x:Nat}(hx:env[x]? = some (some (.lst (iD l),.sh [])))(hl:l.length<=10000):ev T (.blt .all (Hz (.comp 1 [] (.nm 0) (.seq (.var x)) .none (.and (.blt (.isi "int") (Hz Hj)) (.not (.blt (.isi "bool") (Hz Hj))))))) env = .ok (.bl true,.mv []):=by
 have hv:ev T (.var x) env = .ok (.lst (iD l),.sh []):=by
  rw[ev,hx];rfl
 have hit:dM T (.seq (.var x)) env = .ok (iD l,[]):=by
  rw[dM,hv,aA];rfl
 have hc:=oU (T:=T) (own:=1) (pick:=[]) (t:=.nm 0) (e:=.and (.blt (.isi "int") (Hz Hj)) (.not (.blt (.isi "bool") (Hz Hj)))) (g:=fun _=>(.bl true,.mv [])) hit (by rw[ab];exact eF hl) (fun d hd=>by
  obtain⟨i,hi,rfl⟩:=List.mem_map.mp hd;rfl) (fun d hd=>rfl)
 have hm:(iD l).map (fun _=>D.bl true)=l.map fun _=>D.bl true:=by rw[cz];rfl
 rw[ev,bC,bC,hc,aA,aA,aA,u3];show (kj (l7 .all [.lst ((iD l).map fun _=>D.bl true)])).bind _=_;rw[hm];have:l7 .all [.lst (l.map fun _=>D.bl true)]=some (.bl true):=by
  show (if (l.map fun _=>D.bl true).all D.isBl then _ else _)=_;rw[vd,if_pos rfl,mT];rfl
 rw[this];rfl
theorem Bi {env:En}{e:Ex}(h:ev T e env = .ok (.lst (iD l),R)):ev T (.blt .list (.cons e .nil)) env = .ok (.lst (iD l),.mv []):=by
 rw[ev,bC,bC,h,aA,aA,aA,u3];show (kj (some (D.lst (iD l)))).bind _=_;rw[bR,aA,iY]
end Pc.Fr
end
section
namespace Pc.Ct
open PySem Pc Pc.Sm Pc.Lw Pc.Gr Pc.Nw
noncomputable def tx (l:List Nat):Str:=⟨l.toArray⟩
noncomputable abbrev sT (cs:List Nat):Slot:=some (.str (tx cs),.own)
theorem zE (n d v:Nat):bV n d (some (v:Int))=min v n:=by
 unfold bV;dsimp only;rw[if_neg (by omega),cq]
variable {R:Rt}{T:Tb}{env:En}
theorem lu {e:Ex}{i:Int}(h:ev T e env = .ok (.int i,R)):iS T (.some e) env = .ok (some i):=by
 rw[iS,h];rfl
theorem vY:iS T .none env = .ok none:=by rw[iS]
variable {R':Rt}{a b:Ex}{ds:List D}
theorem yq {i:Nat}{d:D}(ha:ev T a env = .ok (.tup ds,R))(hb:ev T b env = .ok (.int (i:Int),R'))(h:ds[i]? = some d)(hf:d.flat=true):ev T (.ix a b) env = .ok (d,.mv []):=by
 have:BN (.tup ds) (.int (i:Int))=some d:=by
  show (Pc.fU ds.length (i:Int)).bind (fun j=>ds[j]?)=_;rw[wL (List.getElem?_eq_some_iff.mp h).1];exact h
 rw[ev,ha,aA,hb,aA,this,bR,aA];unfold lJ;rw[if_pos hf]
theorem jU {i:Nat}{d:D}(ha:ev T a env = .ok (.lst ds,R))(hb:ev T b env = .ok (.int (i:Int),R'))(h:ds[i]? = some d)(hf:d.flat=true):ev T (.ix a b) env = .ok (d,.mv []):=by
 have:BN (.lst ds) (.int (i:Int))=some d:=by
  show (Pc.fU ds.length (i:Int)).bind (fun j=>ds[j]?)=_;rw[wL (List.getElem?_eq_some_iff.mp h).1];exact h
 rw[ev,ha,aA,hb,aA,this,bR,aA];unfold lJ;rw[if_pos hf]
noncomputable def s1:Str:="0123456789"
noncomputable def s2:Str:=" ABCDEFGHIJKLMNOPQRSTUVWXYZ.,-:/"
noncomputable def s3:Str:=" !\"#$&'()*+,-./0123456789:;<=>?@ABCDEFGHIJKLMNOPQRSTUVWXYZ[\\]^_`abcdefghijklmnopqrstuvwxyz{|}~"
noncomputable def KS:Nat->Str
 |1=>s1
 |2=>s2
 |3=>s3
 |_=>⟨#[]⟩
noncomputable def kn (k:Nat):List Nat:=(KS k).cps.toList
noncomputable def Fm (k c:Nat):Bool:=(kn k).contains c
noncomputable def G:Nat->D
 |0=>.int 1
 |1=>.int 2
 |2=>.int 3
 |3=>.tup [.str ⟨#[]⟩,.str s1,.str s2,.str s3]
 |4=>.tup [.int 0,.int 0,.int 5,.int 7]
 |5=>.int 2
 |6=>.int 6
 |7=>.int 64
 |8=>.tup [.int 0,.int 4,.int 7,.int 10]
 |9=>.int 3
 |_=>.non
noncomputable def fb (m:Nat):Nat:=if m=0 then 0 else 3*m+1
noncomputable def plen (k c:Nat):Nat:=if k=1 then 8+10*(c / 3)+fb (c%3) else 8+(if k=2 then 5 else 7)*c
noncomputable abbrev Q4:=Nat×Nat×Nat×Nat
noncomputable def q4 (q:Q4):D:=.tup [.int (q.1:Int),.int (q.2.1:Int),.int (q.2.2.1:Int),.int (q.2.2.2:Int)]
noncomputable def qs (l:List Q4):D:=.lst (l.map q4)
noncomputable def one (k c:Nat)(q:Q4):Q4:=(plen k c+q.1,1+q.2.1,k,c)
noncomputable abbrev z4:Q4:=(0,0,0,0)
noncomputable def k4 (q:Q4):List Int:=[(q.1:Int),(q.2.1:Int),(q.2.2.1:Int),(q.2.2.2:Int)]
noncomputable def bst (l:List Q4):Q4:=l.getD (dN (fun i j=>jV ((l.map k4).getD i []) ((l.map k4).getD j [])) (l.length - 1) 1 0) z4
noncomputable def rn (k:Nat):List Nat->Nat
 |[]=>0
 |c::r=>if Fm k c then rn k r+1 else 0
noncomputable def chN (k:Nat)(C:List Q4)(m:Nat):List Q4:=(List.range m).map fun j=>one k (j+1) (C.getD j z4)
noncomputable def chA (t:List Nat)(C:List Q4):List Q4:=chN 1 C (min (rn 1 t) 64)++chN 2 C (min (rn 2 t) 64)++chN 3 C (min (rn 3 t) 64)
noncomputable def bc:List Nat->List Q4
 |[]=>[z4]
 |c::r=>bst (chA (c::r) (bc r))::bc r
noncomputable abbrev mp (rs:List (Int×MV)):Slot:=some (.mpi rs,.own)
noncomputable def r3 (a b c:Nat):List (Int×MV):=[(1,.int (a:Int)),(2,.int (b:Int)),(3,.int (c:Int))]
noncomputable abbrev Pe:=Nat×List Nat
noncomputable def pD (p:Pe):D:=.tup [.int (p.1:Int),.str (tx p.2)]
noncomputable def hd (t:List Nat):Q4:=(bc t).getD 0 z4
structure First (t:List Nat)(q:Q4):Prop where
 k1:1<=q.2.2.1
 k3:q.2.2.1<=3
 c1:1<=q.2.2.2
 c64:q.2.2.2<=64
 run:q.2.2.2<=rn q.2.2.1 t
structure Piece (p:Pe):Prop where
 k1:1<=p.1
 k3:p.1<=3
 c1:1<=p.2.length
 c64:p.2.length<=64
 all:∀ c∈p.2,Fm p.1 c=true
open Pc.Fr (iD)
noncomputable abbrev ET (cs:List Int)(m:Int)(n:Nat)(t:List Nat)(k:Nat)(a5 a6:Slot):En:=[some (.lst (iD cs),.sh []),sI m,sN n,sT t,sN k,a5,a6]
open Pc.Fr (iD qT)
theorem jF {α:Type}{T:Tb}{own:Nat}{pick:List Nat}{t:kz}{it:qM}{e:Ex}{env:En}{l:List α}{R:List Nat}{g r:α->D}(hit:dM T it env = .ok (l.map g,R))(hl:l.length<=1000)
  (hg:∀ a∈l,bB (aW [] t (g a) (bM env own pick)) (lr T .none) (ev T e) = .ok (some (r a,.mv []))):ev T (.comp own pick t it .none e) env = .ok (.lst (l.map r),.mv []):=by
 rw[ev,hit,aA,gP (f:=fun d=>bB (aW [] t d (bM env own pick)) (lr T .none) (ev T e)) (c:=fun _=>true) (r:=r) (fun a ha=>by rw[hg a ha];rfl),aA];dsimp only;rw[List.filter_eq_self.mpr fun _ _=>rfl,if_pos (by rw[ab];exact kd hl),if_pos,cz]
 .rfl
 .rw[cu];intro q hq;obtain⟨a,_,rfl⟩:=List.mem_map.mp hq;show ((r a).flat || true)=true;rw[Bool.or_true]
theorem sP {T:Tb}{e:Ex}{env:En}{d:D}(h:ev T e env = .ok (d,.mv [])):bB (some env) (lr T .none) (ev T e) = .ok (some (d,.mv [])):=by
 unfold bB;dsimp only;rw[lr,aA,if_pos rfl,h,aA]
noncomputable def rF:bW:=.cons (.ret (.cst (.bl false))) .nil
noncomputable def e0:Ex:=.ix Hj GY
noncomputable def e1:Ex:=.ix Hj GV
end Pc.Ct
end
section
namespace Pc.Gn
open PySem Pc Pc.Sm Pc.Lw Pc.Gr Pc.Nw Pc.Ct
open Pc.Fr (iD)
noncomputable def Cb:bW:=(.cons (.asg (.nm 1) (.bin .Add (.bin .Mult GX Hi) Hm) false)
  .nil)
noncomputable def bNO:bW:=(.cons (.asg (.nm 1) GY false)
  (.cons (.forr (.nm 2) (.seq Hj) Cb)
  (.cons (.ret Hi)
  .nil)))
noncomputable def num (l:List Int):Int:=l.foldl (fun x y=>2*x+y) 0
theorem GD (T:Tb)(S:List D)(a b:Int):aE T Cb [some (.lst S,.sh []),sI a,sI b] = .nx [some (.lst S,.sh []),sI (2*a+b),sI b]:=rfl
theorem ue (T:Tb)(S:List D):∀(l:List Int) (a:Int) (o:Slot),aH o->∃ o',bQ (.nm 2) [] (aE T Cb) (iD l) [some (.lst S,.sh []),sI a,o] = .nx [some (.lst S,.sh []),sI (l.foldl (fun x y=>2*x+y) a),o']
 |[],a,o,_=>⟨o,rfl⟩
 | b::l,a,o,h=>by
  obtain⟨o',q⟩:=ue T S l (2*a+b) (sI b) (aC _);refine⟨o',?_⟩;have hb:aW [] (.nm 2) (.int b) [some (.lst S,.sh []),sI a,o]=some [some (.lst S,.sh []),sI a,sI b]:=dX (.cons (bE _) (.cons (aC _) (.cons h .nil))) (show (2:Nat)<3 by decide);rw[iD,ao,cC hb (GD T S a b)];exact q
theorem Gc {T:Tb}(l:List Int):ret (aE T bNO (aM [.lst (iD l)] 3)) = .ok (.int (num l),true):=by
 have hst:aM [.lst (iD l)] 3=[some (.lst (iD l),.sh []),none,none]:=rfl;rw[hst];have g1:aQ T (.asg (.nm 1) GY false) [some (.lst (iD l),.sh []),none,none] = .nx [some (.lst (iD l),.sh []),sI 0,none]:=rfl;obtain⟨o',q⟩:=ue T (iD l) l 0 none aS;have hit:dM T (.seq Hj) [some (.lst (iD l),.sh []),sI 0,none] = .ok (iD l,[]):=rfl;have g2:=dD hit q;unfold bNO;rw[aE,g1,aD,aE,g2,aD];exact hJ (aB rfl rfl)
theorem nV (a b:List Int):iD (a++b)=iD a++iD b:=bz ..
noncomputable abbrev oI (l:List Int):Slot:=some (.lst (iD l),.own)
end Pc.Gn
end
section
namespace K33
open PySem Pc Pc.Sm Pc.Lw Pc.Gr Pc.Nw Pc.Fr
theorem y4 (ns:List Int)(k p:Int)(hk:0<=k)(hk':k<=100000)(hp:0<p):∃ d,0<=d/\(T 1).cl 17 [.lst (iD ns),.int k,.int p] = .ok (.int d,true):=by
 obtain⟨d,h0,h⟩:=Cm (T:=T 0) ns k p hk hk' hp;refine⟨d,h0,?_⟩;rw[ui,cU (F:=⟨3,4,b17⟩) rfl rfl];exact h
theorem grL (ns:List Int)(n:Nat)(hn:n<=1000):∃ gs,(∀ g∈gs,0<=g/\g<64)/\gs.length=n/\(T 2).cl 18 [.lst (iD ns),.int (n:Int)] = .ok (.lst (iD gs),true):=by
 obtain⟨gs,h1,h2,h⟩:=FR (T:=T 1) (mx:=17) (ns:=ns) (y4 ns) n hn;refine⟨gs,h1,h2,?_⟩;rw[ui,cU (F:=⟨2,6,b18⟩) rfl rfl];exact h
theorem qh:∀(gs:List Int) (i:Nat),(gs.flatMap mZ)[i]? = (gs[i / 6]?).bind fun g=>(mZ g)[i%6]?
 |[],i=>by simp
 | g::gs,i=>by
  rw[fv];by_cases h:i<6
  .rw[List.getElem?_append_left (by exact h),show i / 6=0 by omega,show i%6=i by omega];rfl
  .rw[List.getElem?_append_right (by show 6<=i;omega),show (mZ g).length=6 from rfl,qh gs (i - 6),show i / 6=(i - 6) / 6+1 by omega,show (i - 6)%6=i%6 by omega];rfl
theorem pQ:∀ gs:List Int,(gs.flatMap mZ).length=6*gs.length
 |[]=>rfl
 |g::gs=>by rw[fv,aq,pQ gs,av];show 6+_=_;omega
variable {R:Rt}{env:En}{k:Bool}
theorem qr {T:Tb}{c:Ex}{p q:bW}(h:ev T c env = .ok (.bl k,R)):aQ T (.ite c p q) env=if k then aE T p env else aE T q env:=by
 rw[aQ,h,bO];cases k<;>rfl
noncomputable def ce (M:List (List D))(p:Int×Int):D:=ent M p.1.toNat p.2.toNat
noncomputable def o8 (M:List (List D))(p:Int×Int)(v:D):List (List D):=M.set p.1.toNat ((M.getD p.1.toNat []).set p.2.toNat v)
variable {n:Nat}
theorem gC {p:Int×Int}(h:eX n p):p.1.toNat<n/\p.2.toNat<n:=by
 obtain⟨h1,h2,h3,h4⟩:=h;omega
variable {M:List (List D)}{v:D}
theorem kN (h:iV n M){p:Int×Int}(hp:eX n p)(hv:md v=true):iV n (o8 M p v):=by
 obtain⟨a,b⟩:=gC hp;obtain⟨row,r1,r2,r3,r4⟩:=jD h a b;unfold o8;rw[r4];exact Ag h r1 hv
theorem nX (h:iV n M){p q:Int×Int}(hp:eX n p)(hq:eX n q)(v:D):ce (o8 M p v) q=if q=p then v else ce M q:=by
 obtain⟨a,b⟩:=gC hp;obtain⟨c,d⟩:=gC hq;obtain⟨row,r1,r2,r3,r4⟩:=jD h a b;have hl:M.length=n:=h.len;unfold ce ent o8;by_cases e1:q.1=p.1
 .rw[e1,iG (by omega)];by_cases e2:q.2=p.2
  .rw[e2,iG (by rw[r4];omega),if_pos (Prod.ext e1 e2)]
  .rw[kK (by have:=hp.2.2.1;have:=hq.2.2.1;omega),if_neg (fun z=>e2 (by rw[z]))]
 .rw[kK (by have:=hp.1;have:=hq.1;omega),if_neg (fun z=>e1 (by rw[z]))]
variable {i:Int}
theorem lU (h0:0<=i)(h1:i<n):Pc.fU n i=some i.toNat:=oj h0 h1
variable {R':Rt}{a b e:Ex}{c r:Int}
theorem Bh {T:Tb}{x:Nat}(hr:iV n M)(hn:n<=1000)(ht:Tame env)(hx:env[x]? = some (some (sq M,.own)))(hin:eX n (r,c))(ha:ev T a env = .ok (.int r,R))(hb:ev T b env = .ok (.int c,R'))(he:ev T e env = .ok (v,.mv [])) :
  aQ T (.setix x (.some a) b e) env = .nx (env.set x (some (sq (o8 M (r,c) v),.own))):=by
 obtain⟨h1,h2⟩:=gC hin;obtain⟨row,r1,r2,r3,r4⟩:=jD hr h1 h2;have hlen:(M.map D.lst).length=n:=by rw[ab];exact hr.len
 have hj:(M.map D.lst)[r.toNat]? = some (.lst row):=by rw[List.getElem?_map,r1];rfl
 rw[wI ht hx ha (by rw[hlen];exact lU hin.1 hin.2.1) hj hb (by rw[r2];exact lU hin.2.2.1 hin.2.2.2) he (by rw[r2];exact kd hn)];unfold o8 sq;rw[List.map_set,r4]
theorem w8 {T:Tb}{R'':Rt}(hr:iV n M)(he:ev T e env = .ok (sq M,R))(hin:eX n (r,c))(ha:ev T a env = .ok (.int r,R'))(hb:ev T b env = .ok (.int c,R'')) :
  ev T (.ix (.ix e a) b) env = .ok (ce M (r,c),.mv []):=by
 obtain⟨h1,h2⟩:=gC hin;obtain⟨row,r1,r2,r3,r4⟩:=jD hr h1 h2;have hlen:(M.map D.lst).length=n:=by rw[ab];exact hr.len
 have hj:(M.map D.lst)[r.toNat]? = some (.lst row):=by rw[List.getElem?_map,r1];rfl
 have e1:BN (sq M) (.int r)=some (.lst row):=by
  show (Pc.fU (M.map D.lst).length r).bind (fun j=>(M.map D.lst)[j]?)=_;rw[hlen,lU hin.1 hin.2.1];exact hj
 have e2:BN (.lst row) (.int c)=some (ce M (r,c)):=by
  show (Pc.fU row.length c).bind (fun j=>row[j]?)=_;rw[r2,lU hin.2.2.1 hin.2.2.2];exact r3
 have hf:(ce M (r,c)).flat=true:=kQ (hr.cell row (List.mem_of_getElem? r1) _ (List.mem_of_getElem? r3));rw[ev,ev,he,aA,ha,aA,e1,bR,aA,aA,hb,aA,e2,bR,aA];unfold lJ;dsimp only;rw[if_pos hf]
theorem Bz (h:iV n M){p:Int×Int}(hp:eX n p):md (ce M p)=true:=by
 obtain⟨a,b⟩:=gC hp;obtain⟨row,r1,r2,r3,r4⟩:=jD h a b;exact h.cell row (List.mem_of_getElem? r1) _ (List.mem_of_getElem? r3)
theorem sq_I (M:List (List Int)):sq (M.map iD) = .lst (vG M):=by
 unfold sq;rw[cz];rfl
theorem EF {M:List (List Int)}(h:iQ n M):iV n (M.map iD) where
 len:=by rw[ab];exact h.1
 row:=fun r hr=>by
  obtain⟨q,hq,rfl⟩:=List.mem_map.mp hr;rw[ab];exact h.2 q hq
 cell:=fun r hr d hd=>by
  obtain⟨q,hq,rfl⟩:=List.mem_map.mp hr;obtain⟨i,_,rfl⟩:=List.mem_map.mp hd;rfl
theorem EO {M:List (List Int)}(h:iQ n M){p:Int×Int}(hp:eX n p):ce (M.map iD) p = .int (gt M p):=by
 obtain⟨a,b⟩:=gC hp;obtain⟨r,h1,h2,h3⟩:=h.get a;unfold ce ent gt;have e:(M.map iD).getD p.1.toNat []=iD r:=by rw[List.getD_eq_getElem?_getD,List.getElem?_map,h1];rfl
 rw[h2,e,List.getD_eq_getElem?_getD,List.getElem?_map,List.getD_eq_getElem?_getD,List.getElem?_eq_getElem (by omega)];rfl
noncomputable def mo (m:Int)(c:D)(p:Int×Int):D:=match c with
 |.int v=>.int (p9 m v p)
 |d=>d
theorem mcD (m:Int){c:D}(hc:md c=true)(hn:n<=1000){p:Int×Int}(hp:eX n p):(T 2).cl 16 [c,.int m,pD p] = .ok (mo m c p,true):=by
 cases c with
 |int v=>exact mcl m v hn hp
 |non=>rfl
 |_=>cases hc
variable {m:Int}
theorem Ge {c:D}(hc:md c=true)(p:Int×Int):md (mo m c p)=true:=by
 cases c with
 |int v=>rfl
 |non=>rfl
 |_=>cases hc
theorem EW (m v:Int)(p:Int×Int):mo m (.int (p9 m v p)) p = .int v:=by
 show D.int (p9 m (p9 m v p) p)=_;unfold p9;split
 .rw[show 1 - (1 - v)=v by omega]
 .rfl
theorem nums (l:List Int)(n:Nat):(T (n+1)).cl 19 [.lst (iD l)] = .ok (.int (Gn.num l),true):=by
 rw[ui,cU (F:=⟨1,3,b19⟩) rfl rfl];exact Gn.Gc l
theorem AI {g:Int}(h0:0<=g)(h1:g<64):Gn.num (mZ g)=g:=by
 show 2*(2*(2*(2*(2*(2*0+g / 32%2)+g / 16%2)+g / 8%2)+g / 4%2)+g / 2%2)+g%2=g;omega
noncomputable def Bo:bW:=(.cons (.asg (.nm 7) (.sl Hk (.some (.bin .Mult Hy Ho)) (.some (.bin .Mult Hy (.bin .Add Ho GV)))) false)
  (.cons (.ite (.cmp .In (.cst .non) Hq) (.cons (.mut 5 .none .append (Hz Ho))
  (.cons (.mut 4 .none .append (Hz GY))
  .nil)) (.cons (.mut 4 .none .append (Hz (.call 19 (Hz Hq))))
  .nil))
  .nil))
noncomputable def bTG:bW:=(.cons (.asg (.nm 2) (HD Hj) false)
  (.cons (.asg (.nm 3) (.comp 1 [1,0] (.nm 0) (.seq (.call 6 (Hz Hm))) .none (.call 16 (HB (.ix (.ix Hm (.ix Hj GY)) (.ix Hj GV)) Hi Hj))) false)
  (.cons (.asg (.nm 4) (.lst .nil) false)
  (.cons (.asg (.nm 5) (.lst .nil) false)
  (.cons (.forr (.nm 6) (.rng1 (.ix (.glb 13) Hm)) Bo)
  (.cons (.ret (.tup (HA Hl Hn)))
  .nil))))))
theorem CT:b20=bTG:=rfl
noncomputable abbrev ET (M:List (List D))(m s:Int)(C:List D)(g mi:List Int)(a6 a7:Slot):En:=[some (sq M,.sh []),sI m,sI s,some (.lst C,.own),some (.lst (iD g),.own),some (.lst (iD mi),.own),a6,a7]
theorem oV {M:List (List D)}{m s:Int}{C:List D}{g mi:List Int}{a6 a7:Slot}(h6:aH a6)(h7:aH a7):Tame (ET M m s C g mi a6 a7) :=
 .cons (bE _) (.cons (aC _) (.cons (aC _) (.cons (aC _) (.cons (aC _) (.cons (aC _) (.cons h6 (.cons h7 .nil)))))))
variable {d:D}
theorem zq (h:md d=true):d.cO=true:=by
 cases d with
 |int v=>rfl
 |non=>rfl
 |_=>cases h
noncomputable def ze:D->Bool
 |.non=>true
 |_=>false
theorem AY (h:md d=true):D.eqs d .non=ze d:=by
 cases d with
 |int v=>rfl
 |non=>rfl
 |_=>cases h
variable {l:List D}
theorem Dl (h:∀ d∈l,md d=true):kB .In .non (.lst l)=some (l.any ze):=by
 show (if (D.non.cO&&l.all D.cO)=true then some (l.any fun y=>D.eqs y .non) else none)=_;rw[if_pos]
 .congr 1
  induction l with
  |nil=>rfl
  |cons a l ih=>rw[dw,dw,AY (h a ai),ih fun d hd=>h d (ah _ hd)]
 .rw[ag];exact⟨rfl,cu.mpr fun d hd=>zq (h d hd)⟩
theorem DK (h:∀ d∈l,md d=true):D.flats l=true:=jZ.mpr fun d hd=>kQ (h d hd)
noncomputable def six (C:List D)(k:Nat):List D:=(C.drop (6*k)).take 6
variable {a7:Slot}
theorem Fc {n:Nat}{M:List (List D)}{m s:Int}{C:List D}{g mi:List Int}{k:Nat}{v:Int}(h7:aH a7)(hC:∀ d∈C,md d=true)(hk:6*k+6<=C.length)(hk':k<=200)(hg:g.length<=900)(hm:mi.length<=900)
  (hv:(six C k).any ze=false->∃ l,six C k=iD l/\Gn.num l=v) :
  ∃ b7,aH b7/\aE (T (n+1)) Bo (ET M m s C g mi (sN k) a7) = .nx (ET M m s C (g ++ [if (six C k).any ze then 0 else v]) (if (six C k).any ze then mi ++ [(k:Int)] else mi) (sN k) b7):=by
 have v6:∀{C g mi a7},ev (T (n+1)) Ho (ET M m s C g mi (sN k) a7) = .ok (.int (k:Int),.mv []):=fun {_ _ _ _}=>aB rfl rfl
 have e1:ev (T (n+1)) (.bin .Mult Hy Ho) (ET M m s C g mi (sN k) a7) = .ok (.int ((6*k:Nat):Int),.mv []):=K33.dJ (i:=6) (by decide) (by rw[ev];rfl) v6;have e2:ev (T (n+1)) (.bin .Mult Hy (.bin .Add Ho GV)) (ET M m s C g mi (sN k) a7) = .ok (.int (((6*k:Nat):Int)+((6:Nat):Int)),.mv []):=by
  have:=K33.dJ (T:=T (n+1)) (i:=6) (env:=ET M m s C g mi (sN k) a7) (a:=.glb 9) (b:=.bin .Add Ho GV) (R:=.mv []) (by decide) (by rw[ev];rfl) (pA (y:=1) v6 (aF (.int 1)));rw[this];congr 3
 have v3:ev (T (n+1)) Hk (ET M m s C g mi (sN k) a7) = .ok (.lst C,.mv [3]):=aV rfl rfl;have hsix:∀ d∈six C k,md d=true:=fun d hd=>hC d (List.mem_of_mem_drop (List.mem_of_mem_take hd))
 have e3:ev (T (n+1)) (.sl Hk (.some (.bin .Mult Hy Ho)) (.some (.bin .Mult Hy (.bin .Add Ho GV)))) (ET M m s C g mi (sN k) a7) = .ok (.lst (six C k),.mv []):=by
  rw[ev,v3,aA,Ct.lu e1,aA,Ct.lu e2,aA,zD C (6*k) 6 hk,bR,aA];unfold dO;exact ic Rs.ok (ic (Prod.mk _) (if_pos (show D.inner (.lst (six C k))=true from DK hsix)))
 have g1:aQ (T (n+1)) (.asg (.nm 7) (.sl Hk (.some (.bin .Mult Hy Ho)) (.some (.bin .Mult Hy (.bin .Add Ho GV)))) false) (ET M m s C g mi (sN k) a7) = .nx (ET M m s C g mi (sN k) (some (.lst (six C k),.own))) :=
  aO (oV (aC _) h7) (show (7:Nat)<8 by decide) e3
 have ec:ev (T (n+1)) (.cmp .In (.cst .non) Hq) (ET M m s C g mi (sN k) (some (.lst (six C k),.own))) = .ok (.bl ((six C k).any ze),.mv []):=by
  have v7:ev (T (n+1)) Hq (ET M m s C g mi (sN k) (some (.lst (six C k),.own))) = .ok (.lst (six C k),.mv [7]):=aV rfl rfl;rw[ev,aF,aA,v7,aA,Dl hsix];rfl
 have te:=@oV M m s C;refine⟨some (.lst (six C k),.own),aC _,?_⟩;unfold Bo;rw[aE,g1,aD];cases hb:(six C k).any ze with
 |true =>
  rw[hb] at ec;have g2:=gE (T:=T (n+1)) (x:=5) (te (g:=g) (mi:=mi) (aC (.int (k:Int))) (aC (.lst (six C k)))) rfl v6 (by rw[ab];exact kd (by omega));have g3:=gE (T:=T (n+1)) (x:=4) (te (g:=g) (mi:=mi ++ [(k:Int)]) (aC (.int (k:Int))) (aC (.lst (six C k)))) rfl (aF (.int 0)) (by rw[ab];exact kd (by omega));have g2':aQ (T (n+1)) (.mut 5 .none .append (Hz Ho)) (ET M m s C g mi (sN k) (some (.lst (six C k),.own))) = .nx (ET M m s C g (mi ++ [(k:Int)]) (sN k) (some (.lst (six C k),.own))):=by
   rw[g2];show Fl.nx [_,_,_,_,_,some (.lst (iD mi++iD [(k:Int)]),.own),_,_]=_;rw[<-Gn.nV]
  have g3':aQ (T (n+1)) (.mut 4 .none .append (Hz GY)) (ET M m s C g (mi ++ [(k:Int)]) (sN k) (some (.lst (six C k),.own))) = .nx (ET M m s C (g ++ [0]) (mi ++ [(k:Int)]) (sN k) (some (.lst (six C k),.own))):=by
   rw[g3];show Fl.nx [_,_,_,_,some (.lst (iD g++iD [0]),.own),_,_,_]=_;rw[<-Gn.nV]
  have gi:aQ (T (n+1)) (.ite (.cmp .In (.cst .non) Hq) (.cons (.mut 5 .none .append (Hz Ho)) (.cons (.mut 4 .none .append (Hz GY)) .nil)) (.cons (.mut 4 .none .append (Hz (.call 19 (Hz Hq)))) .nil)) (ET M m s C g mi (sN k) (some (.lst (six C k),.own))) = .nx (ET M m s C (g ++ [0]) (mi ++ [(k:Int)]) (sN k) (some (.lst (six C k),.own))):=by
   rw[qr ec,if_pos rfl,aE,g2',aD,aX g3']
  exact aX gi
 |false =>
  rw[hb] at ec;obtain⟨l,e4,e5⟩:=hv hb;rw[e4] at ec ⊢;have v7:ev (T (n+1)) Hq (ET M m s C g mi (sN k) (some (.lst (iD l),.own))) = .ok (.lst (iD l),.mv [7]):=aV rfl rfl;have e6:=eI v7 (nums l n);rw[e5] at e6;have g2:=gE (T:=T (n+1)) (x:=4) (te (g:=g) (mi:=mi) (aC (.int (k:Int))) (aC (.lst (iD l)))) rfl e6 (by rw[ab];exact kd (by omega));have g2':aQ (T (n+1)) (.mut 4 .none .append (Hz (.call 19 (Hz Hq)))) (ET M m s C g mi (sN k) (some (.lst (iD l),.own))) = .nx (ET M m s C (g ++ [v]) mi (sN k) (some (.lst (iD l),.own))):=by
   rw[g2];show Fl.nx [_,_,_,_,some (.lst (iD g++iD [v]),.own),_,_,_]=_;rw[<-Gn.nV]
  have gi:aQ (T (n+1)) (.ite (.cmp .In (.cst .non) Hq) (.cons (.mut 5 .none .append (Hz Ho)) (.cons (.mut 4 .none .append (Hz GY)) .nil)) (.cons (.mut 4 .none .append (Hz (.call 19 (Hz Hq)))) .nil)) (ET M m s C g mi (sN k) (some (.lst (iD l),.own))) = .nx (ET M m s C (g ++ [v]) mi (sN k) (some (.lst (iD l),.own))):=by
   rw[qr ec,if_neg (by decide),aX g2']
  exact aX gi
variable {s:Int}
theorem rooms (h:sf s){n:Nat}{env:En}{e:Ex}(he:ev (T n) e env = .ok (.int s,R)):ev (T n) (.ix (.glb 13) e) env = .ok (.int (rm s:Nat),.mv []):=by
 rw[ev,ev,aA,he,aA];rcases h with rfl | rfl | rfl | rfl | rfl<;>rfl
noncomputable def qy (gs:List Int)(gone:Nat->Bool)(N:Nat):List Int:=(List.range N).map fun k=>if gone k then 0 else gs.getD k 0
noncomputable def l9 (gone:Nat->Bool)(N:Nat):List Int:=((List.range N).filter gone).map fun (k:Nat)=>(k:Int)
theorem wR (gs:List Int)(gone:Nat->Bool)(N:Nat):qy gs gone (N+1)=qy gs gone N ++ [if gone N then 0 else gs.getD N 0]:=by
 unfold qy;rw[List.range_succ,bz];rfl
theorem wU (gone:Nat->Bool)(N:Nat):l9 gone (N+1)=if gone N then l9 gone N ++ [(N:Int)] else l9 gone N:=by
 unfold l9;rw[List.range_succ,List.filter_append];cases h:gone N with
 |true=>simp[h]
 |false=>simp[h]
theorem ua (gone:Nat->Bool)(N:Nat):(l9 gone N).length<=N:=by
 unfold l9;rw[ab];exact br (je _ _) (i7 gq)
theorem tL (gs:List Int)(gone:Nat->Bool)(N:Nat):(qy gs gone N).length=N:=by
 unfold qy;rw[ab,gq]
variable {C:List D}
theorem tK {n:Nat}{M:List (List D)}{m s:Int}{gs:List Int}{gone:Nat->Bool}{N:Nat}(hN:N<=200)(hC:∀ d∈C,md d=true)(hl:6*N<=C.length)
  (hg:∀ k,k<N->(six C k).any ze=gone k/\(gone k=false->∃ l,six C k=iD l/\Gn.num l=gs.getD k 0)):∀(j k:Nat) (a6 a7:Slot),aH a6->aH a7->k+j=N->∃ b6 b7,aH b6/\aH b7 /\
  bQ (.nm 6) [] (aE (T (n+1)) Bo) (bK (k:Int) 1 j) (ET M m s C (qy gs gone k) (l9 gone k) a6 a7) = .nx (ET M m s C (qy gs gone N) (l9 gone N) b6 b7)
 | 0,k,a6,a7,h6,h7,e=>by
  have:k=N:=e;subst this;exact⟨a6,a7,h6,h7,rfl⟩
 | j+1,k,a6,a7,h6,h7,e=>by
  obtain⟨q1,q2⟩:=hg k (by omega);have d1:=tL gs gone k;have d2:=ua gone k;obtain⟨b7,t7,q⟩:=Fc (n:=n) (M:=M) (m:=m) (s:=s) (C:=C) (g:=qy gs gone k) (mi:=l9 gone k) (k:=k) (v:=gs.getD k 0) h7 hC (by omega) (by omega) (by omega) (by omega) (fun z=>q2 (by rw[<-q1];exact z));rw[q1,<-wR,<-wU] at q;obtain⟨b6',b7',u6,u7,r⟩:=tK (n:=n) (M:=M) (m:=m) (s:=s) hN hC hl hg j (k+1) (sN k) b7 (aC _) t7 (by omega);refine⟨b6',b7',u6,u7,?_⟩;have hb:aW [] (.nm 6) (.int (k:Int)) (ET M m s C (qy gs gone k) (l9 gone k) a6 a7)=some (ET M m s C (qy gs gone k) (l9 gone k) (sN k) a7):=dX (oV h6 h7) (show (6:Nat)<8 by decide);rw[jg,cC hb q];exact r
theorem wF {s:Int}:rm s<=133:=by
 unfold rm;split
 .decide
 .split
  .decide
  .split
   .decide
   .split
    .decide
    .decide
variable {gone:Nat->Bool}{gs:List Int}
section
variable {s:Int}{x y:List Tr}{z:List (Int×Int)}{ks:List (List Int)}
theorem oR (h:sf s)(F:gK s x y z ks):6*rm s<=(fM s ks).length:=by
 rw[FY F.kk fun p hp=>?_]
 .exact F.pm
 .have:=F.so p hp;unfold okN at this;simp only[Bool.and_eq_true,decide_eq_true_eq] at this;have h31:s<=31:=by rcases h with rfl | rfl | rfl | rfl | rfl<;>decide
  show (decide (0<=p.1)&&decide (p.1<32)&&decide (0<=p.2)&&decide (p.2<32))=true;simp only[Bool.and_eq_true,decide_eq_true_eq];omega
theorem sQ (F:gK (n:Int) x y z ks){p:Int×Int}(hp:p∈fM (n:Int) ks):eX n p:=o5 (F.so p (jc.mp hp).1)
theorem tP (h:sf s)(F:gK s x y z ks):(fM s ks).length<=1000:=by
 have h1:(fM s ks).length<=(iP s).length:=je _ _;have h2:(iP s).length<=1000:=by
  rcases h with rfl | rfl | rfl | rfl | rfl<;>decide +kernel
 omega
noncomputable def Lies (s:Int)(ks:List (List Int))(M:List (List D))(m:Int)(gs:List Int)(gone:Nat->Bool):Prop :=
 ∀ k,k<rm s->(gone k=false->∀ j,j<6->∃ p v,(fM s ks)[6*k+j]? = some p/\(mZ (gs.getD k 0))[j]? = some v/\ce M p = .int (p9 m v p))/\(gone k=true->∃ j p,j<6/\(fM s ks)[6*k+j]? = some p/\ce M p = .non)
theorem tw {k j:Nat}(hj:j<6):(six C k)[j]? = C[6*k+j]?:=by
 unfold six;rw[List.getElem?_take_of_lt hj,List.getElem?_drop]
theorem taken (h:sf (n:Int))(hn:n<=31)(F:gK (n:Int) x y z ks)(hM:iV n M){m:Int}(hg:∀ g∈gs,0<=g/\g<64)(hgl:gs.length=rm (n:Int))(hD:Lies (n:Int) ks M m gs gone) :
  (T 7).cl 20 [sq M,.int m] = .ok (.tup [.lst (iD (qy gs gone (rm (n:Int)))),.lst (iD (l9 gone (rm (n:Int))))],true):=by
 have hpl:=oR h F;have hp1:=tP h F;have hN:=wF (s:=(n:Int));rw[ui,cU (F:=⟨2,8,b20⟩) rfl rfl,CT];have hst:aM [sq M,.int m] 8=[some (sq M,.sh []),sI m,none,none,none,none,none,none]:=rfl;rw[hst];have tn:=aS;have to:=aC;have v0:∀{r:En},ev (T 6) Hj (some (sq M,.sh [])::r) = .ok (sq M,.sh []):=fun {_}=>rfl
 have el:=gF (T:=T 6) (v0 (r:=[sI m,none,none,none,none,none,none]));rw[ab,hM.len] at el;have g1:aQ (T 6) (.asg (.nm 2) (HD Hj) false) [some (sq M,.sh []),sI m,none,none,none,none,none,none] = .nx [some (sq M,.sh []),sI m,sI (n:Int),none,none,none,none,none] :=
  aO (.cons (bE _) (.cons (to _) (.cons tn (.cons tn (.cons tn (.cons tn (.cons tn (.cons tn .nil)))))))) (show (2:Nat)<8 by decide) el
 have hit:dM (T 6) (.seq (.call 6 (Hz Hm))) [some (sq M,.sh []),sI m,sI (n:Int),none,none,none,none,none] = .ok ((fM (n:Int) ks).map pD,[]) :=
  iO (eI (aB rfl rfl) (up (data _ h F) 6 (by decide)))
 generalize hP:fM (n:Int) ks=P at *;have hin:∀ p∈P,eX n p:=fun p hp=>sQ F (by rw[hP];exact hp)
 have ec:=Ct.jF (own:=1) (pick:=[1,0]) (t:=.nm 0) (e:=(.call 16 (HB (.ix (.ix Hm (.ix Hj GY)) (.ix Hj GV)) Hi Hj))) (r:=fun p=>mo m (ce M p) p) hit hp1 (fun p hp=>by
  have hb:aW [] (.nm 0) (pD p) (bM [some (sq M,.sh []),sI m,sI (n:Int),none,none,none,none,none] 1 [1,0])=some [some (pD p,.own),some (.int m,.sh []),some (sq M,.sh [])]:=rfl;rw[hb];have e0:=pX (T:=T 6) (env:=[some (pD p,.own),some (.int m,.sh []),some (sq M,.sh [])]) (x:=0) (p:=p) (t:=.own) rfl;have e1:=qc (T:=T 6) (env:=[some (pD p,.own),some (.int m,.sh []),some (sq M,.sh [])]) (x:=0) (p:=p) (t:=.own) rfl;exact Ct.sP (gL (w8 hM (show ev (T 6) Hm _ = .ok (sq M,.sh []) from rfl) (hin p hp) e0 e1) (aB rfl rfl) (aB rfl rfl) (up (mcD m (Bz hM (hin p hp)) (by omega) (hin p hp)) 6 (by decide))))
 have hC:∀ d∈P.map (fun p=>mo m (ce M p) p),md d=true:=fun d hd=>by
  obtain⟨p,hp,rfl⟩:=List.mem_map.mp hd;exact Ge (Bz hM (hin p hp)) p
 have hCl:(P.map fun p=>mo m (ce M p) p).length=P.length:=ab ..;have hCg:∀ i p,P[i]? = some p->(P.map fun p=>mo m (ce M p) p)[i]? = some (mo m (ce M p) p):=fun i p e=>by rw[List.getElem?_map,e];rfl
 generalize P.map (fun p=>mo m (ce M p) p)=C at *;have g2:aQ (T 6) (.asg (.nm 3) (.comp 1 [1,0] (.nm 0) (.seq (.call 6 (Hz Hm))) .none (.call 16 (HB (.ix (.ix Hm (.ix Hj GY)) (.ix Hj GV)) Hi Hj))) false) [some (sq M,.sh []),sI m,sI (n:Int),none,none,none,none,none] = .nx [some (sq M,.sh []),sI m,sI (n:Int),some (.lst C,.own),none,none,none,none] :=
  aO (.cons (bE _) (.cons (to _) (.cons (to _) (.cons tn (.cons tn (.cons tn (.cons tn (.cons tn .nil)))))))) (show (3:Nat)<8 by decide) ec
 have g3:aQ (T 6) (.asg (.nm 4) (.lst .nil) false) [some (sq M,.sh []),sI m,sI (n:Int),some (.lst C,.own),none,none,none,none] = .nx [some (sq M,.sh []),sI m,sI (n:Int),some (.lst C,.own),some (.lst [],.own),none,none,none] :=
  aO (.cons (bE _) (.cons (to _) (.cons (to _) (.cons (to _) (.cons tn (.cons tn (.cons tn (.cons tn .nil)))))))) (show (4:Nat)<8 by decide) (by rw[ev,bC];rfl)
 have g4:aQ (T 6) (.asg (.nm 5) (.lst .nil) false) [some (sq M,.sh []),sI m,sI (n:Int),some (.lst C,.own),some (.lst [],.own),none,none,none] = .nx (ET M m (n:Int) C (qy gs gone 0) (l9 gone 0) none none) :=
  aO (.cons (bE _) (.cons (to _) (.cons (to _) (.cons (to _) (.cons (to _) (.cons tn (.cons tn (.cons tn .nil)))))))) (show (5:Nat)<8 by decide) (by rw[ev,bC];rfl)
 have hlp:∀ k,k<rm (n:Int)->(six C k).any ze=gone k/\(gone k=false->∃ l,six C k=iD l/\Gn.num l=gs.getD k 0):=fun k hk=>by
  obtain⟨d1,d2⟩:=hD k hk;rw[hP] at d1 d2;have hgk:0<=gs.getD k 0/\gs.getD k 0<64:=by
   rw[List.getD_eq_getElem?_getD,List.getElem?_eq_getElem (by omega)];exact hg _ (ft _)
  cases e:gone k with
  |false =>
   have hs6:six C k=iD (mZ (gs.getD k 0)):=by
    have hl6:(six C k).length=6:=by
     unfold six;rw[f7,i5];omega
    refine List.ext_getElem? fun j=>?_
    by_cases hj:j<6
    .obtain⟨p,v,e1,e2,e3⟩:=d1 e j hj;rw[tw hj,hCg _ _ e1,e3,EW,List.getElem?_map,e2];rfl
    .rw[List.getElem?_eq_none (by omega),List.getElem?_eq_none (by rw[ab];show 6<=j;omega)]
   refine⟨?_,fun _=>⟨_,hs6,AI hgk.1 hgk.2⟩⟩;rw[hs6,List.any_map];exact List.any_eq_false.mpr fun v _=>by simp[ze]
  |true =>
   refine⟨?_,fun z=>nomatch z⟩;obtain⟨j,p,hj,e1,e2⟩:=d2 e;have:(six C k)[j]? = some .non:=by rw[tw hj,hCg _ _ e1,e2];rfl
   exact List.any_eq_true.mpr ⟨.non,List.mem_of_getElem? this,rfl⟩
 have hr:=B9 (rooms h (n:=6) (env:=ET M m (n:Int) C (qy gs gone 0) (l9 gone 0) none none) (e:=.var 2) (aB rfl rfl)) (by omega);obtain⟨b6,b7,t6,t7,q⟩:=tK (n:=5) (M:=M) (m:=m) (s:=(n:Int)) (gs:=gs) (gone:=gone) (N:=rm (n:Int)) (by omega) hC (by omega) hlp (rm (n:Int)) 0 none none tn tn (i6 _);have g5:=dD hr q;unfold bTG;rw[aE,g1,aD,aE,g2,aD,aE,g3,aD,aE,g4,aD,aE,g5,aD];rfl
end
theorem B7 {T:Tb}{x:Nat}{n:Nat}(h:ev T (.var x) env = .ok (sq M,R))(hM:iV n M)(hn:n<=1000):ev T (.comp 1 [] (.nm 0) (.seq (.var x)) .none (.blt .list (Hz Hj))) env = .ok (sq M,.mv []):=by
 have hit:dM T (.seq (.var x)) env = .ok (M.map D.lst,R.roots):=by
  rw[dM,h,aA];rfl
 refine Ct.jF (l:=M) (g:=D.lst) (r:=D.lst) hit (by rw[hM.len];exact hn) fun r hr=>?_
 have hb:aW [] (.nm 0) (.lst r) (bM env 1 [])=some [some (.lst r,.sh [])]:=rfl;rw[hb];refine Ct.sP ?_;have h1:bC T (Hz Hj) [some (.lst r,.sh [])] = .ok [(.lst r,.sh [])]:=rfl;rw[ev,h1,aA];show (Rs.ok (D.lst r)).bind _=_;rw[aA,hZ (hM.flat r hr)]
theorem addL {T:Tb}{A B:List D}(h:ev T a env = .ok (.lst A,R))(h':ev T b env = .ok (.lst B,R'))(hl:A.length+B.length<=10000)(hf:D.flats (A++B)=true):ev T (.bin .Add a b) env = .ok (.lst (A++B),.mv []):=by
 rw[ev,h,aA,h',aA];have:lj .Add (.lst A) (.lst B)=some (.lst (A++B)):=by
  show ck _ _=_;unfold ck;rw[if_pos (eF hl)]
 rw[this,bR,aA,hZ hf]
theorem k6:∀ l:List (Int×Int),D.flats (l.map pD)=true
 |[]=>rfl
 |_::l=>k6 l
noncomputable def bS1:bW:=(.cons (.ite (.cmp .Eq (.bin .Mod (.bin .FloorDiv Hm GX) GX) GV) (.cons (.setix 4 (.some (.ix Hr GY)) (.ix Hr GV) (.ix (.lst (HB (.cst .non) GY GV)) (.bin .Mod (.bin .Add Hm (.bin .Mult Hq Hq)) GZ)))
  .nil) .nil)
  .nil)
noncomputable def bS2:bW:=(.cons (.setix 4 (.some Hk) Hn (.ix (.lst (HA (.bin .Sub GV (.ix (.ix Hj Hk) Hn)) (.cst .non))) (.bin .Mod (.bin .FloorDiv Hm G4) GX)))
  .nil)
noncomputable def eOt:Ex:=(.bin .Add (.comp 3 [] (.tp [0,1,2]) (.seq (.bin .Add (.call 1 (Hz Hi)) (.call 4 (Hz Hi)))) .none (.tup (HA Hj Hi))) (.call 5 (Hz Hi)))
noncomputable def bS:bW:=(.cons (.asg (.nm 4) (.comp 1 [] (.nm 0) (.seq Hj) .none (.blt .list (Hz Hj))) false)
  (.cons (.asg (.nm 6) eOt false)
  (.cons (.forr (.tp [7,8]) (.enum Ho) bS1)
  (.cons (.asg (.nm 9) (.call 6 (Hz Hi)) false)
  (.cons (.forr (.tp [3,5]) (.seq (.sl Hs (.some (.bin .Mult (.bin .FloorDiv (HD Hs) GW) GW)) .none)) bS2)
  (.cons (.ret Hl)
  .nil))))))
theorem Ec:b21=bS:=rfl
noncomputable abbrev ES (M0:List (List D))(s d:Int)(a3:Slot)(M:List (List D))(a5 a6 a7 a8 a9:Slot):En:=[some (sq M0,.sh []),sI s,sI d,a3,some (sq M,.own),a5,a6,a7,a8,a9]
variable {a3 a5 a6 a8 a9:Slot}
theorem iH {M0:List (List D)}{s d:Int}{M:List (List D)}(h3:aH a3)(h5:aH a5)(h6:aH a6)(h7:aH a7)(h8:aH a8)(h9:aH a9):Tame (ES M0 s d a3 M a5 a6 a7 a8 a9) :=
 .cons (bE _) (.cons (aC _) (.cons (aC _) (.cons h3 (.cons (aC _) (.cons h5 (.cons h6 (.cons h7 (.cons h8 (.cons h9 .nil)))))))))
theorem three {T:Tb}(he:ev T e env = .ok (.int i,R))(h0:0<=i)(h1:i<3):∃ v,md v=true/\ev T (.ix (.lst (HB (.cst .non) GY GV)) e) env = .ok (v,.mv []):=by
 have el:ev T (.lst (HB (.cst .non) GY GV)) env = .ok (.lst [.non,.int 0,.int 1],.mv []):=by
  rw[ev,bC,aF,aA,bC,aF,aA,bC,aF,aA,bC];rfl
 have:i=0\/i=1\/i=2:=by omega
 rcases this with rfl | rfl | rfl
 .exact⟨_,rfl,Ct.jU (i:=0) el he rfl rfl⟩
 .exact⟨_,rfl,Ct.jU (i:=1) el he rfl rfl⟩
 .exact⟨_,rfl,Ct.jU (i:=2) el he rfl rfl⟩
section
variable {n:Nat}{M0:List (List D)}{s d:Int}
theorem F9 {T:Tb}(hn:n<=1000){i:Nat}{p:Int×Int}(h3:aH a3)(h5:aH a5)(h6:aH a6)(h9:aH a9)(hi:i<=1000)(hM:iV n M)(hp:eX n p) :
  ∃ M',iV n M'/\(∀ q,eX n q->q≠p->ce M' q=ce M q)/\aE T bS1 (ES M0 s d a3 M a5 a6 (sN i) (some (pD p,.own)) a9) = .nx (ES M0 s d a3 M' a5 a6 (sN i) (some (pD p,.own)) a9):=by
 have v2:ev T Hm (ES M0 s d a3 M a5 a6 (sN i) (some (pD p,.own)) a9) = .ok (.int d,.mv []):=aB rfl rfl;have v7:ev T Hq (ES M0 s d a3 M a5 a6 (sN i) (some (pD p,.own)) a9) = .ok (.int (i:Int),.mv []):=aB rfl rfl;have ec:=Pc.Fr.cN (bN (by decide:(0:Int)<2) (cM (by decide:(0:Int)<2) (by decide) v2 (aF (.int 2))) (aF (.int 2))) (aF (.int 1));by_cases hb:(d / 2%2==1)=true
 .rw[hb] at ec;obtain⟨v,hv,ev3⟩:=three (bN (by decide:(0:Int)<3) (cP v2 (K33.dJ (hW (by omega) (by omega)) v7 v7)) (aF (.int 3))) (gc _ (by decide)) (gm _ (by decide));refine⟨o8 M p v,kN hM hp hv,fun q hq hne=>by rw[nX hM hp hq,if_neg hne],?_⟩;have g:=Bh (x:=4) hM hn (iH (M0:=M0) (s:=s) (d:=d) (M:=M) h3 h5 h6 (aC (.int (i:Int))) (aC (pD p)) h9) rfl hp (pX (x:=8) (p:=p) (t:=.own) rfl) (qc (x:=8) (p:=p) (t:=.own) rfl) ev3;exact aX (by rw[qr ec,if_pos rfl];exact aX g)
 .have hb':(d / 2%2==1)=false:=by simpa using hb
  rw[hb'] at ec;exact⟨M,hM,fun q _ _=>rfl,aX (by rw[qr ec,if_neg (by decide)];exact gU)⟩
theorem sW {T:Tb}(hn:n<=1000){a3:Slot}{a5 a6 a9:Slot}(h3:aH a3)(h5:aH a5)(h6:aH a6)(h9:aH a9){R:List Nat}:∀(l:List (Int×Int)) (i:Nat) (M:List (List D)) (a7 a8:Slot),aH a7->aH a8->i+l.length<=1000->(∀ p∈l,eX n p)->iV n M ->
  ∃ M' b7 b8,aH b7/\aH b8/\iV n M'/\(∀ q,eX n q->q∉l->ce M' q=ce M q)/\bQ (.tp [7,8]) R (aE T bS1) (((l.map pD).zipIdx i).map fun q=>.tup [.int q.2,q.1]) (ES M0 s d a3 M a5 a6 a7 a8 a9) = .nx (ES M0 s d a3 M' a5 a6 b7 b8 a9)
 |[],i,M,a7,a8,h7,h8,_,_,hM=>⟨M,a7,a8,h7,h8,hM,fun _ _ _=>rfl,rfl⟩
 | p::l,i,M,a7,a8,h7,h8,hl,hp,hM=>by
  rw[av] at hl;obtain⟨M1,m1,m2,q1⟩:=F9 (T:=T) (M0:=M0) (s:=s) (d:=d) hn (i:=i) h3 h5 h6 h9 (by omega) hM (hp p ai);obtain⟨M2,b7,b8,t7,t8,m3,m4,q2⟩:=sW hn h3 h5 h6 h9 (R:=R) l (i+1) M1 (sN i) (some (pD p,.own)) (aC _) (aC _) (by omega) (fun q hq=>hp q (ah _ hq)) m1;refine⟨M2,b7,b8,t7,t8,m3,fun q hq hne=>?_,?_⟩
  .rw[m4 q hq fun z=>hne (ah _ z),m2 q hq fun z=>hne (z ▸ ai)]
  .have hb:aW R (.tp [7,8]) (.tup [.int (i:Int),pD p]) (ES M0 s d a3 M a5 a6 a7 a8 a9)=some (ES M0 s d a3 M a5 a6 (sN i) (some (pD p,.own)) a9):=j0 (iH h3 h5 h6 h7 h8 h9) (show (7:Nat)<10 by decide) (show (8:Nat)<10 by decide) rfl rfl;rw[ao,List.zipIdx_cons,ao,cC hb q1];exact q2
theorem FG {T:Tb}(hn:n<=1000)(h0:iV n M0){p:Int×Int}{u:Int}(h6:aH a6)(h7:aH a7)(h8:aH a8)(h9:aH a9)(hM:iV n M)(hp:eX n p)(hu:ce M0 p = .int u) :
  ∃ M',iV n M'/\(∀ q,eX n q->q≠p->ce M' q=ce M q)/\aE T bS2 (ES M0 s d (sI p.1) M (sI p.2) a6 a7 a8 a9) = .nx (ES M0 s d (sI p.1) M' (sI p.2) a6 a7 a8 a9):=by
 have v3:ev T Hk (ES M0 s d (sI p.1) M (sI p.2) a6 a7 a8 a9) = .ok (.int p.1,.mv []):=aB rfl rfl;have v5:ev T Hn (ES M0 s d (sI p.1) M (sI p.2) a6 a7 a8 a9) = .ok (.int p.2,.mv []):=aB rfl rfl;have eg:=w8 h0 (show ev T Hj (ES M0 s d (sI p.1) M (sI p.2) a6 a7 a8 a9) = .ok (sq M0,.sh []) from rfl) hp v3 v5;rw[hu] at eg;have el:ev T (.lst (HA (.bin .Sub GV (.ix (.ix Hj Hk) Hn)) (.cst .non))) (ES M0 s d (sI p.1) M (sI p.2) a6 a7 a8 a9) = .ok (.lst [.int (1 - u),.non],.mv []):=by
  rw[ev,bC,gR (aF (.int 1)) eg,aA,bC,aF,aA,bC];rfl
 have em:=bN (by decide:(0:Int)<2) (cM (by decide:(0:Int)<4) (by decide) (aB (T:=T) (env:=ES M0 s d (sI p.1) M (sI p.2) a6 a7 a8 a9) (i:=2) (d:=.int d) (t:=.own) rfl rfl) (aF (.int 4))) (aF (.int 2));have hx:∃ v,md v=true/\ev T (.ix (.lst (HA (.bin .Sub GV (.ix (.ix Hj Hk) Hn)) (.cst .non))) (.bin .Mod (.bin .FloorDiv Hm G4) GX)) (ES M0 s d (sI p.1) M (sI p.2) a6 a7 a8 a9) = .ok (v,.mv []):=by
  have b0:=gc (d / 4) (show (2:Int)≠0 by decide);have b1:=gm (d / 4) (show (0:Int)<2 by decide);generalize d / 4%2=i at *;have:i=0\/i=1:=by omega
  rcases this with rfl | rfl
  .exact⟨_,rfl,Ct.jU (i:=0) el em rfl rfl⟩
  .exact⟨_,rfl,Ct.jU (i:=1) el em rfl rfl⟩
 obtain⟨v,hv,e3⟩:=hx;refine⟨o8 M p v,kN hM hp hv,fun q hq hne=>by rw[nX hM hp hq,if_neg hne],?_⟩;exact aX (Bh (x:=4) hM hn (iH (M0:=M0) (s:=s) (d:=d) (M:=M) (aC (.int p.1)) (aC (.int p.2)) h6 h7 h8 h9) rfl hp v3 v5 e3)
theorem sZ {T:Tb}(hn:n<=1000)(h0:iV n M0){a6 a7 a8 a9:Slot}(h6:aH a6)(h7:aH a7)(h8:aH a8)(h9:aH a9):∀(l:List (Int×Int)) (M:List (List D)) (a3 a5:Slot),aH a3->aH a5->(∀ p∈l,eX n p/\∃ u,ce M0 p = .int u)->iV n M ->
  ∃ M' b3 b5,aH b3/\aH b5/\iV n M'/\(∀ q,eX n q->q∉l->ce M' q=ce M q)/\bQ (.tp [3,5]) [] (aE T bS2) (l.map pD) (ES M0 s d a3 M a5 a6 a7 a8 a9) = .nx (ES M0 s d b3 M' b5 a6 a7 a8 a9)
 |[],M,a3,a5,h3,h5,_,hM=>⟨M,a3,a5,h3,h5,hM,fun _ _ _=>rfl,rfl⟩
 | p::l,M,a3,a5,h3,h5,hp,hM=>by
  obtain⟨hp1,u,hu⟩:=hp p ai;obtain⟨M1,m1,m2,q1⟩:=FG (T:=T) (s:=s) (d:=d) hn h0 h6 h7 h8 h9 hM hp1 hu;obtain⟨M2,b3,b5,t3,t5,m3,m4,q2⟩:=sZ hn h0 h6 h7 h8 h9 l M1 (sI p.1) (sI p.2) (aC _) (aC _) (fun q hq=>hp q (ah _ hq)) m1;refine⟨M2,b3,b5,t3,t5,m3,fun q hq hne=>?_,?_⟩
  .rw[m4 q hq fun z=>hne (ah _ z),m2 q hq fun z=>hne (z ▸ ai)]
  .have hb:aW [] (.tp [3,5]) (pD p) (ES M0 s d a3 M a5 a6 a7 a8 a9)=some (ES M0 s d (sI p.1) M (sI p.2) a6 a7 a8 a9):=j0 (iH h3 h5 h6 h7 h8 h9) (show (3:Nat)<10 by decide) (show (5:Nat)<10 by decide) rfl rfl;rw[ao,cC hb q1];exact q2
end
section
variable {x y:List Tr}{z:List (Int×Int)}{ks:List (List Int)}
theorem other (F:gK (n:Int) x y z ks){t:Tg}(hv:env[1]? = some (some (.int (n:Int),t))):ev (T 6) eOt env = .ok (.lst ((x.map pT++y.map pT++z).map pD),.mv []):=by
 have v1:ev (T 6) Hi env = .ok (.int (n:Int),.mv []):=aB hv rfl;have hl:=F.len;have hz:=F.zl;have ea:=nZ (eI v1 (up F.hm 6 (by decide))) (eI v1 (up F.hr 6 (by decide))) (by omega);have ec:=Ct.jF (T:=T 6) (own:=3) (pick:=[]) (t:=.tp [0,1,2]) (e:=(.tup (HA Hj Hi))) (g:=tD) (r:=fun t=>pD (pT t)) (iO ea) (by rw[aq];omega) (fun t _=>by
  have hb:aW [] (.tp [0,1,2]) (tD t) (bM env 3 [])=some [sI t.1,sI t.2.1,sI t.2.2]:=rfl;rw[hb];exact Ct.sP (tZ (aB rfl rfl) (aB rfl rfl)))
 have er:=addL ec (eI v1 (up F.hl 6 (by decide))) (by rw[ab,ab,aq];omega) (by
  have e:(x++y).map (fun t=>pD (pT t))=((x++y).map pT).map pD:=by rw[cz];rfl
  rw[e,<-bz];exact k6 _)
 unfold eOt;rw[er];congr 3;rw[bz,bz,bz,cz,cz];rfl
theorem vy (cs:List D)(n:Nat):cut cs (some (n:Int)) none=cs.drop n:=by
 unfold cut;rw[Ct.zE];show (cs.drop (min n cs.length)).take (cs.length - min n cs.length)=_;by_cases h:n<=cs.length
 .rw[Nat.min_eq_left h];exact List.take_of_length_le (by simp)
 .rw[Nat.min_eq_right (by omega),Nat.sub_self,List.take_zero,List.drop_of_length_le (l:=cs) (i:=n) (by omega)]
theorem qC (F:gK (n:Int) x y z ks):(fM (n:Int) ks).Nodup:=F.sn.filter _
theorem we (F:gK (n:Int) x y z ks){p:Int×Int}(hp:p∈fM (n:Int) ks):p∉x.map pT++y.map pT++z:=fun hm=>by
 have:=(jc.mp hp).2;rw[fw,F.ek] at this;have hk:((x.map pT++y.map pT++z).map kP).contains [p.1,p.2]=true:=List.contains_iff_mem.mpr (fe (f:=kP) hm);rw[hk] at this;cases this
theorem D5 (h:sf (n:Int))(hn:n<=31)(F:gK (n:Int) x y z ks){M0:List (List D)}(h0:iV n M0)(hI:∀ p,eX n p->∃ u,ce M0 p = .int u)(d:Int) :
  ∃ M,iV n M/\(∀ i p,i<6*rm (n:Int)->(fM (n:Int) ks)[i]? = some p->ce M p=ce M0 p)/\(T 7).cl 21 [sq M0,.int (n:Int),.int d] = .ok (sq M,true):=by
 have hpl:=oR h F;have hp1:=tP h F;have hO:∀ p∈x.map pT++y.map pT++z,eX n p:=fun p hp=>o5 (F.ok p hp)
 have hOl:(x.map pT++y.map pT++z).length<=400:=by
  have:=F.len;have:=F.zl;rw[aq,aq,ab,ab];omega
 have tn:=aS;have to:=aC;have g1:aQ (T 6) (.asg (.nm 4) (.comp 1 [] (.nm 0) (.seq Hj) .none (.blt .list (Hz Hj))) false) [some (sq M0,.sh []),sI (n:Int),sI d,none,none,none,none,none,none,none] = .nx (ES M0 (n:Int) d none M0 none none none none none) :=
  aO (.cons (bE _) (.cons (to _) (.cons (to _) (.cons tn (.cons tn (.cons tn (.cons tn (.cons tn (.cons tn (.cons tn .nil)))))))))) (show (4:Nat)<10 by decide) (B7 (n:=n) rfl h0 (by omega))
 have g2:aQ (T 6) (.asg (.nm 6) eOt false) (ES M0 (n:Int) d none M0 none none none none none) = .nx (ES M0 (n:Int) d none M0 none (some (.lst ((x.map pT++y.map pT++z).map pD),.own)) none none none) :=
  aO (iH tn tn tn tn tn tn) (show (6:Nat)<10 by decide) (other F rfl)
 obtain⟨M1,b7,b8,t7,t8,m1,m2,q1⟩:=sW (T:=T 6) (n:=n) (M0:=M0) (s:=(n:Int)) (d:=d) (by omega) (a3:=none) (a5:=none) (a6:=some (.lst ((x.map pT++y.map pT++z).map pD),.lk)) (a9:=none) tn tn (Bd _) tn (R:=[6]) (x.map pT++y.map pT++z) 0 M0 none none tn tn (by omega) hO h0;have hit:dM (T 6) (.enum Ho) (ES M0 (n:Int) d none M0 none (some (.lst ((x.map pT++y.map pT++z).map pD),.own)) none none none) = .ok ((((x.map pT++y.map pT++z).map pD).zipIdx 0).map (fun q=>.tup [.int q.2,q.1]),[6]):=by
  have v6:ev (T 6) Ho (ES M0 (n:Int) d none M0 none (some (.lst ((x.map pT++y.map pT++z).map pD),.own)) none none none) = .ok (.lst ((x.map pT++y.map pT++z).map pD),.mv [6]):=aV rfl rfl;rw[dM,v6,aA];rfl
 have g3:aQ (T 6) (.forr (.tp [7,8]) (.enum Ho) bS1) (ES M0 (n:Int) d none M0 none (some (.lst ((x.map pT++y.map pT++z).map pD),.own)) none none none) = .nx (ES M0 (n:Int) d none M1 none (some (.lst ((x.map pT++y.map pT++z).map pD),.own)) b7 b8 none) :=
  zV (x:=6) rfl hit q1 rfl
 have g4:aQ (T 6) (.asg (.nm 9) (.call 6 (Hz Hi)) false) (ES M0 (n:Int) d none M1 none (some (.lst ((x.map pT++y.map pT++z).map pD),.own)) b7 b8 none) = .nx (ES M0 (n:Int) d none M1 none (some (.lst ((x.map pT++y.map pT++z).map pD),.own)) b7 b8 (some (.lst ((fM (n:Int) ks).map pD),.own))) :=
  aO (iH tn tn (to _) t7 t8 tn) (show (9:Nat)<10 by decide) (eI (aB rfl rfl) (up (data _ h F) 6 (by decide)))
 have hnd:=qC F;have hnt:∀ p∈fM (n:Int) ks,p∉x.map pT++y.map pT++z:=fun p hp=>we F hp
 have hin:∀ p∈fM (n:Int) ks,eX n p:=fun p hp=>sQ F hp
 generalize fM (n:Int) ks=P at *;generalize x.map pT++y.map pT++z=O at *;have v9:ev (T 6) Hs (ES M0 (n:Int) d none M1 none (some (.lst (O.map pD),.own)) b7 b8 (some (.lst (P.map pD),.own))) = .ok (.lst (P.map pD),.mv [9]):=aV rfl rfl;have el:=gF v9;rw[ab] at el;have em:ev (T 6) (.bin .Mult (.bin .FloorDiv (HD Hs) GW) GW) (ES M0 (n:Int) d none M1 none (some (.lst (O.map pD),.own)) b7 b8 (some (.lst (P.map pD),.own))) = .ok (.int ((P.length / 6*6:Nat):Int),.mv []):=by
  have:=K33.dJ (T:=T 6) (hW (x:=(P.length:Int) / 6) (by omega) (by omega)) (cM (by decide:(0:Int)<6) (by decide) el (aF (.int 6))) (aF (.int 6));rw[this];congr 3
 have es:ev (T 6) (.sl Hs (.some (.bin .Mult (.bin .FloorDiv (HD Hs) GW) GW)) .none) (ES M0 (n:Int) d none M1 none (some (.lst (O.map pD),.own)) b7 b8 (some (.lst (P.map pD),.own))) = .ok (.lst ((P.drop (P.length / 6*6)).map pD),.mv []):=by
  rw[ev,v9,aA,Ct.lu em,aA,Ct.vY,aA];have:slD (.lst (P.map pD)) (some ((P.length / 6*6:Nat):Int)) none=some (.lst ((P.drop (P.length / 6*6)).map pD)):=by
   show some (D.lst (cut (P.map pD) _ none))=_;rw[vy,List.map_drop]
  rw[this,bR,aA,hZ (k6 _)]
 obtain⟨M2,b3,b5,t3,t5,m3,m4,q2⟩:=sZ (T:=T 6) (n:=n) (M0:=M0) (s:=(n:Int)) (d:=d) (by omega) h0 (a6:=some (.lst (O.map pD),.own)) (a7:=b7) (a8:=b8) (a9:=some (.lst (P.map pD),.own)) (to _) t7 t8 (to _) (P.drop (P.length / 6*6)) M1 none none tn tn (fun p hp=>⟨hin p (List.mem_of_mem_drop hp),hI p (hin p (List.mem_of_mem_drop hp))⟩) m1;have g5:=dD (iO es) q2;refine⟨M2,m3,fun i p hi hp=>?_,?_⟩
 .have hm:=List.mem_of_getElem? hp;rw[m4 p (hin p hm) ?_,m2 p (hin p hm) (hnt p hm)];intro hd;obtain⟨j,hj⟩:=List.getElem?_of_mem hd;rw[List.getElem?_drop] at hj;have:=(List.getElem?_inj (List.getElem?_eq_some_iff.mp hp).1 hnd).mp (hp.trans hj.symm);omega
 .rw[ui,cU (F:=⟨3,10,b21⟩) rfl rfl,Ec];show ret (aE (T 6) bS [some (sq M0,.sh []),sI (n:Int),sI d,none,none,none,none,none,none,none])=_;unfold bS;rw[aE,g1,aD,aE,g2,aD,aE,g3,aD,aE,g4,aD,aE,g5,aD];have v4:ev (T 6) Hl (ES M0 (n:Int) d b3 M2 b5 (some (.lst (O.map pD),.own)) b7 b8 (some (.lst (P.map pD),.own))) = .ok (sq M2,.mv [4]):=aV rfl rfl;rw[aE,aQ,v4,bO];rfl
end
theorem yn:∀(l acc:List Int) (a:Int),a∈l.foldl PyProof.Rows.step_dedup acc↔a∈acc\/a∈l
 |[],acc,a=>by simp
 | b::l,acc,a=>by
  rw[jd,yn l,cg];unfold PyProof.Rows.step_dedup;split
  .rename_i h;obtain⟨c,hc,e⟩:=List.any_eq_true.mp h;have:c=b:=by simpa using e
   subst this;constructor
   .rintro (h | h)
    .exact .inl h
    .exact .inr (.inr h)
   .rintro (h | rfl | h)
    .exact .inl h
    .exact .inl hc
    .exact .inr h
  .rw[ig,gh,or_assoc]
theorem qE:∀(l acc:List Int),acc.Nodup->(l.foldl PyProof.Rows.step_dedup acc).Nodup
 |[],acc,h=>h
 | b::l,acc,h=>by
  rw[jd];refine qE l _ ?_;unfold PyProof.Rows.step_dedup;split
  .exact h
  .rename_i hn;refine ef.mpr ⟨h,i4 _ _,fun a ha c hc e=>hn ?_⟩;rw[gh.mp hc] at e;exact List.any_eq_true.mpr ⟨a,ha,by simp[e]⟩
theorem Bk {a b:List Int}(ha:a.Nodup)(hb:b.Nodup)(h:∀ x,x∈a↔x∈b):a.Perm b:=by
 rw[List.perm_iff_count];intro x;by_cases hx:x∈a
 .rw[ha.count,hb.count,if_pos hx,if_pos ((h x).mp hx)]
 .rw[ha.count,hb.count,if_neg hx,if_neg fun z=>hx ((h x).mpr z)]
theorem uQ (gone:Nat->Bool)(N:Nat):(l9 gone N).Pairwise (· < ·):=by
 unfold l9;refine List.pairwise_map.mpr (List.Pairwise.imp (fun {a b} h=>?_) (List.pairwise_lt_range.filter gone));omega
variable {G:List Int}{N:Nat}
theorem wV (h:∀ a,a∈G↔∃ k,k<N/\gone k=true/\a=(k:Int)):bY (dd G)=l9 gone N:=by
 have lt:=uQ gone N;refine PySem.W.lks_uniq ((dZ _).trans (Bk (qE G [] bu) (lt.imp fun {a b} z=>by omega) fun a=>?_)) (fX _) (lt.imp fun {a b} z=>by omega);show a∈G.foldl _ []↔_;rw[yn,h];unfold l9;simp only[List.mem_map,List.mem_filter,List.mem_range,List.not_mem_nil,false_or];constructor
 .rintro⟨k,a,b,rfl⟩;exact⟨k,⟨a,b⟩,rfl⟩
 .rintro⟨k,⟨a,b⟩,rfl⟩;exact⟨k,a,b,rfl⟩
theorem um:∀ l:List Int,eB (iD l)=some l
 |[]=>rfl
 | a::l=>by
  show (eB (iD l)).map (a :: ·)=_;rw[um l];rfl
theorem Am {T:Tb}(he:ev T e env = .ok (.lst (iD G),R))(h:G.length<64):ev T (.app gJ (.cons e .nil)) env = .ok (.lst (iD (bY (dd G))),.mv []):=by
 have hs:bC T (.cons e .nil) env = .ok [(.lst (iD G),R)]:=by
  rw[bC,he,aA,bC,aA]
 rw[ev,hs,aA];have:gJ [.lst (iD G)]=some (.lst (iD (bY (dd G)))):=by
  show ((eB (iD G)).bind fun ns=>if ns.length<64 then some (D.lst ((bY (dd ns)).map .int)) else none)=_;rw[um];show (if G.length<64 then _ else _)=_;rw[if_pos h]
 show (kj (gJ [.lst (iD G)])).bind _=_;rw[this];rfl
noncomputable abbrev E (S:List D)(a1 a2 a3 a4 a5 a6 a7 a8 a9 a10 a11 a12 a13 a14:Slot):En:=[sS S,a1,a2,a3,a4,a5,a6,a7,a8,a9,a10,a11,a12,a13,a14]
variable {a10:Slot}
theorem oK {S:List D}{a1 a2 a3 a4 a5 a6 a7 a8 a9 a11 a12 a13 a14:Slot}(h1:aH a1)(h2:aH a2)(h3:aH a3)(h4:aH a4)(h5:aH a5)(h6:aH a6)(h7:aH a7)(h8:aH a8)(h9:aH a9)(h10:aH a10)(h11:aH a11)(h12:aH a12)(h13:aH a13)(h14:aH a14):Tame (E S a1 a2 a3 a4 a5 a6 a7 a8 a9 a10 a11 a12 a13 a14) :=
 .cons (bE _) (.cons h1 (.cons h2 (.cons h3 (.cons h4 (.cons h5 (.cons h6 (.cons h7 (.cons h8 (.cons h9 (.cons h10 (.cons h11 (.cons h12 (.cons h13 (.cons h14 .nil))))))))))))))
noncomputable def GC:Ex:=(.bin .Mod (.bin .FloorDiv (.call 17 (HB Hj (.bin .Add (Hh 200) (.var 10)) (Hh 2147483543))) G6) (.bin .Mult GW (HD Hn)))
noncomputable def bL:bW:=(.cons (.asg (.nm 11) GC false)
  (.cons (.setix 7 (.some (.ix (.ix Hr Ht) GY)) (.ix (.ix Hr Ht) GV) (.cst .non))
  (.cons (.mut 9 .none .append (Hz (.bin .FloorDiv Ht GW)))
  .nil)))
noncomputable abbrev oI (l:List Int):Slot:=some (.lst (iD l),.own)
noncomputable abbrev oM (M:List (List D)):Slot:=some (sq M,.own)
variable {a11:Slot}
section
variable {ns:List Int}{a1 a2 a3 a4 a6:Slot}{gs:List Int}{P:List (Int×Int)}{n N:Nat}
theorem l_in (h1:aH a1)(h2:aH a2)(h3:aH a3)(h4:aH a4)(h6:aH a6)(hn:n<=1000)(hgl:gs.length=N)(hN:0<N)(hN':N<=133)(hP:6*N<=P.length)(hin:∀ p∈P,eX n p){G:List Int}{k:Nat}(h11:aH a11)(hk:k<=1000)(hM:iV n M)(hG:G.length<=900) :
  ∃ i p,i<6*N/\P[i]? = some p/\aE (T 8) bL (E (iD ns) a1 a2 a3 a4 (oI gs) a6 (oM M) (some (.lst (P.map pD),.own)) (oI G) (sN k) a11 none none none) = .nx (E (iD ns) a1 a2 a3 a4 (oI gs) a6 (oM (o8 M p .non)) (some (.lst (P.map pD),.own)) (oI (G ++ [((i / 6:Nat):Int)])) (sN k) (sN i) none none none):=by
 have tn:=aS;have to:=aC;obtain⟨u,u0,h17⟩:=y4 ns ((200+k:Nat):Int) 2147483543 (by omega) (by omega) (by decide);have te:=fun {M G a11} (h:aH a11)=>oK (S:=iD ns) (a7:=oM M) (a9:=oI G) (a11:=a11) h1 h2 h3 h4 (to (.lst (iD gs))) h6 (to _) (to (.lst (P.map pD))) (to _) (to (.int (k:Int))) h tn tn tn
 obtain⟨R0,v0⟩:∃ R,ev (T 8) Hj (E (iD ns) a1 a2 a3 a4 (oI gs) a6 (oM M) (some (.lst (P.map pD),.own)) (oI G) (sN k) a11 none none none) = .ok (.lst (iD ns),R):=cQ rfl;have em:=cM (by decide:(0:Int)<7) (by decide) (gL v0 (pA (x:=200) (aF (.int 200)) (aB (T:=T 8) (i:=10) (d:=.int (k:Int)) (t:=.own) rfl rfl)) (aF (.int 2147483543)) (up h17 8 (by decide))) (aF (.int 7));have el:=gF (aV (T:=T 8) (env:=E (iD ns) a1 a2 a3 a4 (oI gs) a6 (oM M) (some (.lst (P.map pD),.own)) (oI G) (sN k) a11 none none none) (i:=5) (d:=.lst (iD gs)) rfl rfl);rw[ab,hgl] at el;have e6:=K33.dJ (i:=6) (by decide) (aF (T:=T 8) (env:=E (iD ns) a1 a2 a3 a4 (oI gs) a6 (oM M) (some (.lst (P.map pD),.own)) (oI G) (sN k) a11 none none none) (.int 6)) el;have en:=bN (by omega:(0:Int)<6*(N:Int)) em e6;obtain⟨i,ei,hi⟩:∃ i:Nat,u / 7%(6*(N:Int))=(i:Int)/\i<6*N:=by
  have b0:=gc (u / 7) (show 6*(N:Int)≠0 by omega);have b1:=gm (u / 7) (show 0<6*(N:Int) by omega);exact⟨(u / 7%(6*(N:Int))).toNat,by omega,by omega⟩
 rw[ei] at en;have hiP:i<P.length:=by omega
 refine⟨i,P[i],hi,List.getElem?_eq_getElem hiP,?_⟩;have hp:=hin _ (ft hiP);have g1:aQ (T 8) (.asg (.nm 11) GC false) (E (iD ns) a1 a2 a3 a4 (oI gs) a6 (oM M) (some (.lst (P.map pD),.own)) (oI G) (sN k) a11 none none none) = .nx (E (iD ns) a1 a2 a3 a4 (oI gs) a6 (oM M) (some (.lst (P.map pD),.own)) (oI G) (sN k) (sN i) none none none) :=
  aO (te h11) (show (11:Nat)<15 by decide) en
 have v11:∀{M G},ev (T 8) Ht (E (iD ns) a1 a2 a3 a4 (oI gs) a6 (oM M) (some (.lst (P.map pD),.own)) (oI G) (sN k) (sN i) none none none) = .ok (.int (i:Int),.mv []):=fun {_ _}=>aB rfl rfl
 have ep:ev (T 8) (.ix Hr Ht) (E (iD ns) a1 a2 a3 a4 (oI gs) a6 (oM M) (some (.lst (P.map pD),.own)) (oI G) (sN k) (sN i) none none none) = .ok (pD P[i],.mv []) :=
  Ct.jU (aV (T:=T 8) (i:=8) (d:=.lst (P.map pD)) rfl rfl) v11 (by rw[List.getElem?_map,List.getElem?_eq_getElem hiP];rfl) rfl
 have q0:=Ct.yq (i:=0) (d:=.int (P[i]).1) ep (aF (.int 0)) rfl rfl;have q1:=Ct.yq (i:=1) (d:=.int (P[i]).2) ep (aF (.int 1)) rfl rfl;have g2:=Bh (x:=7) hM hn (te (M:=M) (G:=G) (to (.int (i:Int)))) rfl hp q0 q1 (aF .non);have e3:=cM (by decide:(0:Int)<6) (by decide) (v11 (M:=o8 M P[i] .non) (G:=G)) (aF (.int 6));have g3:=gE (T:=T 8) (x:=9) (te (M:=o8 M P[i] .non) (G:=G) (to (.int (i:Int)))) rfl e3 (by rw[ab];exact kd (by omega));have g3':aQ (T 8) (.mut 9 .none .append (Hz (.bin .FloorDiv Ht GW))) (E (iD ns) a1 a2 a3 a4 (oI gs) a6 (oM (o8 M P[i] .non)) (some (.lst (P.map pD),.own)) (oI G) (sN k) (sN i) none none none) = .nx (E (iD ns) a1 a2 a3 a4 (oI gs) a6 (oM (o8 M P[i] .non)) (some (.lst (P.map pD),.own)) (oI (G ++ [((i / 6:Nat):Int)])) (sN k) (sN i) none none none):=by
  rw[g3];show Fl.nx [_,_,_,_,_,_,_,_,_,some (.lst (iD G++iD [((i:Int) / 6)]),.own),_,_,_,_,_]=_;rw[<-Gn.nV];rfl
 unfold bL;have g2':aQ (T 8) (.setix 7 (.some (.ix (.ix Hr Ht) GY)) (.ix (.ix Hr Ht) GV) (.cst .non)) (E (iD ns) a1 a2 a3 a4 (oI gs) a6 (oM M) (some (.lst (P.map pD),.own)) (oI G) (sN k) (sN i) none none none) = .nx (E (iD ns) a1 a2 a3 a4 (oI gs) a6 (oM (o8 M P[i] .non)) (some (.lst (P.map pD),.own)) (oI G) (sN k) (sN i) none none none):=g2;rw[aE,g1,aD,aE,g2',aD,aX g3']
noncomputable def Fz (n N:Nat)(P:List (Int×Int))(M1 M:List (List D))(nu:List Nat)(G:List Int):Prop :=
 iV n M/\(∀ i∈nu,i<6*N)/\G=nu.map (fun i=>((i / 6:Nat):Int))/\∀ i p,i<6*N->P[i]? = some p->ce M p=if i∈nu then .non else ce M1 p
theorem yu (h1:aH a1)(h2:aH a2)(h3:aH a3)(h4:aH a4)(h6:aH a6)(hn:n<=1000)(hgl:gs.length=N)(hN:0<N)(hN':N<=133)(hP:6*N<=P.length)(hin:∀ p∈P,eX n p)(hnd:P.Nodup){M1:List (List D)}:∀(j k:Nat) (M:List (List D)) (nu:List Nat) (G:List Int) (a10 a11:Slot),aH a10->aH a11->k+j<=900->G.length+j<=63->Fz n N P M1 M nu G ->
  ∃ M' nu' G' BJ Bx,aH BJ/\aH Bx/\G'.length<=63/\Fz n N P M1 M' nu' G'/\bQ (.nm 10) [] (aE (T 8) bL) (bK (k:Int) 1 j) (E (iD ns) a1 a2 a3 a4 (oI gs) a6 (oM M) (some (.lst (P.map pD),.own)) (oI G) a10 a11 none none none) = .nx (E (iD ns) a1 a2 a3 a4 (oI gs) a6 (oM M') (some (.lst (P.map pD),.own)) (oI G') BJ Bx none none none)
 |0,k,M,nu,G,a10,a11,h10,h11,_,hG,g=>⟨M,nu,G,a10,a11,h10,h11,hG,g,rfl⟩
 | j+1,k,M,nu,G,a10,a11,h10,h11,hk,hG,⟨c1,c2,c3,c4⟩=>by
  obtain⟨i,p,hi,hp,q⟩:=l_in (ns:=ns) h1 h2 h3 h4 h6 hn hgl hN hN' hP hin (k:=k) h11 (by omega) c1 (G:=G) (by omega);have hpin:=hin p (List.mem_of_getElem? hp);obtain⟨M',nu',G',BJ,Bx,t10,t11,l',g',r⟩:=yu (M1:=M1) h1 h2 h3 h4 h6 hn hgl hN hN' hP hin hnd j (k+1) (o8 M p .non) (nu ++ [i]) (G ++ [((i / 6:Nat):Int)]) (sN k) (sN i) (aC _) (aC _) (by omega) (by rw[aq,dq];omega)
   ⟨kN c1 hpin rfl,fun b hb=>(ig.mp hb).elim (c2 b) fun z=>by rw[gh.mp z];exact hi,by rw[c3,bz];rfl,fun b w hb hq=>by
    rw[nX c1 hpin (hin w (List.mem_of_getElem? hq)),c4 b w hb hq];by_cases e:b=i
    .subst e;have:w=p:=cj (hq.symm.trans hp);rw[if_pos this,if_pos (ak _ ai)]
    .have ne:w≠p:=fun z=>e ((List.getElem?_inj (List.getElem?_eq_some_iff.mp hq).1 hnd).mp (by rw[hq,hp,z]))
     rw[if_neg ne];by_cases hm:b∈nu
     .rw[if_pos hm,if_pos (bf _ hm)]
     .rw[if_neg hm,if_neg fun z=>(ig.mp z).elim hm fun y=>e (gh.mp y)]⟩
  refine⟨M',nu',G',BJ,Bx,t10,t11,l',g',?_⟩;have hb:aW [] (.nm 10) (.int (k:Int)) (E (iD ns) a1 a2 a3 a4 (oI gs) a6 (oM M) (some (.lst (P.map pD),.own)) (oI G) a10 a11 none none none)=some (E (iD ns) a1 a2 a3 a4 (oI gs) a6 (oM M) (some (.lst (P.map pD),.own)) (oI G) (sN k) a11 none none none) :=
   dX (oK h1 h2 h3 h4 (aC _) h6 (aC _) (aC _) (aC _) h10 h11 aS aS aS) (show (10:Nat)<15 by decide)
  rw[jg,cC hb q];exact r
end
variable {x y:D}{xs ys:List D}
section
variable {T:Tb}{env:En}
theorem rE {op:CmpOp}{k:Bool}(ha:ev T a env = .ok (x,R))(hb:ev T b env = .ok (y,R'))(h:kB op x y=some k):ev T (.cmp op a b) env = .ok (.bl k,.mv []):=by
 rw[ev,ha,aA,hb,aA,h];rfl
theorem GB {a b:Ex}{x y:D}(ha:ev T a env = .ok (x,R))(hb:ev T b env = .ok (y,R')):∃ S,ev T (.tup (.cons a (.cons b .nil))) env = .ok (.tup [x,y],S):=by
 rw[ev,bC,ha,aA,bC,hb,aA,bC,aA,aA,aA];exact⟨_,rfl⟩
theorem ixV {z:D}(ha:ev T a env = .ok (x,R))(hb:ev T b env = .ok (y,R'))(h:BN x y=some z):∃ S,ev T (.ix a b) env = .ok (z,S):=by
 rw[ev,ha,aA,hb,aA,h];exact⟨_,rfl⟩
theorem iteE {c:Ex}(hc:ev T c env = .ok (.bl k,R))(h:ev T (if k then a else b) env = .ok (d,.mv [])):ev T (.ite c a b) env = .ok (d,.mv []):=by
 rw[ev,hc,aA];cases k<;>exact h
theorem A5 {x:Nat}{k:Ex}{p:Ex}{l:Int}{j m:Nat}(ht:Tame env)(hx:env[x]? = some (some (.tup xs,.own)))(hp:ev T p env = .ok (.int i,R))(hi:Pc.fU xs.length i=some j)(hj:xs[j]? = some (.lst ys))(hk:ev T k env = .ok (.int l,R'))(hm:Pc.fU ys.length l=some m)(h:ev T e env = .ok (d,.mv []))(hl:ys.length<=lim) :
  aQ T (.setix x (.some p) k e) env = .nx (env.set x (some (.tup (xs.set j (.lst (ys.set m d))),.own))):=by
 have ho:ownAt env x=some (.tup xs):=by unfold ownAt;rw[hx]
 have hat:D.at1 (.tup xs) (some i)=some ys:=by simp[D.at1,hi,hj]
 have hll:(ys.set m d).length<=lim:=by rw[cv];exact hl
 rw[aQ,ho];simp only[h,bO,iS,hp,aA,hat,hk,hm,eZ,dC,Option.map_some,List.append_nil,List.nodup_nil,decide_true,eO,List.all_nil,List.contains_nil,Bool.not_false,Bool.and_self,hll,if_true,D.set1,hi,Bool.true_and];rw[gN ht]
theorem AX {x:Nat}{p:Ex}{j:Nat}(ht:Tame env)(hx:env[x]? = some (some (.tup xs,.own)))(hp:ev T p env = .ok (.int i,R))(hi:Pc.fU xs.length i=some j)(hj:xs[j]? = some (.lst ys))(h:ev T e env = .ok (d,.mv []))(hl:ys.length+1<=lim) :
  aQ T (.mut x (.some p) .append (.cons e .nil)) env = .nx (env.set x (some (.tup (xs.set j (.lst (ys ++ [d]))),.own))):=by
 have ho:ownAt env x=some (.tup xs):=by unfold ownAt;rw[hx]
 have hs:bC T (.cons e .nil) env = .ok [(d,.mv [])]:=by
  rw[bC,h,aA];rfl
 have hat:D.at1 (.tup xs) (some i)=some ys:=by simp[D.at1,hi,hj]
 rw[aQ,ho];simp only[iS,hp,aA,bO,hat,hs,List.map_cons,List.map_nil,qj,aP,Rt.roots,List.flatten_cons,List.flatten_nil,List.append_nil,List.contains_nil,Bool.false_eq_true,if_false,o9.copies,eZ,dC,Option.map_some];have:(ys ++ [d]).length<=lim:=by rw[aq];exact hl
 simp only[List.nodup_nil,decide_true,eO,List.all_nil,Bool.not_false,Bool.and_self,this,if_true,D.set1,hi,Bool.true_and];rw[gN ht]
end
theorem iF (n:Nat)(l:List Int):D.eqf (n+2) (.lst (iD l)) (.lst (iD l))=some true:=by
 rw[D.eqf,if_pos rfl];refine gM fun d hd=>?_
 obtain⟨i,_,rfl⟩:=List.mem_map.mp hd;simp[D.eqf]
theorem xb (A B:List Int):D.eqf 40 (.tup [.lst (iD A),.lst (iD B)]) (.tup [.lst (iD A),.lst (iD B)])=some true:=by
 rw[D.eqf,if_pos rfl];refine gM fun d hd=>?_
 rcases cg.mp hd with rfl | hd
 .exact iF 37 A
 .rcases cg.mp hd with rfl | hd
  .exact iF 37 B
  .cases hd
theorem oD (h:D.eqf 40 x x=some true):kB .NotEq x x=some false:=by
 show (D.eqf 40 x x).map (!·)=_;rw[h];rfl
theorem whole (l:List Int)(hl:l.length<=1000)(n:Nat):(T (n+1)).cl 22 [.lst (iD l)] = .ok (.bl true,true):=by
 rw[ui,cU (F:=⟨1,1,b22⟩) rfl rfl];have hst:aM [.lst (iD l)] 1=[some (.lst (iD l),.sh [])]:=rfl;dsimp only;rw[hst];have ea:=zP (T:=T n) (env:=[some (.lst (iD l),.sh [])]) (x:=0) rfl (by omega:l.length<=10000);have ei:ev (T n) (.blt (.isi "list") (Hz Hj)) [some (.lst (iD l),.sh [])] = .ok (.bl true,.mv []):=qT (R:=.sh []) (d:=.lst (iD l)) rfl rfl;exact hJ (by rw[ev,ei,aA];exact ea)
theorem zK (k:Int)(G:List Int):kB .In (.int k) (.lst (iD G))=some (decide (k∈G)):=by
 show (if (D.cO (.int k)&&(iD G).all D.cO)=true then some ((iD G).any fun y=>D.eqs y (.int k)) else none)=_;rw[if_pos]
 .congr 1
  induction G with
  |nil=>rfl
  |cons a G ih =>
   show ((a==k) || (iD G).any fun y=>D.eqs y (.int k))=_;rw[ih];by_cases e:a=k
   .subst e;simp
   .have:¬ k=a:=fun z=>e z.symm
    simp[e,this]
 .rw[ag];refine⟨rfl,cu.mpr fun d hd=>?_⟩;obtain⟨i,_,rfl⟩:=List.mem_map.mp hd;rfl
noncomputable def cV (nu:List Nat)(k:Nat):Bool:=decide (k∈nu.map (· / 6))
theorem lies_of {ks:List (List Int)}{nu:List Nat}(hP:6*rm s<=(fM s ks).length)(hnu:∀ i∈nu,i<6*rm s)
  (hb:∀ i p,i<6*rm s->(fM s ks)[i]? = some p->∃ v,(mZ (gs.getD (i / 6) 0))[i%6]? = some v/\ce M p=if i∈nu then .non else .int (p9 m v p)):Lies s ks M m gs (cV nu):=fun k hk=>by
 have get:∀ i (hi:i<6*rm s),(fM s ks)[i]? = some ((fM s ks)[i]'(by omega)):=fun i hi=>List.getElem?_eq_getElem (by omega)
 refine⟨fun hg j hj=>?_,fun hg=>?_⟩
 .have hi:6*k+j<6*rm s:=by omega
  obtain⟨v,h1,h2⟩:=hb _ _ hi (get _ hi);rw[show (6*k+j) / 6=k by omega,show (6*k+j)%6=j by omega] at h1;refine⟨_,v,get _ hi,h1,?_⟩;rw[h2,if_neg];intro hm;have:cV nu k=true:=c9 (List.mem_map.mpr ⟨_,hm,by omega⟩);rw[this] at hg;cases hg
 .obtain⟨i,hi,e⟩:=List.mem_map.mp (gn hg);have hlt:=hnu i hi;obtain⟨v,h1,h2⟩:=hb i _ hlt (get i hlt);refine⟨i%6,_,by omega,by rw[show 6*k+i%6=i by omega];exact get i hlt,?_⟩;rw[h2,if_pos hi]
theorem zS:qy gs (fun _=>false) gs.length=gs:=by
 unfold qy;refine List.ext_getElem (by simp) fun i h1 h2=>?_
 simp[List.getElem?_eq_getElem h2]
theorem vO (N:Nat):l9 (fun _=>false) N=[]:=by
 unfold l9;simp
theorem xD:cV []=fun _=>false:=rfl
variable {nu:List Nat}
theorem xi (h:∀ i∈nu,i<6*N)(a:Int):a∈nu.map (fun i=>((i / 6:Nat):Int))↔∃ k,k<N/\cV nu k=true/\a=(k:Int):=by
 constructor
 .intro hm;obtain⟨i,hi,rfl⟩:=List.mem_map.mp hm;exact⟨i / 6,by have:=h i hi;omega,c9 (fe hi),rfl⟩
 .rintro⟨k,_,hg,rfl⟩;obtain⟨i,hi,rfl⟩:=List.mem_map.mp (gn hg);exact List.mem_map.mpr ⟨i,hi,rfl⟩
noncomputable def rF:bW:=(.cons (.ret (.cst (.bl false))) .nil)
noncomputable def E1:Ex:=(.comp 1 [9,5] (.nm 0) (.rng1 (HD Hn)) .none (.ite (.cmp .In Hj Hi) GY (.ix Hm Hj)))
noncomputable def tC:bW:=(.cons (.asg (.nm 12) (.comp 1 [] (.nm 0) (.seq Hq) .none (.blt .list (Hz Hj))) false)
  (.cons (.asg (.nm 13) (.call 20 (HA Hu Hl)) false)
  (.cons (.ite (.or (.cmp .NotEq Hu Hq) (.or (.not (.blt (.isi "tuple") (Hz Hv))) (.cmp .NotEq (HD Hv) GX))) rF .nil)
  (.cons (.ite (.or (.not (.call 22 (Hz (.ix Hv GY)))) (.or (.not (.call 22 (Hz (.ix Hv GV)))) (.cmp .NotEq (.ix Hv GV) (.app Pc.gJ (Hz Hs))))) rF .nil)
  (.cons (.asg (.nm 14) E1 false)
  (.cons (.ite (.cmp .NotEq (.ix Hv GY) Hw) rF .nil)
  (.cons (.setix 13 (.some GY) GY G8)
  (.cons (.mut 13 (.some GV) .append (Hz GY))
  (.cons (.setix 12 (.some GY) GY (.cst .non))
  (.cons (.ret (.cmp .Eq (.call 20 (HA Hu Hl)) (.tup (HA Hw (.app Pc.gJ (Hz Hs))))))
  .nil))))))))))
noncomputable def ED:Ex:=(.bin .Mod (.bin .FloorDiv (.call 17 (HB Hj GY (Hh 2147483549))) G5) (Hh 13))
noncomputable def tB:bW:=(.cons (.ite (.cmp .NotEq (.call 20 (HA Ho Hl)) (.tup (HA Hn (.lst .nil)))) rF .nil)
  (.cons (.asg (.nm 7) (.call 21 (HB Ho Hk (.call 17 (HB Hj GX (Hh 2147483563))))) false)
  (.cons (.asg (.nm 8) (.call 6 (Hz Hk)) false)
  (.cons (.asg (.nm 9) (.lst .nil) false)
  (.cons (.forr (.nm 10) (.rng1 ED) bL)
  tC)))))
noncomputable def e3:Ex:=(.ix (.lst (.cons Hb (HC Hc He Hf Hg))) Hm)
noncomputable def e5:Ex:=(.ix (.lst (.cons (Hh 16) (HC (Hh 37) G8 (Hh 96) (Hh 133)))) Hm)
noncomputable def FX:bW:=(.cons (.asg (.nm 1) (.call 17 (HB Hj GV (Hh 2147483647))) false)
  (.cons (.asg (.nm 2) (.bin .Mod (.bin .FloorDiv Hi GZ) G5) false)
  (.cons (.asg (.nm 3) e3 false)
  (.cons (.asg (.nm 4) (.bin .Mod (.bin .FloorDiv Hi (Hh 60)) G7) false)
  (.cons (.asg (.nm 5) (.call 18 (.cons Hj (.cons e5 .nil))) false)
  (.cons (.asg (.nm 6) (.call 13 (HC (.blt .list (Hz Hn)) Hk (.bin .Mod (.bin .FloorDiv Hi Hb) G4) Hl)) false)
  tB))))))
theorem DR:b23=FX:=rfl
section
variable {ns:List Int}{a1 a2:Slot}{n:Nat}{m:Int}{gs:List Int}{a6:Slot}{x y:List Tr}{z:List (Int×Int)}{ks:List (List Int)}
theorem endC (h:sf (n:Int))(hn:n<=31)(hn6:6<=n)(F:gK (n:Int) x y z ks)(h1:aH a1)(h2:aH a2)(h6:aH a6)(hg:∀ g∈gs,0<=g/\g<64)(hgl:gs.length=rm (n:Int))(hg0:0<gs.length)(h8:aH a8)(h10:aH a10)(h11:aH a11)(hM:iV n M)(hnu:∀ i∈nu,i<6*rm (n:Int))(hG:G=nu.map (fun i=>((i / 6:Nat):Int)))(hGl:G.length<=63)
  (hb:∀ i p,i<6*rm (n:Int)->(fM (n:Int) ks)[i]? = some p->∃ v,(mZ (gs.getD (i / 6) 0))[i%6]? = some v/\ce M p=if i∈nu then .non else .int (p9 m v p)) :
  ret (aE (T 8) tC (E (iD ns) a1 a2 (sI (n:Int)) (sI m) (oI gs) a6 (oM M) a8 (oI G) a10 a11 none none none)) = .ok (.bl true,true):=by
 have tn:=aS;have to:=aC;have hpl:=oR h F;have hN:=wF (s:=(n:Int));have te:=fun {M G a12 a13 a14} (h12:aH a12) (h13:aH a13) (h14:aH a14)=>oK (S:=iD ns) (a7:=oM M) (a9:=oI G) (a12:=a12) (a13:=a13) (a14:=a14) h1 h2 (to (.int (n:Int))) (to (.int m)) (to (.lst (iD gs))) h6 (to _) h8 (to _) h10 h11 h12 h13 h14
 have tk:=taken h hn F hM hg hgl (lies_of hpl hnu hb);have em:bY (dd G)=l9 (cV nu) (rm (n:Int)):=wV (by rw[hG];exact xi hnu);have dl:=tL gs (cV nu) (rm (n:Int));have ml:=ua (cV nu) (rm (n:Int));have hD:∀ k,k<rm (n:Int)->decide ((k:Int)∈G)=cV nu k:=fun k hk=>by
  rw[Bool.eq_iff_iff,decide_eq_true_iff,hG,xi hnu];constructor
  .rintro⟨j,_,e1,e2⟩;have:k=j:=by omega
   rw[this];exact e1
  .intro e1;exact⟨k,hk,e1,rfl⟩
 have hDu:qy gs (cV nu) (rm (n:Int))=(List.range (rm (n:Int))).map fun k=>if cV nu k then 0 else gs.getD k 0:=rfl
 generalize hA:qy gs (cV nu) (rm (n:Int))=A at *;generalize hB:l9 (cV nu) (rm (n:Int))=B at *;have g1:aQ (T 8) (.asg (.nm 12) (.comp 1 [] (.nm 0) (.seq Hq) .none (.blt .list (Hz Hj))) false) (E (iD ns) a1 a2 (sI (n:Int)) (sI m) (oI gs) a6 (oM M) a8 (oI G) a10 a11 none none none) = .nx (E (iD ns) a1 a2 (sI (n:Int)) (sI m) (oI gs) a6 (oM M) a8 (oI G) a10 a11 (oM M) none none) :=
  aO (te tn tn tn) (show (12:Nat)<15 by decide) (B7 (n:=n) (aV (T:=T 8) (i:=7) (d:=sq M) rfl rfl) hM (by omega))
 have v12:∀{M' a13 a14},ev (T 8) Hu (E (iD ns) a1 a2 (sI (n:Int)) (sI m) (oI gs) a6 (oM M) a8 (oI G) a10 a11 (oM M') a13 a14) = .ok (sq M',.mv [12]):=fun {_ _ _}=>aV rfl rfl
 have v4:∀{a12 a13 a14},ev (T 8) Hl (E (iD ns) a1 a2 (sI (n:Int)) (sI m) (oI gs) a6 (oM M) a8 (oI G) a10 a11 a12 a13 a14) = .ok (.int m,.mv []):=fun {_ _ _}=>aB rfl rfl
 have g2:aQ (T 8) (.asg (.nm 13) (.call 20 (HA Hu Hl)) false) (E (iD ns) a1 a2 (sI (n:Int)) (sI m) (oI gs) a6 (oM M) a8 (oI G) a10 a11 (oM M) none none) = .nx (E (iD ns) a1 a2 (sI (n:Int)) (sI m) (oI gs) a6 (oM M) a8 (oI G) a10 a11 (oM M) (some (.tup [.lst (iD A),.lst (iD B)],.own)) none) :=
  aO (te (to _) tn tn) (show (13:Nat)<15 by decide) (mQ v12 v4 (up tk 8 (by decide)))
 have v13:∀{a14},ev (T 8) Hv (E (iD ns) a1 a2 (sI (n:Int)) (sI m) (oI gs) a6 (oM M) a8 (oI G) a10 a11 (oM M) (some (.tup [.lst (iD A),.lst (iD B)],.own)) a14) = .ok (.tup [.lst (iD A),.lst (iD B)],.mv [13]):=fun {_}=>aV rfl rfl
 have v7:∀{a14},ev (T 8) Hq (E (iD ns) a1 a2 (sI (n:Int)) (sI m) (oI gs) a6 (oM M) a8 (oI G) a10 a11 (oM M) (some (.tup [.lst (iD A),.lst (iD B)],.own)) a14) = .ok (sq M,.mv [7]):=fun {_}=>aV rfl rfl
 have c3:=sF (rE (op:=.NotEq) (v12 (a13:=some (.tup [.lst (iD A),.lst (iD B)],.own)) (a14:=none)) v7 (oD (FK hM))) (sF (yR (qT (n:="tuple") (b:=true) v13 rfl)) (rE (op:=.NotEq) (Ax v13) (aF (.int 2)) (k:=false) rfl));have g3:aQ (T 8) (.ite (.or (.cmp .NotEq Hu Hq) (.or (.not (.blt (.isi "tuple") (Hz Hv))) (.cmp .NotEq (HD Hv) GX))) rF .nil) (E (iD ns) a1 a2 (sI (n:Int)) (sI m) (oI gs) a6 (oM M) a8 (oI G) a10 a11 (oM M) (some (.tup [.lst (iD A),.lst (iD B)],.own)) none) = .nx (E (iD ns) a1 a2 (sI (n:Int)) (sI m) (oI gs) a6 (oM M) a8 (oI G) a10 a11 (oM M) (some (.tup [.lst (iD A),.lst (iD B)],.own)) none):=by
  rw[qr c3,if_neg (by decide)];exact gU
 have i0:∀{a14},∃ S,ev (T 8) (.ix Hv GY) (E (iD ns) a1 a2 (sI (n:Int)) (sI m) (oI gs) a6 (oM M) a8 (oI G) a10 a11 (oM M) (some (.tup [.lst (iD A),.lst (iD B)],.own)) a14) = .ok (.lst (iD A),S):=fun {_}=>ixV v13 (aF (.int 0)) rfl
 have i1:∀{a14},∃ S,ev (T 8) (.ix Hv GV) (E (iD ns) a1 a2 (sI (n:Int)) (sI m) (oI gs) a6 (oM M) a8 (oI G) a10 a11 (oM M) (some (.tup [.lst (iD A),.lst (iD B)],.own)) a14) = .ok (.lst (iD B),S):=fun {_}=>ixV v13 (aF (.int 1)) rfl
 obtain⟨S0,e0⟩:=i0 (a14:=none);obtain⟨S1,e1⟩:=i1 (a14:=none);have v9:∀{a12 a13 a14},ev (T 8) Hs (E (iD ns) a1 a2 (sI (n:Int)) (sI m) (oI gs) a6 (oM M) a8 (oI G) a10 a11 a12 a13 a14) = .ok (.lst (iD G),.mv [9]):=fun {_ _ _}=>aV rfl rfl
 have ss:∀{a12 a13 a14},ev (T 8) (.app gJ (Hz Hs)) (E (iD ns) a1 a2 (sI (n:Int)) (sI m) (oI gs) a6 (oM M) a8 (oI G) a10 a11 a12 a13 a14) = .ok (.lst (iD B),.mv []):=fun {_ _ _}=>by
  rw[<-em];exact Am v9 (by omega)
 have c4:=sF (yR (eI e0 (whole A (by omega) 7))) (sF (yR (eI e1 (whole B (by omega) 7))) (rE (op:=.NotEq) e1 ss (oD (iF 38 B))));have g4:aQ (T 8) (.ite (.or (.not (.call 22 (Hz (.ix Hv GY)))) (.or (.not (.call 22 (Hz (.ix Hv GV)))) (.cmp .NotEq (.ix Hv GV) (.app Pc.gJ (Hz Hs))))) rF .nil) (E (iD ns) a1 a2 (sI (n:Int)) (sI m) (oI gs) a6 (oM M) a8 (oI G) a10 a11 (oM M) (some (.tup [.lst (iD A),.lst (iD B)],.own)) none) = .nx (E (iD ns) a1 a2 (sI (n:Int)) (sI m) (oI gs) a6 (oM M) a8 (oI G) a10 a11 (oM M) (some (.tup [.lst (iD A),.lst (iD B)],.own)) none):=by
  rw[qr c4,if_neg (by decide)];exact gU
 have el:=gF (aV (T:=T 8) (env:=E (iD ns) a1 a2 (sI (n:Int)) (sI m) (oI gs) a6 (oM M) a8 (oI G) a10 a11 (oM M) (some (.tup [.lst (iD A),.lst (iD B)],.own)) none) (i:=5) (d:=.lst (iD gs)) rfl rfl);rw[ab,hgl] at el;have hit:=B9 el (by omega);rw[oJ] at hit;have ec:=Ct.jF (T:=T 8) (own:=1) (pick:=[9,5]) (t:=.nm 0) (e:=(.ite (.cmp .In Hj Hi) GY (.ix Hm Hj))) (r:=fun k=>D.int (if cV nu k then 0 else gs.getD k 0)) hit (by rw[gq];omega) (fun k hk=>by
  have hk:=List.mem_range.mp hk;have hb:aW [] (.nm 0) (.int ((0+k:Nat):Int)) (bM (E (iD ns) a1 a2 (sI (n:Int)) (sI m) (oI gs) a6 (oM M) a8 (oI G) a10 a11 (oM M) (some (.tup [.lst (iD A),.lst (iD B)],.own)) none) 1 [9,5])=some [sN (0+k),some (.lst (iD G),.sh []),some (.lst (iD gs),.sh [])]:=rfl;rw[hb,i6];have v0:ev (T 8) Hj [sN k,some (.lst (iD G),.sh []),some (.lst (iD gs),.sh [])] = .ok (.int (k:Int),.mv []):=aB rfl rfl;have ecm:=rE (op:=.In) v0 (show ev (T 8) Hi [sN k,some (.lst (iD G),.sh []),some (.lst (iD gs),.sh [])] = .ok (.lst (iD G),.sh []) from rfl) (zK (k:Int) G);rw[hD k hk] at ecm;refine Ct.sP (iteE ecm ?_);cases cV nu k with
  |true=>exact aF (.int 0)
  |false =>
   have hkg:k<gs.length:=by omega
   have:=Pc.Fr.j7 (l:=gs) (i:=(k:Int)) (v:=gs.getD k 0) (by omega) (by rw[cq,List.getD_eq_getElem?_getD,List.getElem?_eq_getElem hkg];rfl) (show ev (T 8) Hm [sN k,some (.lst (iD G),.sh []),some (.lst (iD gs),.sh [])] = .ok (.lst (iD gs),.sh []) from rfl) v0;exact this)
 have eA:(List.range (rm (n:Int))).map (fun k=>D.int (if cV nu k then 0 else gs.getD k 0))=iD A:=by
  rw[hDu,iD,cz];rfl
 rw[eA] at ec;have g5:aQ (T 8) (.asg (.nm 14) E1 false) (E (iD ns) a1 a2 (sI (n:Int)) (sI m) (oI gs) a6 (oM M) a8 (oI G) a10 a11 (oM M) (some (.tup [.lst (iD A),.lst (iD B)],.own)) none) = .nx (E (iD ns) a1 a2 (sI (n:Int)) (sI m) (oI gs) a6 (oM M) a8 (oI G) a10 a11 (oM M) (some (.tup [.lst (iD A),.lst (iD B)],.own)) (oI A)) :=
  aO (te (to _) (to _) tn) (show (14:Nat)<15 by decide) ec
 obtain⟨S2,e2⟩:=i0 (a14:=oI A);have v14:∀{a12 a13},ev (T 8) Hw (E (iD ns) a1 a2 (sI (n:Int)) (sI m) (oI gs) a6 (oM M) a8 (oI G) a10 a11 a12 a13 (oI A)) = .ok (.lst (iD A),.mv [14]):=fun {_ _}=>aV rfl rfl
 have c6:=rE (op:=.NotEq) e2 v14 (oD (iF 38 A));have g6:aQ (T 8) (.ite (.cmp .NotEq (.ix Hv GY) Hw) rF .nil) (E (iD ns) a1 a2 (sI (n:Int)) (sI m) (oI gs) a6 (oM M) a8 (oI G) a10 a11 (oM M) (some (.tup [.lst (iD A),.lst (iD B)],.own)) (oI A)) = .nx (E (iD ns) a1 a2 (sI (n:Int)) (sI m) (oI gs) a6 (oM M) a8 (oI G) a10 a11 (oM M) (some (.tup [.lst (iD A),.lst (iD B)],.own)) (oI A)):=by
  rw[qr c6,if_neg (by decide)];exact gU
 have hAl:(iD A).length=A.length:=ab ..;have hBl:(iD B).length=B.length:=ab ..;have g7:=A5 (T:=T 8) (x:=13) (te (M:=M) (G:=G) (to (sq M)) (to (.tup [.lst (iD A),.lst (iD B)])) (to (.lst (iD A)))) rfl (aF (.int 0)) (j:=0) rfl rfl (aF (.int 0)) (m:=0) (by rw[hAl];exact lU (by decide) (by omega)) (aF (.int 64)) (by rw[hAl];exact kd (by omega));have g7':aQ (T 8) (.setix 13 (.some GY) GY G8) (E (iD ns) a1 a2 (sI (n:Int)) (sI m) (oI gs) a6 (oM M) a8 (oI G) a10 a11 (oM M) (some (.tup [.lst (iD A),.lst (iD B)],.own)) (oI A)) = .nx (E (iD ns) a1 a2 (sI (n:Int)) (sI m) (oI gs) a6 (oM M) a8 (oI G) a10 a11 (oM M) (some (.tup [.lst ((iD A).set 0 (.int 64)),.lst (iD B)],.own)) (oI A)):=g7;have g8:=AX (T:=T 8) (x:=13) (te (M:=M) (G:=G) (to (sq M)) (to (.tup [.lst ((iD A).set 0 (.int 64)),.lst (iD B)])) (to (.lst (iD A)))) rfl (aF (.int 1)) (j:=1) rfl rfl (aF (.int 0)) (by rw[hBl];exact kd (by omega));have g8':aQ (T 8) (.mut 13 (.some GV) .append (Hz GY)) (E (iD ns) a1 a2 (sI (n:Int)) (sI m) (oI gs) a6 (oM M) a8 (oI G) a10 a11 (oM M) (some (.tup [.lst ((iD A).set 0 (.int 64)),.lst (iD B)],.own)) (oI A)) = .nx (E (iD ns) a1 a2 (sI (n:Int)) (sI m) (oI gs) a6 (oM M) a8 (oI G) a10 a11 (oM M) (some (.tup [.lst ((iD A).set 0 (.int 64)),.lst (iD B ++ [.int 0])],.own)) (oI A)):=g8;have z00:eX n ((0:Int),(0:Int)):=⟨by decide,by show (0:Int)<n;omega,by decide,by show (0:Int)<n;omega⟩;have g9:=Bh (T:=T 8) (x:=12) hM (by omega) (te (M:=M) (G:=G) (to (sq M)) (to (.tup [.lst ((iD A).set 0 (.int 64)),.lst (iD B ++ [.int 0])])) (to (.lst (iD A)))) rfl z00 (aF (.int 0)) (aF (.int 0)) (aF .non);have g9':aQ (T 8) (.setix 12 (.some GY) GY (.cst .non)) (E (iD ns) a1 a2 (sI (n:Int)) (sI m) (oI gs) a6 (oM M) a8 (oI G) a10 a11 (oM M) (some (.tup [.lst ((iD A).set 0 (.int 64)),.lst (iD B ++ [.int 0])],.own)) (oI A)) = .nx (E (iD ns) a1 a2 (sI (n:Int)) (sI m) (oI gs) a6 (oM M) a8 (oI G) a10 a11 (oM (o8 M (0,0) .non)) (some (.tup [.lst ((iD A).set 0 (.int 64)),.lst (iD B ++ [.int 0])],.own)) (oI A)):=g9;have hM2:iV n (o8 M (0,0) .non):=kN hM z00 rfl;have tk2:=taken h hn F hM2 (m:=m) hg hgl (lies_of hpl hnu fun i p hi hp=>by
  obtain⟨v,q1,q2⟩:=hb i p hi hp;refine⟨v,q1,?_⟩;have hm:=List.mem_of_getElem? hp;rw[nX hM z00 (sQ F hm),if_neg (show ¬ p=(0,0) from fun e=>we F hm (by rw[e];exact F.z0)),q2])
 rw[hA,hB] at tk2;obtain⟨S3,e3⟩:=GB (T:=T 8) (v14 (a12:=oM (o8 M (0,0) .non)) (a13:=some (.tup [.lst ((iD A).set 0 (.int 64)),.lst (iD B ++ [.int 0])],.own))) ss;have ee:=rE (op:=.Eq) (mQ v12 v4 (up tk2 8 (by decide))) e3 (xb A B);unfold tC;rw[aE,g1,aD,aE,g2,aD,aE,g3,aD,aE,g4,aD,aE,g5,aD,aE,g6,aD,aE,g7',aD,aE,g8',aD,aE,g9',aD];exact hJ ee
theorem five (w:Int)(h:w=0\/w=1\/w=2\/w=3\/w=4):∃ n:Nat,sf (n:Int)/\6<=n/\n<=31/\0<rm (n:Int)/\[(15:Int),19,23,27,31][w.toNat]? = some (n:Int)/\[(16:Int),37,64,96,133][w.toNat]? = some ((rm (n:Int):Nat):Int):=by
 rcases h with rfl | rfl | rfl | rfl | rfl
 .exact⟨15,.inl rfl,by decide,by decide,by decide,rfl,rfl⟩
 .exact⟨19,.inr (.inl rfl),by decide,by decide,by decide,rfl,rfl⟩
 .exact⟨23,.inr (.inr (.inl rfl)),by decide,by decide,by decide,rfl,rfl⟩
 .exact⟨27,.inr (.inr (.inr (.inl rfl))),by decide,by decide,by decide,rfl,rfl⟩
 .exact⟨31,.inr (.inr (.inr (.inr rfl))),by decide,by decide,by decide,rfl,rfl⟩
theorem law (ns:List Int)(hl:ns.length<=63):∃ fr,Pc.run fns gl 1000 9 23 [.lst (ns.map D.int)] = .ok (.bl true,fr):=by
 rw[cU (F:=⟨1,15,b23⟩) rfl rfl];have hst:aM [.lst (iD ns)] 15=E (iD ns) none none none none none none none none none none none none none none:=rfl;dsimp only;rw[hst,DR];have tn:=aS;have to:=aC;refine⟨true,?_⟩;obtain⟨d,d0,h17⟩:=y4 ns 1 2147483647 (by omega) (by omega) (by omega);have v0:∀{a1 a2 a3 a4 a5 a6 a7 a8 a9},∃ R,ev (T 8) Hj (E (iD ns) a1 a2 a3 a4 a5 a6 a7 a8 a9 none none none none none) = .ok (.lst (iD ns),R):=fun {_ _ _ _ _ _ _ _ _}=>cQ rfl
 have te:=fun {a1 a2 a3 a4 a5 a6 a7 a8 a9} (h1:aH a1) (h2:aH a2) (h3:aH a3) (h4:aH a4) (h5:aH a5) (h6:aH a6) (h7:aH a7) (h8:aH a8) (h9:aH a9)=>oK (S:=iD ns) (a1:=a1) (a2:=a2) (a3:=a3) (a4:=a4) (a5:=a5) (a6:=a6) (a7:=a7) (a8:=a8) (a9:=a9) h1 h2 h3 h4 h5 h6 h7 h8 h9 tn tn tn tn tn
 obtain⟨R1,w1⟩:=v0 (a1:=none) (a2:=none) (a3:=none) (a4:=none) (a5:=none) (a6:=none) (a7:=none) (a8:=none) (a9:=none);have s1:aQ (T 8) (.asg (.nm 1) (.call 17 (HB Hj GV (Hh 2147483647))) false) (E (iD ns) none none none none none none none none none none none none none none) = .nx (E (iD ns) (sI d) none none none none none none none none none none none none none) :=
  aO (te tn tn tn tn tn tn tn tn tn) (show (1:Nat)<15 by decide) (gL w1 (aF _) (aF _) (up h17 8 (by decide)))
 have hw:d / 3%5=0\/d / 3%5=1\/d / 3%5=2\/d / 3%5=3\/d / 3%5=4:=by omega
 have s2:aQ (T 8) (.asg (.nm 2) (.bin .Mod (.bin .FloorDiv Hi GZ) G5) false) (E (iD ns) (sI d) none none none none none none none none none none none none none) = .nx (E (iD ns) (sI d) (sI (d / 3%5)) none none none none none none none none none none none none) :=
  aO (te (to _) tn tn tn tn tn tn tn tn) (show (2:Nat)<15 by decide) (bN (by omega) (cM (by omega) (by omega) (aB rfl rfl) (aF _)) (aF _))
 generalize d / 3%5=w at s2 hw;obtain⟨n,hs,n6,n31,r0,x1,x2⟩:=five w hw;have w0:0<=w:=by omega
 have s3:aQ (T 8) (.asg (.nm 3) e3 false) (E (iD ns) (sI d) (sI w) none none none none none none none none none none none none) = .nx (E (iD ns) (sI d) (sI w) (sI (n:Int)) none none none none none none none none none none none) :=
  aO (te (to _) (to _) tn tn tn tn tn tn tn) (show (3:Nat)<15 by decide) (Pc.Fr.j7 (l:=[15,19,23,27,31]) w0 x1 rfl (aB rfl rfl))
 obtain⟨l,hl4,el⟩:∃ l:Nat,l<4/\d / 15%4=(l:Int):=⟨(d / 15%4).toNat,by omega,by omega⟩;obtain⟨m,hm8,em⟩:∃ m:Nat,m<8/\d / 60%8=(m:Int):=⟨(d / 60%8).toNat,by omega,by omega⟩;have s4:aQ (T 8) (.asg (.nm 4) (.bin .Mod (.bin .FloorDiv Hi (Hh 60)) G7) false) (E (iD ns) (sI d) (sI w) (sI (n:Int)) none none none none none none none none none none none) = .nx (E (iD ns) (sI d) (sI w) (sI (n:Int)) (sI m) none none none none none none none none none none):=by
  rw[<-em];exact aO (te (to _) (to _) (to _) tn tn tn tn tn tn) (show (4:Nat)<15 by decide) (bN (by omega) (cM (by omega) (by omega) (aB rfl rfl) (aF _)) (aF _))
 have hrm:=wF (s:=(n:Int));obtain⟨gs,hg,hgl,h18⟩:=grL ns (rm (n:Int)) (by omega);obtain⟨R2,w2⟩:=v0 (a1:=sI d) (a2:=sI w) (a3:=sI (n:Int)) (a4:=sI m) (a5:=none) (a6:=none) (a7:=none) (a8:=none) (a9:=none);have s5:aQ (T 8) (.asg (.nm 5) (.call 18 (.cons Hj (.cons e5 .nil))) false) (E (iD ns) (sI d) (sI w) (sI (n:Int)) (sI m) none none none none none none none none none none) = .nx (E (iD ns) (sI d) (sI w) (sI (n:Int)) (sI m) (oI gs) none none none none none none none none none) :=
  aO (te (to _) (to _) (to _) (to _) tn tn tn tn tn) (show (5:Nat)<15 by decide) (mQ w2 (Pc.Fr.j7 (l:=[16,37,64,96,133]) w0 x2 rfl (aB rfl rfl)) (up h18 8 (by decide)))
 obtain⟨x,y,z,ks,F⟩:=vK (zU hs);obtain⟨q,M0,_,_,h13,L⟩:=laid hs F rfl n31 hg (by omega) l m hl4 hm8;have hpl:=oR hs F;rw[<-sq_I] at h13;have hM0:=EF L.rect;have s6:aQ (T 8) (.asg (.nm 6) (.call 13 (HC (.blt .list (Hz Hn)) Hk (.bin .Mod (.bin .FloorDiv Hi Hb) G4) Hl)) false) (E (iD ns) (sI d) (sI w) (sI (n:Int)) (sI m) (oI gs) none none none none none none none none none) = .nx (E (iD ns) (sI d) (sI w) (sI (n:Int)) (sI m) (oI gs) (oM (M0.map iD)) none none none none none none none none):=by
  rw[<-el] at h13;exact aO (te (to _) (to _) (to _) (to _) (to _) tn tn tn tn) (show (6:Nat)<15 by decide) (Pc.Fr.Fk (Bi (aV (T:=T 8) (i:=5) (d:=.lst (iD gs)) rfl rfl)) (aB rfl rfl) (bN (by omega) (cM (by omega) (by omega) (aB rfl rfl) (aF _)) (aF _)) (aB rfl rfl) (up h13 8 (by decide)))
 have base:∀ i p,i<6*rm (n:Int)->(fM (n:Int) ks)[i]? = some p->∃ v,(mZ (gs.getD (i / 6) 0))[i%6]? = some v/\ce (M0.map iD) p = .int (p9 (m:Int) v p):=fun i p hi hp=>by
  obtain⟨p1,v,hv,hgt⟩:=L.dt i p hp;refine⟨v,?_,by rw[EO L.rect p1,hgt]⟩;rw[List.getElem?_append_left (by rw[pQ];omega),qh] at hv;rw[List.getElem?_eq_getElem (show i / 6<gs.length by omega)] at hv;rw[List.getD_eq_getElem?_getD,List.getElem?_eq_getElem (show i / 6<gs.length by omega)];exact hv
 have tk:=taken hs n31 F hM0 (m:=(m:Int)) hg hgl (lies_of (nu:=[]) hpl (fun i hi=>nomatch hi) fun i p hi hp=>by
  obtain⟨v,a,b⟩:=base i p hi hp;exact⟨v,a,by rw[b];rfl⟩)
 rw[xD,<-hgl,zS,vO] at tk;have v6:ev (T 8) Ho (E (iD ns) (sI d) (sI w) (sI (n:Int)) (sI m) (oI gs) (oM (M0.map iD)) none none none none none none none none) = .ok (sq (M0.map iD),.mv [6]):=aV rfl rfl;obtain⟨S7,t7⟩:=GB (T:=T 8) (env:=E (iD ns) (sI d) (sI w) (sI (n:Int)) (sI m) (oI gs) (oM (M0.map iD)) none none none none none none none none) (a:=.var 5) (b:=.lst .nil) (x:=.lst (iD gs)) (y:=.lst (iD [])) (aV rfl rfl) (by rw[ev,bC];rfl);have c7:=rE (op:=.NotEq) (mQ v6 (aB (T:=T 8) (i:=4) (d:=.int (m:Int)) (t:=.own) rfl rfl) (up tk 8 (by decide))) t7 (oD (xb gs []));have s7:aQ (T 8) (.ite (.cmp .NotEq (.call 20 (HA Ho Hl)) (.tup (HA Hn (.lst .nil)))) rF .nil) (E (iD ns) (sI d) (sI w) (sI (n:Int)) (sI m) (oI gs) (oM (M0.map iD)) none none none none none none none none) = .nx (E (iD ns) (sI d) (sI w) (sI (n:Int)) (sI m) (oI gs) (oM (M0.map iD)) none none none none none none none none):=by
  rw[qr c7,if_neg (by decide)];exact gU
 obtain⟨d2,_,h17b⟩:=y4 ns 2 2147483563 (by omega) (by omega) (by omega);obtain⟨M1,hM1,sp,h21⟩:=D5 hs n31 F hM0 (fun p hp=>⟨_,EO L.rect hp⟩) d2;obtain⟨R3,w3⟩:=v0 (a1:=sI d) (a2:=sI w) (a3:=sI (n:Int)) (a4:=sI m) (a5:=oI gs) (a6:=oM (M0.map iD)) (a7:=none) (a8:=none) (a9:=none);have s8:aQ (T 8) (.asg (.nm 7) (.call 21 (HB Ho Hk (.call 17 (HB Hj GX (Hh 2147483563))))) false) (E (iD ns) (sI d) (sI w) (sI (n:Int)) (sI m) (oI gs) (oM (M0.map iD)) none none none none none none none none) = .nx (E (iD ns) (sI d) (sI w) (sI (n:Int)) (sI m) (oI gs) (oM (M0.map iD)) (oM M1) none none none none none none none) :=
  aO (te (to _) (to _) (to _) (to _) (to _) (to _) tn tn tn) (show (7:Nat)<15 by decide) (gL v6 (aB rfl rfl) (gL w3 (aF _) (aF _) (up h17b 8 (by decide))) (up h21 8 (by decide)))
 have s9:aQ (T 8) (.asg (.nm 8) (.call 6 (Hz Hk)) false) (E (iD ns) (sI d) (sI w) (sI (n:Int)) (sI m) (oI gs) (oM (M0.map iD)) (oM M1) none none none none none none none) = .nx (E (iD ns) (sI d) (sI w) (sI (n:Int)) (sI m) (oI gs) (oM (M0.map iD)) (oM M1) (some (.lst ((fM (n:Int) ks).map pD),.own)) none none none none none none) :=
  aO (te (to _) (to _) (to _) (to _) (to _) (to _) (to _) tn tn) (show (8:Nat)<15 by decide) (eI (aB rfl rfl) (up (data _ hs F) 8 (by decide)))
 have s10:aQ (T 8) (.asg (.nm 9) (.lst .nil) false) (E (iD ns) (sI d) (sI w) (sI (n:Int)) (sI m) (oI gs) (oM (M0.map iD)) (oM M1) (some (.lst ((fM (n:Int) ks).map pD),.own)) none none none none none none) = .nx (E (iD ns) (sI d) (sI w) (sI (n:Int)) (sI m) (oI gs) (oM (M0.map iD)) (oM M1) (some (.lst ((fM (n:Int) ks).map pD),.own)) (oI []) none none none none none) :=
  aO (te (to _) (to _) (to _) (to _) (to _) (to _) (to _) (to _) tn) (show (9:Nat)<15 by decide) (by rw[ev,bC];rfl)
 obtain⟨d3,_,h17c⟩:=y4 ns 0 2147483549 (by omega) (by omega) (by omega);obtain⟨c,hc13,ec⟩:∃ c:Nat,c<13/\d3 / 5%13=(c:Int):=⟨(d3 / 5%13).toNat,by omega,by omega⟩;obtain⟨R4,w4⟩:=v0 (a1:=sI d) (a2:=sI w) (a3:=sI (n:Int)) (a4:=sI m) (a5:=oI gs) (a6:=oM (M0.map iD)) (a7:=oM M1) (a8:=some (.lst ((fM (n:Int) ks).map pD),.own)) (a9:=oI []);have eC:ev (T 8) ED (E (iD ns) (sI d) (sI w) (sI (n:Int)) (sI m) (oI gs) (oM (M0.map iD)) (oM M1) (some (.lst ((fM (n:Int) ks).map pD),.own)) (oI []) none none none none none) = .ok (.int (c:Int),.mv []):=by
  rw[<-ec];exact bN (by omega) (cM (by omega) (by omega) (gL w4 (aF _) (aF _) (up h17c 8 (by decide))) (aF _)) (aF _)
 obtain⟨M,nu,G,BJ,Bx,t10,t11,gl63,⟨hM,hnu,hG,hce⟩,qq⟩:=yu (ns:=ns) (a1:=sI d) (a2:=sI w) (a3:=sI (n:Int)) (a4:=sI m) (a6:=oM (M0.map iD)) (gs:=gs) (P:=fM (n:Int) ks) (n:=n) (N:=rm (n:Int)) (to _) (to _) (to _) (to _) (to _) (by omega) hgl r0 hrm hpl (fun p hp=>sQ F hp) (qC F) (M1:=M1) c 0 M1 [] [] none none tn tn (by omega) (by rw[cf];omega) ⟨hM1,(fun i hi=>(nomatch hi)),rfl,fun i p _ _=>rfl⟩;have s11:=dD (B9 eC (by omega)) qq;unfold FX tB;rw[aE,s1,aD,aE,s2,aD,aE,s3,aD,aE,s4,aD,aE,s5,aD,aE,s6,aD,aE,s7,aD,aE,s8,aD,aE,s9,aD,aE,s10,aD,aE,s11,aD];refine endC hs n31 n6 F (to _) (to _) (to _) hg hgl (by omega) (to _) t10 t11 hM hnu hG gl63 fun i p hi hp=>?_
 obtain⟨v,a,b⟩:=base i p hi hp;exact⟨v,a,by rw[hce i p hi hp,sp i p hi hp,b]⟩
end
end K33
end
section
namespace K33
open PySem PySem.Spec PyProof.Rows L2 Pc
noncomputable abbrev st (i:Nat):Stmt:=PySem.Challenge.pw_patchsquare_k33_taken_back.main.body.getD i (.Pass ⟨0,0,0,0⟩)
noncomputable def dS:List Str:=["range","len","isinstance","int","bool","list","tuple","min","sorted","all","sum","enumerate","zip","set"]
noncomputable def uq:List Str:=["DARK","LIGHT","MARK_SIDE","UPPER_LEFT","UPPER_RIGHT","LOWER","LABEL_LINE","LABEL_HALF","STRIP_ROWS","GRAIN_BITS","MASKS","LABEL_CELLS","WEIGHTS","ROOMS"]
noncomputable def df0:Df:=⟨"bits_of",st 1,["number","count"],["number","count"],b0⟩
noncomputable def df1:Df:=⟨"mark_cells",st 14,["size"],["size","lines","cells","row","column"],b1⟩
noncomputable def df2:Df:=⟨"mark_cell",st 15,["size","row","column"],["size","row","column","depth"],b2⟩
noncomputable def df3:Df:=⟨"mark_depth",st 16,["size","line"],["size","line","step"],b3⟩
noncomputable def df4:Df:=⟨"ruler_cells",st 17,["size"],["size","cells","line","cell"],b4⟩
noncomputable def df5:Df:=⟨"label_places",st 18,["size"],["size","across","upwards"],b5⟩
noncomputable def df6:Df:=⟨"data_places",st 19,["size"],["size","taken"],b6⟩
noncomputable def df7:Df:=⟨"taken_places",st 20,["size"],["size","taken","row","column","cell","place"],b7⟩
noncomputable def df8:Df:=⟨"strip_places",st 21,["size"],["size","places","leftwards","top","step","column","row"],b8⟩
noncomputable def df9:Df:=⟨"bits_of_grains",st 24,["grains"],["grains","bits","grain"],b9⟩
noncomputable def df10:Df:=⟨"label_bits",st 29,["level","mask"],["level","mask","number"],BJ⟩
noncomputable def df11:Df:=⟨"shared_ones",st 30,["first","second"],["first","second"],Bx⟩
noncomputable def df12:Df:=⟨"turns_over",st 32,["mask","row","column"],["mask","row","column"],b12⟩
noncomputable def df13:Df:=⟨"laid_square",st 34,["grains","size","level","mask"],["grains","size","level","mask","row","square","column","cell"],b13⟩
noncomputable def df14:Df:=⟨"floor_cells",st 35,["size","level","mask"],["size","level","mask","cells","place","bit"],b14⟩
noncomputable def df15:Df:=⟨"laid_cells",st 36,["grains","size","mask"],["grains","size","mask","places","bits"],b15⟩
noncomputable def df16:Df:=⟨"masked_cell",st 37,["cell","mask","place"],["cell","mask","place"],b16⟩
noncomputable def df17:Df:=⟨"_law_mix",st 40,["_law_script","_law_k","_law_prime"],["_law_script","_law_k","_law_prime","_law_cell"],b17⟩
noncomputable def df18:Df:=⟨"_law_grains",st 41,["_law_script","_law_many"],["_law_script","_law_many","_law_way","_law_grains_here","_law_k","_law_grain"],b18⟩
noncomputable def df19:Df:=⟨"number_of",st 2,["bits"],["bits","number","bit"],b19⟩
noncomputable def df20:Df:=⟨"taken_grains",st 38,["square","mask"],["square","mask","size","cells","grains","missing","number","bits"],b20⟩
noncomputable def df21:Df:=⟨"_law_spoilt",st 42,["_law_square","_law_size","_law_d"],["_law_square","_law_size","_law_d","_law_row","_law_spoilt_here","_law_column","_law_other","_law_k","_law_place","_law_places"],b21⟩
noncomputable def df22:Df:=⟨"_law_whole",st 43,["_law_found"],["_law_found"],b22⟩
noncomputable def Ga:Df:=⟨"law",st 44,["_law_script"],["_law_script","_law_d","_law_which","_law_size","_law_mask","_law_grains_here","_law_square","_law_spoilt_here","_law_places","_law_gone","_law_k","_law_number","_law_handed","_law_found","_law_due"],b23⟩
noncomputable def p:Pg:=⟨[df0,df1,df2,df3,df4,df5,df6,df7,df8,df9,df10,df11,df12,df13,df14,df15,df16,df17,df18,df19,df20,df21,df22,Ga],uq,dS,gl,1000⟩
theorem ok:uL (Df.Ok p) p.dfs :=
 ⟨
   Df.ok_of (n:=60) (by decide +kernel) rfl (fun _ _ _ _ _ _ us hl=>@rO (fun us=>bindArgs _ ⟨us,[]⟩=pure (List.zip _ us)) us hl (fun _ _=>rfl)),
   Df.ok_of (n:=60) (by decide +kernel) rfl (fun _ _ _ _ _ _ us hl=>@lD (fun us=>bindArgs _ ⟨us,[]⟩=pure (List.zip _ us)) us hl (fun _=>rfl)),
   Df.ok_of (n:=60) (by decide +kernel) rfl (fun _ _ _ _ _ _ us hl=>@qu (fun us=>bindArgs _ ⟨us,[]⟩=pure (List.zip _ us)) us hl (fun _ _ _=>rfl)),
   Df.ok_of (n:=60) (by decide +kernel) rfl (fun _ _ _ _ _ _ us hl=>@rO (fun us=>bindArgs _ ⟨us,[]⟩=pure (List.zip _ us)) us hl (fun _ _=>rfl)),
   Df.ok_of (n:=60) (by decide +kernel) rfl (fun _ _ _ _ _ _ us hl=>@lD (fun us=>bindArgs _ ⟨us,[]⟩=pure (List.zip _ us)) us hl (fun _=>rfl)),
   Df.ok_of (n:=60) (by decide +kernel) rfl (fun _ _ _ _ _ _ us hl=>@lD (fun us=>bindArgs _ ⟨us,[]⟩=pure (List.zip _ us)) us hl (fun _=>rfl)),
   Df.ok_of (n:=60) (by decide +kernel) rfl (fun _ _ _ _ _ _ us hl=>@lD (fun us=>bindArgs _ ⟨us,[]⟩=pure (List.zip _ us)) us hl (fun _=>rfl)),
   Df.ok_of (n:=60) (by decide +kernel) rfl (fun _ _ _ _ _ _ us hl=>@lD (fun us=>bindArgs _ ⟨us,[]⟩=pure (List.zip _ us)) us hl (fun _=>rfl)),
   Df.ok_of (n:=60) (by decide +kernel) rfl (fun _ _ _ _ _ _ us hl=>@lD (fun us=>bindArgs _ ⟨us,[]⟩=pure (List.zip _ us)) us hl (fun _=>rfl)),
   Df.ok_of (n:=60) (by decide +kernel) rfl (fun _ _ _ _ _ _ us hl=>@lD (fun us=>bindArgs _ ⟨us,[]⟩=pure (List.zip _ us)) us hl (fun _=>rfl)),
   Df.ok_of (n:=60) (by decide +kernel) rfl (fun _ _ _ _ _ _ us hl=>@rO (fun us=>bindArgs _ ⟨us,[]⟩=pure (List.zip _ us)) us hl (fun _ _=>rfl)),
   Df.ok_of (n:=60) (by decide +kernel) rfl (fun _ _ _ _ _ _ us hl=>@rO (fun us=>bindArgs _ ⟨us,[]⟩=pure (List.zip _ us)) us hl (fun _ _=>rfl)),
   Df.ok_of (n:=60) (by decide +kernel) rfl (fun _ _ _ _ _ _ us hl=>@qu (fun us=>bindArgs _ ⟨us,[]⟩=pure (List.zip _ us)) us hl (fun _ _ _=>rfl)),
   Df.ok_of (n:=60) (by decide +kernel) rfl (fun _ _ _ _ _ _ us hl=>@len4 (fun us=>bindArgs _ ⟨us,[]⟩=pure (List.zip _ us)) us hl (fun _ _ _ _=>rfl)),
   Df.ok_of (n:=60) (by decide +kernel) rfl (fun _ _ _ _ _ _ us hl=>@qu (fun us=>bindArgs _ ⟨us,[]⟩=pure (List.zip _ us)) us hl (fun _ _ _=>rfl)),
   Df.ok_of (n:=60) (by decide +kernel) rfl (fun _ _ _ _ _ _ us hl=>@qu (fun us=>bindArgs _ ⟨us,[]⟩=pure (List.zip _ us)) us hl (fun _ _ _=>rfl)),
   Df.ok_of (n:=60) (by decide +kernel) rfl (fun _ _ _ _ _ _ us hl=>@qu (fun us=>bindArgs _ ⟨us,[]⟩=pure (List.zip _ us)) us hl (fun _ _ _=>rfl)),
   Df.ok_of (n:=60) (by decide +kernel) rfl (fun _ _ _ _ _ _ us hl=>@qu (fun us=>bindArgs _ ⟨us,[]⟩=pure (List.zip _ us)) us hl (fun _ _ _=>rfl)),
   Df.ok_of (n:=60) (by decide +kernel) rfl (fun _ _ _ _ _ _ us hl=>@rO (fun us=>bindArgs _ ⟨us,[]⟩=pure (List.zip _ us)) us hl (fun _ _=>rfl)),
   Df.ok_of (n:=60) (by decide +kernel) rfl (fun _ _ _ _ _ _ us hl=>@lD (fun us=>bindArgs _ ⟨us,[]⟩=pure (List.zip _ us)) us hl (fun _=>rfl)),
   Df.ok_of (n:=60) (by decide +kernel) rfl (fun _ _ _ _ _ _ us hl=>@rO (fun us=>bindArgs _ ⟨us,[]⟩=pure (List.zip _ us)) us hl (fun _ _=>rfl)),
   Df.ok_of (n:=60) (by decide +kernel) rfl (fun _ _ _ _ _ _ us hl=>@qu (fun us=>bindArgs _ ⟨us,[]⟩=pure (List.zip _ us)) us hl (fun _ _ _=>rfl)),
   Df.ok_of (n:=60) (by decide +kernel) rfl (fun _ _ _ _ _ _ us hl=>@lD (fun us=>bindArgs _ ⟨us,[]⟩=pure (List.zip _ us)) us hl (fun _=>rfl)),
   Df.ok_of (n:=60) (by decide +kernel) rfl (fun _ _ _ _ _ _ us hl=>@lD (fun us=>bindArgs _ ⟨us,[]⟩=pure (List.zip _ us)) us hl (fun _=>rfl)),
   trivial⟩
theorem plaw (ns:List Int)(hl:ns.length<=63):∃ fr,p.run 9 23 [.lst (ns.map D.int)] = .ok (.bl true,fr):=law ns hl
end K33
namespace K33
open PySem PySem.W Pc.Hd
noncomputable def K (P:Params):Frag:=[(2,{ cls:=Value.none,data:=Data.dict #[] }),
 di 3 #[kv P "__name__" 165 (sv "law_patchsquare_k33_taken_back" 410),kv P "__doc__" 166 .none,kv P "__package__" 167 .none,kv P "__loader__" 168 (.builtin "__main__.__loader__#opaque"),kv P "__spec__" 169 .none,kv P "__annotations__" 170 (.ref 6),kv P "__builtins__" 171 (.ref 4),kv P "__file__" 173 (sv "/claim/cut.py" 172),kv P "__cached__" 174 .none,kv P "bits_of" 194 (.ref 19),kv P "number_of" 203 (.ref 26),kv P "ROOMS" 219 (.ref 27),kv P "DARK" 223 (.int 1 222),kv P "LIGHT" 225 (.int 0 224),kv P "MARK_SIDE" 227 (.int 5 226),kv P "UPPER_LEFT" 231 (.ref 28),kv P "UPPER_RIGHT" 235 (.ref 29),kv P "LOWER" 239 (.ref 30),kv P "LABEL_LINE" 241 (.int 5 240),kv P "LABEL_HALF" 243 (.int 8 242),kv P "STRIP_ROWS" 245 (.int 3 244),kv P "mark_cells" 256 (.ref 37),kv P "mark_cell" 266 (.ref 44),kv P "mark_depth" 275 (.ref 51),kv P "ruler_cells" 285 (.ref 58),kv P "label_places" 291 (.ref 63),kv P "data_places" 297 (.ref 68),kv P "taken_places" 309 (.ref 75),kv P "strip_places" 322 (.ref 82),kv P "GRAIN_BITS" 326 (.int 6 325),kv P "bits_of_grains" 335 (.ref 89),kv P "MASKS" 339 (.int 8 338),kv P "LABEL_CELLS" 341 (.int 16 340),kv P "WEIGHTS" 343 (.int 4 342),kv P "label_bits" 349 (.ref 94),kv P "shared_ones" 357 (.ref 101),kv P "turns_over" 368 (.ref 108),kv P "laid_square" 376 (.ref 113),kv P "floor_cells" 388 (.ref 120),kv P "laid_cells" 394 (.ref 125),kv P "masked_cell" 403 (.ref 132),kv P "taken_grains" 409 (.ref 137),kv P "_law_mix" 421 (.ref 144),kv P "_law_grains" 433 (.ref 151),kv P "_law_spoilt" 439 (.ref 156),kv P "_law_whole" 445 (.ref 161),kv P "law" 451 (.ref 166)] 47,
 di 6 #[] 0,
 co 18 #[(sv "bits_of" 189),(sv "bits_of" 190),(sv "/claim/cut.py" 191),(.int 2 0),(.int 2 0),(.int 0 0),(.int 0 0),(.int 3 0),(.ref 15),(.bool true),(.int 181 0),(.ref 16),.none,.none,.none,(.ref 17),(.int 192 0),(.int 2 0),(sv "/claim/cut.py" 193)],
 fo 19 (st 1) (sv "patchsquare.bits" 187) (.ref 18),
 co 25 #[(sv "number_of" 195),(sv "number_of" 196),(sv "/claim/cut.py" 197),(.int 4 0),(.int 1 0),(.int 0 0),(.int 0 0),(.int 3 0),(.ref 20),(.bool true),(.int 181 0),(.ref 21),.none,(.ref 22),(.ref 23),(.ref 24),(.int 201 0),(.int 4 0),(sv "/claim/cut.py" 202)],
 fo 26 (st 2) (sv "patchsquare.bits" 187) (.ref 25),
 di 27 #[{ hash:=15,key:=Value.int 15 204,val:=Value.int 16 205 },{ hash:=19,key:=Value.int 19 206,val:=Value.int 37 207 },{ hash:=23,key:=Value.int 23 208,val:=Value.int 64 209 },{ hash:=27,key:=Value.int 27 210,val:=Value.int 96 211 },{ hash:=31,key:=Value.int 31 212,val:=Value.int 133 213 }] 5,
 tu 28 #[(.int 1 228),(.int 0 229),(.int 1 230)],
 tu 29 #[(.int 1 232),(.int 1 233),(.int 0 234)],
 tu 30 #[(.int 0 236),(.int 1 237),(.int 0 238)],
 co 36 #[(sv "mark_cells" 246),(sv "mark_cells" 247),(sv "/claim/cut.py" 248),(.int 20 0),(.int 1 0),(.int 0 0),(.int 0 0),(.int 3 0),(.ref 31),(.bool true),(.int 181 0),(.ref 32),.none,(.ref 33),(.ref 34),(.ref 35),(.int 254 0),(.int 20 0),(sv "/claim/cut.py" 255)],
 fo 37 (st 14) (sv "patchsquare.floor" 220) (.ref 36),
 co 43 #[(sv "mark_cell" 257),(sv "mark_cell" 258),(sv "/claim/cut.py" 259),(.int 27 0),(.int 3 0),(.int 0 0),(.int 0 0),(.int 3 0),(.ref 38),(.bool true),(.int 181 0),(.ref 39),.none,(.ref 40),(.ref 41),(.ref 42),(.int 264 0),(.int 27 0),(sv "/claim/cut.py" 265)],
 fo 44 (st 15) (sv "patchsquare.floor" 220) (.ref 43),
 co 50 #[(sv "mark_depth" 267),(sv "mark_depth" 268),(sv "/claim/cut.py" 269),(.int 34 0),(.int 2 0),(.int 0 0),(.int 0 0),(.int 3 0),(.ref 45),(.bool true),(.int 181 0),(.ref 46),.none,(.ref 47),(.ref 48),(.ref 49),(.int 273 0),(.int 34 0),(sv "/claim/cut.py" 274)],
 fo 51 (st 16) (sv "patchsquare.floor" 220) (.ref 50),
 co 57 #[(sv "ruler_cells" 276),(sv "ruler_cells" 277),(sv "/claim/cut.py" 278),(.int 37 0),(.int 1 0),(.int 0 0),(.int 0 0),(.int 3 0),(.ref 52),(.bool true),(.int 181 0),(.ref 53),.none,(.ref 54),(.ref 55),(.ref 56),(.int 283 0),(.int 37 0),(sv "/claim/cut.py" 284)],
 fo 58 (st 17) (sv "patchsquare.floor" 220) (.ref 57),
 co 62 #[(sv "label_places" 286),(sv "label_places" 287),(sv "/claim/cut.py" 288),(.int 44 0),(.int 1 0),(.int 0 0),(.int 0 0),(.int 3 0),(.ref 59),(.bool true),(.int 181 0),(.ref 60),.none,.none,.none,(.ref 61),(.int 289 0),(.int 44 0),(sv "/claim/cut.py" 290)],
 fo 63 (st 18) (sv "patchsquare.floor" 220) (.ref 62),
 co 67 #[(sv "data_places" 292),(sv "data_places" 293),(sv "/claim/cut.py" 294),(.int 48 0),(.int 1 0),(.int 0 0),(.int 0 0),(.int 3 0),(.ref 64),(.bool true),(.int 181 0),(.ref 65),.none,.none,.none,(.ref 66),(.int 295 0),(.int 48 0),(sv "/claim/cut.py" 296)],
 fo 68 (st 19) (sv "patchsquare.floor" 220) (.ref 67),
 co 74 #[(sv "taken_places" 298),(sv "taken_places" 299),(sv "/claim/cut.py" 300),(.int 51 0),(.int 1 0),(.int 0 0),(.int 0 0),(.int 3 0),(.ref 69),(.bool true),(.int 181 0),(.ref 70),.none,(.ref 71),(.ref 72),(.ref 73),(.int 307 0),(.int 51 0),(sv "/claim/cut.py" 308)],
 fo 75 (st 20) (sv "patchsquare.floor" 220) (.ref 74),
 co 81 #[(sv "strip_places" 310),(sv "strip_places" 311),(sv "/claim/cut.py" 312),(.int 58 0),(.int 1 0),(.int 0 0),(.int 0 0),(.int 3 0),(.ref 76),(.bool true),(.int 181 0),(.ref 77),.none,(.ref 78),(.ref 79),(.ref 80),(.int 320 0),(.int 58 0),(sv "/claim/cut.py" 321)],
 fo 82 (st 21) (sv "patchsquare.floor" 220) (.ref 81),
 co 88 #[(sv "bits_of_grains" 327),(sv "bits_of_grains" 328),(sv "/claim/cut.py" 329),(.int 70 0),(.int 1 0),(.int 0 0),(.int 0 0),(.int 3 0),(.ref 83),(.bool true),(.int 181 0),(.ref 84),.none,(.ref 85),(.ref 86),(.ref 87),(.int 333 0),(.int 70 0),(sv "/claim/cut.py" 334)],
 fo 89 (st 24) (sv "patchsquare.grains" 323) (.ref 88),
 co 93 #[(sv "label_bits" 344),(sv "label_bits" 345),(sv "/claim/cut.py" 346),(.int 79 0),(.int 2 0),(.int 0 0),(.int 0 0),(.int 3 0),(.ref 90),(.bool true),(.int 181 0),(.ref 91),.none,.none,.none,(.ref 92),(.int 347 0),(.int 79 0),(sv "/claim/cut.py" 348)],
 fo 94 (st 29) (sv "patchsquare.labels" 336) (.ref 93),
 co 100 #[(sv "shared_ones" 350),(sv "shared_ones" 351),(sv "/claim/cut.py" 352),(.int 82 0),(.int 2 0),(.int 0 0),(.int 0 0),(.int 3 0),(.ref 95),(.bool true),(.int 181 0),(.ref 96),.none,(.ref 97),(.ref 98),(.ref 99),(.int 355 0),(.int 82 0),(sv "/claim/cut.py" 356)],
 fo 101 (st 30) (sv "patchsquare.labels" 336) (.ref 100),
 co 107 #[(sv "turns_over" 360),(sv "turns_over" 361),(sv "/claim/cut.py" 362),(.int 85 0),(.int 3 0),(.int 0 0),(.int 0 0),(.int 3 0),(.ref 102),(.bool true),(.int 181 0),(.ref 103),.none,(.ref 104),(.ref 105),(.ref 106),(.int 366 0),(.int 85 0),(sv "/claim/cut.py" 367)],
 fo 108 (st 32) (sv "patchsquare.masks" 358) (.ref 107),
 co 112 #[(sv "laid_square" 371),(sv "laid_square" 372),(sv "/claim/cut.py" 373),(.int 102 0),(.int 4 0),(.int 0 0),(.int 0 0),(.int 3 0),(.ref 109),(.bool true),(.int 181 0),(.ref 110),.none,.none,.none,(.ref 111),(.int 374 0),(.int 102 0),(sv "/claim/cut.py" 375)],
 fo 113 (st 34) (sv "patchsquare.laying" 369) (.ref 112),
 co 119 #[(sv "floor_cells" 377),(sv "floor_cells" 378),(sv "/claim/cut.py" 379),(.int 107 0),(.int 3 0),(.int 0 0),(.int 0 0),(.int 3 0),(.ref 114),(.bool true),(.int 181 0),(.ref 115),.none,(.ref 116),(.ref 117),(.ref 118),(.int 386 0),(.int 107 0),(sv "/claim/cut.py" 387)],
 fo 120 (st 35) (sv "patchsquare.laying" 369) (.ref 119),
 co 124 #[(sv "laid_cells" 389),(sv "laid_cells" 390),(sv "/claim/cut.py" 391),(.int 112 0),(.int 3 0),(.int 0 0),(.int 0 0),(.int 3 0),(.ref 121),(.bool true),(.int 181 0),(.ref 122),.none,.none,.none,(.ref 123),(.int 392 0),(.int 112 0),(sv "/claim/cut.py" 393)],
 fo 125 (st 36) (sv "patchsquare.laying" 369) (.ref 124),
 co 131 #[(sv "masked_cell" 395),(sv "masked_cell" 396),(sv "/claim/cut.py" 397),(.int 117 0),(.int 3 0),(.int 0 0),(.int 0 0),(.int 3 0),(.ref 126),(.bool true),(.int 181 0),(.ref 127),.none,(.ref 128),(.ref 129),(.ref 130),(.int 401 0),(.int 117 0),(sv "/claim/cut.py" 402)],
 fo 132 (st 37) (sv "patchsquare.laying" 369) (.ref 131),
 co 136 #[(sv "taken_grains" 404),(sv "taken_grains" 405),(sv "/claim/cut.py" 406),(.int 121 0),(.int 2 0),(.int 0 0),(.int 0 0),(.int 3 0),(.ref 133),(.bool true),(.int 181 0),(.ref 134),.none,.none,.none,(.ref 135),(.int 407 0),(.int 121 0),(sv "/claim/cut.py" 408)],
 fo 137 (st 38) (sv "patchsquare.laying" 369) (.ref 136),
 co 143 #[(sv "_law_mix" 412),(sv "_law_mix" 413),(sv "/claim/cut.py" 414),(.int 135 0),(.int 3 0),(.int 0 0),(.int 0 0),(.int 3 0),(.ref 138),(.bool true),(.int 181 0),(.ref 139),.none,(.ref 140),(.ref 141),(.ref 142),(.int 419 0),(.int 135 0),(sv "/claim/cut.py" 420)],
 fo 144 (st 40) (sv "law_patchsquare_k33_taken_back" 410) (.ref 143),
 co 150 #[(sv "_law_grains" 422),(sv "_law_grains" 423),(sv "/claim/cut.py" 424),(.int 140 0),(.int 2 0),(.int 0 0),(.int 0 0),(.int 3 0),(.ref 145),(.bool true),(.int 181 0),(.ref 146),.none,(.ref 147),(.ref 148),(.ref 149),(.int 431 0),(.int 140 0),(sv "/claim/cut.py" 432)],
 fo 151 (st 41) (sv "law_patchsquare_k33_taken_back" 410) (.ref 150),
 co 155 #[(sv "_law_spoilt" 434),(sv "_law_spoilt" 435),(sv "/claim/cut.py" 436),(.int 153 0),(.int 3 0),(.int 0 0),(.int 0 0),(.int 3 0),(.ref 152),(.bool true),(.int 181 0),(.ref 153),.none,.none,.none,(.ref 154),(.int 437 0),(.int 153 0),(sv "/claim/cut.py" 438)],
 fo 156 (st 42) (sv "law_patchsquare_k33_taken_back" 410) (.ref 155),
 co 160 #[(sv "_law_whole" 440),(sv "_law_whole" 441),(sv "/claim/cut.py" 442),(.int 163 0),(.int 1 0),(.int 0 0),(.int 0 0),(.int 3 0),(.ref 157),(.bool true),(.int 181 0),(.ref 158),.none,.none,.none,(.ref 159),(.int 443 0),(.int 163 0),(sv "/claim/cut.py" 444)],
 fo 161 (st 43) (sv "law_patchsquare_k33_taken_back" 410) (.ref 160),
 co 165 #[(sv "law" 446),(sv "law" 447),(sv "/claim/cut.py" 448),(.int 165 0),(.int 1 0),(.int 0 0),(.int 0 0),(.int 3 0),(.ref 162),(.bool true),(.int 181 0),(.ref 163),.none,.none,.none,(.ref 164),(.int 449 0),(.int 165 0),(sv "/claim/cut.py" 450)],
 fo 166 (st 44) (sv "law_patchsquare_k33_taken_back" 410) (.ref 165)]
noncomputable def as:List Addr:=[2,3,6,18,19,25,26,27,28,29,30,36,37,43,44,50,51,57,58,62,63,67,68,74,75,81,82,88,89,93,94,100,101,107,108,112,113,119,120,124,125,131,132,136,137,143,144,150,151,155,156,160,161,165,166]
noncomputable def Q:Program:={ PySem.Challenge.pw_patchsquare_k33_taken_back with main:={ PySem.Challenge.pw_patchsquare_k33_taken_back.main with body:=[st 1,st 2,st 3,st 5,st 6,st 7,st 8,st 9,st 10,st 11,st 12,st 13,st 14,st 15,st 16,st 17,st 18,st 19,st 20,st 21,st 23,st 24,st 26,st 27,st 28,st 29,st 30,st 32,st 34,st 35,st 36,st 37,st 38,st 40,st 41,st 42,st 43,st 44] } }
noncomputable def H:Hook:=kHook K as (fun _=>rfl)
end K33
open PySem PySem.W PyProof.Rows
theorem K33.left:LeftO PySem.Challenge.pw_patchsquare_k33_taken_back K33.Q ["ROOMS"] (fun s=>xlAt K33.Q [] s&&recOk (RowW.records PySem.Challenge.rw_patchsquare_k33_taken_back.row.toRowW) s) (Hook.obs K33.H) (Hook.val K33.H) 2082:=by
 refine LeftO.of_split "special-get-raises" fun w=>?_
 kernel_rfl
theorem PySem.Challenge.cw_patchsquare_k33_taken_back_holds : PySem.Challenge.rw_patchsquare_k33_taken_back.Holds := by
 refine holds_law (by decide +kernel) fun said=>?_
 refine holds_open (q:=K33.Q) (loose:=["ROOMS"]) (XP:=XL K33.Q []) (YP:=Hook.says K33.H) K33.left (Hook.of K33.H) (Hook.keeps K33.H) (fun s e=>xl_of s (Bool.and_eq_true_iff.mp e).1) XL.keeps (by rfl) (by rfl) (by rfl) (fun s e=>recFacts_of (Bool.and_eq_true_iff.mp e).2) (by rfl) said (by decide +kernel) ⟨rfl,rfl,rfl,rfl,rfl,by decide +kernel⟩ ?hw ?hc
 case hw=>w_witness2
 refine Pc.walk (l:=PySem.Challenge.rw_patchsquare_k33_taken_back) K33.p 9 23 "_law_script" K33.Ga rfl rfl (fun w h Y=>PySem.W.kIn_of Y) rfl rfl rfl ⟨rfl,by decide,by decide⟩ K33.ok ?st ?nl ?hh K33.plaw
 case nl=>intro w;rfl
 case hh=>intro w;exact Pc.Fq rfl
 case st =>
  intro w;refine⟨⟨?d0,?d1,?d2,?d3,?d4,?d5,?d6,?d7,?d8,?d9,?d10,?d11,?d12,?d13,?d14,?d15,?d16,?d17,?d18,?d19,?d20,?d21,?d22,?d23,trivial⟩,Pc.A7 ⟨?glb0,?glb1,?glb2,?glb3,?glb4,?glb5,?glb6,?glb7,?glb8,?glb9,?glb10,?glb11,?glb12,?glb13,trivial⟩,⟨?e0,?e1,?e2,?e3,?e4,?e5,?e6,?e7,?e8,?e9,?e10,?e11,?e12,?e13,trivial⟩⟩
  case d0=>refine' Pc.bI ?a ?l ?c ?k;(case a=>rfl);(case l=>rfl);(case c=>rfl);(case k=>rfl)
  case d1=>refine' Pc.bI ?a ?l ?c ?k;(case a=>rfl);(case l=>rfl);(case c=>rfl);(case k=>rfl)
  case d2=>refine' Pc.bI ?a ?l ?c ?k;(case a=>rfl);(case l=>rfl);(case c=>rfl);(case k=>rfl)
  case d3=>refine' Pc.bI ?a ?l ?c ?k;(case a=>rfl);(case l=>rfl);(case c=>rfl);(case k=>rfl)
  case d4=>refine' Pc.bI ?a ?l ?c ?k;(case a=>rfl);(case l=>rfl);(case c=>rfl);(case k=>rfl)
  case d5=>refine' Pc.bI ?a ?l ?c ?k;(case a=>rfl);(case l=>rfl);(case c=>rfl);(case k=>rfl)
  case d6=>refine' Pc.bI ?a ?l ?c ?k;(case a=>rfl);(case l=>rfl);(case c=>rfl);(case k=>rfl)
  case d7=>refine' Pc.bI ?a ?l ?c ?k;(case a=>rfl);(case l=>rfl);(case c=>rfl);(case k=>rfl)
  case d8=>refine' Pc.bI ?a ?l ?c ?k;(case a=>rfl);(case l=>rfl);(case c=>rfl);(case k=>rfl)
  case d9=>refine' Pc.bI ?a ?l ?c ?k;(case a=>rfl);(case l=>rfl);(case c=>rfl);(case k=>rfl)
  case d10=>refine' Pc.bI ?a ?l ?c ?k;(case a=>rfl);(case l=>rfl);(case c=>rfl);(case k=>rfl)
  case d11=>refine' Pc.bI ?a ?l ?c ?k;(case a=>rfl);(case l=>rfl);(case c=>rfl);(case k=>rfl)
  case d12=>refine' Pc.bI ?a ?l ?c ?k;(case a=>rfl);(case l=>rfl);(case c=>rfl);(case k=>rfl)
  case d13=>refine' Pc.bI ?a ?l ?c ?k;(case a=>rfl);(case l=>rfl);(case c=>rfl);(case k=>rfl)
  case d14=>refine' Pc.bI ?a ?l ?c ?k;(case a=>rfl);(case l=>rfl);(case c=>rfl);(case k=>rfl)
  case d15=>refine' Pc.bI ?a ?l ?c ?k;(case a=>rfl);(case l=>rfl);(case c=>rfl);(case k=>rfl)
  case d16=>refine' Pc.bI ?a ?l ?c ?k;(case a=>rfl);(case l=>rfl);(case c=>rfl);(case k=>rfl)
  case d17=>refine' Pc.bI ?a ?l ?c ?k;(case a=>rfl);(case l=>rfl);(case c=>rfl);(case k=>rfl)
  case d18=>refine' Pc.bI ?a ?l ?c ?k;(case a=>rfl);(case l=>rfl);(case c=>rfl);(case k=>rfl)
  case d19=>refine' Pc.bI ?a ?l ?c ?k;(case a=>rfl);(case l=>rfl);(case c=>rfl);(case k=>rfl)
  case d20=>refine' Pc.bI ?a ?l ?c ?k;(case a=>rfl);(case l=>rfl);(case c=>rfl);(case k=>rfl)
  case d21=>refine' Pc.bI ?a ?l ?c ?k;(case a=>rfl);(case l=>rfl);(case c=>rfl);(case k=>rfl)
  case d22=>refine' Pc.bI ?a ?l ?c ?k;(case a=>rfl);(case l=>rfl);(case c=>rfl);(case k=>rfl)
  case d23=>refine' Pc.bI ?a ?l ?c ?k;(case a=>rfl);(case l=>rfl);(case c=>rfl);(case k=>rfl)
  case glb0=>refine' Pc.gl_int (i:=1) ?ga0;(case ga0=>rfl)
  case glb1=>refine' Pc.gl_int (i:=0) ?ga1;(case ga1=>rfl)
  case glb2=>refine' Pc.gl_int (i:=5) ?ga2;(case ga2=>rfl)
  case glb3=>refine' Pc.qY (ds:=[.int 1,.int 0,.int 1]) (vs:=[.int 1,.int 0,.int 1]) ?ga3 ?gl3 ?gc3 ?gz3 ?gv3 ?gr3;(case ga3=>rfl);(case gl3=>rfl);(case gc3=>rfl);(case gz3=>decide);(case gv3=>exact (.cons ⟨_,rfl⟩ (.cons ⟨_,rfl⟩ (.cons ⟨_,rfl⟩ .nil))));(case gr3=>exact fun H=>(.cons (.int _) (.cons (.int _) (.cons (.int _) .nil))))
  case glb4=>refine' Pc.qY (ds:=[.int 1,.int 1,.int 0]) (vs:=[.int 1,.int 1,.int 0]) ?ga4 ?gl4 ?gc4 ?gz4 ?gv4 ?gr4;(case ga4=>rfl);(case gl4=>rfl);(case gc4=>rfl);(case gz4=>decide);(case gv4=>exact (.cons ⟨_,rfl⟩ (.cons ⟨_,rfl⟩ (.cons ⟨_,rfl⟩ .nil))));(case gr4=>exact fun H=>(.cons (.int _) (.cons (.int _) (.cons (.int _) .nil))))
  case glb5=>refine' Pc.qY (ds:=[.int 0,.int 1,.int 0]) (vs:=[.int 0,.int 1,.int 0]) ?ga5 ?gl5 ?gc5 ?gz5 ?gv5 ?gr5;(case ga5=>rfl);(case gl5=>rfl);(case gc5=>rfl);(case gz5=>decide);(case gv5=>exact (.cons ⟨_,rfl⟩ (.cons ⟨_,rfl⟩ (.cons ⟨_,rfl⟩ .nil))));(case gr5=>exact fun H=>(.cons (.int _) (.cons (.int _) (.cons (.int _) .nil))))
  case glb6=>refine' Pc.gl_int (i:=5) ?ga6;(case ga6=>rfl)
  case glb7=>refine' Pc.gl_int (i:=8) ?ga7;(case ga7=>rfl)
  case glb8=>refine' Pc.gl_int (i:=3) ?ga8;(case ga8=>rfl)
  case glb9=>refine' Pc.gl_int (i:=6) ?ga9;(case ga9=>rfl)
  case glb10=>refine' Pc.gl_int (i:=8) ?ga10;(case ga10=>rfl)
  case glb11=>refine' Pc.gl_int (i:=16) ?ga11;(case ga11=>rfl)
  case glb12=>refine' Pc.gl_int (i:=4) ?ga12;(case ga12=>rfl)
  case glb13=>refine' Pc.CQ (kvs:=[(.inl 15,some 16),(.inl 19,some 37),(.inl 23,some 64),(.inl 27,some 96),(.inl 31,some 133)]) ?ga13 ?gl13 ?gc13 ?gv13 ?gr13;(case ga13=>rfl);(case gl13=>rfl);(case gc13=>exact⟨rfl,rfl,rfl⟩);(case gv13=>exact (.cons rfl rfl rfl (.cons rfl rfl rfl (.cons rfl rfl rfl (.cons rfl rfl rfl (.cons rfl rfl rfl .nil))))));(case gr13=>decide)
  case e0=>dsimp only;rfl
  case e1=>dsimp only;rfl
  case e2=>dsimp only;rfl
  case e3=>dsimp only;rfl
  case e4=>dsimp only;rfl
  case e5=>dsimp only;rfl
  case e6=>dsimp only;rfl
  case e7=>dsimp only;rfl
  case e8=>dsimp only;rfl
  case e9=>dsimp only;rfl
  case e10=>dsimp only;rfl
  case e11=>dsimp only;rfl
  case e12=>dsimp only;rfl
  case e13=>dsimp only;rfl
end
